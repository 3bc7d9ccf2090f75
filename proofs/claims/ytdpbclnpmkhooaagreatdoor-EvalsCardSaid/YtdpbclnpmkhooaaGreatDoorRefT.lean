/-
  The document's walk: a sign between two numbers.
-/
import Derived.Test.YtdpbclnpmkhooaaGreatDoorRefR
namespace Go.Proofs.YtdpbclnpmkhooaaGreatDoor
open Go Go.Proofs Go.RowKit Skein

theorem wrap_eq (z : Int) : IntKind.wrap .i64 z = wrap64 z := IntWalk.i64_left z
def Sign5 (op : UInt8) : Prop := op = 43 ∨ op = 45 ∨ op = 42 ∨ op = 61 ∨ op = 60

set_option maxRecDepth 100000 in
set_option maxHeartbeats 8000000 in
theorem rreck_e1 (n : Nat) (hN : CN n) (op : UInt8) (x y : T) {L : Nat} {S : E} {r1 : R × E} {z : Int} {env : List Nat} {b : Nat} {w : World} {A : List Nat} {wb : Nat} {p q : Value} (he1 : ev L n (.need x env) S = some r1) (hr1 : r1.1.num = .error z) (h : RE b w A wb L S) (tx : Tidy env.length x) (hp : NodeAt b w (.bin op x y) p) (hq : NmAt w A env q) :
    Calls Tryz.prog 52 #[ptr wb, p, q] w (Got b w A wb L (.err z, r1.2)) := by
  obtain ⟨p1, p2, ⟨k, rfl, hk, hh⟩, h1, h2⟩ := hp
  obtain ⟨a1, rfl⟩ := NodeAt.ptr _ _ h1
  obtain ⟨a2, rfl⟩ := NodeAt.ptr _ _ h2
  obtain ⟨aq, rfl⟩ := hq.ptr
  obtain ⟨c0, c1, c2, cf, hlt⟩ := h.walk.cells
  obtain ⟨d0, d1, d2, d3, d4, hltk⟩ := node_cells hh
  have hb := h.blt
  have hg := grown_alloc (grown_refl w none) zero68
  have hf : Fr 85 64 b w _ := Fr.grown hb hg
  have hx : Box68 _ w.heap.size := ⟨_, _, _, _, _, _, alloc_at w zero68 _ rfl⟩
  have HC : Hid (Calls Tryz.prog 48 #[ptr wb, .pointer (some a1), .pointer aq] (w.alloc zero68) _) := (rnumber hN he1 (h.grown hg) tx (NodeAt.fr hf _ _ h1) (hq.fr hf (Ext.refl _))).mono fun _ _ h => num_err hr1 h
  clear hh h1 h2 hq he1 hr1 hg
  go_enter Tryz.func52, Tryz.ntmps52
  go_wp2_with fail
  refine HC.out.mono ?_
  rintro e w1 ⟨k', rfl, hk2, hx2⟩
  obtain ⟨e0, e1, e2, ef, elt⟩ := hx2.walk.cells
  obtain ⟨z0, z1, z2, z3, z4, z5, hz⟩ := hx.fr hk2 (by decide) (by decide)
  obtain ⟨r0, r1', r2, r3, r4, r5, rf, rlt⟩ := cells6 hz
  have hz0 : (z == 0) = false := by simpa using hx2.ne
  have hz1 : (z != 0) = true := by simp [bne, hz0]
  have al := put6_alike hz (by decide) (.int .u8 0) (.int .i64 0) nilp nilp nilp nilp
  have hf2 := put6_fr (hf.trans hk2) (Nat.le_refl _) hb (.int .u8 0) (.int .i64 0) nilp nilp nilp nilp
  go_wp2_with fail
  exact fin6 (t := 6) Tryz.results52 rfl rfl (put6_at hz _ _ _ _ _ _) (GotX.got ⟨_, _, _, _, _, _, rfl, hf2, hx2.alike al⟩)

set_option maxRecDepth 100000 in
set_option maxHeartbeats 16000000 in
theorem rreck_e2 (n : Nat) (hN : CN n) (op : UInt8) (hop : Sign5 op) (x y : T) {L : Nat} {S : E} {r1 r2 : R × E} {i z : Int} {env : List Nat} {b : Nat} {w : World} {A : List Nat} {wb : Nat} {p q : Value} (he1 : ev L n (.need x env) S = some r1) (hr1 : r1.1.num = .ok i) (he2 : ev L n (.need y env) r1.2 = some r2) (hr2 : r2.1.num = .error z) (h : RE b w A wb L S) (tx : Tidy env.length x) (ty : Tidy env.length y) (hp : NodeAt b w (.bin op x y) p) (hq : NmAt w A env q) :
    Calls Tryz.prog 52 #[ptr wb, p, q] w (Got b w A wb L (.err z, r2.2)) := by
  obtain ⟨p1, p2, ⟨k, rfl, hk, hh⟩, h1, h2⟩ := hp
  obtain ⟨a1, rfl⟩ := NodeAt.ptr _ _ h1
  obtain ⟨a2, rfl⟩ := NodeAt.ptr _ _ h2
  obtain ⟨aq, rfl⟩ := hq.ptr
  obtain ⟨c0, c1, c2, cf, hlt⟩ := h.walk.cells
  obtain ⟨d0, d1, d2, d3, d4, hltk⟩ := node_cells hh
  have hb := h.blt
  have hg := grown_alloc (grown_refl w none) zero68
  have hf : Fr 85 64 b w _ := Fr.grown hb hg
  have hx : Box68 _ w.heap.size := ⟨_, _, _, _, _, _, alloc_at w zero68 _ rfl⟩
  have HC : Hid (Calls Tryz.prog 48 #[ptr wb, .pointer (some a1), .pointer aq] (w.alloc zero68) _) := (rnumber hN he1 (h.grown hg) tx (NodeAt.fr hf _ _ h1) (hq.fr hf (Ext.refl _))).mono fun _ _ h => num_ok hr1 h
  have HD : Hid (∀ w1 A', Fr 85 64 b w w1 → Ext A A' → RE b w1 A' wb L r1.2 → Calls Tryz.prog 48 #[ptr wb, .pointer (some a2), .pointer aq] w1 fun e w' => ∃ k, e = .returned (.int .i64 k) ∧ Fr 85 64 b w1 w' ∧ RX b w' A' wb L r2.2.steps z) := fun w1 A' hk1 hA h' => (rnumber hN he2 h' ty (NodeAt.fr hk1 _ _ h2) (hq.fr hk1 hA)).mono fun _ _ h => num_err hr2 h
  have hhk : Hid (w.heap[k]? = some (.cells (cellsN op.toNat 0 (.pointer (some a1)) (.pointer (some a2)) (.pointer none)) 82 (0, 0))) := hh
  clear hh h1 h2 hq he1 hr1 hg he2 hr2
  rcases hop with rfl | rfl | rfl | rfl | rfl
  all_goals
    go_enter Tryz.func52, Tryz.ntmps52
    go_wp2_with fail
    refine HC.out.mono ?_
    rintro e w1 ⟨rfl, hk2, A', hA, hx2⟩
    obtain ⟨e0, e1, e2, ef, elt⟩ := hx2.walk.cells
    obtain ⟨g0, g1, g2, g3, g4, glt⟩ := node_cells ((hf.trans hk2).keep _ _ 82 (by decide) (by decide) hhk.out)
    go_wp2_with fail
    refine (HD.out w1 A' (hf.trans hk2) hA hx2).mono ?_
    rintro e w2 ⟨j, rfl, hk3, hx3⟩
    have hbx := (hx.fr hk2 (by decide) (by decide)).fr hk3 (by decide) (by decide)
    obtain ⟨z0, z1, z2, z3, z4, z5, hz⟩ := hbx
    obtain ⟨r0, r1', r2', r3, r4, r5, rf, rlt⟩ := cells6 hz
    obtain ⟨i0, i1, i2, i3, i4, ilt⟩ := node_cells (((hf.trans hk2).trans hk3).keep _ _ 82 (by decide) (by decide) hhk.out)
    have hbb : b ≤ w2.heap.size := hx3.blt
    go_wp2_with (first | (go_at_call 62; refine (rtruth _ _).mono ?_; rintro e w3 ⟨rfl, hg3⟩; have hz := keepB' hz hg3; have hk3 := hk3.trans (Fr.grown hbb hg3); have hx3 := hx3.grown hg3; obtain ⟨r0, r1', r2', r3, r4, r5, rf, rlt⟩ := cells6 hz))
    have al := fun u0 u1 => put6_alike hz (by decide) u0 u1 nilp nilp nilp nilp
    have hf2 := fun u0 u1 => put6_fr ((hf.trans hk2).trans hk3) (Nat.le_refl _) hb u0 u1 nilp nilp nilp nilp
    exact fin6 (t := 6) Tryz.results52 rfl rfl (put6_at hz _ _ _ _ _ _) (GotX.got ⟨_, _, _, _, _, _, rfl, hf2 _ _, (hx3.alike (al _ _)).sub hA⟩)

set_option maxRecDepth 100000 in
set_option maxHeartbeats 16000000 in
theorem rreck_ok (n : Nat) (hN : CN n) (op : UInt8) (hop : Sign5 op) (x y : T) {L : Nat} {S : E} {r1 r2 : R × E} {i j : Int} {env : List Nat} {b : Nat} {w : World} {A : List Nat} {wb : Nat} {p q : Value} (he1 : ev L n (.need x env) S = some r1) (hr1 : r1.1.num = .ok i) (he2 : ev L n (.need y env) r1.2 = some r2) (hr2 : r2.1.num = .ok j) (h : RE b w A wb L S) (tx : Tidy env.length x) (ty : Tidy env.length y) (hp : NodeAt b w (.bin op x y) p) (hq : NmAt w A env q) :
    Calls Tryz.prog 52 #[ptr wb, p, q] w (Got b w A wb L (.ok (.num (reck op i j)), r2.2)) := by
  obtain ⟨p1, p2, ⟨k, rfl, hk, hh⟩, h1, h2⟩ := hp
  obtain ⟨a1, rfl⟩ := NodeAt.ptr _ _ h1
  obtain ⟨a2, rfl⟩ := NodeAt.ptr _ _ h2
  obtain ⟨aq, rfl⟩ := hq.ptr
  obtain ⟨c0, c1, c2, cf, hlt⟩ := h.walk.cells
  obtain ⟨d0, d1, d2, d3, d4, hltk⟩ := node_cells hh
  have hb := h.blt
  have hg := grown_alloc (grown_refl w none) zero68
  have hf : Fr 85 64 b w _ := Fr.grown hb hg
  have hx : Box68 _ w.heap.size := ⟨_, _, _, _, _, _, alloc_at w zero68 _ rfl⟩
  have HC : Hid (Calls Tryz.prog 48 #[ptr wb, .pointer (some a1), .pointer aq] (w.alloc zero68) _) := (rnumber hN he1 (h.grown hg) tx (NodeAt.fr hf _ _ h1) (hq.fr hf (Ext.refl _))).mono fun _ _ h => num_ok hr1 h
  have HD : Hid (∀ w1 A', Fr 85 64 b w w1 → Ext A A' → RE b w1 A' wb L r1.2 → Calls Tryz.prog 48 #[ptr wb, .pointer (some a2), .pointer aq] w1 fun e w' => e = .returned (.int .i64 j) ∧ Fr 85 64 b w1 w' ∧ ∃ A'', Ext A' A'' ∧ RE b w' A'' wb L r2.2) := fun w1 A' hk1 hA h' => (rnumber hN he2 h' ty (NodeAt.fr hk1 _ _ h2) (hq.fr hk1 hA)).mono fun _ _ h => num_ok hr2 h
  have hhk : Hid (w.heap[k]? = some (.cells (cellsN op.toNat 0 (.pointer (some a1)) (.pointer (some a2)) (.pointer none)) 82 (0, 0))) := hh
  clear hh h1 h2 hq he1 hr1 hg he2 hr2
  rcases hop with rfl | rfl | rfl | rfl | rfl
  all_goals
    go_enter Tryz.func52, Tryz.ntmps52
    go_wp2_with fail
    refine HC.out.mono ?_
    rintro e w1 ⟨rfl, hk2, A', hA, hx2⟩
    obtain ⟨e0, e1, e2, ef, elt⟩ := hx2.walk.cells
    obtain ⟨g0, g1, g2, g3, g4, glt⟩ := node_cells ((hf.trans hk2).keep _ _ 82 (by decide) (by decide) hhk.out)
    go_wp2_with fail
    refine (HD.out w1 A' (hf.trans hk2) hA hx2).mono ?_
    rintro e w2 ⟨rfl, hk3, A'', hA2, hx3⟩
    have hbx := (hx.fr hk2 (by decide) (by decide)).fr hk3 (by decide) (by decide)
    obtain ⟨z0, z1, z2, z3, z4, z5, hz⟩ := hbx
    obtain ⟨r0, r1', r2', r3, r4, r5, rf, rlt⟩ := cells6 hz
    obtain ⟨i0, i1, i2, i3, i4, ilt⟩ := node_cells (((hf.trans hk2).trans hk3).keep _ _ 82 (by decide) (by decide) hhk.out)
    have hbb : b ≤ w2.heap.size := hx3.blt
    go_wp2_with (first | (go_at_call 62; refine (rtruth _ _).mono ?_; rintro e w3 ⟨rfl, hg3⟩; have hz := keepB' hz hg3; have hk3 := hk3.trans (Fr.grown hbb hg3); have hx3 := hx3.grown hg3; obtain ⟨r0, r1', r2', r3, r4, r5, rf, rlt⟩ := cells6 hz))
    have al := fun u0 u1 => put6_alike hz (by decide) u0 u1 nilp nilp nilp nilp
    have hf2 := fun u0 u1 => put6_fr ((hf.trans hk2).trans hk3) (Nat.le_refl _) hb u0 u1 nilp nilp nilp nilp
    exact fin6 (t := 6) Tryz.results52 rfl rfl (put6_at hz _ _ _ _ _ _) (GotV.got ⟨A'', _, _, _, _, _, _, rfl, hf2 _ _, hA.trans hA2, hx3.alike (al _ _), by first | rfl | (simp only [VR, reck, wrap_eq]; rfl)⟩)
end Go.Proofs.YtdpbclnpmkhooaaGreatDoor
