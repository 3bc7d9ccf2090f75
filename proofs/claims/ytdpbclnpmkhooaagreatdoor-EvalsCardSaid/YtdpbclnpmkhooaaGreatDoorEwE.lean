/-
  The document's walk: a function is used.
  The document's walk: a sign between two numbers.
  The document's walk: whatever is needed (nothing of lists).
-/
import Derived.Test.YtdpbclnpmkhooaaGreatDoorEwD
import Derived.Deep.RegionHeld3
namespace Go.Proofs.YtdpbclnpmkhooaaGreatDoor
open Go Go.Proofs Go.RowKit Skein

set_option maxRecDepth 100000 in
set_option maxHeartbeats 32000000 in
theorem rneed_app_ok (n : Nat) (hN : CN n) (x y : T) {L : Nat} {S S1 : E} {r : R × E} {u : T} {fe : List Nat} {env : List Nat} {b : Nat} {w : World} {A : List Nat} {wb : Nat} {p q : Value} (he1 : ev L n (.need x env) S = some (.ok (.fn u fe), S1)) (hl : ¬ L ≤ S1.steps) (he2 : ev L n (.need u (fe ++ [S1.heap.length])) ⟨S1.heap ++ [.wait y env], S1.steps + 1⟩ = some r) (h : RE b w A wb L S) (ht : Tidy env.length (.app x y)) (hp : NodeAt b w (.app x y) p) (hq : NmAt w A env q) :
    Calls Tryz.prog 31 #[ptr wb, p, q] w (Got b w A wb L r) := by
  obtain ⟨p1, p2, ⟨k, rfl, hk, hh⟩, h1, h2⟩ := hp
  obtain ⟨a1, rfl⟩ := NodeAt.ptr _ _ h1
  obtain ⟨a2, rfl⟩ := NodeAt.ptr _ _ h2
  obtain ⟨aq, rfl⟩ := hq.ptr
  obtain ⟨c0, c1, c2, cf, hlt⟩ := h.walk.cells
  obtain ⟨d0, d1, d2, d3, d4, hltk⟩ := node_cells hh
  have hb := h.blt
  have hg := grown_alloc (grown_refl w none) zero68
  have hf : Fr 85 64 b w _ := Fr.grown hb hg
  have hx : Box68 _ w.heap.size := ⟨_, _, _, _, _, _, alloc_at w zero68 _ rfl⟩
  have HC : Hid (Calls Tryz.prog 31 #[ptr wb, .pointer (some a1), .pointer aq] (w.alloc zero68) _) := (hN L x env S _ b _ A wb _ _ he1 (h.grown hg) ht.1 (NodeAt.fr hf _ _ h1) (hq.fr hf (Ext.refl _))).mono fun _ _ h => h.v rfl
  have HH : Hid (w.heap[k]? = some (.cells (cellsN 97 0 (.pointer (some a1)) (.pointer (some a2)) (.pointer none)) 82 (0, 0))) := hh
  have H2 : Hid (NodeAt b w y (.pointer (some a2))) := h2
  have HQ : Hid (NmAt w A env (.pointer aq)) := hq
  have HE : Hid (ev L n (.need u (fe ++ [S1.heap.length])) ⟨S1.heap ++ [.wait y env], S1.steps + 1⟩ = some r) := he2
  have HT : Hid (Tidy env.length y) := ht.2
  clear hh h1 h2 hq he1 hg he2 ht
  go_enter Tryz.func31, Tryz.ntmps31
  go_wp2_with fail
  refine HC.out.mono ?_
  rintro e w1 ⟨A', k', n', u1, u2, u3, u4, rfl, hk2, hA, hx2, hv⟩
  obtain ⟨e0, e1, e2, ef, elt⟩ := hx2.walk.cells
  obtain ⟨rfl, y', env', hyy, rfl, hty, hnu, hnm⟩ : k' = 102 ∧ ∃ y env, V.fn u fe = .fn y env ∧ n' = env.length ∧ Tidy (env.length + 1) y ∧ NodeAt b w1 y (.pointer u1) ∧ NmAt w1 A' env (.pointer u2) := by
    rcases hv.fn_or with h | ⟨_, h⟩
    · exact h
    · cases h
  cases hyy
  have hg3 := grown_alloc (grown_refl w1 none) (.cells #[.int .u8 102, .int .i64 fe.length, .pointer u1, .pointer u2, .pointer u3, .pointer u4] 68 (0, 0))
  have hl3 := alloc_at w1 (.cells #[.int .u8 102, .int .i64 fe.length, .pointer u1, .pointer u2, .pointer u3, .pointer u4] 68 (0, 0)) _ rfl
  have hx3 := hx2.grown hg3
  have hf3 : Fr 85 64 b w1 _ := Fr.grown hx2.blt hg3
  have HNU : Hid (NodeAt b w1 u (.pointer u1)) := hnu
  have HNM : Hid (NmAt w1 A' fe (.pointer u2)) := hnm
  have HTY : Hid (Tidy (fe.length + 1) u) := hty
  clear hv hnu hnm hty
  go_wp2_with fail
  refine (rstep_ok hx3 hl).mono ?_
  rintro e w2 ⟨rfl, hk4, hx4⟩
  have hk14 := hf3.trans hk4
  have hk5 := (hf.trans hk2).trans hk14
  obtain ⟨f0, f1, f2, ff, flt'⟩ := hx4.walk.cells
  have hbx := (hx.fr hk2 (by decide) (by decide)).fr hk14 (by decide) (by decide)
  have hloc := hk4.keep _ _ 68 (by decide) (by decide) hl3
  have hnod := hk5.keep _ _ 82 (by decide) (by decide) HH.out
  obtain ⟨m0, m1, m2, m3, m4, m5, mf, mlt⟩ := cells6 hloc
  obtain ⟨g0, g1, g2, g3, g4, glt⟩ := node_cells hnod
  have hg5 := grown_alloc (grown_alloc (grown_refl w2 none) (.cells #[.pointer (some a2), .pointer aq, .bool false, .bool false, .int .u8 0, .int .i64 0, nilp, nilp, nilp, nilp] 85 (0, 0))) (.cells #[.int .i64 fe.length, ptr w2.heap.size, .pointer u2] 87 (0, 0))
  have hf5 : Fr 85 64 b w2 _ := Fr.grown hx4.blt hg5
  have hy1 := keepB' (alloc_at w2 (.cells #[.pointer (some a2), .pointer aq, .bool false, .bool false, .int .u8 0, .int .i64 0, nilp, nilp, nilp, nilp] 85 (0, 0)) _ rfl) (grown_alloc (grown_refl _ none) (.cells #[.int .i64 fe.length, ptr w2.heap.size, .pointer u2] 87 (0, 0)))
  have hy2 := alloc_at (w2.alloc (.cells #[.pointer (some a2), .pointer aq, .bool false, .bool false, .int .u8 0, .int .i64 0, nilp, nilp, nilp, nilp] 85 (0, 0))) (.cells #[.int .i64 fe.length, ptr w2.heap.size, .pointer u2] 87 (0, 0)) (w2.heap.size + 1) (by rw [alloc_size])
  have hA2 : Ext A' (A' ++ [w2.heap.size]) := Ext.app _ _
  have hnew : (A' ++ [w2.heap.size])[S1.heap.length]? = some w2.heap.size := by have := hx4.len; simp only at this; rw [← this]; simp
  have h6 := hx4.more hg5 (.wait y env) w2.heap.size (Nat.le_refl _) ⟨HT.out, _, _, hy1, NodeAt.fr (hk5.trans hf5) _ _ H2.out, HQ.out.fr (hk5.trans hf5) (hA.trans hA2)⟩
  have hnm6 := (HNM.out.fr (hk14.trans hf5) hA2).snoc hnew hy2
  have HD : Hid (∀ wd, World.grownBy ((w2.alloc (.cells #[.pointer (some a2), .pointer aq, .bool false, .bool false, .int .u8 0, .int .i64 0, nilp, nilp, nilp, nilp] 85 (0, 0))).alloc (.cells #[.int .i64 fe.length, ptr w2.heap.size, .pointer u2] 87 (0, 0))) wd none → Calls Tryz.prog 31 #[ptr wb, .pointer u1, ptr (w2.heap.size + 1)] wd fun e w' => (w'.cell? ⟨w1.heap.size, 1, none⟩ = some (.int .i64 fe.length) ∧ w'.cell? ⟨w1.heap.size, 2, none⟩ = some (.pointer u1) ∧ w'.cell? ⟨w1.heap.size, 3, none⟩ = some (.pointer u2) ∧ w'.cell? ⟨k, 3, none⟩ = some (.pointer (some a2))) ∧ ∃ k n a1 a2 a3 a4, e = .returned (rv k n (.pointer a1) (.pointer a2) (.pointer a3) (.pointer a4)) ∧ ∃ y0 y1 y2 y3 y4 y5, w'.heap[w.heap.size]? = some (.cells #[y0, y1, y2, y3, y4, y5] 68 (0, 0)) ∧ Got b w A wb L r e (put6 w' w.heap.size (.int .u8 k) (.int .i64 n) (.pointer a1) (.pointer a2) (.pointer a3) (.pointer a4))) := fun wd hwd => by
    have h7 : Fr 85 64 b _ wd := Fr.grown h6.blt hwd
    refine (hN L u (fe ++ [S1.heap.length]) _ r b wd _ wb _ _ HE.out (h6.grown hwd) (by simpa using HTY.out) (NodeAt.fr ((hk14.trans hf5).trans h7) _ _ HNU.out) (hnm6.fr h7 (Ext.refl _))).mono fun e w' hG => ?_
    obtain ⟨_, m1', m2', m3', _, _, _, _⟩ := cells6 (hG.1.keep _ _ 68 (by decide) (by decide) (keepB' (keepB' hloc hg5) hwd))
    obtain ⟨_, _, _, g3', _, _⟩ := node_cells (hG.1.keep _ _ 82 (by decide) (by decide) (keepB' (keepB' hnod hg5) hwd))
    exact ⟨⟨m1', m2', m3', g3'⟩, got_put ((hk5.trans hf5).trans h7) hb ((hbx.grown hg5).grown hwd) (hA.trans hA2) hG⟩
  have n1 : w.heap.size < w1.heap.size := by
    obtain ⟨y0, y1, y2, y3, y4, y5, hb0⟩ := hx.fr hk2 (by decide) (by decide)
    exact heap_lt hb0
  have n2 : w1.heap.size ≠ w.heap.size := by omega
  have n3 : w.heap.size ≠ w1.heap.size := by omega
  have n4 : k ≠ w.heap.size := by omega
  have n5 : w.heap.size ≠ k := by omega
  clear hloc hnod hnm6 h6 hnew hy1 hy2 hf5 hg5 hk5 hk14 hx4 hk4 hx3 hx2 hf3 hl3 hg3
  go_wp2_with fail
  clear f0 f1 f2 ff flt' m0 m4 m5 mf mlt g0 g1 g2 g4 glt c0 c1 c2 cf hlt d0 d1 d2 d3 d4 hltk e0 e1 e2 ef elt hf hx hk2 hA HC HH H2 HQ HE HT HNU HNM HTY hbx hA2 hl hk h hN hb
  go_region_held3 (fun wd => wd.cell? ⟨w1.heap.size, 1, none⟩ = some (.int .i64 fe.length) ∧ wd.cell? ⟨w1.heap.size, 2, none⟩ = some (.pointer u1) ∧ wd.cell? ⟨w1.heap.size, 3, none⟩ = some (.pointer u2) ∧ wd.cell? ⟨k, 3, none⟩ = some (.pointer (some a2))) (go_keep) (first | (go_at_call 31; refine (HD.out _ (by exact grown_same (grown_refl _ _) rfl rfl rfl rfl)).mono ?_; rintro e w3 ⟨⟨s1, s2, s3, s4⟩, k', n', b1, b2, b3, b4, rfl, z0, z1, z2, z3, z4, z5, hz, hG2⟩; obtain ⟨r0, r1, r2, r3, r4, r5, rf, rlt⟩ := cells6 hz))
  all_goals
    go_wp2_with fail
    exact fin6 (t := 6) Tryz.results31 rfl rfl (put6_at hz _ _ _ _ _ _) hG2
end Go.Proofs.YtdpbclnpmkhooaaGreatDoor

namespace Go.Proofs.YtdpbclnpmkhooaaGreatDoor
open Go Go.Proofs Go.RowKit Skein

theorem wrap_eq (z : Int) : IntKind.wrap .i64 z = wrap64 z := IntWalk.i64_left z
def Sign5 (op : UInt8) : Prop := op = 43 ∨ op = 45 ∨ op = 42 ∨ op = 61 ∨ op = 60

set_option maxRecDepth 100000 in
set_option maxHeartbeats 8000000 in
theorem rreck_e1 (n : Nat) (hN : CN n) (op : UInt8) (x y : T) {L : Nat} {S : E} {r1 : R × E} {z : Int} {env : List Nat} {b : Nat} {w : World} {A : List Nat} {wb : Nat} {p q : Value} (he1 : ev L n (.need x env) S = some r1) (hr1 : r1.1.num = .error z) (h : RE b w A wb L S) (tx : Tidy env.length x) (hp : NodeAt b w (.bin op x y) p) (hq : NmAt w A env q) :
    Calls Tryz.prog 52 #[ptr wb, p, q] w (Got b w A wb L (.err z, r1.2)) := by
  obtain ⟨p1, p2, ⟨k, rfl, hk, hh⟩, h1, h2⟩ := hp
  obtain ⟨a1, rfl⟩ := NodeAt.ptr _ _ h1
  obtain ⟨a2, rfl⟩ := NodeAt.ptr _ _ h2
  obtain ⟨aq, rfl⟩ := hq.ptr
  obtain ⟨c0, c1, c2, cf, hlt⟩ := h.walk.cells
  obtain ⟨d0, d1, d2, d3, d4, hltk⟩ := node_cells hh
  have hb := h.blt
  have hg := grown_alloc (grown_refl w none) zero68
  have hf : Fr 85 64 b w _ := Fr.grown hb hg
  have hx : Box68 _ w.heap.size := ⟨_, _, _, _, _, _, alloc_at w zero68 _ rfl⟩
  have HC : Hid (Calls Tryz.prog 48 #[ptr wb, .pointer (some a1), .pointer aq] (w.alloc zero68) _) := (rnumber hN he1 (h.grown hg) tx (NodeAt.fr hf _ _ h1) (hq.fr hf (Ext.refl _))).mono fun _ _ h => num_err hr1 h
  clear hh h1 h2 hq he1 hr1 hg
  go_enter Tryz.func52, Tryz.ntmps52
  go_wp2_with fail
  refine HC.out.mono ?_
  rintro e w1 ⟨k', rfl, hk2, hx2⟩
  obtain ⟨e0, e1, e2, ef, elt⟩ := hx2.walk.cells
  obtain ⟨z0, z1, z2, z3, z4, z5, hz⟩ := hx.fr hk2 (by decide) (by decide)
  obtain ⟨r0, r1', r2, r3, r4, r5, rf, rlt⟩ := cells6 hz
  have hz0 : (z == 0) = false := by simpa using hx2.ne
  have hz1 : (z != 0) = true := by simp [bne, hz0]
  have al := put6_alike hz (by decide) (.int .u8 0) (.int .i64 0) nilp nilp nilp nilp
  have hf2 := put6_fr (hf.trans hk2) (Nat.le_refl _) hb (.int .u8 0) (.int .i64 0) nilp nilp nilp nilp
  go_wp2_with fail
  exact fin6 (t := 6) Tryz.results52 rfl rfl (put6_at hz _ _ _ _ _ _) (GotX.got ⟨_, _, _, _, _, _, rfl, hf2, hx2.alike al⟩)

set_option maxRecDepth 100000 in
set_option maxHeartbeats 16000000 in
theorem rreck_e2 (n : Nat) (hN : CN n) (op : UInt8) (hop : Sign5 op) (x y : T) {L : Nat} {S : E} {r1 r2 : R × E} {i z : Int} {env : List Nat} {b : Nat} {w : World} {A : List Nat} {wb : Nat} {p q : Value} (he1 : ev L n (.need x env) S = some r1) (hr1 : r1.1.num = .ok i) (he2 : ev L n (.need y env) r1.2 = some r2) (hr2 : r2.1.num = .error z) (h : RE b w A wb L S) (tx : Tidy env.length x) (ty : Tidy env.length y) (hp : NodeAt b w (.bin op x y) p) (hq : NmAt w A env q) :
    Calls Tryz.prog 52 #[ptr wb, p, q] w (Got b w A wb L (.err z, r2.2)) := by
  obtain ⟨p1, p2, ⟨k, rfl, hk, hh⟩, h1, h2⟩ := hp
  obtain ⟨a1, rfl⟩ := NodeAt.ptr _ _ h1
  obtain ⟨a2, rfl⟩ := NodeAt.ptr _ _ h2
  obtain ⟨aq, rfl⟩ := hq.ptr
  obtain ⟨c0, c1, c2, cf, hlt⟩ := h.walk.cells
  obtain ⟨d0, d1, d2, d3, d4, hltk⟩ := node_cells hh
  have hb := h.blt
  have hg := grown_alloc (grown_refl w none) zero68
  have hf : Fr 85 64 b w _ := Fr.grown hb hg
  have hx : Box68 _ w.heap.size := ⟨_, _, _, _, _, _, alloc_at w zero68 _ rfl⟩
  have HC : Hid (Calls Tryz.prog 48 #[ptr wb, .pointer (some a1), .pointer aq] (w.alloc zero68) _) := (rnumber hN he1 (h.grown hg) tx (NodeAt.fr hf _ _ h1) (hq.fr hf (Ext.refl _))).mono fun _ _ h => num_ok hr1 h
  have HD : Hid (∀ w1 A', Fr 85 64 b w w1 → Ext A A' → RE b w1 A' wb L r1.2 → Calls Tryz.prog 48 #[ptr wb, .pointer (some a2), .pointer aq] w1 fun e w' => ∃ k, e = .returned (.int .i64 k) ∧ Fr 85 64 b w1 w' ∧ RX b w' A' wb L r2.2.steps z) := fun w1 A' hk1 hA h' => (rnumber hN he2 h' ty (NodeAt.fr hk1 _ _ h2) (hq.fr hk1 hA)).mono fun _ _ h => num_err hr2 h
  have hhk : Hid (w.heap[k]? = some (.cells (cellsN op.toNat 0 (.pointer (some a1)) (.pointer (some a2)) (.pointer none)) 82 (0, 0))) := hh
  clear hh h1 h2 hq he1 hr1 hg he2 hr2
  rcases hop with rfl | rfl | rfl | rfl | rfl
  all_goals
    go_enter Tryz.func52, Tryz.ntmps52
    go_wp2_with fail
    refine HC.out.mono ?_
    rintro e w1 ⟨rfl, hk2, A', hA, hx2⟩
    obtain ⟨e0, e1, e2, ef, elt⟩ := hx2.walk.cells
    obtain ⟨g0, g1, g2, g3, g4, glt⟩ := node_cells ((hf.trans hk2).keep _ _ 82 (by decide) (by decide) hhk.out)
    go_wp2_with fail
    refine (HD.out w1 A' (hf.trans hk2) hA hx2).mono ?_
    rintro e w2 ⟨j, rfl, hk3, hx3⟩
    have hbx := (hx.fr hk2 (by decide) (by decide)).fr hk3 (by decide) (by decide)
    obtain ⟨z0, z1, z2, z3, z4, z5, hz⟩ := hbx
    obtain ⟨r0, r1', r2', r3, r4, r5, rf, rlt⟩ := cells6 hz
    obtain ⟨i0, i1, i2, i3, i4, ilt⟩ := node_cells (((hf.trans hk2).trans hk3).keep _ _ 82 (by decide) (by decide) hhk.out)
    have hbb : b ≤ w2.heap.size := hx3.blt
    go_wp2_with (first | (go_at_call 62; refine (rtruth _ _).mono ?_; rintro e w3 ⟨rfl, hg3⟩; have hz := keepB' hz hg3; have hk3 := hk3.trans (Fr.grown hbb hg3); have hx3 := hx3.grown hg3; obtain ⟨r0, r1', r2', r3, r4, r5, rf, rlt⟩ := cells6 hz))
    have al := fun u0 u1 => put6_alike hz (by decide) u0 u1 nilp nilp nilp nilp
    have hf2 := fun u0 u1 => put6_fr ((hf.trans hk2).trans hk3) (Nat.le_refl _) hb u0 u1 nilp nilp nilp nilp
    exact fin6 (t := 6) Tryz.results52 rfl rfl (put6_at hz _ _ _ _ _ _) (GotX.got ⟨_, _, _, _, _, _, rfl, hf2 _ _, (hx3.alike (al _ _)).sub hA⟩)

set_option maxRecDepth 100000 in
set_option maxHeartbeats 16000000 in
theorem rreck_ok (n : Nat) (hN : CN n) (op : UInt8) (hop : Sign5 op) (x y : T) {L : Nat} {S : E} {r1 r2 : R × E} {i j : Int} {env : List Nat} {b : Nat} {w : World} {A : List Nat} {wb : Nat} {p q : Value} (he1 : ev L n (.need x env) S = some r1) (hr1 : r1.1.num = .ok i) (he2 : ev L n (.need y env) r1.2 = some r2) (hr2 : r2.1.num = .ok j) (h : RE b w A wb L S) (tx : Tidy env.length x) (ty : Tidy env.length y) (hp : NodeAt b w (.bin op x y) p) (hq : NmAt w A env q) :
    Calls Tryz.prog 52 #[ptr wb, p, q] w (Got b w A wb L (.ok (.num (reck op i j)), r2.2)) := by
  obtain ⟨p1, p2, ⟨k, rfl, hk, hh⟩, h1, h2⟩ := hp
  obtain ⟨a1, rfl⟩ := NodeAt.ptr _ _ h1
  obtain ⟨a2, rfl⟩ := NodeAt.ptr _ _ h2
  obtain ⟨aq, rfl⟩ := hq.ptr
  obtain ⟨c0, c1, c2, cf, hlt⟩ := h.walk.cells
  obtain ⟨d0, d1, d2, d3, d4, hltk⟩ := node_cells hh
  have hb := h.blt
  have hg := grown_alloc (grown_refl w none) zero68
  have hf : Fr 85 64 b w _ := Fr.grown hb hg
  have hx : Box68 _ w.heap.size := ⟨_, _, _, _, _, _, alloc_at w zero68 _ rfl⟩
  have HC : Hid (Calls Tryz.prog 48 #[ptr wb, .pointer (some a1), .pointer aq] (w.alloc zero68) _) := (rnumber hN he1 (h.grown hg) tx (NodeAt.fr hf _ _ h1) (hq.fr hf (Ext.refl _))).mono fun _ _ h => num_ok hr1 h
  have HD : Hid (∀ w1 A', Fr 85 64 b w w1 → Ext A A' → RE b w1 A' wb L r1.2 → Calls Tryz.prog 48 #[ptr wb, .pointer (some a2), .pointer aq] w1 fun e w' => e = .returned (.int .i64 j) ∧ Fr 85 64 b w1 w' ∧ ∃ A'', Ext A' A'' ∧ RE b w' A'' wb L r2.2) := fun w1 A' hk1 hA h' => (rnumber hN he2 h' ty (NodeAt.fr hk1 _ _ h2) (hq.fr hk1 hA)).mono fun _ _ h => num_ok hr2 h
  have hhk : Hid (w.heap[k]? = some (.cells (cellsN op.toNat 0 (.pointer (some a1)) (.pointer (some a2)) (.pointer none)) 82 (0, 0))) := hh
  clear hh h1 h2 hq he1 hr1 hg he2 hr2
  rcases hop with rfl | rfl | rfl | rfl | rfl
  all_goals
    go_enter Tryz.func52, Tryz.ntmps52
    go_wp2_with fail
    refine HC.out.mono ?_
    rintro e w1 ⟨rfl, hk2, A', hA, hx2⟩
    obtain ⟨e0, e1, e2, ef, elt⟩ := hx2.walk.cells
    obtain ⟨g0, g1, g2, g3, g4, glt⟩ := node_cells ((hf.trans hk2).keep _ _ 82 (by decide) (by decide) hhk.out)
    go_wp2_with fail
    refine (HD.out w1 A' (hf.trans hk2) hA hx2).mono ?_
    rintro e w2 ⟨rfl, hk3, A'', hA2, hx3⟩
    have hbx := (hx.fr hk2 (by decide) (by decide)).fr hk3 (by decide) (by decide)
    obtain ⟨z0, z1, z2, z3, z4, z5, hz⟩ := hbx
    obtain ⟨r0, r1', r2', r3, r4, r5, rf, rlt⟩ := cells6 hz
    obtain ⟨i0, i1, i2, i3, i4, ilt⟩ := node_cells (((hf.trans hk2).trans hk3).keep _ _ 82 (by decide) (by decide) hhk.out)
    have hbb : b ≤ w2.heap.size := hx3.blt
    go_wp2_with (first | (go_at_call 62; refine (rtruth _ _).mono ?_; rintro e w3 ⟨rfl, hg3⟩; have hz := keepB' hz hg3; have hk3 := hk3.trans (Fr.grown hbb hg3); have hx3 := hx3.grown hg3; obtain ⟨r0, r1', r2', r3, r4, r5, rf, rlt⟩ := cells6 hz))
    have al := fun u0 u1 => put6_alike hz (by decide) u0 u1 nilp nilp nilp nilp
    have hf2 := fun u0 u1 => put6_fr ((hf.trans hk2).trans hk3) (Nat.le_refl _) hb u0 u1 nilp nilp nilp nilp
    exact fin6 (t := 6) Tryz.results52 rfl rfl (put6_at hz _ _ _ _ _ _) (GotV.got ⟨A'', _, _, _, _, _, _, rfl, hf2 _ _, hA.trans hA2, hx3.alike (al _ _), by first | rfl | (simp only [VR, reck, wrap_eq]; rfl)⟩)
end Go.Proofs.YtdpbclnpmkhooaaGreatDoor

namespace Go.Proofs.YtdpbclnpmkhooaaGreatDoor
open Go Go.Proofs Go.RowKit Skein

set_option maxRecDepth 100000 in
set_option maxHeartbeats 8000000 in
theorem rneed_bin (op : UInt8) (hop : Sign5 op) (x y : T) {L : Nat} {S : E} {r : R × E} {env : List Nat} {b : Nat} {w : World} {A : List Nat} {wb : Nat} {p q : Value} (hR : ∀ wd, World.grownBy w wd none → Calls Tryz.prog 52 #[ptr wb, p, q] wd (Got b wd A wb L r)) (h : RE b w A wb L S) (hp : NodeAt b w (.bin op x y) p) (hq : NmAt w A env q) :
    Calls Tryz.prog 31 #[ptr wb, p, q] w (Got b w A wb L r) := by
  obtain ⟨p1, p2, ⟨k, rfl, hk, hh⟩, h1, h2⟩ := hp
  obtain ⟨aq, rfl⟩ := hq.ptr
  obtain ⟨c0, c1, c2, cf, hlt⟩ := h.walk.cells
  obtain ⟨d0, d1, d2, d3, d4, hltk⟩ := node_cells hh
  have hb := h.blt
  have hg := grown_alloc (grown_refl w none) zero68
  have hf : Fr 85 64 b w _ := Fr.grown hb hg
  have hx : Box68 _ w.heap.size := ⟨_, _, _, _, _, _, alloc_at w zero68 _ rfl⟩
  have HC : Hid (Calls Tryz.prog 52 #[ptr wb, ptr k, .pointer aq] (w.alloc zero68) (Got b (w.alloc zero68) A wb L r)) := hR _ hg
  clear hh h1 h2 hq hg hR
  rcases hop with rfl | rfl | rfl | rfl | rfl
  all_goals
    go_enter Tryz.func31, Tryz.ntmps31
    go_wp2_with fail
    refine HC.out.mono ?_
    intro e w1 hG
    obtain ⟨k', n', a1, a2, a3, a4, rfl, z0, z1, z2, z3, z4, z5, hz, hG2⟩ := got_put hf hb hx (Ext.refl _) hG
    obtain ⟨r0, r1, r2, r3, r4, r5, rf, rlt⟩ := cells6 hz
    clear hG
    go_wp2_with fail
    exact fin6 (t := 6) Tryz.results31 rfl rfl (put6_at hz _ _ _ _ _ _) hG2

theorem cn_step (n : Nat) (hN : CN n) (hF : CF n) : CN (n + 1) := by
  intro L x env S r b w A wb p q he h ht hp hq
  cases x with
  | junk => exact ht.elim
  | free => exact ht.elim
  | nil => exact ht.elim
  | un op a => exact ht.elim
  | num m => simp only [ev, Option.some.injEq] at he; subst he; exact rneed_num m h hp hq
  | fn m y => simp only [ev, Option.some.injEq] at he; subst he; exact rneed_fn m y h ht hp hq
  | var m =>
    simp only [ev] at he
    have hm : m < env.length := ht
    have hj : env[m]? = some env[m] := List.getElem?_eq_getElem hm
    rw [hj] at he
    exact rneed_var n hF m _ hj he h hp hq
  | letE m x y => simp only [ev] at he; exact rneed_let n hN m x y he h ht hp hq
  | ite x y v =>
    simp only [ev] at he
    obtain ⟨r1, he1, he2⟩ := Option.bind_eq_some_iff.1 he
    cases hr : r1.1.num with
    | error z => rw [hr] at he2; cases he2; exact rneed_ite_err n hN x y v he1 hr h ht hp hq
    | ok j => rw [hr] at he2; exact rneed_ite_ok n hN x y v he1 hr he2 h ht hp hq
  | app x y =>
    simp only [ev] at he
    obtain ⟨⟨rr, S1⟩, he1, he2⟩ := Option.bind_eq_some_iff.1 he
    cases rr with
    | err z => cases he2; exact rneed_app_x n hN x y he1 h ht hp hq
    | ok v =>
      cases v with
      | fn u fe =>
        simp only [R.fn] at he2
        by_cases hl : L ≤ S1.steps
        · rw [if_pos hl] at he2; cases he2; exact rneed_app_s n hN x y he1 hl h ht hp hq
        · rw [if_neg hl] at he2; exact rneed_app_ok n hN x y he1 hl he2 h ht hp hq
      | num m => cases he2; exact rneed_app_t n hN x y he1 rfl h ht hp hq
      | nil => cases he2; exact rneed_app_t n hN x y he1 rfl h ht hp hq
      | cons i j => cases he2; exact rneed_app_t n hN x y he1 rfl h ht hp hq
  | bin op x y =>
    obtain ⟨hop, tx, ty⟩ := ht
    have ho : (op == 58) = false := by rcases hop with rfl | rfl | rfl | rfl | rfl <;> rfl
    simp only [ev, ho, Bool.false_eq_true, if_false] at he
    obtain ⟨r1, he1, he2⟩ := Option.bind_eq_some_iff.1 he
    refine rneed_bin op hop x y (fun wd hwd => ?_) h hp hq
    have hf : Fr 85 64 b w wd := Fr.grown h.blt hwd
    have h' := h.grown hwd
    have hp' := NodeAt.fr hf _ _ hp
    have hq' := hq.fr hf (Ext.refl A)
    cases hr : r1.1.num with
    | error z => rw [hr] at he2; cases he2; exact rreck_e1 n hN op x y he1 hr h' tx hp' hq'
    | ok i =>
      rw [hr] at he2
      obtain ⟨r2, he3, he4⟩ := Option.bind_eq_some_iff.1 he2
      cases hr2 : r2.1.num with
      | error z => rw [hr2] at he4; cases he4; exact rreck_e2 n hN op hop x y he1 hr he3 hr2 h' tx ty hp' hq'
      | ok j => rw [hr2] at he4; cases he4; exact rreck_ok n hN op hop x y he1 hr he3 hr2 h' tx ty hp' hq'

theorem cn_all : ∀ n, CN n ∧ CF n := by
  intro n
  induction n with
  | zero => exact ⟨fun L x env S r b w A wb p q he => by simp [ev] at he, fun L i S r b w A wb a he => by simp [ev] at he⟩
  | succ n ih => exact ⟨cn_step n ih.1 ih.2, rforce n ih.1⟩
end Go.Proofs.YtdpbclnpmkhooaaGreatDoor
