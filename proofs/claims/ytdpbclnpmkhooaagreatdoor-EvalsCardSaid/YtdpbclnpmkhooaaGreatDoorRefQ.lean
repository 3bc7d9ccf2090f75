/-
  The document's walk: if, the use of a function.
-/
import Derived.Test.YtdpbclnpmkhooaaGreatDoorRefP
namespace Go.Proofs.YtdpbclnpmkhooaaGreatDoor
open Go Go.Proofs Go.RowKit Skein

theorem num_ok {b : Nat} {w : World} {A : List Nat} {wb L : Nat} {r : R × E} {e : Ending} {w' : World} {k : Int} (hr : R.num r.1 = .ok k)
    (h : Fr 85 64 b w w' ∧ ((∃ k A', r.1.num = .ok k ∧ e = .returned (.int .i64 k) ∧ Ext A A' ∧ RE b w' A' wb L r.2) ∨ (∃ z k, r.1.num = .error z ∧ e = .returned (.int .i64 k) ∧ RX b w' A wb L r.2.steps z))) :
    e = .returned (.int .i64 k) ∧ Fr 85 64 b w w' ∧ ∃ A', Ext A A' ∧ RE b w' A' wb L r.2 := by
  obtain ⟨hk, ⟨k', A', h1, h2, h3, h4⟩ | ⟨z, k', h1, h2, h3⟩⟩ := h
  · rw [hr] at h1; cases h1; exact ⟨h2, hk, A', h3, h4⟩
  · rw [hr] at h1; cases h1
theorem num_err {b : Nat} {w : World} {A : List Nat} {wb L : Nat} {r : R × E} {e : Ending} {w' : World} {z : Int} (hr : R.num r.1 = .error z)
    (h : Fr 85 64 b w w' ∧ ((∃ k A', r.1.num = .ok k ∧ e = .returned (.int .i64 k) ∧ Ext A A' ∧ RE b w' A' wb L r.2) ∨ (∃ z k, r.1.num = .error z ∧ e = .returned (.int .i64 k) ∧ RX b w' A wb L r.2.steps z))) :
    ∃ k, e = .returned (.int .i64 k) ∧ Fr 85 64 b w w' ∧ RX b w' A wb L r.2.steps z := by
  obtain ⟨hk, ⟨k', A', h1, h2, h3, h4⟩ | ⟨z, k', h1, h2, h3⟩⟩ := h
  · rw [hr] at h1; cases h1
  · rw [hr] at h1; cases h1; exact ⟨k', h2, hk, h3⟩

set_option maxRecDepth 100000 in
set_option maxHeartbeats 8000000 in
theorem rneed_ite_err (n : Nat) (hN : CN n) (x y v : T) {L : Nat} {S : E} {r1 : R × E} {z : Int} {env : List Nat} {b : Nat} {w : World} {A : List Nat} {wb : Nat} {p q : Value} (he1 : ev L n (.need x env) S = some r1) (hr1 : r1.1.num = .error z) (h : RE b w A wb L S) (ht : Tidy env.length (.ite x y v)) (hp : NodeAt b w (.ite x y v) p) (hq : NmAt w A env q) :
    Calls Tryz.prog 31 #[ptr wb, p, q] w (Got b w A wb L (.err z, r1.2)) := by
  obtain ⟨p1, p2, p3, ⟨k, rfl, hk, hh⟩, h1, h2, h3⟩ := hp
  obtain ⟨a1, rfl⟩ := NodeAt.ptr _ _ h1
  obtain ⟨a2, rfl⟩ := NodeAt.ptr _ _ h2
  obtain ⟨a3, rfl⟩ := NodeAt.ptr _ _ h3
  obtain ⟨aq, rfl⟩ := hq.ptr
  obtain ⟨c0, c1, c2, cf, hlt⟩ := h.walk.cells
  obtain ⟨d0, d1, d2, d3, d4, hltk⟩ := node_cells hh
  have hb := h.blt
  have hg := grown_alloc (grown_refl w none) (.cells #[.int .u8 0, .int .i64 0, nilp, nilp, nilp, nilp] 68 (0, 0))
  have hf : Fr 85 64 b w _ := Fr.grown hb hg
  have hx : Box68 _ w.heap.size := ⟨_, _, _, _, _, _, alloc_at w (.cells #[.int .u8 0, .int .i64 0, nilp, nilp, nilp, nilp] 68 (0, 0)) _ rfl⟩
  have HC : Hid (Calls Tryz.prog 48 #[ptr wb, .pointer (some a1), .pointer aq] (w.alloc (.cells #[.int .u8 0, .int .i64 0, nilp, nilp, nilp, nilp] 68 (0, 0))) _) := (rnumber hN he1 (h.grown hg) ht.1 (NodeAt.fr hf _ _ h1) (hq.fr hf (Ext.refl _))).mono fun _ _ h => num_err hr1 h
  clear hh h1 h2 h3 hq he1 hr1 hg
  go_enter Tryz.func31, Tryz.ntmps31
  go_wp2_with fail
  refine HC.out.mono ?_
  rintro e w1 ⟨k', rfl, hk2, hx2⟩
  obtain ⟨e0, e1, e2, ef, elt⟩ := hx2.walk.cells
  obtain ⟨z0, z1, z2, z3, z4, z5, hz⟩ := hx.fr hk2 (by decide) (by decide)
  obtain ⟨r0, r1', r2, r3, r4, r5, rf, rlt⟩ := cells6 hz
  have hz0 : (z == 0) = false := by simpa using hx2.ne
  have hz1 : (z != 0) = true := by simp [bne, hz0]
  have al := put6_alike hz (by decide) (.int .u8 0) (.int .i64 0) nilp nilp nilp nilp
  have hf2 := put6_fr (hf.trans hk2) (Nat.le_refl _) hb (.int .u8 0) (.int .i64 0) nilp nilp nilp nilp
  go_wp2_with fail
  exact fin6 (t := 6) Tryz.results31 rfl rfl (put6_at hz _ _ _ _ _ _) (GotX.got ⟨_, _, _, _, _, _, rfl, hf2, hx2.alike al⟩)

set_option maxRecDepth 100000 in
set_option maxHeartbeats 8000000 in
theorem rneed_ite_ok (n : Nat) (hN : CN n) (x y v : T) {L : Nat} {S : E} {r1 r : R × E} {j : Int} {env : List Nat} {b : Nat} {w : World} {A : List Nat} {wb : Nat} {p q : Value} (he1 : ev L n (.need x env) S = some r1) (hr1 : r1.1.num = .ok j) (he2 : (if j == 0 then ev L n (.need v env) r1.2 else ev L n (.need y env) r1.2) = some r) (h : RE b w A wb L S) (ht : Tidy env.length (.ite x y v)) (hp : NodeAt b w (.ite x y v) p) (hq : NmAt w A env q) :
    Calls Tryz.prog 31 #[ptr wb, p, q] w (Got b w A wb L r) := by
  obtain ⟨p1, p2, p3, ⟨k, rfl, hk, hh⟩, h1, h2, h3⟩ := hp
  obtain ⟨a1, rfl⟩ := NodeAt.ptr _ _ h1
  obtain ⟨a2, rfl⟩ := NodeAt.ptr _ _ h2
  obtain ⟨a3, rfl⟩ := NodeAt.ptr _ _ h3
  obtain ⟨aq, rfl⟩ := hq.ptr
  obtain ⟨c0, c1, c2, cf, hlt⟩ := h.walk.cells
  obtain ⟨d0, d1, d2, d3, d4, hltk⟩ := node_cells hh
  have hb := h.blt
  have hg := grown_alloc (grown_refl w none) (.cells #[.int .u8 0, .int .i64 0, nilp, nilp, nilp, nilp] 68 (0, 0))
  have hf : Fr 85 64 b w _ := Fr.grown hb hg
  have hx : Box68 _ w.heap.size := ⟨_, _, _, _, _, _, alloc_at w (.cells #[.int .u8 0, .int .i64 0, nilp, nilp, nilp, nilp] 68 (0, 0)) _ rfl⟩
  have HC : Hid (Calls Tryz.prog 48 #[ptr wb, .pointer (some a1), .pointer aq] (w.alloc (.cells #[.int .u8 0, .int .i64 0, nilp, nilp, nilp, nilp] 68 (0, 0))) _) := (rnumber hN he1 (h.grown hg) ht.1 (NodeAt.fr hf _ _ h1) (hq.fr hf (Ext.refl _))).mono fun _ _ h => num_ok hr1 h
  have HD : Hid (∀ w1 A', Fr 85 64 b w w1 → Ext A A' → RE b w1 A' wb L r1.2 → Calls Tryz.prog 31 #[ptr wb, .pointer (some (if j == 0 then a3 else a2)), .pointer aq] w1 (Got b w1 A' wb L r)) := fun w1 A' hk1 hA h' => by
    cases hj : j == 0
    · rw [hj] at he2
      exact hN L y env _ r b w1 A' wb _ _ he2 h' ht.2.1 (NodeAt.fr hk1 _ _ h2) (hq.fr hk1 hA)
    · rw [hj] at he2
      exact hN L v env _ r b w1 A' wb _ _ he2 h' ht.2.2 (NodeAt.fr hk1 _ _ h3) (hq.fr hk1 hA)
  have hhk : Hid (w.heap[k]? = some (.cells (cellsN 105 0 (.pointer (some a1)) (.pointer (some a2)) (.pointer (some a3))) 82 (0, 0))) := hh
  clear hh h1 h2 h3 hq he1 hr1 hg he2
  cases hj : j == 0
  all_goals
    have hj1 : (j != 0) = !(j == 0) := rfl
    rw [hj] at hj1 HD
    simp only [Bool.not_false, Bool.not_true, Bool.false_eq_true, if_false, if_true] at hj1 HD
    go_enter Tryz.func31, Tryz.ntmps31
    go_wp2_with fail
    refine HC.out.mono ?_
    rintro e w1 ⟨rfl, hk2, A', hA, hx2⟩
    obtain ⟨e0, e1, e2, ef, elt⟩ := hx2.walk.cells
    have hb1 := hx.fr hk2 (by decide) (by decide)
    obtain ⟨g0, g1, g2, g3, g4, glt⟩ := node_cells ((hf.trans hk2).keep _ _ 82 (by decide) (by decide) hhk.out)
    go_wp2_with fail
    refine (HD.out w1 A' (hf.trans hk2) hA hx2).mono ?_
    intro e w2 hG
    obtain ⟨k', n', a1, a2, a3, a4, rfl, z0, z1, z2, z3, z4, z5, hz, hG2⟩ := got_put (hf.trans hk2) hb hb1 hA hG
    obtain ⟨r0, r1', r2, r3, r4, r5, rf, rlt⟩ := cells6 hz
    clear hG
    go_wp2_with fail
    exact fin6 (t := 6) Tryz.results31 rfl rfl (put6_at hz _ _ _ _ _ _) hG2
end Go.Proofs.YtdpbclnpmkhooaaGreatDoor
