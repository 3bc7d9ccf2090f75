/-
  The document's walk: whatever is needed (nothing of lists).
-/
import Derived.Test.YtdpbclnpmkhooaaGreatDoorRefS
import Derived.Test.YtdpbclnpmkhooaaGreatDoorRefT
namespace Go.Proofs.YtdpbclnpmkhooaaGreatDoor
open Go Go.Proofs Go.RowKit Skein

set_option maxRecDepth 100000 in
set_option maxHeartbeats 8000000 in
theorem rneed_bin (op : UInt8) (hop : Sign5 op) (x y : T) {L : Nat} {S : E} {r : R × E} {env : List Nat} {b : Nat} {w : World} {A : List Nat} {wb : Nat} {p q : Value} (hR : ∀ wd, World.grownBy w wd none → Calls Tryz.prog 52 #[ptr wb, p, q] wd (Got b wd A wb L r)) (h : RE b w A wb L S) (hp : NodeAt b w (.bin op x y) p) (hq : NmAt w A env q) :
    Calls Tryz.prog 31 #[ptr wb, p, q] w (Got b w A wb L r) := by
  obtain ⟨p1, p2, ⟨k, rfl, hk, hh⟩, h1, h2⟩ := hp
  obtain ⟨aq, rfl⟩ := hq.ptr
  obtain ⟨c0, c1, c2, cf, hlt⟩ := h.walk.cells
  obtain ⟨d0, d1, d2, d3, d4, hltk⟩ := node_cells hh
  have hb := h.blt
  have hg := grown_alloc (grown_refl w none) zero68
  have hf : Fr 85 64 b w _ := Fr.grown hb hg
  have hx : Box68 _ w.heap.size := ⟨_, _, _, _, _, _, alloc_at w zero68 _ rfl⟩
  have HC : Hid (Calls Tryz.prog 52 #[ptr wb, ptr k, .pointer aq] (w.alloc zero68) (Got b (w.alloc zero68) A wb L r)) := hR _ hg
  clear hh h1 h2 hq hg hR
  rcases hop with rfl | rfl | rfl | rfl | rfl
  all_goals
    go_enter Tryz.func31, Tryz.ntmps31
    go_wp2_with fail
    refine HC.out.mono ?_
    intro e w1 hG
    obtain ⟨k', n', a1, a2, a3, a4, rfl, z0, z1, z2, z3, z4, z5, hz, hG2⟩ := got_put hf hb hx (Ext.refl _) hG
    obtain ⟨r0, r1, r2, r3, r4, r5, rf, rlt⟩ := cells6 hz
    clear hG
    go_wp2_with fail
    exact fin6 (t := 6) Tryz.results31 rfl rfl (put6_at hz _ _ _ _ _ _) hG2

theorem cn_step (n : Nat) (hN : CN n) (hF : CF n) : CN (n + 1) := by
  intro L x env S r b w A wb p q he h ht hp hq
  cases x with
  | junk => exact ht.elim
  | free => exact ht.elim
  | nil => exact ht.elim
  | un op a => exact ht.elim
  | num m => simp only [ev, Option.some.injEq] at he; subst he; exact rneed_num m h hp hq
  | fn m y => simp only [ev, Option.some.injEq] at he; subst he; exact rneed_fn m y h ht hp hq
  | var m =>
    simp only [ev] at he
    have hm : m < env.length := ht
    have hj : env[m]? = some env[m] := List.getElem?_eq_getElem hm
    rw [hj] at he
    exact rneed_var n hF m _ hj he h hp hq
  | letE m x y => simp only [ev] at he; exact rneed_let n hN m x y he h ht hp hq
  | ite x y v =>
    simp only [ev] at he
    obtain ⟨r1, he1, he2⟩ := Option.bind_eq_some_iff.1 he
    cases hr : r1.1.num with
    | error z => rw [hr] at he2; cases he2; exact rneed_ite_err n hN x y v he1 hr h ht hp hq
    | ok j => rw [hr] at he2; exact rneed_ite_ok n hN x y v he1 hr he2 h ht hp hq
  | app x y =>
    simp only [ev] at he
    obtain ⟨⟨rr, S1⟩, he1, he2⟩ := Option.bind_eq_some_iff.1 he
    cases rr with
    | err z => cases he2; exact rneed_app_x n hN x y he1 h ht hp hq
    | ok v =>
      cases v with
      | fn u fe =>
        simp only [R.fn] at he2
        by_cases hl : L ≤ S1.steps
        · rw [if_pos hl] at he2; cases he2; exact rneed_app_s n hN x y he1 hl h ht hp hq
        · rw [if_neg hl] at he2; exact rneed_app_ok n hN x y he1 hl he2 h ht hp hq
      | num m => cases he2; exact rneed_app_t n hN x y he1 rfl h ht hp hq
      | nil => cases he2; exact rneed_app_t n hN x y he1 rfl h ht hp hq
      | cons i j => cases he2; exact rneed_app_t n hN x y he1 rfl h ht hp hq
  | bin op x y =>
    obtain ⟨hop, tx, ty⟩ := ht
    have ho : (op == 58) = false := by rcases hop with rfl | rfl | rfl | rfl | rfl <;> rfl
    simp only [ev, ho, Bool.false_eq_true, if_false] at he
    obtain ⟨r1, he1, he2⟩ := Option.bind_eq_some_iff.1 he
    refine rneed_bin op hop x y (fun wd hwd => ?_) h hp hq
    have hf : Fr 85 64 b w wd := Fr.grown h.blt hwd
    have h' := h.grown hwd
    have hp' := NodeAt.fr hf _ _ hp
    have hq' := hq.fr hf (Ext.refl A)
    cases hr : r1.1.num with
    | error z => rw [hr] at he2; cases he2; exact rreck_e1 n hN op x y he1 hr h' tx hp' hq'
    | ok i =>
      rw [hr] at he2
      obtain ⟨r2, he3, he4⟩ := Option.bind_eq_some_iff.1 he2
      cases hr2 : r2.1.num with
      | error z => rw [hr2] at he4; cases he4; exact rreck_e2 n hN op hop x y he1 hr he3 hr2 h' tx ty hp' hq'
      | ok j => rw [hr2] at he4; cases he4; exact rreck_ok n hN op hop x y he1 hr he3 hr2 h' tx ty hp' hq'

theorem cn_all : ∀ n, CN n ∧ CF n := by
  intro n
  induction n with
  | zero => exact ⟨fun L x env S r b w A wb p q he => by simp [ev] at he, fun L i S r b w A wb a he => by simp [ev] at he⟩
  | succ n ih => exact ⟨cn_step n ih.1 ih.2, rforce n ih.1⟩
end Go.Proofs.YtdpbclnpmkhooaaGreatDoor
