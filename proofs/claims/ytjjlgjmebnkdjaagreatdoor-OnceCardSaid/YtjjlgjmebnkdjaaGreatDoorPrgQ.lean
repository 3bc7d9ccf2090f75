/-
  The program's parser: expression; all of it together.
-/
import Derived.Test.YtjjlgjmebnkdjaaGreatDoorPrgN
import Derived.Test.YtjjlgjmebnkdjaaGreatDoorPrgO
import Derived.Test.YtjjlgjmebnkdjaaGreatDoorPrgP
namespace Go.Proofs.YtjjlgjmebnkdjaaGreatDoor
open Go Go.Proofs Go.RowKit Skein

/-- Which expression it is. -/
theorem expr_row {b s m n t m'} (hE : CP 63 .expr n) (hi : Inv s m) (hb : m.bad = none) (hP : PM s (n + 1) .expr m = some (t, m')) :
    (∃ i, ∃ hi : i < exprRows.length, eqb exprRows[i].1 (kindOf m.tok) = true ∧ (∀ j (h : j < exprRows.length), j < i → eqb exprRows[j].1 (kindOf m.tok) = false) ∧ ∀ W, PS b s m W → Calls Tryz.prog exprRows[i].2 #[.pointer (some ⟨b, 0, none⟩)] W (Post b s W t m')) ∨
    ((∀ j (h : j < exprRows.length), eqb exprRows[j].1 (kindOf m.tok) = false) ∧ PM s n .list m = some (t, m')) := by
  have k0 := kind_sym hi ⟨#[108, 101, 116]⟩ (mem_iff.1 (by decide))
  have k1 := kind_sym hi ⟨#[92]⟩ (mem_iff.1 (by decide))
  have k2 := kind_sym hi ⟨#[105, 102]⟩ (mem_iff.1 (by decide))
  rw [eqb_comm] at k0 k1 k2
  cases z0 : eqb m.tok.text ⟨#[108, 101, 116]⟩
  · rw [z0] at k0
    cases z1 : eqb m.tok.text ⟨#[92]⟩
    · rw [z1] at k1
      cases z2 : eqb m.tok.text ⟨#[105, 102]⟩
      · rw [z2] at k2
        right
        constructor
        · intro j hj
          have hj' : j < 3 := hj
          have : j = 0 ∨ j = 1 ∨ j = 2 := by omega
          rcases this with rfl | rfl | rfl
          · exact k0
          · exact k1
          · exact k2
        · simp only [PM] at hP
          rw [if_neg (by simp [hb]), if_neg (by simp [z0]), if_neg (by simp [z1]), if_neg (by simp [z2])] at hP
          exact hP
      · rw [z2] at k2
        left
        refine ⟨2, by decide, k2, fun j hj hlt => ?_, fun W hW => pchoice hE hW z0 z1 z2 hP⟩
        have : j = 0 ∨ j = 1 := by omega
        rcases this with rfl | rfl
        · exact k0
        · exact k1
    · rw [z1] at k1
      left
      refine ⟨1, by decide, k1, fun j hj hlt => ?_, fun W hW => pfn hE hW z0 z1 hP⟩
      have : j = 0 := by omega
      subst this; exact k0
  · rw [z0] at k0
    left
    exact ⟨0, by decide, k0, fun j hj hlt => by omega, fun W hW => plet hE hW z0 hP⟩

theorem enters_expr (i : Nat) (hi : i < exprRows.length) : ∀ args w, (callFunc exprRows[i].2 args).run Tryz.prog w = .ok (.enter exprRows[i].2 args) w := by
  have hi' : i < 3 := hi
  have : i = 0 ∨ i = 1 ∨ i = 2 := by omega
  rcases this with rfl | rfl | rfl
  · exact enters_of Tryz.func78 (by kernel_rfl) rfl
  · exact enters_of Tryz.func79 (by kernel_rfl) rfl
  · exact enters_of Tryz.func80 (by kernel_rfl) rfl

set_option maxRecDepth 100000 in
set_option maxHeartbeats 2000000 in
theorem pexpr (n : Nat) (hE : ∀ j, j < n → CP 63 .expr j) (hL : ∀ j, j < n → CS 0 .list j) : CP 63 .expr n := by
  intro b s m w t m' h hP
  cases n with
  | zero => simp [PM] at hP
  | succ n =>
    obtain ⟨gv, iv, ev, av, hB, ho, ht⟩ := h.blk
    obtain ⟨A, rfl, hAb, hAh⟩ := ht.exprs
    obtain ⟨c0, c1, c2, c3, c4, c5, c6, c7, c8, hf, hlt0⟩ := hB.cells
    rcases expr_row (b := b) (hE n (Nat.lt_succ_self n)) h.inv h.bad hP with ⟨i, hi, h1, h2, hC⟩ | ⟨h2, hPl⟩
    · have HO : Hid (Calls Tryz.prog 86 #[.pointer (some ⟨b, 0, none⟩), .slice (some ⟨A, 0, none⟩) 3 3] w fun e w' => e = .returned (.tuple #[.agg #[.string exprRows[i].1, .func (.func exprRows[i].2) #[] #[]], .bool true]) ∧ w.grownBy w' none) := expr_open h A hAb hAh i hi h1 h2
      have HC : Hid (∀ W, PS b s m W → Calls Tryz.prog exprRows[i].2 #[.pointer (some ⟨b, 0, none⟩)] W (Post b s W t m')) := hC
      have hen := enters_expr i hi
      clear h1 h2 hC hP hB ho ht
      generalize exprRows[i].1 = kd at *
      generalize exprRows[i].2 = f at *
      go_enter Tryz.func63, Tryz.ntmps63
      go_wp2_with fail
      refine HO.out.mono ?_
      rintro e w1 ⟨rfl, hg⟩
      go_wp2_with fail
      have hg1 := grown_trans hg (grown_alloc (grown_refl _ _) (.cells #[.string kd, .func (.func f) #[] #[]] 128 (0, 0)))
      have h1 := h.grown hg1
      have k1 := Kp.new h.lt hg1
      refine (HC.out _ h1).mono ?_
      rintro e w2 (⟨hn, rfl, h2, k2⟩ | ⟨q, hq, rfl, hb⟩)
      · have HN : Hid (m'.bad = none) := hn
        clear hn
        obtain ⟨T1, x1, e1⟩ := pv_iface t
        have E1 : Hid (pv t = .iface T1 x1) := e1
        rw [e1]
        clear e1
        go_wp2_with fail
        go_ret
        exact .inl ⟨HN.out, by rw [E1.out]; rfl, h2, k1.trans k2⟩
      · have HB : Hid (m'.bad = some q) := hq
        clear hq
        go_wp2_with fail
        exact ⟨rfl, .inr ⟨q, HB.out, rfl, below_of k1 hb⟩⟩
    · have HO : Hid (Calls Tryz.prog 86 #[.pointer (some ⟨b, 0, none⟩), .slice (some ⟨A, 0, none⟩) 3 3] w fun e w' => e = .returned (.tuple #[.agg #[.string ⟨#[]⟩, .nilFunc], .bool false]) ∧ w.grownBy w' none) := expr_shut h A hAb hAh h2
      have HPl : Hid (PM s n .list m = some (t, m')) := hPl
      clear h2 hP hPl hB ho ht
      go_enter Tryz.func63, Tryz.ntmps63
      go_wp2_with fail
      refine HO.out.mono ?_
      rintro e w1 ⟨rfl, hg⟩
      go_wp2_with fail
      have hg1 := grown_trans hg (grown_alloc (grown_refl _ _) (.cells #[.string ⟨#[]⟩, .nilFunc] 128 (0, 0)))
      have h1 := h.grown hg1
      have k1 := Kp.new h.lt hg1
      refine (hL n (Nat.lt_succ_self n) b s m _ t m' h1 HPl.out).mono ?_
      rintro e w2 (⟨hn, rfl, h2, k2⟩ | ⟨q, hq, rfl, hb⟩)
      · have HN : Hid (m'.bad = none) := hn
        clear hn
        obtain ⟨T1, x1, e1⟩ := pv_iface t
        have E1 : Hid (pv t = .iface T1 x1) := e1
        rw [e1]
        clear e1
        go_wp2_with fail
        go_ret
        exact .inl ⟨HN.out, by rw [E1.out]; rfl, h2, k1.trans k2⟩
      · have HB : Hid (m'.bad = some q) := hq
        clear hq
        go_wp2_with fail
        exact ⟨rfl, .inr ⟨q, HB.out, rfl, below_of k1 hb⟩⟩

theorem all_p (n : Nat) : CP 63 .expr n ∧ CS 0 .list n ∧ CS 1 .order n ∧ CS 2 .sum n ∧ CS 3 .prod n ∧ CS 4 .use n ∧ CP 123 .atom n := by
  induction n using Nat.strongRecOn with
  | _ n ih =>
    have hE := fun j hj => (ih j hj).1
    have hA := fun j hj => (ih j hj).2.2.2.2.2.2
    exact ⟨pexpr n hE (fun j hj => (ih j hj).2.1), psides0 n (fun j hj => (ih j hj).2.2.1) (fun j hj => (ih j hj).2.1), psides1 n (fun j hj => (ih j hj).2.2.2.1), psides2 n (fun j hj => (ih j hj).2.2.2.2.1), psides3 n (fun j hj => (ih j hj).2.2.2.2.2.1), psides4 n (puse n hE hA), patom n hE hA⟩
end Go.Proofs.YtjjlgjmebnkdjaaGreatDoor
