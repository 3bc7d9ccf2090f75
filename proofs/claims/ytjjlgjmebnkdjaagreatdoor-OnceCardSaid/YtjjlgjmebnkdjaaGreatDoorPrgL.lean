/-
  The program's parser: atom, use, expression.
-/
import Derived.Test.YtjjlgjmebnkdjaaGreatDoorPrgK
namespace Go.Proofs.YtjjlgjmebnkdjaaGreatDoor
open Go Go.Proofs Go.RowKit Skein

def atomRows : List (ByteArray × Nat) := [(⟨#[110, 117, 109, 98, 101, 114]⟩, 81), (⟨#[110, 97, 109, 101]⟩, 82), (⟨#[91, 93]⟩, 83), (⟨#[40]⟩, 84), (⟨#[104, 101, 97, 100]⟩, 85), (⟨#[116, 97, 105, 108]⟩, 85), (⟨#[110, 117, 108, 108]⟩, 85)]
theorem atom_cells {w : World} {A : Nat} (h : w.heap[A]? = some (.cells atomCells 128 (0, 0))) : ∀ j (hj : j < atomRows.length), w.cell? ⟨A, j * 2, none⟩ = some (.string atomRows[j].1) ∧ w.cell? ⟨A, j * 2 + 1, none⟩ = some (.func (.func atomRows[j].2) #[] #[]) := by
  intro j hj
  have hc : ∀ i, w.cell? ⟨A, i, none⟩ = atomCells[i]? := fun i => by simp [World.cell?, h]
  rw [hc, hc]
  have hj' : j < 7 := hj
  have : j = 0 ∨ j = 1 ∨ j = 2 ∨ j = 3 ∨ j = 4 ∨ j = 5 ∨ j = 6 := by omega
  rcases this with rfl | rfl | rfl | rfl | rfl | rfl | rfl
  all_goals exact ⟨rfl, rfl⟩
theorem atom_open {b s m w} (h : PS b s m w) (A : Nat) (hA : A < b) (ha : w.heap[A]? = some (.cells atomCells 128 (0, 0))) (i : Nat) (hi : i < atomRows.length) (h1 : eqb atomRows[i].1 (kindOf m.tok) = true) (h2 : ∀ j (h : j < atomRows.length), j < i → eqb atomRows[j].1 (kindOf m.tok) = false) :
    Calls Tryz.prog 86 #[.pointer (some ⟨b, 0, none⟩), .slice (some ⟨A, 0, none⟩) 7 7] w fun e w' => e = .returned (.tuple #[.agg #[.string atomRows[i].1, .func (.func atomRows[i].2) #[] #[]], .bool true]) ∧ w.grownBy w' none :=
  popened_some h A atomRows (by decide) (by have := h.lt; omega) (atom_cells ha) i hi h1 h2
theorem atom_shut {b s m w} (h : PS b s m w) (A : Nat) (hA : A < b) (ha : w.heap[A]? = some (.cells atomCells 128 (0, 0))) (h2 : ∀ j (h : j < atomRows.length), eqb atomRows[j].1 (kindOf m.tok) = false) :
    Calls Tryz.prog 86 #[.pointer (some ⟨b, 0, none⟩), .slice (some ⟨A, 0, none⟩) 7 7] w fun e w' => e = .returned (.tuple #[.agg #[.string ⟨#[]⟩, .nilFunc], .bool false]) ∧ w.grownBy w' none :=
  popened_none h A atomRows (by decide) (by have := h.lt; omega) (atom_cells ha) h2

def exprRows : List (ByteArray × Nat) := [(⟨#[108, 101, 116]⟩, 78), (⟨#[92]⟩, 79), (⟨#[105, 102]⟩, 80)]
theorem expr_cells {w : World} {A : Nat} (h : w.heap[A]? = some (.cells exprCells 128 (0, 0))) : ∀ j (hj : j < exprRows.length), w.cell? ⟨A, j * 2, none⟩ = some (.string exprRows[j].1) ∧ w.cell? ⟨A, j * 2 + 1, none⟩ = some (.func (.func exprRows[j].2) #[] #[]) := by
  intro j hj
  have hc : ∀ i, w.cell? ⟨A, i, none⟩ = exprCells[i]? := fun i => by simp [World.cell?, h]
  rw [hc, hc]
  have hj' : j < 3 := hj
  have : j = 0 ∨ j = 1 ∨ j = 2 := by omega
  rcases this with rfl | rfl | rfl
  all_goals exact ⟨rfl, rfl⟩
theorem expr_open {b s m w} (h : PS b s m w) (A : Nat) (hA : A < b) (ha : w.heap[A]? = some (.cells exprCells 128 (0, 0))) (i : Nat) (hi : i < exprRows.length) (h1 : eqb exprRows[i].1 (kindOf m.tok) = true) (h2 : ∀ j (h : j < exprRows.length), j < i → eqb exprRows[j].1 (kindOf m.tok) = false) :
    Calls Tryz.prog 86 #[.pointer (some ⟨b, 0, none⟩), .slice (some ⟨A, 0, none⟩) 3 3] w fun e w' => e = .returned (.tuple #[.agg #[.string exprRows[i].1, .func (.func exprRows[i].2) #[] #[]], .bool true]) ∧ w.grownBy w' none :=
  popened_some h A exprRows (by decide) (by have := h.lt; omega) (expr_cells ha) i hi h1 h2
theorem expr_shut {b s m w} (h : PS b s m w) (A : Nat) (hA : A < b) (ha : w.heap[A]? = some (.cells exprCells 128 (0, 0))) (h2 : ∀ j (h : j < exprRows.length), eqb exprRows[j].1 (kindOf m.tok) = false) :
    Calls Tryz.prog 86 #[.pointer (some ⟨b, 0, none⟩), .slice (some ⟨A, 0, none⟩) 3 3] w fun e w' => e = .returned (.tuple #[.agg #[.string ⟨#[]⟩, .nilFunc], .bool false]) ∧ w.grownBy w' none :=
  popened_none h A exprRows (by decide) (by have := h.lt; omega) (expr_cells ha) h2

theorem Post.of {b s w W t m' e w'} (hk : Kp b w W) (h : Post b s W t m' e w') : Post b s w t m' e w' := by
  rcases h with ⟨h1, h2, h3, h4⟩ | ⟨q, h1, h2, h3⟩
  · exact .inl ⟨h1, h2, h3, hk.trans h4⟩
  · exact .inr ⟨q, h1, h2, hk.below.trans h3⟩
theorem post_plain {b s w t m'} {f : Nat} (hb : m'.bad = none) (h : Calls Tryz.prog f #[.pointer (some ⟨b, 0, none⟩)] w fun e w' => e = .returned (pv t) ∧ PS b s m' w' ∧ Kp b w w') : Calls Tryz.prog f #[.pointer (some ⟨b, 0, none⟩)] w (Post b s w t m') := by
  refine h.mono ?_
  rintro e w' ⟨rfl, h1, k1⟩
  exact .inl ⟨hb, rfl, h1, k1⟩

/-- Which atom it is. -/
theorem atom_row {b s m n t m'} (hE : CP 63 .expr n) (hA : CP 123 .atom n) (hi : Inv s m) (hb : m.bad = none) (hP : PM s (n + 1) .atom m = some (t, m')) :
    (m.begins = true ∧ ∃ i, ∃ hi : i < atomRows.length, eqb atomRows[i].1 (kindOf m.tok) = true ∧ (∀ j (h : j < atomRows.length), j < i → eqb atomRows[j].1 (kindOf m.tok) = false) ∧ ∀ W, PS b s m W → Calls Tryz.prog atomRows[i].2 #[.pointer (some ⟨b, 0, none⟩)] W (Post b s W t m')) ∨
    (m.begins = false ∧ (∀ j (h : j < atomRows.length), eqb atomRows[j].1 (kindOf m.tok) = false) ∧ m' = m.fail) := by
  have k0 := kind_num hi
  have k1 := kind_name hi
  have k2 := kind_sym hi ⟨#[91, 93]⟩ (mem_iff.1 (by decide))
  have k3 := kind_sym hi ⟨#[40]⟩ (mem_iff.1 (by decide))
  have k4 := kind_sym hi ⟨#[104, 101, 97, 100]⟩ (mem_iff.1 (by decide))
  have k5 := kind_sym hi ⟨#[116, 97, 105, 108]⟩ (mem_iff.1 (by decide))
  have k6 := kind_sym hi ⟨#[110, 117, 108, 108]⟩ (mem_iff.1 (by decide))
  rw [eqb_comm] at k0 k1 k2 k3 k4 k5 k6
  have hbg : m.begins = (m.tok.k == .num || m.tok.k == .name || mem openers m.tok.text) := by unfold M.begins; rw [hb]; rfl
  have hop : mem openers m.tok.text = (eqb ⟨#[91, 93]⟩ m.tok.text || (eqb ⟨#[40]⟩ m.tok.text || (eqb ⟨#[104, 101, 97, 100]⟩ m.tok.text || (eqb ⟨#[116, 97, 105, 108]⟩ m.tok.text || eqb ⟨#[110, 117, 108, 108]⟩ m.tok.text)))) := by
    unfold mem openers; simp only [List.any_cons, List.any_nil, Bool.or_false]
  simp only [PM] at hP
  cases a0 : (m.tok.k == .num)
  · cases a1 : (m.tok.k == .name)
    · rw [a0] at k0; rw [a1] at k1
      rw [a0, a1] at hP
      simp only [Bool.false_eq_true, if_false] at hP
      by_cases hg : mem openers m.tok.text = true
      · have hbt : m.begins = true := by rw [hbg, hg]; simp
        rw [if_pos hbt] at hP
        left
        refine ⟨hbt, ?_⟩
        rcases mem_openers hg with e | e | e | e | e
        · have z2 : eqb m.tok.text ⟨#[91, 93]⟩ = true := eqb_iff.2 e
          rw [if_pos z2] at hP
          cases hP
          refine ⟨2, by decide, by rw [z2] at k2; exact k2, ?_, fun W hW => post_plain hb (pempty hW (by rw [eqb_comm, k2]; exact z2))⟩
          intro j hj hlt
          have : j = 0 ∨ j = 1 := by omega
          rcases this with rfl | rfl
          · exact k0
          · exact k1
        · have z2 : eqb m.tok.text ⟨#[91, 93]⟩ = false := by rw [e]; decide
          have z3 : eqb m.tok.text ⟨#[40]⟩ = true := eqb_iff.2 e
          rw [if_neg (by simp [z2]), if_pos z3] at hP
          obtain ⟨⟨t1, m1⟩, hP1, hP⟩ := Option.bind_eq_some_iff.1 hP
          cases hP
          rw [z2] at k2; rw [z3] at k3
          refine ⟨3, by decide, k3, ?_, fun W hW => pbrackets hE hW z3 hP1⟩
          intro j hj hlt
          have : j = 0 ∨ j = 1 ∨ j = 2 := by omega
          rcases this with rfl | rfl | rfl
          · exact k0
          · exact k1
          · exact k2
        · have z2 : eqb m.tok.text ⟨#[91, 93]⟩ = false := by rw [e]; decide
          have z3 : eqb m.tok.text ⟨#[40]⟩ = false := by rw [e]; decide
          have z4 : eqb m.tok.text ⟨#[104, 101, 97, 100]⟩ = true := by rw [e]; decide
          rw [if_neg (by simp [z2]), if_neg (by simp [z3])] at hP
          obtain ⟨⟨t1, m1⟩, hP1, hP⟩ := Option.bind_eq_some_iff.1 hP
          cases hP
          rw [z2] at k2; rw [z3] at k3; rw [z4] at k4
          refine ⟨4, by decide, k4, ?_, fun W hW => ?_⟩
          · intro j hj hlt
            have : j = 0 ∨ j = 1 ∨ j = 2 ∨ j = 3 := by omega
            rcases this with rfl | rfl | rfl | rfl
            · exact k0
            · exact k1
            · exact k2
            · exact k3
          · rw [e]
            exact ppart 104 ⟨#[104, 101, 97, 100]⟩ e rfl hA hW hP1
        · have z2 : eqb m.tok.text ⟨#[91, 93]⟩ = false := by rw [e]; decide
          have z3 : eqb m.tok.text ⟨#[40]⟩ = false := by rw [e]; decide
          have z4 : eqb m.tok.text ⟨#[104, 101, 97, 100]⟩ = false := by rw [e]; decide
          have z5 : eqb m.tok.text ⟨#[116, 97, 105, 108]⟩ = true := by rw [e]; decide
          rw [if_neg (by simp [z2]), if_neg (by simp [z3])] at hP
          obtain ⟨⟨t1, m1⟩, hP1, hP⟩ := Option.bind_eq_some_iff.1 hP
          cases hP
          rw [z2] at k2; rw [z3] at k3; rw [z4] at k4; rw [z5] at k5
          refine ⟨5, by decide, k5, ?_, fun W hW => ?_⟩
          · intro j hj hlt
            have : j = 0 ∨ j = 1 ∨ j = 2 ∨ j = 3 ∨ j = 4 := by omega
            rcases this with rfl | rfl | rfl | rfl | rfl
            · exact k0
            · exact k1
            · exact k2
            · exact k3
            · exact k4
          · rw [e]
            exact ppart 116 ⟨#[116, 97, 105, 108]⟩ e rfl hA hW hP1
        · have z2 : eqb m.tok.text ⟨#[91, 93]⟩ = false := by rw [e]; decide
          have z3 : eqb m.tok.text ⟨#[40]⟩ = false := by rw [e]; decide
          have z4 : eqb m.tok.text ⟨#[104, 101, 97, 100]⟩ = false := by rw [e]; decide
          have z5 : eqb m.tok.text ⟨#[116, 97, 105, 108]⟩ = false := by rw [e]; decide
          have z6 : eqb m.tok.text ⟨#[110, 117, 108, 108]⟩ = true := by rw [e]; decide
          rw [if_neg (by simp [z2]), if_neg (by simp [z3])] at hP
          obtain ⟨⟨t1, m1⟩, hP1, hP⟩ := Option.bind_eq_some_iff.1 hP
          cases hP
          rw [z2] at k2; rw [z3] at k3; rw [z4] at k4; rw [z5] at k5; rw [z6] at k6
          refine ⟨6, by decide, k6, ?_, fun W hW => ?_⟩
          · intro j hj hlt
            have : j = 0 ∨ j = 1 ∨ j = 2 ∨ j = 3 ∨ j = 4 ∨ j = 5 := by omega
            rcases this with rfl | rfl | rfl | rfl | rfl | rfl
            · exact k0
            · exact k1
            · exact k2
            · exact k3
            · exact k4
            · exact k5
          · rw [e]
            exact ppart 110 ⟨#[110, 117, 108, 108]⟩ e rfl hA hW hP1
      · have hbf : m.begins = false := by
          rw [hbg, a0, a1]; simpa using hg
        rw [if_neg (by simp [hbf])] at hP
        cases hP
        right
        refine ⟨hbf, ?_, rfl⟩
        have hg' : mem openers m.tok.text = false := by simpa using hg
        rw [hop] at hg'
        simp only [Bool.or_eq_false_iff] at hg'
        obtain ⟨g2, g3, g4, g5, g6⟩ := hg'
        rw [eqb_comm] at g2 g3 g4 g5 g6
        rw [g2] at k2; rw [g3] at k3; rw [g4] at k4; rw [g5] at k5; rw [g6] at k6
        intro j hj
        have hj' : j < 7 := hj
        have : j = 0 ∨ j = 1 ∨ j = 2 ∨ j = 3 ∨ j = 4 ∨ j = 5 ∨ j = 6 := by omega
        rcases this with rfl | rfl | rfl | rfl | rfl | rfl | rfl
        · exact k0
        · exact k1
        · exact k2
        · exact k3
        · exact k4
        · exact k5
        · exact k6
    · rw [a0] at k0; rw [a1] at k1
      have hbt : m.begins = true := by rw [hbg, a0, a1]; rfl
      rw [if_pos hbt, a0, a1] at hP
      simp only [Bool.false_eq_true, if_false, if_true] at hP
      have e := Option.some.inj hP
      have e1 : t = (named m.tok (m.adv s)).1 := by rw [e]
      have e2 : m' = (named m.tok (m.adv s)).2 := by rw [e]
      left
      refine ⟨hbt, 1, by decide, k1, ?_, fun W hW => ?_⟩
      · intro j hj hlt
        have : j = 0 := by omega
        subst this; exact k0
      · rw [e1, e2]
        exact post_plain (by simp [hb]) (pname hW (beq_iff_eq.1 a1))
  · rw [a0] at k0
    have hbt : m.begins = true := by rw [hbg, a0]; rfl
    rw [if_pos hbt, a0] at hP
    simp only [if_true] at hP
    cases hP
    left
    exact ⟨hbt, 0, by decide, k0, fun j hj hlt => by omega, fun W hW => post_plain hb (pnum hW (beq_iff_eq.1 a0))⟩

theorem enters_row (i : Nat) (hi : i < atomRows.length) : ∀ args w, (callFunc atomRows[i].2 args).run Tryz.prog w = .ok (.enter atomRows[i].2 args) w := by
  have hi' : i < 7 := hi
  have : i = 0 ∨ i = 1 ∨ i = 2 ∨ i = 3 ∨ i = 4 ∨ i = 5 ∨ i = 6 := by omega
  rcases this with rfl | rfl | rfl | rfl | rfl | rfl | rfl
  · exact enters_of Tryz.func81 (by kernel_rfl) rfl
  · exact enters_of Tryz.func82 (by kernel_rfl) rfl
  · exact enters_of Tryz.func83 (by kernel_rfl) rfl
  · exact enters_of Tryz.func84 (by kernel_rfl) rfl
  · exact enters_of Tryz.func85 (by kernel_rfl) rfl
  · exact enters_of Tryz.func85 (by kernel_rfl) rfl
  · exact enters_of Tryz.func85 (by kernel_rfl) rfl

set_option maxRecDepth 100000 in
set_option maxHeartbeats 2000000 in
theorem patom (n : Nat) (hE : ∀ j, j < n → CP 63 .expr j) (hA : ∀ j, j < n → CP 123 .atom j) : CP 123 .atom n := by
  intro b s m w t m' h hP
  cases n with
  | zero => simp [PM] at hP
  | succ n =>
    obtain ⟨gv, iv, ev, av, hB, ho, ht⟩ := h.blk
    obtain ⟨A, rfl, hAb, hAh⟩ := ht.atoms
    obtain ⟨c0, c1, c2, c3, c4, c5, c6, c7, c8, hf, hlt0⟩ := hB.cells
    rcases atom_row (b := b) (hE n (Nat.lt_succ_self n)) (hA n (Nat.lt_succ_self n)) h.inv h.bad hP with ⟨_, i, hi, h1, h2, hC⟩ | ⟨_, h2, rfl⟩
    · have HO : Hid (Calls Tryz.prog 86 #[.pointer (some ⟨b, 0, none⟩), .slice (some ⟨A, 0, none⟩) 7 7] w fun e w' => e = .returned (.tuple #[.agg #[.string atomRows[i].1, .func (.func atomRows[i].2) #[] #[]], .bool true]) ∧ w.grownBy w' none) := atom_open h A hAb hAh i hi h1 h2
      have HC : Hid (∀ W, PS b s m W → Calls Tryz.prog atomRows[i].2 #[.pointer (some ⟨b, 0, none⟩)] W (Post b s W t m')) := hC
      have hen := enters_row i hi
      clear h1 h2 hC hP hB ho ht
      generalize atomRows[i].1 = kd at *
      generalize atomRows[i].2 = f at *
      go_enter Tryz.func123, Tryz.ntmps123
      go_wp2_with fail
      refine HO.out.mono ?_
      rintro e w1 ⟨rfl, hg⟩
      go_wp2_with fail
      have hg1 := grown_trans hg (grown_alloc (grown_refl _ _) (.cells #[.string kd, .func (.func f) #[] #[]] 128 (0, 0)))
      have h1 := h.grown hg1
      have k1 := Kp.new h.lt hg1
      refine (HC.out _ h1).mono ?_
      rintro e w2 (⟨hn, rfl, h2, k2⟩ | ⟨q, hq, rfl, hb⟩)
      · have HN : Hid (m'.bad = none) := hn
        clear hn
        obtain ⟨T1, x1, e1⟩ := pv_iface t
        have E1 : Hid (pv t = .iface T1 x1) := e1
        rw [e1]
        clear e1
        go_wp2_with fail
        go_ret
        exact .inl ⟨HN.out, by rw [E1.out]; rfl, h2, k1.trans k2⟩
      · have HB : Hid (m'.bad = some q) := hq
        clear hq
        go_wp2_with fail
        exact ⟨rfl, .inr ⟨q, HB.out, rfl, below_of k1 hb⟩⟩
    · have HO : Hid (Calls Tryz.prog 86 #[.pointer (some ⟨b, 0, none⟩), .slice (some ⟨A, 0, none⟩) 7 7] w fun e w' => e = .returned (.tuple #[.agg #[.string ⟨#[]⟩, .nilFunc], .bool false]) ∧ w.grownBy w' none) := atom_shut h A hAb hAh h2
      have HF : Hid (m.fail.bad = some m.tok.at_) := by unfold Hid; simp [M.fail, h.bad]
      clear h2 hP hB ho ht
      go_enter Tryz.func123, Tryz.ntmps123
      go_wp2_with fail
      refine HO.out.mono ?_
      rintro e w1 ⟨rfl, hg⟩
      go_wp2_with fail
      have hg1 := grown_trans hg (grown_alloc (grown_refl _ _) (.cells #[.string ⟨#[]⟩, .nilFunc] 128 (0, 0)))
      refine (pmisplaced (h.grown hg1)).mono ?_
      rintro e w2 ⟨rfl, hg2⟩
      go_wp2_with fail
      exact ⟨rfl, .inr ⟨m.tok.at_, HF.out, rfl, (Kp.new h.lt (grown_trans hg1 hg2)).below⟩⟩

set_option maxRecDepth 100000 in
set_option maxHeartbeats 4000000 in
theorem puse (n : Nat) (hE : ∀ j, j < n → CP 63 .expr j) (hA : ∀ j, j < n → CP 123 .atom j) : CP 126 .use n := by
  intro b s m w t m' h hP
  cases n with
  | zero => simp [PM] at hP
  | succ n =>
    simp only [PM] at hP
    rw [if_neg (by simp [h.bad])] at hP
    obtain ⟨⟨t1, m1⟩, hP1, hP2⟩ := Option.bind_eq_some_iff.1 hP
    have HP1 : Hid (PM s n .atom m = some (t1, m1)) := hP1
    have HP2 : Hid (PM s n (.useL t1) m1 = some (t, m')) := hP2
    have HI1 : Hid (Inv s m1) := (PM_keeps s n _ _ _ hP1).1 h.inv
    clear hP hP1 hP2
    go_enter Tryz.func126, Tryz.ntmps126
    go_wp2_with fail
    refine (hA n (Nat.lt_succ_self n) b s m w t1 m1 h HP1.out).mono ?_
    rintro e w1 (⟨hn, rfl, h1, k1⟩ | ⟨q, hq, rfl, hb⟩)
    · clear hn
      go_wp2_with fail
      go_loopg [3] n (fun j v wr => j ≤ n ∧ ∃ tj mj, v = pv tj ∧ PS b s mj wr ∧ Kp b w wr ∧ Hid (PM s j (.useL tj) mj = some (t, m')))
      case atStart => exact ⟨Nat.le_refl _, t1, m1, rfl, h1, k1, HP2⟩
      case round =>
        obtain ⟨hjn, tj, mj, rfl, hR, hK, HP⟩ := hrel
        have hPj := HP.out
        cases gk with
        | zero => simp [PM] at hPj
        | succ j =>
          simp only [PM] at hPj
          obtain ⟨gv, iv, ev, av, hB, ho, ht⟩ := hR.blk
          obtain ⟨A, rfl, hAb, hAh⟩ := ht.atoms
          obtain ⟨c0, c1, c2, c3, c4, c5, c6, c7, c8, hf, hlt0⟩ := hB.cells
          obtain ⟨T1, x1, e1⟩ := pv_iface tj
          have E1 : Hid (pv tj = .iface T1 x1) := e1
          rw [e1]
          clear e1
          cases hbg : mj.begins
          · rw [if_neg (by simp [hbg])] at hPj
            have h2 : ∀ i (h : i < atomRows.length), eqb atomRows[i].1 (kindOf mj.tok) = false := by
              obtain ⟨⟨ta, ma⟩, ha⟩ : ∃ r, PM s (0 + 1) .atom mj = some r := ⟨(.junk, mj.fail), by simp [PM, hbg]⟩
              rcases atom_row (b := b) (n := 0) (fun b s m w t m' _ h => by simp [PM] at h) (fun b s m w t m' _ h => by simp [PM] at h) hR.inv hR.bad ha with ⟨h3, _⟩ | ⟨_, h3, _⟩
              · rw [hbg] at h3; cases h3
              · exact h3
            have HO : Hid (Calls Tryz.prog 86 #[.pointer (some ⟨b, 0, none⟩), .slice (some ⟨A, 0, none⟩) 7 7] wr fun e w' => e = .returned (.tuple #[.agg #[.string ⟨#[]⟩, .nilFunc], .bool false]) ∧ wr.grownBy w' none) := atom_shut hR A hAb hAh h2
            have HE2 : Hid ((tj, mj) = (t, m')) := Option.some.inj hPj
            clear h2 hPj hbg hB ho ht
            go_wp2_with fail
            refine HO.out.mono ?_
            rintro e w2 ⟨rfl, hg⟩
            go_wp2_with fail
            go_ret
            have hg1 := grown_trans hg (grown_alloc (grown_refl _ _) (.cells #[.string ⟨#[]⟩, .nilFunc] 128 (0, 0)))
            have e2 := HE2.out
            cases e2
            exact .inl ⟨hR.bad, by rw [E1.out]; rfl, hR.grown hg1, hK.trans (Kp.new hR.lt hg1)⟩
          · rw [if_pos hbg] at hPj
            obtain ⟨⟨tx, mx⟩, hPx, hPy⟩ := Option.bind_eq_some_iff.1 hPj
            cases j with
            | zero => simp [PM] at hPx
            | succ j =>
              rcases atom_row (b := b) (hE j (by omega)) (hA j (by omega)) hR.inv hR.bad hPx with ⟨_, i, hi, h1', h2', hC⟩ | ⟨h3, _⟩
              · have HO : Hid (Calls Tryz.prog 86 #[.pointer (some ⟨b, 0, none⟩), .slice (some ⟨A, 0, none⟩) 7 7] wr fun e w' => e = .returned (.tuple #[.agg #[.string atomRows[i].1, .func (.func atomRows[i].2) #[] #[]], .bool true]) ∧ wr.grownBy w' none) := atom_open hR A hAb hAh i hi h1' h2'
                have HC : Hid (∀ W, PS b s mj W → Calls Tryz.prog atomRows[i].2 #[.pointer (some ⟨b, 0, none⟩)] W (Post b s W tx mx)) := hC
                have hen := enters_row i hi
                have HPy : Hid (PM s (j + 1) (.useL (.app tj tx)) mx = some (t, m')) := hPy
                have HIx : Hid (Inv s mx) := (PM_keeps s (j + 1) _ _ _ hPx).1 hR.inv
                clear h1' h2' hC hPj hPx hPy hB ho ht hbg
                generalize atomRows[i].1 = kd at *
                generalize atomRows[i].2 = f at *
                go_wp2_with fail
                refine HO.out.mono ?_
                rintro e w2 ⟨rfl, hg⟩
                go_wp2_with fail
                have hg1 := grown_trans hg (grown_alloc (grown_refl _ _) (.cells #[.string kd, .func (.func f) #[] #[]] 128 (0, 0)))
                have h2 := hR.grown hg1
                have k2 := Kp.new hR.lt hg1
                refine (HC.out _ h2).mono ?_
                rintro e w3 (⟨hn, rfl, h3, k3⟩ | ⟨q, hq, rfl, hb⟩)
                · clear hn
                  obtain ⟨T2, x2, e2⟩ := pv_iface tx
                  have E2 : Hid (pv tx = .iface T2 x2) := e2
                  rw [e2]
                  clear e2
                  go_wp2_with fail
                  go_roundg (j + 1)
                  case measure => omega
                  case rel =>
                    refine ⟨by omega, .app tj tx, mx, ?_, h3, (hK.trans k2).trans k3, HPy⟩
                    show _ = Value.iface 158 (.agg #[pv tj, pv tx])
                    rw [E1.out, E2.out]
                · have HB : Hid (mx.bad = some q) := hq
                  clear hq
                  go_wp2_with fail
                  exact ⟨rfl, .inr ⟨q, sticky HIx.out HPy.out HB.out, rfl, below_of (hK.trans k2) hb⟩⟩
              · rw [hbg] at h3; cases h3
    · have HB : Hid (m1.bad = some q) := hq
      clear hq
      go_wp2_with fail
      exact ⟨rfl, .inr ⟨q, sticky HI1.out HP2.out HB.out, rfl, hb⟩⟩

end Go.Proofs.YtjjlgjmebnkdjaaGreatDoor
