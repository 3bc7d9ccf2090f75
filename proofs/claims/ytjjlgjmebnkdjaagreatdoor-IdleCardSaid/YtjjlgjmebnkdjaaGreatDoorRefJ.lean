/-
  The document's reader: Parse.
-/
import Derived.Test.YtjjlgjmebnkdjaaGreatDoorRefI
import Derived.Test.YtjjlgjmebnkdjaaGreatDoorPureB
namespace Go.Proofs.YtjjlgjmebnkdjaaGreatDoor
open Go Go.Proofs Go.RowKit Skein

set_option maxRecDepth 100000 in
set_option maxHeartbeats 2000000 in
theorem parse_long (s : ByteArray) (w : World) (hl : 300 < s.size) :
    Calls Tryz.prog 27 #[.string s] w fun e w' => e = .returned (.tuple #[.pointer none, .int .i64 1, .int .i64 0]) ∧ w' = w := by
  go_enter Tryz.func27, Tryz.ntmps27
  go_wp2_with fail
  go_ret3
  exact ⟨rfl, rfl⟩

/-- The answer of Parse: the error and its place are 'finish'. -/
def ParseAns (b : Nat) (t : T) (m : M) (w : World) (e : Ending) (w' : World) : Prop :=
  ∃ v, e = .returned (.tuple #[v, .int .i64 (finish m).1, .int .i64 (finish m).2]) ∧ ((finish m).1 = 0 → NodeAt b w' t v) ∧ (∃ a, v = .pointer a) ∧ Below b w w'

set_option maxRecDepth 100000 in
set_option maxHeartbeats 4000000 in
theorem parse_ok (s : ByteArray) (w : World) (hl : s.size ≤ 300) (N : Nat) (t : T) (m : M) (hP : PM s N .expr (Skein.start s) = some (t, m)) :
    Calls Tryz.prog 27 #[.string s] w (ParseAns w.heap.size t m w) := by
  have HP : Hid (PM s N .expr (Skein.start s) = some (t, m)) := hP
  clear hP
  go_enter Tryz.func27, Tryz.ntmps27
  go_wp2_with fail
  have hB : RB w.heap.size s ((0 : Nat) : Int) ⟨#[]⟩ 0 false false (.slice none 0 0) false 0 (-1) (w.alloc (.cells #[.string s, .int .i64 0, .string ⟨#[]⟩, .int .i64 0, .bool false, .bool false, .slice none 0 0, .bool false, .int .i64 0, .int .i64 (-1)] 62 (0, 0))) := alloc_at _ _ _ rfl
  refine (next_any w.heap.size s 0 _ _ _ _ _ _ _ _ hl (Nat.zero_le _) hB).mono ?_
  rintro e w1 ⟨rfl, hg, pl', hB1, hpl⟩
  have h1 : RS w.heap.size s (Skein.start s) w1 := by
    refine ⟨⟨.slice none 0 0, pl', ?_, World.ownsRow_nil _ _ _ _, fun hx => ?_⟩, Inv.start s, hl, Nat.zero_le _⟩
    · have e1 : (Skein.start s).isBad = ((tok s 0).k == .bad) := by simp [M.isBad, Skein.start]
      rw [e1]; exact hB1
    · have e1 : (Skein.start s).isBad = ((tok s 0).k == .bad) := by simp [M.isBad, Skein.start]
      rw [e1] at hx; exact hpl (beq_iff_eq.1 hx)
  have hbel : Below w.heap.size w w1 := by
    have k1 := Kp.grown (b := w.heap.size) hg (by simp)
    exact ((Below.refl _ w).alloc (Nat.le_refl _) _).trans k1.below
  clear hB hg hB1 hpl
  go_wp2_with fail
  refine ((all_c N).1 _ _ _ _ _ _ h1 HP.out).mono ?_
  rintro e w2 ⟨v, rfl, hv, h2, k2⟩
  obtain ⟨pv, rfl⟩ := NodeAt.ptr _ _ hv
  have hbel2 := hbel.trans k2.below
  clear hbel k2 h1 HP
  obtain ⟨gv, pl, hB, ho, hp⟩ := h2.blk
  obtain ⟨c0, c1, c2, c3, c4, c5, c6, c7, c8, c9, hf, hlt0⟩ := hB.cells
  cases hb : m.isBad
  · rw [hb] at c7
    cases ht : eqb m.tok.text ⟨#[]⟩
    · have ht1 : m.tok.text.toList.isEmpty = false := by
        rw [ByteArray.toList_eq]
        cases hx : m.tok.text.data.toList with
        | nil => unfold eqb at ht; rw [hx] at ht; cases ht
        | cons _ _ => rfl
      have hfin : Hid (finish m = (2, (m.tok.at_ : Int))) := by simp [Hid, finish, hb, ht]
      have hbf : Hid (m.isBad = false) := hb
      clear hb ht
      go_wp2_with fail
      refine (fails_rs h2).mono ?_
      rintro e w3 ⟨rfl, h3, k3⟩
      clear c0 c1 c2 c3 c4 c5 c6 c7 c8 c9 hf hlt0 hB ho hp
      obtain ⟨gv, pl, hB, ho, hp⟩ := h3.blk
      obtain ⟨c0, c1, c2, c3, c4, c5, c6, c7, c8, c9, hf, hlt0⟩ := hB.cells
      have hbn := isBad_of_bad hbf.out
      have e2 : pl = (m.tok.at_ : Int) := by
        rw [hp (fail_isBad m)]; simp [M.place, M.fail, hbn]
      rw [fail_isBad] at c7
      rw [e2] at c8
      clear e2 hbn
      go_wp2_with fail
      go_quiet (fail)
      go_wp2_with fail
      go_ret3
      refine ⟨.pointer none, ?_, fun hx => ?_, ⟨none, rfl⟩, ?_⟩
      · rw [hfin.out]; rfl
      · rw [hfin.out] at hx; cases hx
      · exact below_drewN (hbel2.trans k3.below) _
    · have ht1 : m.tok.text.toList.isEmpty = true := by
        rw [ByteArray.toList_eq, eqb_iff.1 ht]; rfl
      cases hfr : decide (0 ≤ m.free)
      · have hfr' : ¬ 0 ≤ m.free := by simpa using hfr
        have hfin : Hid (finish m = (0, 0)) := by simp [Hid, finish, hb, ht, hfr']
        clear hb ht hfr
        go_wp2_with fail
        go_ret3
        refine ⟨.pointer (some pv), ?_, fun hx => hv, ⟨some pv, rfl⟩, hbel2⟩
        rw [hfin.out]; rfl
      · have hfr' : 0 ≤ m.free := by simpa using hfr
        have hfin : Hid (finish m = (3, m.free)) := by simp [Hid, finish, hb, ht, hfr']
        clear hb ht hfr
        go_wp2_with fail
        go_quiet (fail)
        go_wp2_with fail
        go_ret3
        refine ⟨.pointer none, ?_, fun hx => ?_, ⟨none, rfl⟩, ?_⟩
        · rw [hfin.out]; rfl
        · rw [hfin.out] at hx; cases hx
        · exact below_drewN hbel2 _
  · rw [hb] at c7
    have hfin : Hid (finish m = (2, (m.place : Int))) := by simp [Hid, finish, hb]
    rw [hp hb] at c8
    have hbt : Hid (m.isBad = true) := hb
    clear hb
    by_cases ht1 : m.tok.text.toList.isEmpty = true
    · go_wp2_with fail
      go_quiet (fail)
      go_wp2_with fail
      go_ret3
      refine ⟨.pointer none, ?_, fun hx => ?_, ⟨none, rfl⟩, ?_⟩
      · rw [hfin.out]; rfl
      · rw [hfin.out] at hx; cases hx
      · exact below_drewN hbel2 _
    · have ht1 : m.tok.text.toList.isEmpty = false := by simpa using ht1
      go_wp2_with fail
      refine (fails_bad _ _ _ c7).mono ?_
      rintro e w3 ⟨rfl, rfl⟩
      go_wp2_with fail
      go_quiet (fail)
      go_wp2_with fail
      go_ret3
      refine ⟨.pointer none, ?_, fun hx => ?_, ⟨none, rfl⟩, ?_⟩
      · rw [hfin.out]; rfl
      · rw [hfin.out] at hx; cases hx
      · exact below_drewN hbel2 _
end Go.Proofs.YtjjlgjmebnkdjaaGreatDoor
