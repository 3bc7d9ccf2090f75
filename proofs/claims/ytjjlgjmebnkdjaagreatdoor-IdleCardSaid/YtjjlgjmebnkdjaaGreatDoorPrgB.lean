/-
  The program's signs: number, word, mark, Next.
-/
import Derived.Test.YtjjlgjmebnkdjaaGreatDoorPrgA
namespace Go.Proofs.YtjjlgjmebnkdjaaGreatDoor
open Go Go.Proofs Go.RowKit Skein

theorem grown_setnew {w w' : World} {r : Option Nat} (h : w.grownBy w' r) {k : Nat} (hk : w.heap.size ≤ k) (o : Nat) (v : Value) : w.grownBy (w'.setCell ⟨k, o, none⟩ v) r :=
  ⟨h.os, h.tape, h.output, by simp [World.setCell]; exact h.size, fun j hj hn => by
    rw [Below.heap_setCell _ _ _ _ (by show j ≠ k; omega)]; exact h.block j hj hn⟩
theorem grown_trans {w w1 w2 : World} (h : w.grownBy w1 none) (k : w1.grownBy w2 none) : w.grownBy w2 none :=
  ⟨k.os.trans h.os, k.tape.trans h.tape, k.output.trans h.output, Nat.le_trans h.size k.size, fun j hj hn => (k.block j (Nat.lt_of_lt_of_le hj h.size) hn).trans (h.block j hj hn)⟩

set_option maxRecDepth 100000 in
set_option maxHeartbeats 1000000 in
theorem pnumber (s : ByteArray) (k : Nat) (w : World) (hs : s.size ≤ 300) (hlt : k < s.size) (hd : isDig s[k] = true) :
    Calls Tryz.prog 72 #[.string s, .int .i64 k] w fun e w' => e = .returned (sgn (tokAt s k)) ∧ w.grownBy w' none := by
  have hr := runLen_le s false k (Nat.le_of_lt hlt)
  have e1 : runLen (s.extract k s.size) false 0 = runLen s false k := run_ext s false k _ 0 rfl
  have e2 := ext_ext s k _ hr
  have hz := ext_size s k _ hr
  by_cases h9 : 9 < runLen s false k
  · have et : Hid (tokAt s k = ⟨.bad, ⟨#[]⟩, k⟩) := tokAt_dig_bad hlt hd h9
    clear hd
    go_enter Tryz.func72, Tryz.ntmps72
    go_wp2_with fail
    refine (prun_dig _ _ (by rw [ByteArray.size_extract]; omega)).mono ?_
    rw [e1, e2]
    rintro e w1 ⟨rfl, rfl⟩
    clear e1 e2
    generalize s.extract k (k + runLen s false k) = x at *
    go_wp2_with fail
    rw [et.out]
    exact bodyPost_ret (v := .agg #[.string ⟨#[98, 97, 100]⟩, .string ⟨#[]⟩, .int .i64 k]) (by simp [results, Tryz.results72, go_sem]) rfl ⟨rfl, grown_alloc (grown_refl _ _) _⟩
  · have et : Hid (tokAt s k = ⟨.num, s.extract k (k + runLen s false k), k⟩) := tokAt_dig hlt hd h9
    clear hd
    go_enter Tryz.func72, Tryz.ntmps72
    go_wp2_with fail
    refine (prun_dig _ _ (by rw [ByteArray.size_extract]; omega)).mono ?_
    rw [e1, e2]
    rintro e w1 ⟨rfl, rfl⟩
    clear e1 e2
    generalize s.extract k (k + runLen s false k) = x at *
    go_wp2_with fail
    rw [et.out]
    exact bodyPost_ret (v := .agg #[.string ⟨#[110, 117, 109, 98, 101, 114]⟩, .string x, .int .i64 k]) (by simp [results, Tryz.results72, go_sem]) rfl ⟨rfl, grown_alloc (grown_refl _ _) _⟩

set_option maxRecDepth 100000 in
set_option maxHeartbeats 2000000 in
theorem pword (s : ByteArray) (k : Nat) (w : World) (hs : s.size ≤ 300) (hlt : k < s.size) (hd : isDig s[k] = false) (hl : isLet s[k] = true) :
    Calls Tryz.prog 74 #[.string s, .int .i64 k] w fun e w' => e = .returned (sgn (tokAt s k)) ∧ w.grownBy w' none := by
  have hr := runLen_le s true k (Nat.le_of_lt hlt)
  have e1 : runLen (s.extract k s.size) true 0 = runLen s true k := run_ext s true k _ 0 rfl
  have e2 := ext_ext s k _ hr
  have hz := ext_size s k _ hr
  by_cases h9 : 6 < runLen s true k
  · have et : Hid (tokAt s k = ⟨.bad, ⟨#[]⟩, k⟩) := tokAt_let_bad hlt hd hl h9
    clear hd hl
    go_enter Tryz.func74, Tryz.ntmps74
    go_wp2_with fail
    refine (prun_word _ _ (by rw [ByteArray.size_extract]; omega)).mono ?_
    rw [e1, e2]
    rintro e w1 ⟨rfl, rfl⟩
    clear e1 e2
    generalize s.extract k (k + runLen s true k) = x at *
    go_wp2_with fail
    rw [et.out]
    exact bodyPost_ret (v := .agg #[.string ⟨#[98, 97, 100]⟩, .string ⟨#[]⟩, .int .i64 k]) (by simp [results, Tryz.results74, go_sem]) rfl ⟨rfl, grown_alloc (grown_refl _ _) _⟩
  · cases hm : mem words (s.extract k (k + runLen s true k))
    · have et : Hid (tokAt s k = ⟨.name, s.extract k (k + runLen s true k), k⟩) := tokAt_name hlt hd hl h9 hm
      have HM : Hid (mem words (s.extract k (k + runLen s true k)) = false) := hm
      clear hd hl hm
      go_enter Tryz.func74, Tryz.ntmps74
      go_wp2_with fail
      refine (prun_word _ _ (by rw [ByteArray.size_extract]; omega)).mono ?_
      rw [e1, e2]
      rintro e w1 ⟨rfl, rfl⟩
      clear e1 e2
      generalize s.extract k (k + runLen s true k) = x at *
      go_wp2_with fail
      refine (pkind_no _ _ HM.out).mono ?_
      rintro e w1 ⟨rfl, rfl⟩
      go_wp2_with fail
      rw [et.out]
      exact bodyPost_ret (v := .agg #[.string ⟨#[110, 97, 109, 101]⟩, .string x, .int .i64 k]) (by simp [results, Tryz.results74, go_sem]) rfl ⟨rfl, grown_alloc (grown_refl _ _) _⟩
    · have et : Hid (tokAt s k = ⟨.sym, s.extract k (k + runLen s true k), k⟩) := tokAt_word hlt hd hl h9 hm
      have HM : Hid (mem words (s.extract k (k + runLen s true k)) = true) := hm
      clear hd hl hm
      go_enter Tryz.func74, Tryz.ntmps74
      go_wp2_with fail
      refine (prun_word _ _ (by rw [ByteArray.size_extract]; omega)).mono ?_
      rw [e1, e2]
      rintro e w1 ⟨rfl, rfl⟩
      clear e1 e2
      generalize s.extract k (k + runLen s true k) = x at *
      go_wp2_with fail
      refine (pkind_yes _ _ HM.out).mono ?_
      rintro e w1 ⟨rfl, rfl⟩
      go_wp2_with fail
      rw [et.out]
      exact bodyPost_ret (v := .agg #[.string x, .string x, .int .i64 k]) (by simp [results, Tryz.results74, go_sem]) rfl ⟨rfl, grown_alloc (grown_refl _ _) _⟩

theorem one_ext {s : ByteArray} {k : Nat} (hlt : k < s.size) : s.extract k (k + 1) = ⟨#[s[k]]⟩ := by
  apply ByteArray.ext
  apply Array.ext
  · rw [show (s.extract k (k + 1)).data.size = (s.extract k (k + 1)).size from rfl, ext_size s k 1 (by omega)]; rfl
  · intro i h1 h2
    have : i = 0 := by
      have : (s.extract k (k + 1)).data.size = 1 := ext_size s k 1 (by omega)
      omega
    subst this
    simp [ByteArray.getElem_eq_getElem_data]

theorem two_ext {s : ByteArray} {k : Nat} (h2 : k + 1 < s.size) (e1 : s[k] = 91) (e2 : s[k + 1] = 93) : s.extract k (k + 2) = ⟨#[91, 93]⟩ := by
  apply ByteArray.ext
  have hz : (s.extract k (k + 2)).data.size = 2 := ext_size s k 2 (by omega)
  apply Array.ext
  · rw [hz]; rfl
  · intro i h1 h3
    have hi : i = 0 ∨ i = 1 := by omega
    rcases hi with rfl | rfl
    · simpa [ByteArray.getElem_eq_getElem_data] using e1
    · simpa [ByteArray.getElem_eq_getElem_data] using e2

theorem pre_ext {s : ByteArray} {k : Nat} (hlt : k < s.size) : Lib.hasPrefix (s.extract k s.size).data.toList (ByteArray.mk #[91, 93]).data.toList = true ↔ ∃ h2 : k + 1 < s.size, s[k] = 91 ∧ s[k + 1] = 93 := by
  unfold Lib.hasPrefix
  rw [List.isPrefixOf_iff_prefix]
  have hz : (s.extract k s.size).data.size = s.size - k := by
    rw [show (s.extract k s.size).data.size = (s.extract k s.size).size from rfl, ByteArray.size_extract]; omega
  constructor
  · intro h
    have hl := h.length_le
    have h2 : k + 1 < s.size := by simp at hl; omega
    refine ⟨h2, ?_, ?_⟩
    · have := h.getElem (i := 0) (by simp)
      simpa [ByteArray.getElem_eq_getElem_data] using this.symm
    · have := h.getElem (i := 1) (by simp)
      simpa [ByteArray.getElem_eq_getElem_data] using this.symm
  · rintro ⟨h2, e1, e2⟩
    rw [List.prefix_iff_eq_take]
    apply List.ext_getElem
    · simp; omega
    · intro i h1 h3
      have hi : i = 0 ∨ i = 1 := by simp at h1; omega
      rcases hi with rfl | rfl
      · simpa [ByteArray.getElem_eq_getElem_data] using e1.symm
      · simpa [ByteArray.getElem_eq_getElem_data] using e2.symm

theorem marks_idx (c : UInt8) : decide (0 ≤ Lib.indexByte (ByteArray.mk #[92, 46, 61, 60, 43, 45, 42, 58, 40, 41]).data.toList c) = mem marks ⟨#[c]⟩ := by
  by_cases h92 : c = 92
  · subst h92; decide
  by_cases h46 : c = 46
  · subst h46; decide
  by_cases h61 : c = 61
  · subst h61; decide
  by_cases h60 : c = 60
  · subst h60; decide
  by_cases h43 : c = 43
  · subst h43; decide
  by_cases h45 : c = 45
  · subst h45; decide
  by_cases h42 : c = 42
  · subst h42; decide
  by_cases h58 : c = 58
  · subst h58; decide
  by_cases h40 : c = 40
  · subst h40; decide
  by_cases h41 : c = 41
  · subst h41; decide
  have h1 : mem marks ⟨#[c]⟩ = false := by
    unfold mem marks
    simp only [List.any_cons, List.any_nil, Bool.or_false, Bool.or_eq_false_iff, eqb_ne]
    refine ⟨?_, ?_, ?_, ?_, ?_, ?_, ?_, ?_, ?_, ?_⟩
    all_goals
      intro e
      have e' := congrArg (fun x : ByteArray => x.data.toList) e
      simp at e'
      exact absurd e'.symm (by assumption)
  rw [h1, decide_eq_false_iff_not]
  simp only [Lib.indexByte]
  simp [Ne.symm h92, Ne.symm h46, Ne.symm h61, Ne.symm h60, Ne.symm h43, Ne.symm h45, Ne.symm h42, Ne.symm h58, Ne.symm h40, Ne.symm h41]

end Go.Proofs.YtjjlgjmebnkdjaaGreatDoor
