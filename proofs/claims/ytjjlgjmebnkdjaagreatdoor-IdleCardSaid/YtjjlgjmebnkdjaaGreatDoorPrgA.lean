/-
  The program's signs.
-/
import Derived.Test.YtjjlgjmebnkdjaaGreatDoorRefC
import Derived.Test.YtjjlgjmebnkdjaaGreatDoorShelf
namespace Go.Proofs.YtjjlgjmebnkdjaaGreatDoor
open Go Go.Proofs Go.RowKit Skein

def kindOf (t : Tok) : ByteArray :=
  match t.k with
  | .eof => ⟨#[101, 110, 100]⟩
  | .bad => ⟨#[98, 97, 100]⟩
  | .num => ⟨#[110, 117, 109, 98, 101, 114]⟩
  | .name => ⟨#[110, 97, 109, 101]⟩
  | .sym => t.text

def sgn (t : Tok) : Value := .agg #[.string (kindOf t), .string t.text, .int .i64 t.at_]

set_option maxHeartbeats 400000 in
theorem pdigit (c : UInt8) (w : World) :
    Calls Tryz.prog 71 #[.int .u8 c.toNat] w fun e w' => e = .returned (.bool (isDig c)) ∧ w' = w := by
  by_cases h : 48 ≤ (c.toNat : Int)
  · by_cases h2 : (c.toNat : Int) ≤ 57
    · go_enter Tryz.func71, Tryz.ntmps71
      go_wp2
      go_ret
      refine ⟨?_, rfl⟩
      simp [isDig, UInt8.le_iff_toNat_le]; omega
    · go_enter Tryz.func71, Tryz.ntmps71
      go_wp2
      go_ret
      refine ⟨?_, rfl⟩
      simp [isDig, UInt8.le_iff_toNat_le]; omega
  · go_enter Tryz.func71, Tryz.ntmps71
    go_wp2
    go_ret
    refine ⟨?_, rfl⟩
    simp [isDig, UInt8.le_iff_toNat_le]; omega

set_option maxHeartbeats 400000 in
theorem pletter (c : UInt8) (w : World) :
    Calls Tryz.prog 73 #[.int .u8 c.toNat] w fun e w' => e = .returned (.bool (isLet c)) ∧ w' = w := by
  by_cases h : 97 ≤ (c.toNat : Int)
  · by_cases h2 : (c.toNat : Int) ≤ 122
    · go_enter Tryz.func73, Tryz.ntmps73
      go_wp2
      go_ret
      refine ⟨?_, rfl⟩
      simp [isLet, UInt8.le_iff_toNat_le]; omega
    · go_enter Tryz.func73, Tryz.ntmps73
      go_wp2
      go_ret
      refine ⟨?_, rfl⟩
      simp [isLet, UInt8.le_iff_toNat_le]; omega
  · go_enter Tryz.func73, Tryz.ntmps73
    go_wp2
    go_ret
    refine ⟨?_, rfl⟩
    simp [isLet, UInt8.le_iff_toNat_le]; omega

theorem blank_eq (c : UInt8) : isBlank c = ((c.toNat : Int) == 32 || (c.toNat : Int) == 9 || (c.toNat : Int) == 10 || (c.toNat : Int) == 13) := by
  have f1 : ((c.toNat : Int) == 32) = (c == 32) := eqi c 32
  have f2 : ((c.toNat : Int) == 9) = (c == 9) := eqi c 9
  have f3 : ((c.toNat : Int) == 10) = (c == 10) := eqi c 10
  have f4 : ((c.toNat : Int) == 13) = (c == 13) := eqi c 13
  rw [f1, f2, f3, f4]; rfl

set_option maxHeartbeats 400000 in
theorem pblank (c : UInt8) (w : World) :
    Calls Tryz.prog 70 #[.int .u8 c.toNat] w fun e w' => e = .returned (.bool (isBlank c)) ∧ w' = w := by
  rw [blank_eq]
  cases e1 : ((c.toNat : Int) == 32)
  · cases e2 : ((c.toNat : Int) == 9)
    · cases e3 : ((c.toNat : Int) == 10)
      · cases e4 : ((c.toNat : Int) == 13)
        · go_enter Tryz.func70, Tryz.ntmps70
          go_wp2
          go_ret
          exact ⟨rfl, rfl⟩
        · go_enter Tryz.func70, Tryz.ntmps70
          go_wp2
          go_ret
          exact ⟨rfl, rfl⟩
      · go_enter Tryz.func70, Tryz.ntmps70
        go_wp2
        go_ret
        exact ⟨rfl, rfl⟩
    · go_enter Tryz.func70, Tryz.ntmps70
      go_wp2
      go_ret
      exact ⟨rfl, rfl⟩
  · go_enter Tryz.func70, Tryz.ntmps70
    go_wp2
    go_ret
    exact ⟨rfl, rfl⟩

set_option maxHeartbeats 400000 in
theorem pwordc (c : UInt8) (w : World) :
    Calls Tryz.prog 114 #[.int .u8 c.toNat] w fun e w' => e = .returned (.bool (fits true c)) ∧ w' = w := by
  cases hl : isLet c
  · have hf : Hid (fits true c = isDig c) := by simp [Hid, fits, hl]
    go_enter Tryz.func114, Tryz.ntmps114
    go_wp2_with fail
    refine (pletter _ _).mono ?_
    rw [hl]
    rintro e w' ⟨rfl, rfl⟩
    clear hl
    go_wp2_with fail
    refine (pdigit _ _).mono ?_
    rintro e w' ⟨rfl, rfl⟩
    go_wp2_with fail
    go_ret
    exact ⟨ret_bool hf.out.symm, rfl⟩
  · have hf : Hid (fits true c = true) := by simp [Hid, fits, hl]
    go_enter Tryz.func114, Tryz.ntmps114
    go_wp2_with fail
    refine (pletter _ _).mono ?_
    rw [hl]
    rintro e w' ⟨rfl, rfl⟩
    clear hl
    go_wp2_with fail
    go_ret
    exact ⟨ret_bool hf.out.symm, rfl⟩

theorem ret_str {a b : ByteArray} (h : a = b) : Ending.returned (.string a) = .returned (.string b) := by rw [h]

set_option maxHeartbeats 1000000 in
theorem prun_dig (x : ByteArray) (w : World) (hs : x.size ≤ 300) :
    Calls Tryz.prog 113 #[.string x, .func (.func 71) #[] #[]] w fun e w' => e = .returned (.string (x.extract 0 (runLen x false 0))) ∧ w' = w := by
  go_enter Tryz.func113, Tryz.ntmps113
  go_wp2
  go_loop [5] (fun i => ∃ k : Nat, k ≤ x.size ∧ i = .int .i64 k ∧ Hid (runLen x false 0 = k + runLen x false k)) (fun i => x.size - (intOf i).toNat)
  case atStart => exact ⟨0, by omega, rfl, by simp [Hid]⟩
  case round =>
    obtain ⟨k, hk, rfl, H⟩ := hrel
    by_cases hlt : k < x.size
    · have d1 : decide ((k : Int) < x.size) = true := by simp; omega
      cases hf : isDig x[k]
      · have HF : Hid (fits false x[k] = false) := by simp [Hid, fits, hf]
        go_wp2_with (first | (go_at_call 71; refine (pdigit _ _).mono ?_; rintro e w' ⟨rfl, rfl⟩))
        go_ret
        exact ⟨ret_str (by rw [H.out, runLen_stop x _ k hlt HF.out]; simp), rfl⟩
      · have HF : Hid (fits false x[k] = true) := by simp [Hid, fits, hf]
        have fin : Hid (runLen x false 0 = (k + 1 : Nat) + runLen x false (k + 1)) := by
          have := H.out; rw [runLen_step x false k hlt HF.out] at this; unfold Hid; rw [this]; omega
        clear HF
        go_wp2_with (first | (go_at_call 71; refine (pdigit _ _).mono ?_; rintro e w' ⟨rfl, rfl⟩))
        exact ⟨⟨k + 1, by omega, by go_num, fin⟩, by simp [intOf]; omega⟩
    · have d1 : decide ((k : Int) < x.size) = false := by simp; omega
      go_wp2_with fail
      go_ret
      exact ⟨ret_str (by rw [H.out, runLen_end x _ _ hlt]; simp), rfl⟩

set_option maxHeartbeats 1000000 in
theorem prun_word (x : ByteArray) (w : World) (hs : x.size ≤ 300) :
    Calls Tryz.prog 113 #[.string x, .func (.func 114) #[] #[]] w fun e w' => e = .returned (.string (x.extract 0 (runLen x true 0))) ∧ w' = w := by
  go_enter Tryz.func113, Tryz.ntmps113
  go_wp2
  go_loop [5] (fun i => ∃ k : Nat, k ≤ x.size ∧ i = .int .i64 k ∧ Hid (runLen x true 0 = k + runLen x true k)) (fun i => x.size - (intOf i).toNat)
  case atStart => exact ⟨0, by omega, rfl, by simp [Hid]⟩
  case round =>
    obtain ⟨k, hk, rfl, H⟩ := hrel
    by_cases hlt : k < x.size
    · have d1 : decide ((k : Int) < x.size) = true := by simp; omega
      cases hf : fits true x[k]
      · have HF : Hid (fits true x[k] = false) := hf
        go_wp2_with (first | (go_at_call 114; refine (pwordc _ _).mono ?_; rintro e w' ⟨rfl, rfl⟩))
        go_ret
        exact ⟨ret_str (by rw [H.out, runLen_stop x _ k hlt HF.out]; simp), rfl⟩
      · have HF : Hid (fits true x[k] = true) := hf
        have fin : Hid (runLen x true 0 = (k + 1 : Nat) + runLen x true (k + 1)) := by
          have := H.out; rw [runLen_step x true k hlt HF.out] at this; unfold Hid; rw [this]; omega
        clear HF
        go_wp2_with (first | (go_at_call 114; refine (pwordc _ _).mono ?_; rintro e w' ⟨rfl, rfl⟩))
        exact ⟨⟨k + 1, by omega, by go_num, fin⟩, by simp [intOf]; omega⟩
    · have d1 : decide ((k : Int) < x.size) = false := by simp; omega
      go_wp2_with fail
      go_ret
      exact ⟨ret_str (by rw [H.out, runLen_end x _ _ hlt]; simp), rfl⟩

theorem run_ext (s : ByteArray) (l : Bool) (k : Nat) : ∀ (n j : Nat), s.size - (k + j) = n → runLen (s.extract k s.size) l j = runLen s l (k + j) := by
  intro n
  induction n with
  | zero =>
    intro j h
    rw [runLen_end s l (k + j) (by omega), runLen_end _ l j (by rw [ByteArray.size_extract]; omega)]
  | succ n ih =>
    intro j h
    have h1 : k + j < s.size := by omega
    have h2 : j < (s.extract k s.size).size := by rw [ByteArray.size_extract]; omega
    have e : (s.extract k s.size)[j] = s[k + j] := by simp [ByteArray.getElem_eq_getElem_data]
    cases hf : fits l s[k + j]
    · rw [runLen_stop s l (k + j) h1 hf, runLen_stop _ l j h2 (by rw [e]; exact hf)]
    · rw [runLen_step s l (k + j) h1 hf, runLen_step _ l j h2 (by rw [e]; exact hf), ih (j + 1) (by omega)]
      rfl
theorem ext_ext (s : ByteArray) (k n : Nat) (h : k + n ≤ s.size) : (s.extract k s.size).extract 0 n = s.extract k (k + n) := by
  rw [ByteArray.extract_extract]
  congr 1
  omega

theorem cmp_lit (x : ByteArray) (l : List UInt8) : (x.toList == l) = eqb x ⟨l.toArray⟩ := by
  rw [ByteArray.toList_eq]; rfl
theorem eqb_comm (x y : ByteArray) : eqb x y = eqb y x := by
  rw [Bool.eq_iff_iff, eqb_iff, eqb_iff]; exact eq_comm

theorem mem_words {t : ByteArray} (h : mem words t = true) : t = ⟨#[108, 101, 116]⟩ ∨ t = ⟨#[105, 110]⟩ ∨ t = ⟨#[105, 102]⟩ ∨ t = ⟨#[116, 104, 101, 110]⟩ ∨ t = ⟨#[101, 108, 115, 101]⟩ ∨ t = ⟨#[104, 101, 97, 100]⟩ ∨ t = ⟨#[116, 97, 105, 108]⟩ ∨ t = ⟨#[110, 117, 108, 108]⟩ := by
  unfold mem words at h
  simp only [List.any_cons, List.any_nil, Bool.or_false, Bool.or_eq_true, eqb_iff] at h
  rcases h with h | h | h | h | h | h | h | h
  · exact .inl h.symm
  · exact .inr (.inl h.symm)
  · exact .inr (.inr (.inl h.symm))
  · exact .inr (.inr (.inr (.inl h.symm)))
  · exact .inr (.inr (.inr (.inr (.inl h.symm))))
  · exact .inr (.inr (.inr (.inr (.inr (.inl h.symm)))))
  · exact .inr (.inr (.inr (.inr (.inr (.inr (.inl h.symm))))))
  · exact .inr (.inr (.inr (.inr (.inr (.inr (.inr (h.symm)))))))

set_option maxHeartbeats 2000000 in
theorem pkind_yes (t : ByteArray) (w : World) (h : mem words t = true) :
    Calls Tryz.prog 115 #[.string t] w fun e w' => e = .returned (.string t) ∧ w' = w := by
  rcases mem_words h with rfl | rfl | rfl | rfl | rfl | rfl | rfl | rfl
  all_goals
    clear h
    go_enter Tryz.func115, Tryz.ntmps115
    go_wp2
    go_ret
    exact ⟨rfl, rfl⟩

set_option maxHeartbeats 2000000 in
theorem pkind_no (t : ByteArray) (w : World) (h : mem words t = false) :
    Calls Tryz.prog 115 #[.string t] w fun e w' => e = .returned (.string ⟨#[110, 97, 109, 101]⟩) ∧ w' = w := by
  unfold mem words at h
  simp only [List.any_cons, List.any_nil, Bool.or_false, Bool.or_eq_false_iff] at h
  obtain ⟨h0, h1, h2, h3, h4, h5, h6, h7⟩ := h
  have q0 : (t.toList == [108, 101, 116]) = false := by rw [cmp_lit, eqb_comm]; exact h0
  have q1 : (t.toList == [105, 110]) = false := by rw [cmp_lit, eqb_comm]; exact h1
  have q2 : (t.toList == [105, 102]) = false := by rw [cmp_lit, eqb_comm]; exact h2
  have q3 : (t.toList == [116, 104, 101, 110]) = false := by rw [cmp_lit, eqb_comm]; exact h3
  have q4 : (t.toList == [101, 108, 115, 101]) = false := by rw [cmp_lit, eqb_comm]; exact h4
  have q5 : (t.toList == [104, 101, 97, 100]) = false := by rw [cmp_lit, eqb_comm]; exact h5
  have q6 : (t.toList == [116, 97, 105, 108]) = false := by rw [cmp_lit, eqb_comm]; exact h6
  have q7 : (t.toList == [110, 117, 108, 108]) = false := by rw [cmp_lit, eqb_comm]; exact h7
  clear h0 h1 h2 h3 h4 h5 h6 h7
  go_enter Tryz.func115, Tryz.ntmps115
  go_wp2
  go_ret
  exact ⟨rfl, rfl⟩
end Go.Proofs.YtjjlgjmebnkdjaaGreatDoor
