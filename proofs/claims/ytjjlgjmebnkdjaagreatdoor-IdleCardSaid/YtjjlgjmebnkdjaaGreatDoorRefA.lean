/-
  The document's reader, its leaves: digit, letter, in, long, fails.
-/
import Derived.Test.YtjjlgjmebnkdjaaGreatDoorChecked
import Derived.Test.YtjjlgjmebnkdjaaGreatDoorPure
import Derived.WalkKit
import Derived.WalkSpells
import Derived.WalkLawsBesides
import Derived.Deep.QuietTactic
import Derived.BigQuiet
namespace Go.Proofs.YtjjlgjmebnkdjaaGreatDoor
open Go Go.Proofs Go.RowKit Skein

theorem mem_of (xs : List ByteArray) (x : ByteArray) (j : Nat) (h : j < xs.length) (e : eqb xs[j] x = true) : mem xs x = true := by
  unfold mem; rw [List.any_eq_true]; exact ⟨_, List.getElem_mem h, e⟩
theorem not_mem (xs : List ByteArray) (x : ByteArray) (h : ∀ j (h : j < xs.length), eqb xs[j] x = false) : mem xs x = false := by
  unfold mem; rw [List.any_eq_false]; intro y hy
  obtain ⟨j, hj, e⟩ := List.mem_iff_getElem.1 hy
  rw [← e, h j hj]; simp
theorem eqb_walk (x y : ByteArray) : (x.toList == y.toList) = eqb x y := by rw [ByteArray.toList_eq, ByteArray.toList_eq]; rfl

theorem ret_bool {a b : Bool} (h : a = b) : Ending.returned (.bool a) = .returned (.bool b) := by rw [h]
theorem ret_int {k : IntKind} {a b : Int} (h : a = b) : Ending.returned (.int k a) = .returned (.int k b) := by rw [h]

set_option maxHeartbeats 400000 in
theorem digit_any (c : UInt8) (w : World) :
    Calls Tryz.prog 44 #[.int .u8 c.toNat] w fun e w' => e = .returned (.bool (isDig c)) ∧ w' = w := by
  by_cases h : 48 ≤ (c.toNat : Int)
  · by_cases h2 : (c.toNat : Int) ≤ 57
    · go_enter Tryz.func44, Tryz.ntmps44
      go_wp2
      go_ret
      refine ⟨?_, rfl⟩
      simp [isDig, UInt8.le_iff_toNat_le]; omega
    · go_enter Tryz.func44, Tryz.ntmps44
      go_wp2
      go_ret
      refine ⟨?_, rfl⟩
      simp [isDig, UInt8.le_iff_toNat_le]; omega
  · go_enter Tryz.func44, Tryz.ntmps44
    go_wp2
    go_ret
    refine ⟨?_, rfl⟩
    simp [isDig, UInt8.le_iff_toNat_le]; omega

set_option maxHeartbeats 400000 in
theorem letter_any (c : UInt8) (w : World) :
    Calls Tryz.prog 45 #[.int .u8 c.toNat] w fun e w' => e = .returned (.bool (isLet c)) ∧ w' = w := by
  by_cases h : 97 ≤ (c.toNat : Int)
  · by_cases h2 : (c.toNat : Int) ≤ 122
    · go_enter Tryz.func45, Tryz.ntmps45
      go_wp2
      go_ret
      refine ⟨?_, rfl⟩
      simp [isLet, UInt8.le_iff_toNat_le]; omega
    · go_enter Tryz.func45, Tryz.ntmps45
      go_wp2
      go_ret
      refine ⟨?_, rfl⟩
      simp [isLet, UInt8.le_iff_toNat_le]; omega
  · go_enter Tryz.func45, Tryz.ntmps45
    go_wp2
    go_ret
    refine ⟨?_, rfl⟩
    simp [isLet, UInt8.le_iff_toNat_le]; omega

set_option maxHeartbeats 400000 in
theorem in_any (x : ByteArray) (g : Nat) (xs : List ByteArray) (w : World) (hl : xs.length ≤ 100) (hc : ∀ j (h : j < xs.length), w.cell? ⟨g, j, none⟩ = some (.string xs[j])) :
    Calls Tryz.prog 47 #[.string x, .slice (some ⟨g, 0, none⟩) xs.length xs.length] w fun e w' => e = .returned (.bool (mem xs x)) ∧ w' = w := by
  go_enter Tryz.func47, Tryz.ntmps47
  go_wp2
  go_loop [5] (fun i => ∃ k : Nat, k ≤ xs.length ∧ i = .int .i64 k ∧ Hid (∀ j (h : j < xs.length), j < k → eqb xs[j] x = false)) (fun i => xs.length - (intOf i).toNat)
  case atStart => exact ⟨0, Nat.zero_le _, rfl, fun j _ h => by omega⟩
  case round =>
    obtain ⟨k, hk, rfl, H⟩ := hrel
    by_cases hlt : k < xs.length
    · have hck := hc k hlt
      cases hb : eqb xs[k] x
      · have hb2 : (xs[k].toList == x.toList) = false := by rw [eqb_walk, hb]
        have HE : Hid (eqb xs[k] x = false) := hb
        clear hb
        go_wp2
        exact ⟨⟨k + 1, by omega, by go_num, fun j h hj => by
          by_cases e : j = k
          · subst e; exact HE.out
          · exact H.out j h (by omega)⟩, by simp [intOf]; omega⟩
      · have hb2 : (xs[k].toList == x.toList) = true := by rw [eqb_walk, hb]
        have HE : Hid (eqb xs[k] x = true) := hb
        clear hb
        go_wp2
        go_ret
        exact ⟨ret_bool (mem_of xs x k hlt HE.out).symm, rfl⟩
    · go_wp2
      go_ret
      exact ⟨ret_bool (not_mem xs x (fun j h => H.out j h (by omega))).symm, rfl⟩

theorem runLen_step (s : ByteArray) (l : Bool) (i : Nat) (h : i < s.size) (hf : fits l s[i] = true) : runLen s l i = 1 + runLen s l (i + 1) := by
  rw [runLen, dif_pos h, if_pos hf]
theorem runLen_stop (s : ByteArray) (l : Bool) (i : Nat) (h : i < s.size) (hf : fits l s[i] = false) : runLen s l i = 0 := by
  rw [runLen, dif_pos h, if_neg (by simp [hf])]
theorem runLen_end (s : ByteArray) (l : Bool) (i : Nat) (h : ¬ i < s.size) : runLen s l i = 0 := by
  rw [runLen, dif_neg h]

set_option maxHeartbeats 400000 in
theorem long_any (b : Nat) (s : ByteArray) (p : Nat) (l : Bool) (w : World) (hs : s.size ≤ 300) (hp : p ≤ s.size) (hc : w.cell? ⟨b, 0, none⟩ = some (.string s)) :
    Calls Tryz.prog 46 #[.pointer (some ⟨b, 0, none⟩), .int .i64 p, .bool l] w fun e w' => e = .returned (.int .i64 (runLen s l p)) ∧ w' = w := by
  go_enter Tryz.func46, Tryz.ntmps46
  go_wp2
  go_loop [7] (fun i => ∃ k : Nat, p + k ≤ s.size ∧ i = .int .i64 k ∧ Hid (runLen s l p = k + runLen s l (p + k))) (fun i => s.size - p - (intOf i).toNat)
  case atStart => exact ⟨0, by omega, rfl, by simp [Hid]⟩
  case round =>
    obtain ⟨k, hk, rfl, H⟩ := hrel
    by_cases hlt : p + k < s.size
    · cases hf : fits l s[p + k]
      · have HF : Hid (fits l s[p + k] = false) := hf
        have hd : isDig s[p + k] = false := by unfold fits at hf; simp at hf; exact hf.1
        have hl : (l && isLet s[p + k]) = false := by unfold fits at hf; simp at hf; simp; exact hf.2
        clear hf
        cases l
        · go_wp2_with (first | (go_at_call 44; refine (digit_any _ _).mono ?_; rintro e w' ⟨rfl, rfl⟩) | (go_at_call 45; refine (letter_any _ _).mono ?_; rintro e w' ⟨rfl, rfl⟩))
          go_ret
          exact ⟨ret_int (by rw [H.out, runLen_stop s _ (p + k) hlt HF.out]; simp), rfl⟩
        · simp only [Bool.true_and] at hl
          go_wp2_with (first | (go_at_call 44; refine (digit_any _ _).mono ?_; rintro e w' ⟨rfl, rfl⟩) | (go_at_call 45; refine (letter_any _ _).mono ?_; rintro e w' ⟨rfl, rfl⟩))
          go_ret
          exact ⟨ret_int (by rw [H.out, runLen_stop s _ (p + k) hlt HF.out]; simp), rfl⟩
      · have HF : Hid (fits l s[p + k] = true) := hf
        unfold fits at hf
        have fin : Hid (runLen s l p = (k + 1 : Nat) + runLen s l (p + (k + 1))) := by
          have := H.out; rw [runLen_step s l (p + k) hlt HF.out] at this; unfold Hid; rw [this, Nat.add_assoc p k 1]; omega
        clear HF
        cases hd : isDig s[p + k]
        · rw [hd] at hf
          simp only [Bool.false_or, Bool.and_eq_true] at hf
          obtain ⟨rfl, hl⟩ := hf
          go_wp2_with (first | (go_at_call 44; refine (digit_any _ _).mono ?_; rintro e w' ⟨rfl, rfl⟩) | (go_at_call 45; refine (letter_any _ _).mono ?_; rintro e w' ⟨rfl, rfl⟩))
          exact ⟨⟨k + 1, by omega, by go_num, fin⟩, by simp [intOf]; omega⟩
        · clear hf
          go_wp2_with (first | (go_at_call 44; refine (digit_any _ _).mono ?_; rintro e w' ⟨rfl, rfl⟩) | (go_at_call 45; refine (letter_any _ _).mono ?_; rintro e w' ⟨rfl, rfl⟩))
          exact ⟨⟨k + 1, by omega, by go_num, fin⟩, by simp [intOf]; omega⟩
    · go_wp2
      go_ret
      exact ⟨ret_int (by rw [H.out, runLen_end s _ _ hlt]; simp), rfl⟩

set_option maxHeartbeats 400000 in
theorem fails_bad (b : Nat) (n : Int) (w : World) (hb : w.cell? ⟨b, 7, none⟩ = some (.bool true)) :
    Calls Tryz.prog 35 #[.pointer (some ⟨b, 0, none⟩), .int .i64 n] w fun e w' => e = .returned (.tuple #[]) ∧ w' = w := by
  go_enter Tryz.func35, Tryz.ntmps35
  go_wp2
  go_end0
  exact ⟨rfl, rfl⟩

set_option maxHeartbeats 400000 in
theorem fails_ok (b : Nat) (n : Int) (w : World) (hb : w.cell? ⟨b, 7, none⟩ = some (.bool false)) (hf : ∀ o, w.frozen? ⟨b, o, none⟩ = false) (hp : ∃ v, w.cell? ⟨b, 8, none⟩ = some v) :
    Calls Tryz.prog 35 #[.pointer (some ⟨b, 0, none⟩), .int .i64 n] w fun e w' => e = .returned (.tuple #[]) ∧ w' = (w.setCell ⟨b, 7, none⟩ (.bool true)).setCell ⟨b, 8, none⟩ (.int .i64 n) := by
  obtain ⟨v, hp⟩ := hp
  go_enter Tryz.func35, Tryz.ntmps35
  go_wp2
  go_end0
  exact ⟨rfl, rfl⟩
end Go.Proofs.YtjjlgjmebnkdjaaGreatDoor
