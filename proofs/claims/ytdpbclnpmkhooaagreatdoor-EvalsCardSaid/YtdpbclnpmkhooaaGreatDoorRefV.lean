/-
  The document's digits of any number; a value as text.
-/
import Derived.Test.YtdpbclnpmkhooaaGreatDoorRefU
import Derived.Test.YtdpbclnpmkhooaaGreatDoorRefK
import Derived.Test.YtdpbclnpmkhooaaGreatDoorEvT
namespace Go.Proofs.YtdpbclnpmkhooaaGreatDoor
open Go Go.Proofs Go.RowKit Skein

set_option maxRecDepth 100000 in
set_option maxHeartbeats 4000000 in
theorem rdigits2 (n : Nat) (hn : n ≤ 9223372036854775807) (w : World) :
    Calls Tryz.prog 46 #[.int .i64 n] w fun e w' => e = .returned (.string (dig n)) ∧ w' = w := by
  have h1 : ((n : Int) == -9223372036854775808) = false := by first | (simp; done) | (simp; omega)
  have h2 : decide ((n : Int) < 0) = false := by simp
  go_enter Tryz.func46, Tryz.ntmps46
  go_wp2_with fail
  go_loop [0, 3] (fun x a => ∃ (k : Nat) (acc : ByteArray), x = .int .i64 k ∧ a = .string acc ∧ k ≤ 9223372036854775807 ∧ acc.size + k ≤ 9223372036854775807 ∧ (acc.size = 0 ∨ 1 ≤ k) ∧ Hid (dig n = ⟨(Lib.decDigits k ++ acc.data.toList).toArray⟩)) (fun x a => (intOf x).toNat)
  case atStart => exact ⟨n, ⟨#[]⟩, rfl, rfl, hn, by show 0 + n ≤ _; omega, .inl rfl, by unfold Hid dig; simp⟩
  case round =>
    obtain ⟨k, acc, rfl, rfl, hk, hsz, hz, H⟩ := hrel
    have hac : acc.size + 1 ≤ 9223372036854775807 := by omega
    go_wp2_with fail
    case roundEnd =>
      rename_i h0
      have hk10 : 10 ≤ k := by
        have : ¬ ((k : Int) / 10 = 0) := by simpa using h0
        omega
      have hd := digit_add (k % 10) (Nat.mod_lt _ (by omega)) acc
      refine ⟨⟨k / 10, _, by norm_cast, rfl, by omega, ?_, .inr (by omega), ?_⟩, by simp only [intOf]; omega⟩
      · have e := congrArg List.length hd
        rw [Array.length_toList, List.length_cons, Array.length_toList] at e
        have e' : ((⟨#[48, 49, 50, 51, 52, 53, 54, 55, 56, 57]⟩ : ByteArray).extract (k % 10) (k % 10 + 1) ++ acc).size = acc.size + 1 := e
        omega
      · unfold Hid
        rw [H.out, hd, Lib.decDigits, dif_neg (by omega)]; simp
    rename_i h0 _
    have hk10 : k < 10 := by
      have : ((k : Int) / 10 = 0) := by simpa using h0
      omega
    have hd := digit_add (k % 10) (Nat.mod_lt _ (by omega)) acc
    have he : (⟨#[48, 49, 50, 51, 52, 53, 54, 55, 56, 57]⟩ : ByteArray).extract (k % 10) (k % 10 + 1) ++ acc = ⟨(Lib.decDigits k ++ acc.data.toList).toArray⟩ := by
      apply ByteArray.ext
      apply Array.toList_inj.1
      rw [hd, Lib.decDigits, dif_pos hk10, Nat.mod_eq_of_lt hk10]
      rfl
    go_ret
    refine ⟨?_, rfl⟩
    rw [H.out, ← he]
    rfl

theorem dig_size2 (n : Nat) (h : n ≤ 9223372036854775807) : (dig n).size ≤ 21 := by
  have := Lib.itoa_length_le (n : Int) (by omega) (by omega)
  rw [Lib.itoa_nonneg] at this
  show (Lib.decDigits n).toArray.size ≤ 21
  rw [List.size_toArray]; exact this

theorem sdig_least : sdig (-9223372036854775808) = ⟨#[45, 57, 50, 50, 51, 51, 55, 50, 48, 51, 54, 56, 53, 52, 55, 55, 53, 56, 48, 56]⟩ := by
  unfold sdig
  rw [show (-9223372036854775808 : Int) = -((9223372036854775808 : Nat) : Int) from rfl, Lib.itoa_neg _ (by omega)]
  simp [Lib.decDigits]

set_option maxRecDepth 100000 in
set_option maxHeartbeats 4000000 in
theorem rsdigits (n : Int) (hn : Int64 n) (w : World) :
    Calls Tryz.prog 46 #[.int .i64 n] w fun e w' => e = .returned (.string (sdig n)) ∧ w' = w := by
  obtain ⟨l1, l2⟩ := hn
  by_cases h0 : 0 ≤ n
  · obtain ⟨k, rfl⟩ := Int.eq_ofNat_of_zero_le h0
    refine (rdigits2 k (by omega) w).mono ?_
    rintro e w' ⟨rfl, rfl⟩
    refine ⟨?_, rfl⟩
    have : sdig (k : Int) = dig k := by unfold sdig dig; rw [Lib.itoa_nonneg]
    rw [← this]
  · by_cases hm : n = -9223372036854775808
    · subst hm
      rw [sdig_least]
      go_enter Tryz.func46, Tryz.ntmps46
      go_wp2_with fail
      go_ret
      exact ⟨rfl, rfl⟩
    · obtain ⟨k, hk⟩ : ∃ k : Nat, n = -(k : Int) := ⟨n.natAbs, by omega⟩
      subst hk
      have hk1 : 1 ≤ k := by omega
      have hk2 : k ≤ 9223372036854775807 := by omega
      have hs : Hid (sdig (-(k : Int)) = ⟨#[45]⟩ ++ dig k) := by
        unfold Hid sdig dig
        rw [Lib.itoa_neg k hk1]
        rfl
      have h1 : ((-(k : Int)) == -9223372036854775808) = false := by simpa using hm
      have h2 : decide ((-(k : Int)) < 0) = true := by simp; omega
      have hsz := dig_size2 k hk2
      clear hm l1 l2 h0
      go_enter Tryz.func46, Tryz.ntmps46
      go_wp2_with fail
      refine (rdigits2 k hk2 w).mono ?_
      rintro e w' ⟨rfl, rfl⟩
      go_wp2_with fail
      go_ret
      exact ⟨ret_str hs.out.symm, rfl⟩

set_option maxRecDepth 100000 in
set_option maxHeartbeats 4000000 in
theorem rtext_num {b w A wb L S} (h : RE b w A wb L S) (n : Int) (hn : Int64 n) : Calls Tryz.prog 32 #[ptr wb, rv 110 n nilp nilp nilp nilp] w fun e w' => e = .returned (.string (sdig n)) ∧ w.grownBy w' none := by
  obtain ⟨c0, c1, c2, cf, hlt⟩ := h.walk.cells
  have HN : Hid (Int64 n) := hn
  clear hn
  go_enter Tryz.func32, Tryz.ntmps32
  go_wp2_with fail
  refine (rsdigits n HN.out _).mono ?_
  rintro e w' ⟨rfl, rfl⟩
  go_wp2_with fail
  go_ret
  exact ⟨rfl, grown_alloc (grown_refl _ _) _⟩

set_option maxRecDepth 100000 in
set_option maxHeartbeats 4000000 in
theorem rtext_fn {b w A wb L S} (h : RE b w A wb L S) (n : Int) (a1 a2 : Option Addr) : Calls Tryz.prog 32 #[ptr wb, rv 102 n (.pointer a1) (.pointer a2) nilp nilp] w fun e w' => e = .returned (.string fnText) ∧ w.grownBy w' none := by
  obtain ⟨c0, c1, c2, cf, hlt⟩ := h.walk.cells
  go_enter Tryz.func32, Tryz.ntmps32
  go_wp2_with fail
  go_ret
  exact ⟨rfl, grown_alloc (grown_refl _ _) _⟩

set_option maxRecDepth 100000 in
set_option maxHeartbeats 4000000 in
theorem rtext_err {b w A wb L m z} (h : RX b w A wb L m z) (k n : Int) (a1 a2 a3 a4 : Option Addr) : Calls Tryz.prog 32 #[ptr wb, rv k n (.pointer a1) (.pointer a2) (.pointer a3) (.pointer a4)] w fun e w' => e = .returned (.string ⟨#[]⟩) ∧ w.grownBy w' none := by
  obtain ⟨c0, c1, c2, cf, hlt⟩ := h.walk.cells
  have hz0 : (z == 0) = false := by simpa using h.ne
  have hz1 : (z != 0) = true := by simp [bne, hz0]
  go_enter Tryz.func32, Tryz.ntmps32
  go_wp2_with fail
  go_ret
  exact ⟨rfl, grown_alloc (grown_refl _ _) _⟩
end Go.Proofs.YtdpbclnpmkhooaaGreatDoor
