/-
  The program's plain form: a number, a name, the empty list.
-/
import Derived.Test.YtjjlgjmebnkdjaaGreatDoorPlA
import Derived.Test.YtjjlgjmebnkdjaaGreatDoorRefL
import Derived.Test.YtjjlgjmebnkdjaaGreatDoorShelf
import Derived.Shelf.Strconv.Itoa3
namespace Go.Proofs.YtjjlgjmebnkdjaaGreatDoor
open Go Go.Proofs Go.RowKit Skein

theorem grown_grow {w : World} {k : Nat} {os : Array Obj} : w.grownBy (Sort.grow (w.drewN k) os) none :=
  ⟨rfl, rfl, rfl, by simp [Sort.grow], fun j hj _ => by simp [Sort.grow, Array.getElem?_append, hj]⟩

theorem pitoa (n : Nat) (hn : n < 10 ^ 15) (w : World) (ht : Tab w) : Calls Tryz.prog 177 #[.int .i64 n] w fun e w' => e = .returned (.string (dig n)) ∧ w.grownBy w' none := by
  refine (Any.strconv_Itoa (P := Tryz.prog) (ρ := Tryz.laysC174_ren) { Tryz.laysC174 with } (n : Int) (by omega) (by omega) w ht).mono ?_
  rintro e w' ⟨rfl, k, os, rfl⟩
  refine ⟨?_, grown_grow⟩
  rw [Lib.itoa_nonneg]; rfl

set_option maxRecDepth 100000 in
set_option maxHeartbeats 2000000 in
theorem pformat (n : Nat) (hn : n < 10 ^ 15) (w : World) (ht : Tab w) : Calls Tryz.prog 210 #[.int .i64 n, .int .i64 10] w fun e w' => e = .returned (.string (dig n)) ∧ w.grownBy w' none := by
  go_enter Tryz.func210, Tryz.ntmps210
  go_wp2_with fail
  refine (Any.internal_strconv_FormatInt_10 (P := Tryz.prog) (ρ := Tryz.laysC174_ren) { Tryz.laysC174 with } (n : Int) (by omega) (by omega) _ ht).mono ?_
  rintro e w' ⟨rfl, k, os, rfl⟩
  go_wp2_with fail
  go_ret
  refine ⟨?_, grown_grow⟩
  rw [Lib.itoa_nonneg]; rfl

set_option maxRecDepth 100000 in
set_option maxHeartbeats 2000000 in
theorem pcalled (n : Nat) (hn : n < 10 ^ 15) (w : World) (ht : Tab w) : Calls Tryz.prog 222 #[.int .i64 n] w fun e w' => e = .returned (.string (⟨#[118]⟩ ++ dig n)) ∧ w.grownBy w' none := by
  have sd := dig_size n hn
  have HT : Hid (Tab w) := ht
  clear ht
  go_enter Tryz.func222, Tryz.ntmps222
  go_wp2_with fail
  refine (pitoa n hn _ HT.out).mono ?_
  rintro e w' ⟨rfl, hg⟩
  go_wp2_with fail
  go_ret
  exact ⟨rfl, hg⟩

set_option maxRecDepth 100000 in
set_option maxHeartbeats 2000000 in
theorem pnumberP (n : Nat) (hn : n < 10 ^ 15) (w : World) (ht : Tab w) : Calls Tryz.prog 220 #[.agg #[.int .i64 n]] w fun e w' => e = .returned (.string (dig n)) ∧ w.grownBy w' none := by
  have HT : Hid (Tab w) := ht
  clear ht
  go_enter Tryz.func220, Tryz.ntmps220
  go_wp2_with fail
  have hg0 : w.grownBy (w.alloc (.cells #[.int .i64 n] 149 (0, 0))) none := grown_alloc (grown_refl _ _) _
  refine (pformat n hn _ (HT.out.grown hg0)).mono ?_
  rintro e w' ⟨rfl, hg⟩
  go_wp2_with fail
  go_ret
  exact ⟨rfl, grown_trans hg0 hg⟩

set_option maxRecDepth 100000 in
set_option maxHeartbeats 2000000 in
theorem pnameP (n : Nat) (hn : n < 10 ^ 15) (w : World) (ht : Tab w) : Calls Tryz.prog 221 #[.agg #[.int .i64 n]] w fun e w' => e = .returned (.string (⟨#[118]⟩ ++ dig n)) ∧ w.grownBy w' none := by
  have HT : Hid (Tab w) := ht
  clear ht
  go_enter Tryz.func221, Tryz.ntmps221
  go_wp2_with fail
  have hg0 : w.grownBy (w.alloc (.cells #[.int .i64 n] 152 (0, 0))) none := grown_alloc (grown_refl _ _) _
  refine (pcalled n hn _ (HT.out.grown hg0)).mono ?_
  rintro e w' ⟨rfl, hg⟩
  go_wp2_with fail
  go_ret
  exact ⟨rfl, grown_trans hg0 hg⟩

set_option maxRecDepth 100000 in
set_option maxHeartbeats 2000000 in
theorem pemptyP (w : World) : Calls Tryz.prog 228 #[.agg #[]] w fun e w' => e = .returned (.string ⟨#[91, 93]⟩) ∧ w.grownBy w' none := by
  go_enter Tryz.func228, Tryz.ntmps228
  go_wp2_with fail
  go_ret
  exact ⟨rfl, by repeat (first | exact grown_refl _ _ | apply grown_alloc)⟩
end Go.Proofs.YtjjlgjmebnkdjaaGreatDoor
