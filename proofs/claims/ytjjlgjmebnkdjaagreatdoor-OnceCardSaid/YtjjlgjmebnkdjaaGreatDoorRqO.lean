/-
  Reckoned: the walk.
  Once: the walk.
-/
import Derived.Test.YtjjlgjmebnkdjaaGreatDoorXqB
import Derived.Test.YtjjlgjmebnkdjaaGreatDoorWg02
import Derived.Deep.RegionHeld
namespace Go.Proofs.YtjjlgjmebnkdjaaGreatDoor
open Go Go.Proofs Go.RowKit Skein

theorem mc26 {W : World} {k : Nat} {x y : Value} (h : W.heap[k]? = some (.cells #[x, y] 26 (0, 0))) : W.cell? ⟨k, 0, none⟩ = some x ∧ W.cell? ⟨k, 1, none⟩ = some y := ⟨(mcells h).1, (mcells h).2.1⟩
theorem keepD {w w' : World} {k : Nat} {o : Obj} (h : w.heap[k]? = some o) (hg : w.grownBy w' none) : w'.drew.heap[k]? = some o := by
  have h2 := keepB' h hg
  exact h2
/-- What all three need of the expression. -/
theorem x_all {x : X} (ox : x.ok) (lx : x.txt.length ≤ 110) : ∃ (s : ByteArray) (z : Int) (d : ByteArray), s = ⟨x.txt.toArray⟩ ∧ z = x.n ∧ d = sdig x.n ∧ s.size ≤ 110 ∧ (∀ w, Calls Tryz.prog 22 #[.int .i64 z] w fun e w' => e = .returned (.string d) ∧ w' = w) :=
  ⟨_, _, _, rfl, rfl, rfl, by show x.txt.toArray.size ≤ 110; simpa using lx, fun w => ksdigits x.n (X.in64 x ox) w⟩
set_option maxRecDepth 100000 in
set_option maxHeartbeats 4000000 in
theorem is_eq (t : ByteArray) (n : Int) (w : World) : Calls Tryz.prog 21 #[.agg #[.string t, .int .i64 n, .int .i64 0], .string t, .int .i64 n] w fun e w' => e = .returned (.bool true) ∧ w' = w.alloc (.cells #[.string t, .int .i64 n, .int .i64 0] 30 (0, 0)) := by
  have q0 : (t.toList == t.toList) = true := by simp
  have q1 : (n == n) = true := by simp
  have hy := alloc_at w (.cells #[.string t, .int .i64 n, .int .i64 0] 30 (0, 0)) _ rfl
  obtain ⟨c0, c1, c2⟩ := ans3 hy
  go_enter Tryz.func21, Tryz.ntmps21
  go_wp2_with fail
  go_ret
  exact ⟨rfl, rfl⟩

set_option maxRecDepth 100000 in
set_option maxHeartbeats 8000000 in
theorem reckoned_ok (ra : Option Addr) (rl rc : Nat) (w : World) (ht : Tab w) (hrl : rl ≤ 9223372036854775807)
    (hR : ∀ j, j < rl → ∃ a n, ra = some a ∧ w.cell? (a.add j) = some (.int .i64 n) ∧ Skein.Int64 n) :
    Calls Tryz.prog 6 #[.slice ra rl rc] w fun e w' => e = .returned (.bool true) ∧ Below w.heap.size w w' := by
  have HX : Hid (Calls Tryz.prog 19 #[.slice ra rl rc] w _) := expression_ok ra rl rc w hrl hR
  have HT : Hid (∀ w', Below w.heap.size w w' → Tab w') := fun w' hb => ht.belowB hb ht.lt
  clear ht hR
  go_enter Tryz.func6, Tryz.ntmps6
  go_wp2_with fail
  refine HX.out.mono ?_
  rintro e0 v1 ⟨x, ox, lx, rfl, hb1⟩
  obtain ⟨xt, z, d, e1, e2, e3, hxt, hD⟩ := x_all ox lx
  have HA : Hid (XSay xt 0 d 0) := by unfold Hid; rw [e1, e3]; exact rk_a ox lx
  have HB : Hid (XSay ((⟨#[108, 101, 116, 32, 120, 32, 61, 32]⟩ : ByteArray) ++ xt ++ (⟨#[32, 105, 110, 32, 120]⟩ : ByteArray)) 0 d 0) := by unfold Hid; rw [e1, e3]; exact rk_b ox lx
  have HC : Hid (XSay ((⟨#[40, 92, 120, 46, 32, 120, 41, 32]⟩ : ByteArray) ++ xt) 1 d 1) := by unfold Hid; rw [e1, e3]; exact rk_c ox lx
  have HD : Hid (∀ w, Calls Tryz.prog 22 #[.int .i64 z] w fun e w' => e = .returned (.string d) ∧ w' = w) := hD
  rw [← e1, ← e2]
  clear e1 e2 e3 hD ox lx HX x
  have hB0 := Below.refl w.heap.size w
  have hC1 := hB0.trans (hb1.mono hB0.size)
  have hg1 := grown_alloc (grown_refl v1 none) (.cells #[.string xt, .int .i64 z] 26 (0, 0))
  have gm1 := alloc_at v1 (.cells #[.string xt, .int .i64 z] 26 (0, 0)) _ rfl
  have hB1 := hC1.grown hg1 hC1.size (by simp)
  clear hb1 hB0 hC1 hg1
  obtain ⟨m0, m1⟩ := mc26 gm1
  have s1 : 8 + xt.size ≤ 9223372036854775807 := by omega
  have s2 : ((⟨#[108, 101, 116, 32, 120, 32, 61, 32]⟩ : ByteArray) ++ xt).size + 5 ≤ 9223372036854775807 := by rw [ByteArray.size_append]; show 8 + xt.size + 5 ≤ _; omega
  go_wp2_with fail
  refine (HA.out _ (HT.out _ hB1)).mono ?_
  rintro e0 v2 ⟨rfl, hb2⟩
  have fm2 := (hb2.block v1.heap.size (heap_lt gm1)).trans gm1
  have hC2 := hB1.trans (hb2.mono hB1.size)
  have hg2 := grown_alloc (grown_refl v2 none) (.cells #[.string d, .int .i64 0, .int .i64 0] 30 (0, 0))
  have gm2 := keepB' fm2 hg2
  have ga2 := alloc_at v2 (.cells #[.string d, .int .i64 0, .int .i64 0] 30 (0, 0)) _ rfl
  have hB2 := hC2.grown hg2 hC2.size (by simp)
  clear hb2 gm1 hB1 fm2 hC2 hg2
  clear m0 m1
  obtain ⟨m0, m1⟩ := mc26 gm2
  go_wp2_with fail
  refine (HB.out _ (HT.out _ hB2)).mono ?_
  rintro e0 v3 ⟨rfl, hb3⟩
  have fm3 := (hb3.block v1.heap.size (heap_lt gm2)).trans gm2
  have fa3 := (hb3.block v2.heap.size (heap_lt ga2)).trans ga2
  have hC3 := hB2.trans (hb3.mono hB2.size)
  have hg3 := grown_alloc (grown_refl v3 none) (.cells #[.string d, .int .i64 0, .int .i64 0] 30 (0, 0))
  have gm3 := keepB' fm3 hg3
  have ga3 := keepB' fa3 hg3
  have gb3 := alloc_at v3 (.cells #[.string d, .int .i64 0, .int .i64 0] 30 (0, 0)) _ rfl
  have hB3 := hC3.grown hg3 hC3.size (by simp)
  clear hb3 gm2 ga2 hB2 fm3 fa3 hC3 hg3
  clear m0 m1
  obtain ⟨m0, m1⟩ := mc26 gm3
  go_wp2_with fail
  refine (HC.out _ (HT.out _ hB3)).mono ?_
  rintro e0 v4 ⟨rfl, hb4⟩
  have fm4 := (hb4.block v1.heap.size (heap_lt gm3)).trans gm3
  have fa4 := (hb4.block v2.heap.size (heap_lt ga3)).trans ga3
  have fb4 := (hb4.block v3.heap.size (heap_lt gb3)).trans gb3
  have hC4 := hB3.trans (hb4.mono hB3.size)
  have hg4 := grown_alloc (grown_refl v4 none) (.cells #[.string d, .int .i64 1, .int .i64 0] 30 (0, 0))
  have gm4 := keepB' fm4 hg4
  have ga4 := keepB' fa4 hg4
  have gb4 := keepB' fb4 hg4
  have gc4 := alloc_at v4 (.cells #[.string d, .int .i64 1, .int .i64 0] 30 (0, 0)) _ rfl
  have hB4 := hC4.grown hg4 hC4.size (by simp)
  clear hb4 gm3 ga3 gb3 hB3 fm4 fa4 fb4 hC4 hg4
  clear m0 m1 s1 s2 HA HB HC
  go_wp2_with fail
  obtain ⟨a0, a1, a2⟩ := ans3 ga4
  obtain ⟨m0, m1⟩ := mc26 gm4
  go_region_held (fun wd => wd.cell? ⟨v2.heap.size, 0, none⟩ = some (.string d) ∧ wd.cell? ⟨v2.heap.size, 1, none⟩ = some (.int .i64 0) ∧ wd.cell? ⟨v2.heap.size, 2, none⟩ = some (.int .i64 0) ∧ wd.cell? ⟨v1.heap.size, 1, none⟩ = some (.int .i64 z)) (go_keep) (first | (go_at_call 22; refine (HD.out _).mono ?_; rintro e w2 ⟨rfl, rfl⟩) | (go_at_call 21; refine (is_eq d 0 _).mono ?_; rintro e w2 ⟨rfl, rfl⟩))
  clear a0 a1 a2 m0 m1
  have hI5 := grown_alloc (grown_refl (v4.alloc (.cells #[.string d, .int .i64 1, .int .i64 0] 30 (0, 0))) none) (.cells #[.string d, .int .i64 0, .int .i64 0] 30 (0, 0))
  have gm5 := keepD gm4 hI5
  have gb5 := keepD gb4 hI5
  have gc5 := keepD gc4 hI5
  have hB5 : Below w.heap.size w (((v4.alloc (.cells #[.string d, .int .i64 1, .int .i64 0] 30 (0, 0))).alloc (.cells #[.string d, .int .i64 0, .int .i64 0] 30 (0, 0))).drew) := (hB4.grown hI5 hB4.size (by simp)).drew
  clear hI5 gm4 ga4 gb4 gc4 hB4
  revert gm5 gb5 gc5 hB5
  generalize World.drew _ = v5
  intro gm5 gb5 gc5 hB5
  go_wp2_with fail
  obtain ⟨a0, a1, a2⟩ := ans3 gb5
  obtain ⟨m0, m1⟩ := mc26 gm5
  go_region_held (fun wd => wd.cell? ⟨v3.heap.size, 0, none⟩ = some (.string d) ∧ wd.cell? ⟨v3.heap.size, 1, none⟩ = some (.int .i64 0) ∧ wd.cell? ⟨v3.heap.size, 2, none⟩ = some (.int .i64 0) ∧ wd.cell? ⟨v1.heap.size, 1, none⟩ = some (.int .i64 z)) (go_keep) (first | (go_at_call 22; refine (HD.out _).mono ?_; rintro e w2 ⟨rfl, rfl⟩) | (go_at_call 21; refine (is_eq d 0 _).mono ?_; rintro e w2 ⟨rfl, rfl⟩))
  clear a0 a1 a2 m0 m1
  have hI6 := grown_alloc (grown_refl (v5) none) (.cells #[.string d, .int .i64 0, .int .i64 0] 30 (0, 0))
  have gm6 := keepD gm5 hI6
  have gc6 := keepD gc5 hI6
  have hB6 : Below w.heap.size w (((v5).alloc (.cells #[.string d, .int .i64 0, .int .i64 0] 30 (0, 0))).drew) := (hB5.grown hI6 hB5.size (by simp)).drew
  clear hI6 gm5 gb5 gc5 hB5
  revert gm6 gc6 hB6
  generalize World.drew _ = v6
  intro gm6 gc6 hB6
  go_wp2_with fail
  obtain ⟨a0, a1, a2⟩ := ans3 gc6
  obtain ⟨m0, m1⟩ := mc26 gm6
  go_region_held (fun wd => wd.cell? ⟨v4.heap.size, 0, none⟩ = some (.string d) ∧ wd.cell? ⟨v4.heap.size, 1, none⟩ = some (.int .i64 1) ∧ wd.cell? ⟨v4.heap.size, 2, none⟩ = some (.int .i64 0) ∧ wd.cell? ⟨v1.heap.size, 1, none⟩ = some (.int .i64 z)) (go_keep) (first | (go_at_call 22; refine (HD.out _).mono ?_; rintro e w2 ⟨rfl, rfl⟩) | (go_at_call 21; refine (is_eq d 1 _).mono ?_; rintro e w2 ⟨rfl, rfl⟩))
  clear a0 a1 a2 m0 m1
  have hI7 := grown_alloc (grown_refl (v6) none) (.cells #[.string d, .int .i64 1, .int .i64 0] 30 (0, 0))
  have hB7 : Below w.heap.size w (((v6).alloc (.cells #[.string d, .int .i64 1, .int .i64 0] 30 (0, 0))).drew) := (hB6.grown hI7 hB6.size (by simp)).drew
  clear hI7 gm6 gc6 hB6
  revert hB7
  generalize World.drew _ = v7
  intro hB7
  go_wp2_with fail
  go_ret
  exact ⟨rfl, hB7⟩
end Go.Proofs.YtjjlgjmebnkdjaaGreatDoor

namespace Go.Proofs.YtjjlgjmebnkdjaaGreatDoor
open Go Go.Proofs Go.RowKit Skein

set_option maxRecDepth 100000 in
set_option maxHeartbeats 8000000 in
theorem once_ok (ra : Option Addr) (rl rc : Nat) (c1 : Int) (w : World) (ht : Tab w) (hrl : rl ≤ 9223372036854775807)
    (hR : ∀ j, j < rl → ∃ a n, ra = some a ∧ w.cell? (a.add j) = some (.int .i64 n) ∧ Skein.Int64 n) (hc : Skein.Int64 c1) :
    Calls Tryz.prog 9 #[.slice ra rl rc, .int .i64 c1] w fun e w' => e = .returned (.bool true) ∧ Below w.heap.size w w' := by
  have HX : Hid (Calls Tryz.prog 19 #[.slice ra rl rc] w _) := expression_ok ra rl rc w hrl hR
  have HT : Hid (∀ w', Below w.heap.size w w' → Tab w') := fun w' hb => ht.belowB hb ht.lt
  have HP : Hid (∀ w, Calls Tryz.prog 24 #[.int .i64 c1, .int .i64 20] w fun e w' => e = .returned (.int .i64 (pickN c1 20)) ∧ w' = w) := fun w => pick_is c1 hc 20 (by decide) (by decide) w
  have hk : pickN c1 20 < 20 := by unfold pickN; split <;> exact Nat.mod_lt _ (by decide)
  generalize pickN c1 20 = k at HP hk
  clear ht hR hc
  go_enter Tryz.func9, Tryz.ntmps9
  go_wp2_with fail
  refine HX.out.mono ?_
  rintro e0 v1 ⟨x, ox, lx, rfl, hb1⟩
  obtain ⟨xt, z, d, e1, e2, e3, hxt, hD⟩ := x_all ox lx
  obtain ⟨dw, e4⟩ : ∃ dw, dw = sdig (wsum z z k) := ⟨_, rfl⟩
  have HA : Hid (XSay ((⟨#[40, 92, 120, 46, 32]⟩ : ByteArray) ++ sumBy k ++ (⟨#[41, 32, 40]⟩ : ByteArray) ++ callBy xt ++ (⟨#[41]⟩ : ByteArray)) 3 dw 3) := by unfold Hid; rw [e1, e4, e2]; exact on_a ox lx hk
  have HB : Hid (XSay ((⟨#[108, 101, 116, 32, 120, 32, 61, 32]⟩ : ByteArray) ++ callBy xt ++ (⟨#[32, 105, 110, 32]⟩ : ByteArray) ++ sumBy k) 2 dw 2) := by unfold Hid; rw [e1, e4, e2]; exact on_b ox lx hk
  have HC : Hid (XSay ((⟨#[108, 101, 116, 32, 108, 32, 61, 32, 40]⟩ : ByteArray) ++ callBy xt ++ (⟨#[41, 32, 58, 32, 91, 93, 32, 105, 110, 32, 108, 101, 116, 32, 120, 32, 61, 32, 104, 101, 97, 100, 32, 108, 32, 105, 110, 32, 120, 32, 45, 32, 104, 101, 97, 100, 32, 108, 32, 43, 32]⟩ : ByteArray) ++ sumBy k) 2 dw 2) := by unfold Hid; rw [e1, e4, e2]; exact on_c ox lx hk
  have hz64 : Skein.Int64 z := e2 ▸ X.in64 x ox
  have HD : Hid (∀ w, Calls Tryz.prog 22 #[.int .i64 (wsum z z k)] w fun e w' => e = .returned (.string dw) ∧ w' = w) := fun w => by rw [e4]; exact ksdigits _ (wsum_in hz64 k) w
  rw [← e1, ← e2]
  clear e1 e2 e3 e4 hD ox lx HX x d
  have hB0 := Below.refl w.heap.size w
  have hC1 := hB0.trans (hb1.mono hB0.size)
  have hg1 := grown_alloc (grown_refl v1 none) (.cells #[.string xt, .int .i64 z] 26 (0, 0))
  have gm1 := alloc_at v1 (.cells #[.string xt, .int .i64 z] 26 (0, 0)) _ rfl
  have hB1 := hC1.grown hg1 hC1.size (by simp)
  clear hb1 hB0 hC1 hg1
  obtain ⟨m0, m1⟩ := mc26 gm1
  go_wp2_with fail
  refine (HP.out _).mono ?_
  rintro e0 u1 ⟨rfl, hu⟩
  subst hu
  go_wp2_with fail
  have hsb := sumBy_size
  go_loop [7, 8, 9] (fun L S I => ∃ i : Nat, i ≤ k ∧ L = .string (sumBy i) ∧ S = .int .i64 (wsum z z i) ∧ I = .int .i64 i) (fun _ _ I => k - (intOf I).toNat)
  case atStart => exact ⟨0, Nat.zero_le _, rfl, rfl, rfl⟩
  case round =>
    obtain ⟨i, hi, rfl, rfl, rfl⟩ := hrel
    by_cases hik : i < k
    · have hd1 : decide ((i : Int) < (k : Int)) = true := by simp; omega
      have hz1 := hsb i
      have HS : Hid (wsum z z (i + 1) = wrap64 (wsum z z i + z)) := wrap_eq _
      have HL : Hid (sumBy (i + 1) = sumBy i ++ ⟨#[43, 120]⟩) := rfl
      generalize sumBy i = l1 at HL hz1
      generalize wsum z z i = s1 at HS
      have hz2 : l1.size + 2 ≤ 9223372036854775807 := by omega
      clear hsb
      go_wp2_with fail
      refine ⟨⟨i + 1, by omega, ?_, ?_, by push_cast; rfl⟩, by simp only [intOf]; omega⟩
      · rw [HL.out]
      · rw [HS.out]
    · obtain rfl : i = k := by omega
      have hd1 : decide ((i : Int) < (i : Int)) = false := by simp
      have hz1 := hsb i
      generalize sumBy i = sb at HA HB HC hz1
      generalize wsum z z i = wn at HD
      clear hsb HP
      have hcs : (callBy xt).size = 12 + xt.size + 2 := by unfold callBy; rw [ByteArray.size_append, ByteArray.size_append]; rfl
      have q1 : 12 + xt.size ≤ 9223372036854775807 := by omega
      have q2 : ((⟨#[40, 92, 121, 46, 32, 92, 122, 46, 32, 121, 41, 32]⟩ : ByteArray) ++ xt).size + 2 ≤ 9223372036854775807 := by rw [ByteArray.size_append]; show 12 + xt.size + 2 ≤ _; omega
      go_wp2_with fail
      refine (HA.out _ (HT.out _ hB1)).mono ?_
      rintro e0 v2 ⟨rfl, hb2⟩
      have fm2 := (hb2.block v1.heap.size (heap_lt gm1)).trans gm1
      have hC2 := hB1.trans (hb2.mono hB1.size)
      have hg2 := grown_alloc (grown_refl v2 none) (.cells #[.string dw, .int .i64 3, .int .i64 0] 30 (0, 0))
      have gm2 := keepB' fm2 hg2
      have ga2 := alloc_at v2 (.cells #[.string dw, .int .i64 3, .int .i64 0] 30 (0, 0)) _ rfl
      have hB2 := hC2.grown hg2 hC2.size (by simp)
      clear hb2 gm1 hB1 fm2 hC2 hg2
      go_wp2_with fail
      refine (HB.out _ (HT.out _ hB2)).mono ?_
      rintro e0 v3 ⟨rfl, hb3⟩
      have fm3 := (hb3.block v1.heap.size (heap_lt gm2)).trans gm2
      have fa3 := (hb3.block v2.heap.size (heap_lt ga2)).trans ga2
      have hC3 := hB2.trans (hb3.mono hB2.size)
      have hg3 := grown_alloc (grown_refl v3 none) (.cells #[.string dw, .int .i64 2, .int .i64 0] 30 (0, 0))
      have gm3 := keepB' fm3 hg3
      have ga3 := keepB' fa3 hg3
      have gb3 := alloc_at v3 (.cells #[.string dw, .int .i64 2, .int .i64 0] 30 (0, 0)) _ rfl
      have hB3 := hC3.grown hg3 hC3.size (by simp)
      clear hb3 gm2 ga2 hB2 fm3 fa3 hC3 hg3
      go_wp2_with fail
      refine (HC.out _ (HT.out _ hB3)).mono ?_
      rintro e0 v4 ⟨rfl, hb4⟩
      have fm4 := (hb4.block v1.heap.size (heap_lt gm3)).trans gm3
      have fa4 := (hb4.block v2.heap.size (heap_lt ga3)).trans ga3
      have fb4 := (hb4.block v3.heap.size (heap_lt gb3)).trans gb3
      have hC4 := hB3.trans (hb4.mono hB3.size)
      have hg4 := grown_alloc (grown_refl v4 none) (.cells #[.string dw, .int .i64 2, .int .i64 0] 30 (0, 0))
      have gm4 := keepB' fm4 hg4
      have ga4 := keepB' fa4 hg4
      have gb4 := keepB' fb4 hg4
      have gc4 := alloc_at v4 (.cells #[.string dw, .int .i64 2, .int .i64 0] 30 (0, 0)) _ rfl
      have hB4 := hC4.grown hg4 hC4.size (by simp)
      clear hb4 gm3 ga3 gb3 hB3 fm4 fa4 fb4 hC4 hg4
      clear m0 m1 q1 q2 HA HB HC
      go_wp2_with fail
      obtain ⟨a0, a1, a2⟩ := ans3 ga4
      go_region_held (fun wd => wd.cell? ⟨v2.heap.size, 0, none⟩ = some (.string dw) ∧ wd.cell? ⟨v2.heap.size, 1, none⟩ = some (.int .i64 3) ∧ wd.cell? ⟨v2.heap.size, 2, none⟩ = some (.int .i64 0)) (go_keep) (first | (go_at_call 22; refine (HD.out _).mono ?_; rintro e w2 ⟨rfl, rfl⟩) | (go_at_call 21; refine (is_eq dw 3 _).mono ?_; rintro e w2 ⟨rfl, rfl⟩))
      clear a0 a1 a2
      have hI5 := grown_alloc (grown_refl (v4.alloc (.cells #[.string dw, .int .i64 2, .int .i64 0] 30 (0, 0))) none) (.cells #[.string dw, .int .i64 3, .int .i64 0] 30 (0, 0))
      have gb5 := keepD gb4 hI5
      have gc5 := keepD gc4 hI5
      have hB5 : Below w.heap.size w (((v4.alloc (.cells #[.string dw, .int .i64 2, .int .i64 0] 30 (0, 0))).alloc (.cells #[.string dw, .int .i64 3, .int .i64 0] 30 (0, 0))).drew) := (hB4.grown hI5 hB4.size (by simp)).drew
      clear hI5 gm4 ga4 gb4 gc4 hB4
      revert gb5 gc5 hB5
      generalize World.drew _ = v5
      intro gb5 gc5 hB5
      go_wp2_with fail
      obtain ⟨a0, a1, a2⟩ := ans3 gb5
      go_region_held (fun wd => wd.cell? ⟨v3.heap.size, 0, none⟩ = some (.string dw) ∧ wd.cell? ⟨v3.heap.size, 1, none⟩ = some (.int .i64 2) ∧ wd.cell? ⟨v3.heap.size, 2, none⟩ = some (.int .i64 0)) (go_keep) (first | (go_at_call 22; refine (HD.out _).mono ?_; rintro e w2 ⟨rfl, rfl⟩) | (go_at_call 21; refine (is_eq dw 2 _).mono ?_; rintro e w2 ⟨rfl, rfl⟩))
      clear a0 a1 a2
      have hI6 := grown_alloc (grown_refl (v5) none) (.cells #[.string dw, .int .i64 2, .int .i64 0] 30 (0, 0))
      have gc6 := keepD gc5 hI6
      have hB6 : Below w.heap.size w (((v5).alloc (.cells #[.string dw, .int .i64 2, .int .i64 0] 30 (0, 0))).drew) := (hB5.grown hI6 hB5.size (by simp)).drew
      clear hI6 gb5 gc5 hB5
      revert gc6 hB6
      generalize World.drew _ = v6
      intro gc6 hB6
      go_wp2_with fail
      obtain ⟨a0, a1, a2⟩ := ans3 gc6
      go_region_held (fun wd => wd.cell? ⟨v4.heap.size, 0, none⟩ = some (.string dw) ∧ wd.cell? ⟨v4.heap.size, 1, none⟩ = some (.int .i64 2) ∧ wd.cell? ⟨v4.heap.size, 2, none⟩ = some (.int .i64 0)) (go_keep) (first | (go_at_call 22; refine (HD.out _).mono ?_; rintro e w2 ⟨rfl, rfl⟩) | (go_at_call 21; refine (is_eq dw 2 _).mono ?_; rintro e w2 ⟨rfl, rfl⟩))
      clear a0 a1 a2
      have hI7 := grown_alloc (grown_refl (v6) none) (.cells #[.string dw, .int .i64 2, .int .i64 0] 30 (0, 0))
      have hB7 : Below w.heap.size w (((v6).alloc (.cells #[.string dw, .int .i64 2, .int .i64 0] 30 (0, 0))).drew) := (hB6.grown hI7 hB6.size (by simp)).drew
      clear hI7 gc6 hB6
      revert hB7
      generalize World.drew _ = v7
      intro hB7
      go_wp2_with fail
      go_ret
      exact ⟨rfl, hB7⟩
end Go.Proofs.YtjjlgjmebnkdjaaGreatDoor
