/-
  Reckoned: the walk.
  Idle: the walk.
-/
import Derived.Test.YtjjlgjmebnkdjaaGreatDoorXqB
import Derived.Test.YtjjlgjmebnkdjaaGreatDoorWg02
import Derived.Deep.RegionHeld
namespace Go.Proofs.YtjjlgjmebnkdjaaGreatDoor
open Go Go.Proofs Go.RowKit Skein

theorem mc26 {W : World} {k : Nat} {x y : Value} (h : W.heap[k]? = some (.cells #[x, y] 26 (0, 0))) : W.cell? ⟨k, 0, none⟩ = some x ∧ W.cell? ⟨k, 1, none⟩ = some y := ⟨(mcells h).1, (mcells h).2.1⟩
theorem keepD {w w' : World} {k : Nat} {o : Obj} (h : w.heap[k]? = some o) (hg : w.grownBy w' none) : w'.drew.heap[k]? = some o := by
  have h2 := keepB' h hg
  exact h2
/-- What all three need of the expression. -/
theorem x_all {x : X} (ox : x.ok) (lx : x.txt.length ≤ 110) : ∃ (s : ByteArray) (z : Int) (d : ByteArray), s = ⟨x.txt.toArray⟩ ∧ z = x.n ∧ d = sdig x.n ∧ s.size ≤ 110 ∧ (∀ w, Calls Tryz.prog 22 #[.int .i64 z] w fun e w' => e = .returned (.string d) ∧ w' = w) :=
  ⟨_, _, _, rfl, rfl, rfl, by show x.txt.toArray.size ≤ 110; simpa using lx, fun w => ksdigits x.n (X.in64 x ox) w⟩
set_option maxRecDepth 100000 in
set_option maxHeartbeats 4000000 in
theorem is_eq (t : ByteArray) (n : Int) (w : World) : Calls Tryz.prog 21 #[.agg #[.string t, .int .i64 n, .int .i64 0], .string t, .int .i64 n] w fun e w' => e = .returned (.bool true) ∧ w' = w.alloc (.cells #[.string t, .int .i64 n, .int .i64 0] 30 (0, 0)) := by
  have q0 : (t.toList == t.toList) = true := by simp
  have q1 : (n == n) = true := by simp
  have hy := alloc_at w (.cells #[.string t, .int .i64 n, .int .i64 0] 30 (0, 0)) _ rfl
  obtain ⟨c0, c1, c2⟩ := ans3 hy
  go_enter Tryz.func21, Tryz.ntmps21
  go_wp2_with fail
  go_ret
  exact ⟨rfl, rfl⟩

set_option maxRecDepth 100000 in
set_option maxHeartbeats 8000000 in
theorem reckoned_ok (ra : Option Addr) (rl rc : Nat) (w : World) (ht : Tab w) (hrl : rl ≤ 9223372036854775807)
    (hR : ∀ j, j < rl → ∃ a n, ra = some a ∧ w.cell? (a.add j) = some (.int .i64 n) ∧ Skein.Int64 n) :
    Calls Tryz.prog 6 #[.slice ra rl rc] w fun e w' => e = .returned (.bool true) ∧ Below w.heap.size w w' := by
  have HX : Hid (Calls Tryz.prog 19 #[.slice ra rl rc] w _) := expression_ok ra rl rc w hrl hR
  have HT : Hid (∀ w', Below w.heap.size w w' → Tab w') := fun w' hb => ht.belowB hb ht.lt
  clear ht hR
  go_enter Tryz.func6, Tryz.ntmps6
  go_wp2_with fail
  refine HX.out.mono ?_
  rintro e0 v1 ⟨x, ox, lx, rfl, hb1⟩
  obtain ⟨xt, z, d, e1, e2, e3, hxt, hD⟩ := x_all ox lx
  have HA : Hid (XSay xt 0 d 0) := by unfold Hid; rw [e1, e3]; exact rk_a ox lx
  have HB : Hid (XSay ((⟨#[108, 101, 116, 32, 120, 32, 61, 32]⟩ : ByteArray) ++ xt ++ (⟨#[32, 105, 110, 32, 120]⟩ : ByteArray)) 0 d 0) := by unfold Hid; rw [e1, e3]; exact rk_b ox lx
  have HC : Hid (XSay ((⟨#[40, 92, 120, 46, 32, 120, 41, 32]⟩ : ByteArray) ++ xt) 1 d 1) := by unfold Hid; rw [e1, e3]; exact rk_c ox lx
  have HD : Hid (∀ w, Calls Tryz.prog 22 #[.int .i64 z] w fun e w' => e = .returned (.string d) ∧ w' = w) := hD
  rw [← e1, ← e2]
  clear e1 e2 e3 hD ox lx HX x
  have hB0 := Below.refl w.heap.size w
  have hC1 := hB0.trans (hb1.mono hB0.size)
  have hg1 := grown_alloc (grown_refl v1 none) (.cells #[.string xt, .int .i64 z] 26 (0, 0))
  have gm1 := alloc_at v1 (.cells #[.string xt, .int .i64 z] 26 (0, 0)) _ rfl
  have hB1 := hC1.grown hg1 hC1.size (by simp)
  clear hb1 hB0 hC1 hg1
  obtain ⟨m0, m1⟩ := mc26 gm1
  have s1 : 8 + xt.size ≤ 9223372036854775807 := by omega
  have s2 : ((⟨#[108, 101, 116, 32, 120, 32, 61, 32]⟩ : ByteArray) ++ xt).size + 5 ≤ 9223372036854775807 := by rw [ByteArray.size_append]; show 8 + xt.size + 5 ≤ _; omega
  go_wp2_with fail
  refine (HA.out _ (HT.out _ hB1)).mono ?_
  rintro e0 v2 ⟨rfl, hb2⟩
  have fm2 := (hb2.block v1.heap.size (heap_lt gm1)).trans gm1
  have hC2 := hB1.trans (hb2.mono hB1.size)
  have hg2 := grown_alloc (grown_refl v2 none) (.cells #[.string d, .int .i64 0, .int .i64 0] 30 (0, 0))
  have gm2 := keepB' fm2 hg2
  have ga2 := alloc_at v2 (.cells #[.string d, .int .i64 0, .int .i64 0] 30 (0, 0)) _ rfl
  have hB2 := hC2.grown hg2 hC2.size (by simp)
  clear hb2 gm1 hB1 fm2 hC2 hg2
  clear m0 m1
  obtain ⟨m0, m1⟩ := mc26 gm2
  go_wp2_with fail
  refine (HB.out _ (HT.out _ hB2)).mono ?_
  rintro e0 v3 ⟨rfl, hb3⟩
  have fm3 := (hb3.block v1.heap.size (heap_lt gm2)).trans gm2
  have fa3 := (hb3.block v2.heap.size (heap_lt ga2)).trans ga2
  have hC3 := hB2.trans (hb3.mono hB2.size)
  have hg3 := grown_alloc (grown_refl v3 none) (.cells #[.string d, .int .i64 0, .int .i64 0] 30 (0, 0))
  have gm3 := keepB' fm3 hg3
  have ga3 := keepB' fa3 hg3
  have gb3 := alloc_at v3 (.cells #[.string d, .int .i64 0, .int .i64 0] 30 (0, 0)) _ rfl
  have hB3 := hC3.grown hg3 hC3.size (by simp)
  clear hb3 gm2 ga2 hB2 fm3 fa3 hC3 hg3
  clear m0 m1
  obtain ⟨m0, m1⟩ := mc26 gm3
  go_wp2_with fail
  refine (HC.out _ (HT.out _ hB3)).mono ?_
  rintro e0 v4 ⟨rfl, hb4⟩
  have fm4 := (hb4.block v1.heap.size (heap_lt gm3)).trans gm3
  have fa4 := (hb4.block v2.heap.size (heap_lt ga3)).trans ga3
  have fb4 := (hb4.block v3.heap.size (heap_lt gb3)).trans gb3
  have hC4 := hB3.trans (hb4.mono hB3.size)
  have hg4 := grown_alloc (grown_refl v4 none) (.cells #[.string d, .int .i64 1, .int .i64 0] 30 (0, 0))
  have gm4 := keepB' fm4 hg4
  have ga4 := keepB' fa4 hg4
  have gb4 := keepB' fb4 hg4
  have gc4 := alloc_at v4 (.cells #[.string d, .int .i64 1, .int .i64 0] 30 (0, 0)) _ rfl
  have hB4 := hC4.grown hg4 hC4.size (by simp)
  clear hb4 gm3 ga3 gb3 hB3 fm4 fa4 fb4 hC4 hg4
  clear m0 m1 s1 s2 HA HB HC
  go_wp2_with fail
  obtain ⟨a0, a1, a2⟩ := ans3 ga4
  obtain ⟨m0, m1⟩ := mc26 gm4
  go_region_held (fun wd => wd.cell? ⟨v2.heap.size, 0, none⟩ = some (.string d) ∧ wd.cell? ⟨v2.heap.size, 1, none⟩ = some (.int .i64 0) ∧ wd.cell? ⟨v2.heap.size, 2, none⟩ = some (.int .i64 0) ∧ wd.cell? ⟨v1.heap.size, 1, none⟩ = some (.int .i64 z)) (go_keep) (first | (go_at_call 22; refine (HD.out _).mono ?_; rintro e w2 ⟨rfl, rfl⟩) | (go_at_call 21; refine (is_eq d 0 _).mono ?_; rintro e w2 ⟨rfl, rfl⟩))
  clear a0 a1 a2 m0 m1
  have hI5 := grown_alloc (grown_refl (v4.alloc (.cells #[.string d, .int .i64 1, .int .i64 0] 30 (0, 0))) none) (.cells #[.string d, .int .i64 0, .int .i64 0] 30 (0, 0))
  have gm5 := keepD gm4 hI5
  have gb5 := keepD gb4 hI5
  have gc5 := keepD gc4 hI5
  have hB5 : Below w.heap.size w (((v4.alloc (.cells #[.string d, .int .i64 1, .int .i64 0] 30 (0, 0))).alloc (.cells #[.string d, .int .i64 0, .int .i64 0] 30 (0, 0))).drew) := (hB4.grown hI5 hB4.size (by simp)).drew
  clear hI5 gm4 ga4 gb4 gc4 hB4
  revert gm5 gb5 gc5 hB5
  generalize World.drew _ = v5
  intro gm5 gb5 gc5 hB5
  go_wp2_with fail
  obtain ⟨a0, a1, a2⟩ := ans3 gb5
  obtain ⟨m0, m1⟩ := mc26 gm5
  go_region_held (fun wd => wd.cell? ⟨v3.heap.size, 0, none⟩ = some (.string d) ∧ wd.cell? ⟨v3.heap.size, 1, none⟩ = some (.int .i64 0) ∧ wd.cell? ⟨v3.heap.size, 2, none⟩ = some (.int .i64 0) ∧ wd.cell? ⟨v1.heap.size, 1, none⟩ = some (.int .i64 z)) (go_keep) (first | (go_at_call 22; refine (HD.out _).mono ?_; rintro e w2 ⟨rfl, rfl⟩) | (go_at_call 21; refine (is_eq d 0 _).mono ?_; rintro e w2 ⟨rfl, rfl⟩))
  clear a0 a1 a2 m0 m1
  have hI6 := grown_alloc (grown_refl (v5) none) (.cells #[.string d, .int .i64 0, .int .i64 0] 30 (0, 0))
  have gm6 := keepD gm5 hI6
  have gc6 := keepD gc5 hI6
  have hB6 : Below w.heap.size w (((v5).alloc (.cells #[.string d, .int .i64 0, .int .i64 0] 30 (0, 0))).drew) := (hB5.grown hI6 hB5.size (by simp)).drew
  clear hI6 gm5 gb5 gc5 hB5
  revert gm6 gc6 hB6
  generalize World.drew _ = v6
  intro gm6 gc6 hB6
  go_wp2_with fail
  obtain ⟨a0, a1, a2⟩ := ans3 gc6
  obtain ⟨m0, m1⟩ := mc26 gm6
  go_region_held (fun wd => wd.cell? ⟨v4.heap.size, 0, none⟩ = some (.string d) ∧ wd.cell? ⟨v4.heap.size, 1, none⟩ = some (.int .i64 1) ∧ wd.cell? ⟨v4.heap.size, 2, none⟩ = some (.int .i64 0) ∧ wd.cell? ⟨v1.heap.size, 1, none⟩ = some (.int .i64 z)) (go_keep) (first | (go_at_call 22; refine (HD.out _).mono ?_; rintro e w2 ⟨rfl, rfl⟩) | (go_at_call 21; refine (is_eq d 1 _).mono ?_; rintro e w2 ⟨rfl, rfl⟩))
  clear a0 a1 a2 m0 m1
  have hI7 := grown_alloc (grown_refl (v6) none) (.cells #[.string d, .int .i64 1, .int .i64 0] 30 (0, 0))
  have hB7 : Below w.heap.size w (((v6).alloc (.cells #[.string d, .int .i64 1, .int .i64 0] 30 (0, 0))).drew) := (hB6.grown hI7 hB6.size (by simp)).drew
  clear hI7 gm6 gc6 hB6
  revert hB7
  generalize World.drew _ = v7
  intro hB7
  go_wp2_with fail
  go_ret
  exact ⟨rfl, hB7⟩
end Go.Proofs.YtjjlgjmebnkdjaaGreatDoor

namespace Go.Proofs.YtjjlgjmebnkdjaaGreatDoor
open Go Go.Proofs Go.RowKit Skein

set_option maxRecDepth 100000 in
set_option maxHeartbeats 4000000 in
theorem wrong_ok (w : World) : Calls Tryz.prog 23 #[] w fun e w' => ∃ g, e = .returned (.slice (some ⟨g, 0, none⟩) 7 7) ∧ (∀ k, k < 7 → w'.cell? ⟨g, k, none⟩ = some (.string (wby k))) ∧ Below w.heap.size w w' := by
  go_enter Tryz.func23, Tryz.ntmps23
  go_wp2_with fail
  go_ret
  refine ⟨w.heap.size, rfl, fun k hk => ?_, (Below.refl _ w).alloc (Nat.le_refl _) _⟩
  have h7 : ∀ o, (w.alloc o).heap[w.heap.size]? = some o := fun o => alloc_at w o _ rfl
  unfold World.cell?
  rw [h7]
  rcases seven hk with rfl | rfl | rfl | rfl | rfl | rfl | rfl <;> rfl

set_option maxRecDepth 100000 in
set_option maxHeartbeats 8000000 in
theorem idle_ok (ra : Option Addr) (rl rc : Nat) (c1 : Int) (w : World) (ht : Tab w) (hrl : rl ≤ 9223372036854775807)
    (hR : ∀ j, j < rl → ∃ a n, ra = some a ∧ w.cell? (a.add j) = some (.int .i64 n) ∧ Skein.Int64 n) (hc : Skein.Int64 c1) :
    Calls Tryz.prog 8 #[.slice ra rl rc, .int .i64 c1] w fun e w' => e = .returned (.bool true) ∧ Below w.heap.size w w' := by
  have HX : Hid (Calls Tryz.prog 19 #[.slice ra rl rc] w _) := expression_ok ra rl rc w hrl hR
  have HT : Hid (∀ w', Below w.heap.size w w' → Tab w') := fun w' hb => ht.belowB hb ht.lt
  have HP : Hid (∀ w, Calls Tryz.prog 24 #[.int .i64 c1, .int .i64 7] w fun e w' => e = .returned (.int .i64 (pickN c1 7)) ∧ w' = w) := fun w => pick_is c1 hc 7 (by decide) (by decide) w
  have hk : pickN c1 7 < 7 := by unfold pickN; split <;> exact Nat.mod_lt _ (by decide)
  generalize pickN c1 7 = k at HP hk
  clear ht hR hc
  go_enter Tryz.func8, Tryz.ntmps8
  go_wp2_with fail
  refine HX.out.mono ?_
  rintro e0 v1 ⟨x, ox, lx, rfl, hb1⟩
  obtain ⟨xt, z, d, e1, e2, e3, hxt, hD⟩ := x_all ox lx
  obtain ⟨mg, hG⟩ := id_g hk
  have hs0 : sdig 0 = ⟨#[48]⟩ := by unfold sdig; rw [show (0 : Int) = ((0 : Nat) : Int) from rfl, Lib.itoa_nonneg, Lib.decDigits, dif_pos (by decide)]; rfl
  have HA : Hid (XSay ((⟨#[40, 92, 121, 46, 32]⟩ : ByteArray) ++ xt ++ (⟨#[41, 32]⟩ : ByteArray) ++ wby k) 1 d 1) := by unfold Hid; rw [e1, e3]; exact id_a ox lx hk
  have HB : Hid (XSay ((⟨#[108, 101, 116, 32, 121, 32, 61, 32]⟩ : ByteArray) ++ wby k ++ (⟨#[32, 105, 110, 32]⟩ : ByteArray) ++ xt) 0 d 0) := by unfold Hid; rw [e1, e3]; exact id_b ox lx hk
  have HC : Hid (XSay ((⟨#[105, 102, 32, 49, 32, 116, 104, 101, 110, 32]⟩ : ByteArray) ++ xt ++ (⟨#[32, 101, 108, 115, 101, 32]⟩ : ByteArray) ++ wby k) 0 d 0) := by unfold Hid; rw [e1, e3]; exact id_c ox lx hk
  have HE : Hid (XSay ((⟨#[104, 101, 97, 100, 32, 40]⟩ : ByteArray) ++ xt ++ (⟨#[32, 58, 32]⟩ : ByteArray) ++ wby k ++ (⟨#[41]⟩ : ByteArray)) 0 d 0) := by unfold Hid; rw [e1, e3]; exact id_d ox lx hk
  have HF : Hid (XSay ((⟨#[104, 101, 97, 100, 32, 40, 116, 97, 105, 108, 32, 40]⟩ : ByteArray) ++ wby k ++ (⟨#[32, 58, 32]⟩ : ByteArray) ++ xt ++ (⟨#[32, 58, 32]⟩ : ByteArray) ++ wby k ++ (⟨#[41, 41]⟩ : ByteArray)) 0 d 0) := by unfold Hid; rw [e1, e3]; exact id_e ox lx hk
  have HH : Hid (XSay ((⟨#[110, 117, 108, 108, 32, 40]⟩ : ByteArray) ++ wby k ++ (⟨#[32, 58, 32]⟩ : ByteArray) ++ wby k ++ (⟨#[41]⟩ : ByteArray)) 0 (⟨#[48]⟩ : ByteArray) 0) := by unfold Hid; rw [← hs0]; exact id_f ox hk
  have HG : Hid (∀ w, Tab w → _) := hG
  have HD : Hid (∀ w, Calls Tryz.prog 22 #[.int .i64 z] w fun e w' => e = .returned (.string d) ∧ w' = w) := hD
  have hwz := wz_ne hk
  have hws := wby_size hk
  rw [← e1, ← e2]
  clear e1 e2 e3 hD ox lx HX x hG hs0
  have hB0 := Below.refl w.heap.size w
  have hC1 := hB0.trans (hb1.mono hB0.size)
  have hg1 := grown_alloc (grown_refl v1 none) (.cells #[.string xt, .int .i64 z] 26 (0, 0))
  have gm1 := alloc_at v1 (.cells #[.string xt, .int .i64 z] 26 (0, 0)) _ rfl
  have hB1 := hC1.grown hg1 hC1.size (by simp)
  clear hb1 hB0 hC1 hg1
  obtain ⟨m0, m1⟩ := mc26 gm1
  go_wp2_with fail
  refine (wrong_ok _).mono ?_
  rintro e0 v2 ⟨gw, rfl, hcell, hb2⟩
  have fm2 := (hb2.block v1.heap.size (heap_lt gm1)).trans gm1
  have hC2 := hB1.trans (hb2.mono hB1.size)
  clear hb2 gm1 hB1
  clear m0 m1
  obtain ⟨m0, m1⟩ := mc26 fm2
  have hck := hcell k hk
  clear hcell
  generalize wby k = wt at *
  have hki : (k : Int) < 7 := by omega
  go_wp2_with fail
  refine (HP.out _).mono ?_
  rintro e0 u1 ⟨rfl, hu⟩
  subst hu
  go_wp2_with fail
  refine (HD.out _).mono ?_
  rintro e0 u2 ⟨rfl, hu⟩
  subst hu
  clear hck HP HD
  go_wp2_with fail
  refine (HA.out _ (HT.out _ hC2)).mono ?_
  rintro e0 v3 ⟨rfl, hb3⟩
  have fm3 := (hb3.block v1.heap.size (heap_lt fm2)).trans fm2
  have hC3 := hC2.trans (hb3.mono hC2.size)
  have hg3 := grown_alloc (grown_refl v3 none) (.cells #[.string d, .int .i64 1, .int .i64 0] 30 (0, 0))
  have gm3 := keepB' fm3 hg3
  have ga3 := alloc_at v3 (.cells #[.string d, .int .i64 1, .int .i64 0] 30 (0, 0)) _ rfl
  have hB3 := hC3.grown hg3 hC3.size (by simp)
  clear hb3 fm2 hC2 fm3 hC3 hg3
  clear HA
  clear m0 m1
  obtain ⟨m0, m1⟩ := mc26 gm3
  go_wp2_with fail
  refine (HB.out _ (HT.out _ hB3)).mono ?_
  rintro e0 v4 ⟨rfl, hb4⟩
  have fm4 := (hb4.block v1.heap.size (heap_lt gm3)).trans gm3
  have fa4 := (hb4.block v3.heap.size (heap_lt ga3)).trans ga3
  have hC4 := hB3.trans (hb4.mono hB3.size)
  have hg4 := grown_alloc (grown_refl v4 none) (.cells #[.string d, .int .i64 0, .int .i64 0] 30 (0, 0))
  have gm4 := keepB' fm4 hg4
  have ga4 := keepB' fa4 hg4
  have gb4 := alloc_at v4 (.cells #[.string d, .int .i64 0, .int .i64 0] 30 (0, 0)) _ rfl
  have hB4 := hC4.grown hg4 hC4.size (by simp)
  clear hb4 gm3 ga3 hB3 fm4 fa4 hC4 hg4
  clear HB
  clear m0 m1
  obtain ⟨m0, m1⟩ := mc26 gm4
  go_wp2_with fail
  refine (HC.out _ (HT.out _ hB4)).mono ?_
  rintro e0 v5 ⟨rfl, hb5⟩
  have fm5 := (hb5.block v1.heap.size (heap_lt gm4)).trans gm4
  have fa5 := (hb5.block v3.heap.size (heap_lt ga4)).trans ga4
  have fb5 := (hb5.block v4.heap.size (heap_lt gb4)).trans gb4
  have hC5 := hB4.trans (hb5.mono hB4.size)
  have hg5 := grown_alloc (grown_refl v5 none) (.cells #[.string d, .int .i64 0, .int .i64 0] 30 (0, 0))
  have gm5 := keepB' fm5 hg5
  have ga5 := keepB' fa5 hg5
  have gb5 := keepB' fb5 hg5
  have gc5 := alloc_at v5 (.cells #[.string d, .int .i64 0, .int .i64 0] 30 (0, 0)) _ rfl
  have hB5 := hC5.grown hg5 hC5.size (by simp)
  clear hb5 gm4 ga4 gb4 hB4 fm5 fa5 fb5 hC5 hg5
  clear HC
  clear m0 m1
  obtain ⟨m0, m1⟩ := mc26 gm5
  go_wp2_with fail
  refine (HE.out _ (HT.out _ hB5)).mono ?_
  rintro e0 v6 ⟨rfl, hb6⟩
  have fm6 := (hb6.block v1.heap.size (heap_lt gm5)).trans gm5
  have fa6 := (hb6.block v3.heap.size (heap_lt ga5)).trans ga5
  have fb6 := (hb6.block v4.heap.size (heap_lt gb5)).trans gb5
  have fc6 := (hb6.block v5.heap.size (heap_lt gc5)).trans gc5
  have hC6 := hB5.trans (hb6.mono hB5.size)
  have hg6 := grown_alloc (grown_refl v6 none) (.cells #[.string d, .int .i64 0, .int .i64 0] 30 (0, 0))
  have gm6 := keepB' fm6 hg6
  have ga6 := keepB' fa6 hg6
  have gb6 := keepB' fb6 hg6
  have gc6 := keepB' fc6 hg6
  have gd6 := alloc_at v6 (.cells #[.string d, .int .i64 0, .int .i64 0] 30 (0, 0)) _ rfl
  have hB6 := hC6.grown hg6 hC6.size (by simp)
  clear hb6 gm5 ga5 gb5 gc5 hB5 fm6 fa6 fb6 fc6 hC6 hg6
  clear HE
  clear m0 m1
  obtain ⟨m0, m1⟩ := mc26 gm6
  go_wp2_with fail
  refine (HF.out _ (HT.out _ hB6)).mono ?_
  rintro e0 v7 ⟨rfl, hb7⟩
  have fm7 := (hb7.block v1.heap.size (heap_lt gm6)).trans gm6
  have fa7 := (hb7.block v3.heap.size (heap_lt ga6)).trans ga6
  have fb7 := (hb7.block v4.heap.size (heap_lt gb6)).trans gb6
  have fc7 := (hb7.block v5.heap.size (heap_lt gc6)).trans gc6
  have fd7 := (hb7.block v6.heap.size (heap_lt gd6)).trans gd6
  have hC7 := hB6.trans (hb7.mono hB6.size)
  have hg7 := grown_alloc (grown_refl v7 none) (.cells #[.string d, .int .i64 0, .int .i64 0] 30 (0, 0))
  have gm7 := keepB' fm7 hg7
  have ga7 := keepB' fa7 hg7
  have gb7 := keepB' fb7 hg7
  have gc7 := keepB' fc7 hg7
  have gd7 := keepB' fd7 hg7
  have ge7 := alloc_at v7 (.cells #[.string d, .int .i64 0, .int .i64 0] 30 (0, 0)) _ rfl
  have hB7 := hC7.grown hg7 hC7.size (by simp)
  clear hb7 gm6 ga6 gb6 gc6 gd6 hB6 fm7 fa7 fb7 fc7 fd7 hC7 hg7
  clear HF
  clear m0 m1
  obtain ⟨m0, m1⟩ := mc26 gm7
  go_wp2_with fail
  refine (HH.out _ (HT.out _ hB7)).mono ?_
  rintro e0 v8 ⟨rfl, hb8⟩
  have fm8 := (hb8.block v1.heap.size (heap_lt gm7)).trans gm7
  have fa8 := (hb8.block v3.heap.size (heap_lt ga7)).trans ga7
  have fb8 := (hb8.block v4.heap.size (heap_lt gb7)).trans gb7
  have fc8 := (hb8.block v5.heap.size (heap_lt gc7)).trans gc7
  have fd8 := (hb8.block v6.heap.size (heap_lt gd7)).trans gd7
  have fe8 := (hb8.block v7.heap.size (heap_lt ge7)).trans ge7
  have hC8 := hB7.trans (hb8.mono hB7.size)
  have hg8 := grown_alloc (grown_refl v8 none) (.cells #[.string (⟨#[48]⟩ : ByteArray), .int .i64 0, .int .i64 0] 30 (0, 0))
  have gm8 := keepB' fm8 hg8
  have ga8 := keepB' fa8 hg8
  have gb8 := keepB' fb8 hg8
  have gc8 := keepB' fc8 hg8
  have gd8 := keepB' fd8 hg8
  have ge8 := keepB' fe8 hg8
  have gf8 := alloc_at v8 (.cells #[.string (⟨#[48]⟩ : ByteArray), .int .i64 0, .int .i64 0] 30 (0, 0)) _ rfl
  have hB8 := hC8.grown hg8 hC8.size (by simp)
  clear hb8 gm7 ga7 gb7 gc7 gd7 ge7 hB7 fm8 fa8 fb8 fc8 fd8 fe8 hC8 hg8
  clear HH
  clear m0 m1
  obtain ⟨m0, m1⟩ := mc26 gm8
  clear m0 m1 gm8
  obtain ⟨a0, a1, a2⟩ := ans3 ga8
  go_wp2_with fail
  refine (is_eq d 1 _).mono ?_
  rintro e0 q0 ⟨rfl, rfl⟩
  clear a0 a1 a2
  have hI9 := grown_alloc (grown_refl (v8.alloc (.cells #[.string (⟨#[48]⟩ : ByteArray), .int .i64 0, .int .i64 0] 30 (0, 0))) none) (.cells #[.string d, .int .i64 1, .int .i64 0] 30 (0, 0))
  have gb9 := keepB' gb8 hI9
  have gc9 := keepB' gc8 hI9
  have gd9 := keepB' gd8 hI9
  have ge9 := keepB' ge8 hI9
  have gf9 := keepB' gf8 hI9
  have hB9 := hB8.grown hI9 hB8.size (by simp)
  clear hI9 ga8 gb8 gc8 gd8 ge8 gf8 hB8
  revert gb9 gc9 gd9 ge9 gf9 hB9
  generalize (v8.alloc (.cells #[.string (⟨#[48]⟩ : ByteArray), .int .i64 0, .int .i64 0] 30 (0, 0))).alloc (.cells #[.string d, .int .i64 1, .int .i64 0] 30 (0, 0)) = v9
  intro gb9 gc9 gd9 ge9 gf9 hB9
  obtain ⟨a0, a1, a2⟩ := ans3 gb9
  go_wp2_with fail
  refine (is_eq d 0 _).mono ?_
  rintro e0 q0 ⟨rfl, rfl⟩
  clear a0 a1 a2
  have hI10 := grown_alloc (grown_refl (v9) none) (.cells #[.string d, .int .i64 0, .int .i64 0] 30 (0, 0))
  have gc10 := keepB' gc9 hI10
  have gd10 := keepB' gd9 hI10
  have ge10 := keepB' ge9 hI10
  have gf10 := keepB' gf9 hI10
  have hB10 := hB9.grown hI10 hB9.size (by simp)
  clear hI10 gb9 gc9 gd9 ge9 gf9 hB9
  revert gc10 gd10 ge10 gf10 hB10
  generalize (v9).alloc (.cells #[.string d, .int .i64 0, .int .i64 0] 30 (0, 0)) = v10
  intro gc10 gd10 ge10 gf10 hB10
  obtain ⟨a0, a1, a2⟩ := ans3 gc10
  go_wp2_with fail
  refine (is_eq d 0 _).mono ?_
  rintro e0 q0 ⟨rfl, rfl⟩
  clear a0 a1 a2
  have hI11 := grown_alloc (grown_refl (v10) none) (.cells #[.string d, .int .i64 0, .int .i64 0] 30 (0, 0))
  have gd11 := keepB' gd10 hI11
  have ge11 := keepB' ge10 hI11
  have gf11 := keepB' gf10 hI11
  have hB11 := hB10.grown hI11 hB10.size (by simp)
  clear hI11 gc10 gd10 ge10 gf10 hB10
  revert gd11 ge11 gf11 hB11
  generalize (v10).alloc (.cells #[.string d, .int .i64 0, .int .i64 0] 30 (0, 0)) = v11
  intro gd11 ge11 gf11 hB11
  obtain ⟨a0, a1, a2⟩ := ans3 gd11
  go_wp2_with fail
  refine (is_eq d 0 _).mono ?_
  rintro e0 q0 ⟨rfl, rfl⟩
  clear a0 a1 a2
  have hI12 := grown_alloc (grown_refl (v11) none) (.cells #[.string d, .int .i64 0, .int .i64 0] 30 (0, 0))
  have ge12 := keepB' ge11 hI12
  have gf12 := keepB' gf11 hI12
  have hB12 := hB11.grown hI12 hB11.size (by simp)
  clear hI12 gd11 ge11 gf11 hB11
  revert ge12 gf12 hB12
  generalize (v11).alloc (.cells #[.string d, .int .i64 0, .int .i64 0] 30 (0, 0)) = v12
  intro ge12 gf12 hB12
  obtain ⟨a0, a1, a2⟩ := ans3 ge12
  go_wp2_with fail
  refine (is_eq d 0 _).mono ?_
  rintro e0 q0 ⟨rfl, rfl⟩
  clear a0 a1 a2
  have hI13 := grown_alloc (grown_refl (v12) none) (.cells #[.string d, .int .i64 0, .int .i64 0] 30 (0, 0))
  have gf13 := keepB' gf12 hI13
  have hB13 := hB12.grown hI13 hB12.size (by simp)
  clear hI13 ge12 gf12 hB12
  revert gf13 hB13
  generalize (v12).alloc (.cells #[.string d, .int .i64 0, .int .i64 0] 30 (0, 0)) = v13
  intro gf13 hB13
  obtain ⟨a0, a1, a2⟩ := ans3 gf13
  go_wp2_with fail
  refine (is_eq (⟨#[48]⟩ : ByteArray) 0 _).mono ?_
  rintro e0 q0 ⟨rfl, rfl⟩
  clear a0 a1 a2
  have hI14 := grown_alloc (grown_refl (v13) none) (.cells #[.string (⟨#[48]⟩ : ByteArray), .int .i64 0, .int .i64 0] 30 (0, 0))
  have hB14 := hB13.grown hI14 hB13.size (by simp)
  clear hI14 gf13 hB13
  revert hB14
  generalize (v13).alloc (.cells #[.string (⟨#[48]⟩ : ByteArray), .int .i64 0, .int .i64 0] 30 (0, 0)) = v14
  intro hB14
  go_wp2_with fail
  refine (HG.out _ (HT.out _ hB14)).mono ?_
  rintro e0 v15 ⟨rfl, hb15⟩
  have hC15 := hB14.trans (hb15.mono hB14.size)
  have hg15 := grown_alloc (grown_refl v15 none) (.cells #[.string ⟨#[]⟩, .int .i64 mg, .int .i64 (wz k)] 30 (0, 0))
  have gg15 := alloc_at v15 (.cells #[.string ⟨#[]⟩, .int .i64 mg, .int .i64 (wz k)] 30 (0, 0)) _ rfl
  have hB15 := hC15.grown hg15 hC15.size (by simp)
  clear hb15 hB14 hC15 hg15
  obtain ⟨a0, a1, a2⟩ := ans3 gg15
  have y1 : (wz k == 0) = false := by simpa using hwz
  have y2 : (wz k != 0) = true := by simp [bne, y1]
  have y3 : ((⟨#[]⟩ : ByteArray).toList == (⟨#[]⟩ : ByteArray).toList) = true := by simp
  generalize wz k = zk at *
  go_wp2_with fail
  go_ret
  exact ⟨rfl, hB15⟩
end Go.Proofs.YtjjlgjmebnkdjaaGreatDoor
