/-
  The document's digits of any number; a value as text.
  The document's Eval.
  The statement's own look for lists; evaled.
  Evals.
-/
import Derived.Test.YtdpbclnpmkhooaaGreatDoorEwE
import Derived.Test.YtdpbclnpmkhooaaGreatDoorRefK
import Derived.Test.YtdpbclnpmkhooaaGreatDoorEwL
import Derived.Test.YtdpbclnpmkhooaaGreatDoorEwF
import Derived.Test.YtdpbclnpmkhooaaGreatDoorEwA
namespace Go.Proofs.YtdpbclnpmkhooaaGreatDoor
open Go Go.Proofs Go.RowKit Skein

set_option maxRecDepth 100000 in
set_option maxHeartbeats 4000000 in
theorem rdigits2 (n : Nat) (hn : n ≤ 9223372036854775807) (w : World) :
    Calls Tryz.prog 46 #[.int .i64 n] w fun e w' => e = .returned (.string (dig n)) ∧ w' = w := by
  have h1 : ((n : Int) == -9223372036854775808) = false := by first | (simp; done) | (simp; omega)
  have h2 : decide ((n : Int) < 0) = false := by simp
  go_enter Tryz.func46, Tryz.ntmps46
  go_wp2_with fail
  go_loop [0, 3] (fun x a => ∃ (k : Nat) (acc : ByteArray), x = .int .i64 k ∧ a = .string acc ∧ k ≤ 9223372036854775807 ∧ acc.size + k ≤ 9223372036854775807 ∧ (acc.size = 0 ∨ 1 ≤ k) ∧ Hid (dig n = ⟨(Lib.decDigits k ++ acc.data.toList).toArray⟩)) (fun x a => (intOf x).toNat)
  case atStart => exact ⟨n, ⟨#[]⟩, rfl, rfl, hn, by show 0 + n ≤ _; omega, .inl rfl, by unfold Hid dig; simp⟩
  case round =>
    obtain ⟨k, acc, rfl, rfl, hk, hsz, hz, H⟩ := hrel
    have hac : acc.size + 1 ≤ 9223372036854775807 := by omega
    go_wp2_with fail
    case roundEnd =>
      rename_i h0
      have hk10 : 10 ≤ k := by
        have : ¬ ((k : Int) / 10 = 0) := by simpa using h0
        omega
      have hd := digit_add (k % 10) (Nat.mod_lt _ (by omega)) acc
      refine ⟨⟨k / 10, _, by norm_cast, rfl, by omega, ?_, .inr (by omega), ?_⟩, by simp only [intOf]; omega⟩
      · have e := congrArg List.length hd
        rw [Array.length_toList, List.length_cons, Array.length_toList] at e
        have e' : ((⟨#[48, 49, 50, 51, 52, 53, 54, 55, 56, 57]⟩ : ByteArray).extract (k % 10) (k % 10 + 1) ++ acc).size = acc.size + 1 := e
        omega
      · unfold Hid
        rw [H.out, hd, Lib.decDigits, dif_neg (by omega)]; simp
    rename_i h0 _
    have hk10 : k < 10 := by
      have : ((k : Int) / 10 = 0) := by simpa using h0
      omega
    have hd := digit_add (k % 10) (Nat.mod_lt _ (by omega)) acc
    have he : (⟨#[48, 49, 50, 51, 52, 53, 54, 55, 56, 57]⟩ : ByteArray).extract (k % 10) (k % 10 + 1) ++ acc = ⟨(Lib.decDigits k ++ acc.data.toList).toArray⟩ := by
      apply ByteArray.ext
      apply Array.toList_inj.1
      rw [hd, Lib.decDigits, dif_pos hk10, Nat.mod_eq_of_lt hk10]
      rfl
    go_ret
    refine ⟨?_, rfl⟩
    rw [H.out, ← he]
    rfl

theorem dig_size2 (n : Nat) (h : n ≤ 9223372036854775807) : (dig n).size ≤ 21 := by
  have := Lib.itoa_length_le (n : Int) (by omega) (by omega)
  rw [Lib.itoa_nonneg] at this
  show (Lib.decDigits n).toArray.size ≤ 21
  rw [List.size_toArray]; exact this

theorem sdig_least : sdig (-9223372036854775808) = ⟨#[45, 57, 50, 50, 51, 51, 55, 50, 48, 51, 54, 56, 53, 52, 55, 55, 53, 56, 48, 56]⟩ := by
  unfold sdig
  rw [show (-9223372036854775808 : Int) = -((9223372036854775808 : Nat) : Int) from rfl, Lib.itoa_neg _ (by omega)]
  simp [Lib.decDigits]

set_option maxRecDepth 100000 in
set_option maxHeartbeats 4000000 in
theorem rsdigits (n : Int) (hn : Int64 n) (w : World) :
    Calls Tryz.prog 46 #[.int .i64 n] w fun e w' => e = .returned (.string (sdig n)) ∧ w' = w := by
  obtain ⟨l1, l2⟩ := hn
  by_cases h0 : 0 ≤ n
  · obtain ⟨k, rfl⟩ := Int.eq_ofNat_of_zero_le h0
    refine (rdigits2 k (by omega) w).mono ?_
    rintro e w' ⟨rfl, rfl⟩
    refine ⟨?_, rfl⟩
    have : sdig (k : Int) = dig k := by unfold sdig dig; rw [Lib.itoa_nonneg]
    rw [← this]
  · by_cases hm : n = -9223372036854775808
    · subst hm
      rw [sdig_least]
      go_enter Tryz.func46, Tryz.ntmps46
      go_wp2_with fail
      go_ret
      exact ⟨rfl, rfl⟩
    · obtain ⟨k, hk⟩ : ∃ k : Nat, n = -(k : Int) := ⟨n.natAbs, by omega⟩
      subst hk
      have hk1 : 1 ≤ k := by omega
      have hk2 : k ≤ 9223372036854775807 := by omega
      have hs : Hid (sdig (-(k : Int)) = ⟨#[45]⟩ ++ dig k) := by
        unfold Hid sdig dig
        rw [Lib.itoa_neg k hk1]
        rfl
      have h1 : ((-(k : Int)) == -9223372036854775808) = false := by simpa using hm
      have h2 : decide ((-(k : Int)) < 0) = true := by simp; omega
      have hsz := dig_size2 k hk2
      clear hm l1 l2 h0
      go_enter Tryz.func46, Tryz.ntmps46
      go_wp2_with fail
      refine (rdigits2 k hk2 w).mono ?_
      rintro e w' ⟨rfl, rfl⟩
      go_wp2_with fail
      go_ret
      exact ⟨ret_str hs.out.symm, rfl⟩

set_option maxRecDepth 100000 in
set_option maxHeartbeats 4000000 in
theorem rtext_num {b w A wb L S} (h : RE b w A wb L S) (n : Int) (hn : Int64 n) : Calls Tryz.prog 32 #[ptr wb, rv 110 n nilp nilp nilp nilp] w fun e w' => e = .returned (.string (sdig n)) ∧ w.grownBy w' none := by
  obtain ⟨c0, c1, c2, cf, hlt⟩ := h.walk.cells
  have HN : Hid (Int64 n) := hn
  clear hn
  go_enter Tryz.func32, Tryz.ntmps32
  go_wp2_with fail
  refine (rsdigits n HN.out _).mono ?_
  rintro e w' ⟨rfl, rfl⟩
  go_wp2_with fail
  go_ret
  exact ⟨rfl, grown_alloc (grown_refl _ _) _⟩

set_option maxRecDepth 100000 in
set_option maxHeartbeats 4000000 in
theorem rtext_fn {b w A wb L S} (h : RE b w A wb L S) (n : Int) (a1 a2 : Option Addr) : Calls Tryz.prog 32 #[ptr wb, rv 102 n (.pointer a1) (.pointer a2) nilp nilp] w fun e w' => e = .returned (.string fnText) ∧ w.grownBy w' none := by
  obtain ⟨c0, c1, c2, cf, hlt⟩ := h.walk.cells
  go_enter Tryz.func32, Tryz.ntmps32
  go_wp2_with fail
  go_ret
  exact ⟨rfl, grown_alloc (grown_refl _ _) _⟩

set_option maxRecDepth 100000 in
set_option maxHeartbeats 4000000 in
theorem rtext_err {b w A wb L m z} (h : RX b w A wb L m z) (k n : Int) (a1 a2 a3 a4 : Option Addr) : Calls Tryz.prog 32 #[ptr wb, rv k n (.pointer a1) (.pointer a2) (.pointer a3) (.pointer a4)] w fun e w' => e = .returned (.string ⟨#[]⟩) ∧ w.grownBy w' none := by
  obtain ⟨c0, c1, c2, cf, hlt⟩ := h.walk.cells
  have hz0 : (z == 0) = false := by simpa using h.ne
  have hz1 : (z != 0) = true := by simp [bne, hz0]
  go_enter Tryz.func32, Tryz.ntmps32
  go_wp2_with fail
  go_ret
  exact ⟨rfl, grown_alloc (grown_refl _ _) _⟩
end Go.Proofs.YtdpbclnpmkhooaaGreatDoor

namespace Go.Proofs.YtdpbclnpmkhooaaGreatDoor
open Go Go.Proofs Go.RowKit Skein

set_option maxRecDepth 100000 in
set_option maxHeartbeats 4000000 in
theorem reval_err (s : ByteArray) (lim : Int) (w : World) (f1 f2 : Int) (hf : f1 ≠ 0) (hD : ∀ w, Calls Tryz.prog 21 #[.string s] w fun e w' => ∃ a, e = .returned (.tuple #[.pointer a, .int .i64 f1, .int .i64 f2]) ∧ Below w.heap.size w w') :
    Calls Tryz.prog 23 #[.string s, .int .i64 lim] w fun e w' => e = .returned (answer ⟨#[]⟩ 0 f1) ∧ Below w.heap.size w w' := by
  have HD : Hid (∀ w, Calls Tryz.prog 21 #[.string s] w fun e w' => ∃ a, e = .returned (.tuple #[.pointer a, .int .i64 f1, .int .i64 f2]) ∧ Below w.heap.size w w') := hD
  have h0 : (f1 == 0) = false := by simpa using hf
  have h1 : (f1 != 0) = true := by simp [bne, h0]
  clear hD hf
  go_enter Tryz.func23, Tryz.ntmps23
  go_wp2_with fail
  refine (HD.out _).mono ?_
  rintro e w1 ⟨a, rfl, hb⟩
  have hk1 := (hb.block w.heap.size (by simp)).trans (alloc_at w (.cells #[.string ⟨#[]⟩, .int .i64 0, .int .i64 0] 30 (0, 0)) _ rfl)
  have hB1 : Below w.heap.size w w1 := ((Below.refl _ w).alloc (Nat.le_refl _) _).trans (hb.mono (by simp))
  obtain ⟨c0, c1, c2, cf, clt⟩ := ans_cells hk1
  go_wp2_with fail
  have hk2 := set3 hk1 (.string ⟨#[]⟩) (.int .i64 0) (.int .i64 f1)
  have hB2 := ((hB1.setCell (p := ⟨w.heap.size, 0, none⟩) (Nat.le_refl _) (.string ⟨#[]⟩)).setCell (p := ⟨w.heap.size, 1, none⟩) (Nat.le_refl _) (.int .i64 0)).setCell (p := ⟨w.heap.size, 2, none⟩) (Nat.le_refl _) (.int .i64 f1)
  exact fin3 (t := 4) Tryz.results23 rfl rfl hk2 ⟨rfl, hB2⟩

set_option maxRecDepth 100000 in
set_option maxHeartbeats 4000000 in
theorem reval_lim (s : ByteArray) (lim : Int) (w : World) (hl : lim < 0 ∨ 500 < lim) (hD : ∀ w, Calls Tryz.prog 21 #[.string s] w fun e w' => ∃ a, e = .returned (.tuple #[.pointer a, .int .i64 0, .int .i64 0]) ∧ Below w.heap.size w w') :
    Calls Tryz.prog 23 #[.string s, .int .i64 lim] w fun e w' => e = .returned (answer ⟨#[]⟩ 0 4) ∧ Below w.heap.size w w' := by
  have HD : Hid (∀ w, Calls Tryz.prog 21 #[.string s] w fun e w' => ∃ a, e = .returned (.tuple #[.pointer a, .int .i64 0, .int .i64 0]) ∧ Below w.heap.size w w') := hD
  clear hD
  have hl' : (decide (lim < 0) = true) ∨ (decide (lim < 0) = false ∧ decide (500 < lim) = true) := by
    by_cases h : lim < 0
    · exact .inl (by simpa using h)
    · exact .inr ⟨by simpa using h, by simp; omega⟩
  clear hl
  rcases hl' with l1 | ⟨l1, l2⟩
  all_goals
    go_enter Tryz.func23, Tryz.ntmps23
    go_wp2_with fail
    refine (HD.out _).mono ?_
    rintro e w1 ⟨a, rfl, hb⟩
    have hk1 := (hb.block w.heap.size (by simp)).trans (alloc_at w (.cells #[.string ⟨#[]⟩, .int .i64 0, .int .i64 0] 30 (0, 0)) _ rfl)
    have hB1 : Below w.heap.size w w1 := ((Below.refl _ w).alloc (Nat.le_refl _) _).trans (hb.mono (by simp))
    obtain ⟨c0, c1, c2, cf, clt⟩ := ans_cells hk1
    go_wp2_with fail
    have hk2 := set3 hk1 (.string ⟨#[]⟩) (.int .i64 0) (.int .i64 4)
    have hB2 := ((hB1.setCell (p := ⟨w.heap.size, 0, none⟩) (Nat.le_refl _) (.string ⟨#[]⟩)).setCell (p := ⟨w.heap.size, 1, none⟩) (Nat.le_refl _) (.int .i64 0)).setCell (p := ⟨w.heap.size, 2, none⟩) (Nat.le_refl _) (.int .i64 4)
    exact fin3 (t := 4) Tryz.results23 rfl rfl hk2 ⟨rfl, hB2⟩

set_option maxRecDepth 100000 in
set_option maxHeartbeats 8000000 in
theorem reval_ok (s : ByteArray) (w : World) (t : T) (ht : Tidy 0 t) {L n : Nat} {r : R × E} (he : ev L n (.need t []) ⟨[], 0⟩ = some r) (hin : RIn r.1) (hL : L ≤ 500)
    (hnl : ∀ v, r.1 = .ok v → (∃ k, v = .num k) ∨ ∃ y e, v = .fn y e)
    (hD : ∀ w, Calls Tryz.prog 21 #[.string s] w fun e w' => ∃ a, e = .returned (.tuple #[.pointer a, .int .i64 0, .int .i64 0]) ∧ NodeAt w.heap.size w' t (.pointer a) ∧ Below w.heap.size w w') :
    Calls Tryz.prog 23 #[.string s, .int .i64 L] w fun e w' => e = .returned (answer (txtOf r.1) r.2.steps (errOf r.1)) ∧ Below w.heap.size w w' := by
  have HD : Hid (∀ w, Calls Tryz.prog 21 #[.string s] w fun e w' => ∃ a, e = .returned (.tuple #[.pointer a, .int .i64 0, .int .i64 0]) ∧ NodeAt w.heap.size w' t (.pointer a) ∧ Below w.heap.size w w') := hD
  have HE : Hid (ev L n (.need t []) ⟨[], 0⟩ = some r) := he
  have HI : Hid (RIn r.1) := hin
  have HN : Hid (∀ v, r.1 = .ok v → (∃ k, v = .num k) ∨ ∃ y e, v = .fn y e) := hnl
  have HT : Hid (Tidy 0 t) := ht
  clear hD he hin hnl ht
  have l1 : decide ((L : Int) < 0) = false := by simp
  have l2 : decide ((500 : Int) < L) = false := by simp; omega
  go_enter Tryz.func23, Tryz.ntmps23
  go_wp2_with fail
  refine (HD.out _).mono ?_
  rintro e w1 ⟨a, rfl, hn, hb⟩
  have hk1 := (hb.block w.heap.size (by simp)).trans (alloc_at w (.cells #[.string ⟨#[]⟩, .int .i64 0, .int .i64 0] 30 (0, 0)) _ rfl)
  have hB1 : Below w.heap.size w w1 := ((Below.refl _ w).alloc (Nat.le_refl _) _).trans (hb.mono (by simp))
  have hsz : w.heap.size + 1 ≤ w1.heap.size := by have := hb.size; rw [alloc_size] at this; exact this
  have hg := grown_alloc (grown_refl w1 none) (.cells #[.int .i64 0, .int .i64 L, .int .i64 0] 64 (0, 0))
  have hwb : WB (w1.alloc (.cells #[.int .i64 0, .int .i64 L, .int .i64 0] 64 (0, 0))) w1.heap.size ((0 : Nat) : Int) L 0 := alloc_at w1 _ _ rfl
  rw [alloc_size] at hn hb
  have hf0 : Fr 85 64 (w.heap.size + 1) w1 (w1.alloc (.cells #[.int .i64 0, .int .i64 L, .int .i64 0] 64 (0, 0))) := Fr.grown hsz hg
  have hRE : RE (w.heap.size + 1) (w1.alloc (.cells #[.int .i64 0, .int .i64 L, .int .i64 0] 64 (0, 0))) [] w1.heap.size L ⟨[], 0⟩ := ⟨hwb, rfl, (fun i c a h => by simp at h), (fun i j a h => by simp at h), (fun a h => by cases h), hsz, hL⟩
  have HG : Hid (Calls Tryz.prog 31 #[ptr w1.heap.size, .pointer a, nilp] (w1.alloc (.cells #[.int .i64 0, .int .i64 L, .int .i64 0] 64 (0, 0))) _) := (cn_all n).1 L t [] _ r (w.heap.size + 1) _ [] w1.heap.size _ _ HE.out hRE HT.out (NodeAt.fr hf0 _ _ hn) rfl
  have hk2 := keepB' hk1 hg
  have hB2 := hB1.grown hg hB1.size (by simp)
  clear hn hRE hwb hb
  go_wp2_with fail
  refine HG.out.mono ?_
  intro e w3 hG
  have hk3 := hG.1.keep _ _ 30 (by decide) (by decide) hk2
  have hB3 := hB2.trans (hG.1.below.mono (by omega))
  rcases hr : r.1 with v | z
  · obtain ⟨A', k', n', a1, a2, a3, a4, rfl, hk, hA, h1, hv⟩ := hG.v hr
    have hg3 := grown_alloc (grown_refl w3 none) (.cells #[.int .u8 k', .int .i64 n', .pointer a1, .pointer a2, .pointer a3, .pointer a4] 68 (0, 0))
    have h2 := h1.grown hg3
    have hk4 := keepB' hk3 hg3
    have hB4 := hB3.grown hg3 hB3.size (by simp)
    have HTX : Hid (Calls Tryz.prog 32 #[ptr w1.heap.size, rv k' n' (.pointer a1) (.pointer a2) (.pointer a3) (.pointer a4)] (w3.alloc (.cells #[.int .u8 k', .int .i64 n', .pointer a1, .pointer a2, .pointer a3, .pointer a4] 68 (0, 0))) fun e w' => e = .returned (.string (textOf v)) ∧ World.grownBy (w3.alloc (.cells #[.int .u8 k', .int .i64 n', .pointer a1, .pointer a2, .pointer a3, .pointer a4] 68 (0, 0))) w' none) := by
      have hI := HI.out
      rw [hr] at hI
      rcases HN.out v hr with ⟨k, rfl⟩ | ⟨y, e, rfl⟩
      · simp only [VR, rv, Value.agg.injEq] at hv
        simp at hv
        obtain ⟨rfl, rfl, rfl, rfl, rfl, rfl⟩ := hv
        exact rtext_num h2 n' hI
      · obtain ⟨_, p, q, hv, _⟩ := hv
        simp only [rv, Value.agg.injEq] at hv
        simp at hv
        obtain ⟨rfl, rfl, rfl, rfl, rfl, rfl⟩ := hv
        exact rtext_fn h2 _ a1 a2
    clear hv h1 hG hk
    go_wp2_with fail
    refine HTX.out.mono ?_
    rintro e w5 ⟨rfl, hg5⟩
    have h6 := h2.grown hg5
    have hk6 := keepB' hk4 hg5
    have hB6 := hB4.grown hg5 hB4.size (by simp)
    obtain ⟨c0, c1, c2, cf, clt⟩ := ans_cells hk6
    obtain ⟨e0, e1, e2, ef, elt⟩ := h6.walk.cells
    have hk7 := set3 hk6 (.string (textOf v)) (.int .i64 r.2.steps) (.int .i64 0)
    have hB7 := ((hB6.setCell (p := ⟨w.heap.size, 0, none⟩) (Nat.le_refl _) (.string (textOf v))).setCell (p := ⟨w.heap.size, 1, none⟩) (Nat.le_refl _) (.int .i64 r.2.steps)).setCell (p := ⟨w.heap.size, 2, none⟩) (Nat.le_refl _) (.int .i64 0)
    clear h2 h6 hk6 hk4 hB4 hB6
    go_wp2_with fail
    go_region
    all_goals
      go_wp2_with fail
      exact fin3 (t := 4) Tryz.results23 rfl rfl hk7 ⟨by rw [hr]; rfl, belowSame hB7 rfl rfl rfl rfl⟩
  · obtain ⟨k', n', a1, a2, a3, a4, rfl, hk, h1⟩ := hG.x hr
    have hg3 := grown_alloc (grown_refl w3 none) (.cells #[.int .u8 k', .int .i64 n', .pointer a1, .pointer a2, .pointer a3, .pointer a4] 68 (0, 0))
    have h2 := h1.grown hg3
    have hk4 := keepB' hk3 hg3
    have hB4 := hB3.grown hg3 hB3.size (by simp)
    clear h1 hG hk
    go_wp2_with fail
    refine (rtext_err h2 k' n' a1 a2 a3 a4).mono ?_
    rintro e w5 ⟨rfl, hg5⟩
    have h6 := h2.grown hg5
    have hk6 := keepB' hk4 hg5
    have hB6 := hB4.grown hg5 hB4.size (by simp)
    obtain ⟨c0, c1, c2, cf, clt⟩ := ans_cells hk6
    obtain ⟨e0, e1, e2, ef, elt⟩ := h6.walk.cells
    have hz0 : (z == 0) = false := by simpa using h6.ne
    have hz1 : (z != 0) = true := by simp [bne, hz0]
    have hk7 := set3 hk6 (.string ⟨#[]⟩) (.int .i64 r.2.steps) (.int .i64 z)
    have hB7 := ((hB6.setCell (p := ⟨w.heap.size, 0, none⟩) (Nat.le_refl _) (.string ⟨#[]⟩)).setCell (p := ⟨w.heap.size, 1, none⟩) (Nat.le_refl _) (.int .i64 r.2.steps)).setCell (p := ⟨w.heap.size, 2, none⟩) (Nat.le_refl _) (.int .i64 z)
    clear h2 h6 hk6 hk4 hB4 hB6
    go_wp2_with fail
    go_region
    all_goals
      go_wp2_with fail
      exact fin3 (t := 4) Tryz.results23 rfl rfl hk7 ⟨by rw [hr]; rfl, belowSame hB7 rfl rfl rfl rfl⟩
end Go.Proofs.YtdpbclnpmkhooaaGreatDoor

namespace Go.Proofs.YtdpbclnpmkhooaaGreatDoor
open Go Go.Proofs Go.RowKit Skein

theorem lw_len : lw.length = 5 := rfl
theorem lw_pos {x : ByteArray} (h : x ∈ lw) : 1 ≤ x.size ∧ x.size ≤ 4 := by
  simp only [lw, List.mem_cons, List.not_mem_nil, or_false] at h
  rcases h with rfl | rfl | rfl | rfl | rfl <;> decide
def Free (s : ByteArray) (i : Nat) (x : ByteArray) : Prop := i + x.size ≤ s.size → s.extract i (i + x.size) ≠ x
def lwCells : Array Value := #[.string ⟨#[91]⟩, .string ⟨#[58]⟩, .string ⟨#[104, 101, 97, 100]⟩, .string ⟨#[116, 97, 105, 108]⟩, .string ⟨#[110, 117, 108, 108]⟩]
theorem lw_cells {w : World} {g : Nat} (h : w.heap[g]? = some (.cells lwCells 9 (0, 0))) (k : Nat) (hk : k < lw.length) : w.cell? ⟨g, k, none⟩ = some (.string lw[k]) := by
  have hk' : k < 5 := hk
  have : k = 0 ∨ k = 1 ∨ k = 2 ∨ k = 3 ∨ k = 4 := by omega
  rcases this with rfl | rfl | rfl | rfl | rfl <;> simp [World.cell?, h, lwCells, lw]

set_option maxRecDepth 100000 in
set_option maxHeartbeats 4000000 in
theorem lists_ok (s : ByteArray) (hs : s.size ≤ 9223372036854775807) (w : World) :
    Calls Tryz.prog 13 #[.string s] w fun e w' => ∃ b, e = .returned (.bool b) ∧ (b = false → NoSub s) ∧ w.grownBy w' none := by
  have hg0 := grown_alloc (grown_refl w none) (.cells lwCells 9 (0, 0))
  have hx0 := alloc_at w (.cells lwCells 9 (0, 0)) _ rfl
  go_enter Tryz.func13, Tryz.ntmps13
  go_wp2_with fail
  generalize hW : w.alloc (.cells #[.string ⟨#[91]⟩, .string ⟨#[58]⟩, .string ⟨#[104, 101, 97, 100]⟩, .string ⟨#[116, 97, 105, 108]⟩, .string ⟨#[110, 117, 108, 108]⟩] 9 (0, 0)) = W
  have hg : World.grownBy w W none := by rw [← hW]; exact hg0
  have hx : W.heap[w.heap.size]? = some (.cells lwCells 9 (0, 0)) := by rw [← hW]; exact hx0
  clear hW hg0 hx0
  go_loopw [4] (fun v wr => ∃ i : Nat, i ≤ s.size ∧ v = .int .i64 i ∧ Hid (∀ a, a < i → ∀ x ∈ lw, Free s a x) ∧ ∃ nd, wr = W.drewN nd) (fun v _ => s.size - (intOf v).toNat)
  case atStart => exact ⟨0, Nat.zero_le _, rfl, fun a h => by omega, 0, rfl⟩
  case round =>
    obtain ⟨i, hi, rfl, H, nd, rfl⟩ := hrel
    by_cases hlt : i < s.size
    · have d1 : decide ((i : Int) < s.size) = true := by simp; omega
      go_wp2_with fail
      go_loopw [5] (fun v wr => ∃ k : Nat, k ≤ 5 ∧ v = .int .i64 k ∧ Hid (∀ j (h : j < lw.length), j < k → Free s i lw[j]) ∧ ∃ nd, wr = W.drewN nd) (fun v _ => 5 - (intOf v).toNat)
      case atStart => exact ⟨0, Nat.zero_le _, rfl, fun j _ h => by omega, _, rfl⟩
      case round =>
        obtain ⟨k, hk, rfl, H2, nd2, rfl⟩ := hrel
        by_cases hk5 : k < 5
        · have hkl : k < lw.length := hk5
          have hck := lw_cells (w := W) hx k hkl
          have hcd : (W.drewN nd2).cell? ⟨w.heap.size, k, none⟩ = some (.string lw[k]) := hck
          have hsz := lw_pos (List.getElem_mem hkl)
          have hk6 : (k : Int) < 5 := by omega
          generalize hx' : lw[k] = x at hck hcd hsz
          have HX : Hid (lw[k] = x) := hx'
          clear hx'
          have fin : Free s i x → Hid (∀ j (h : j < lw.length), j < k + 1 → Free s i lw[j]) := fun hfr j h hj => by
            by_cases e : j = k
            · subst e; rw [HX.out]; exact hfr
            · exact H2.out j h (by omega)
          by_cases hfit : i + x.size ≤ s.size
          · have d2 : decide ((x.size : Int) ≤ (s.size : Int) - (i : Int)) = true := by simp; omega
            cases heq : eqb (s.extract i (i + x.size)) x
            · have hq : ((s.extract i (i + x.size)).toList == x.toList) = false := by rw [eqb_walk, heq]
              have hF := fin (fun _ => eqb_ne.1 heq)
              clear fin heq
              go_wp2_with fail
              go_quiet (fail)
              go_wp2_with fail
              exact ⟨⟨k + 1, by omega, by go_num, hF, _, rfl⟩, by simp [intOf]; omega⟩
            · have hq : ((s.extract i (i + x.size)).toList == x.toList) = true := by rw [eqb_walk, heq]
              clear fin heq
              go_wp2_with fail
              go_quiet (fail)
              go_wp2_with fail
              go_ret
              exact ⟨true, rfl, by simp, grown_drewN (grown_drewN hg _) _⟩
          · have d2 : decide ((x.size : Int) ≤ (s.size : Int) - (i : Int)) = false := by simp; omega
            have hF := fin (fun h => absurd h hfit)
            clear fin
            go_wp2_with fail
            go_quiet (fail)
            go_wp2_with fail
            exact ⟨⟨k + 1, by omega, by go_num, hF, _, rfl⟩, by simp [intOf]; omega⟩
        · go_wp2_with fail
          refine ⟨⟨i + 1, by omega, by go_num, fun a ha x hxm => ?_, _, rfl⟩, by simp [intOf]; omega⟩
          by_cases e : a = i
          · subst e
            obtain ⟨j, hj, rfl⟩ := List.mem_iff_getElem.1 hxm
            exact H2.out j hj (by have : j < 5 := hj; omega)
          · exact H.out a (by omega) x hxm
    · go_wp2_with fail
      go_ret
      refine ⟨false, rfl, fun _ a x hx hsz => ?_, grown_drewN hg _⟩
      have := (lw_pos hx).1
      exact H.out a (by omega) x hx hsz

theorem ans3 {w : World} {k : Nat} {x y z : Value} (h : w.heap[k]? = some (.cells #[x, y, z] 30 (0, 0))) : w.cell? ⟨k, 0, none⟩ = some x ∧ w.cell? ⟨k, 1, none⟩ = some y ∧ w.cell? ⟨k, 2, none⟩ = some z :=
  ⟨(ans_cells h).1, (ans_cells h).2.1, (ans_cells h).2.2.1⟩

set_option maxRecDepth 100000 in
set_option maxHeartbeats 4000000 in
theorem evaled_of (s : ByteArray) (lim : Int) (w : World) (ht : Tab w) (a : ByteArray) (n z : Int)
    (hC : ∀ w, Tab w → Calls Tryz.prog 15 #[.string s, .int .i64 lim] w fun e w' => e = .returned (answer a n z) ∧ Below w.heap.size w w')
    (hD : ∀ w, Calls Tryz.prog 23 #[.string s, .int .i64 lim] w fun e w' => e = .returned (answer a n z) ∧ Below w.heap.size w w') :
    Calls Tryz.prog 12 #[.string s, .int .i64 lim] w fun e w' => e = .returned (.bool true) ∧ Below w.heap.size w w' := by
  have HC : Hid (∀ w, Tab w → Calls Tryz.prog 15 #[.string s, .int .i64 lim] w fun e w' => e = .returned (.agg #[.string a, .int .i64 n, .int .i64 z]) ∧ Below w.heap.size w w') := hC
  have HD : Hid (∀ w, Calls Tryz.prog 23 #[.string s, .int .i64 lim] w fun e w' => e = .returned (.agg #[.string a, .int .i64 n, .int .i64 z]) ∧ Below w.heap.size w w') := hD
  have HT : Hid (Tab w) := ht
  clear hC hD ht
  go_enter Tryz.func12, Tryz.ntmps12
  go_wp2_with fail
  refine (HC.out _ HT.out).mono ?_
  rintro e w1 ⟨rfl, hb1⟩
  have hg1 := grown_alloc (grown_refl w1 none) (.cells #[.string a, .int .i64 n, .int .i64 z] 30 (0, 0))
  have hx1 := alloc_at w1 (.cells #[.string a, .int .i64 n, .int .i64 z] 30 (0, 0)) _ rfl
  have hB1 := hb1.grown hg1 hb1.size (by simp)
  go_wp2_with fail
  refine (HD.out _).mono ?_
  rintro e w2 ⟨rfl, hb2⟩
  have hx2 := (hb2.block w1.heap.size (heap_lt hx1)).trans hx1
  have hB2 := hB1.trans (hb2.mono hB1.size)
  have hg3 := grown_alloc (grown_refl w2 none) (.cells #[.string a, .int .i64 n, .int .i64 z] 30 (0, 0))
  have hx3 := alloc_at w2 (.cells #[.string a, .int .i64 n, .int .i64 z] 30 (0, 0)) _ rfl
  have hx4 := keepB' hx2 hg3
  have hB3 := hB2.grown hg3 hB2.size (by simp)
  obtain ⟨c0, c1, c2⟩ := ans3 hx4
  obtain ⟨d0, d1, d2⟩ := ans3 hx3
  have q0 : (a.toList == a.toList) = true := by simp
  clear hx1 hx2 hx3 hx4
  go_wp2_with fail
  go_ret
  exact ⟨rfl, hB3⟩
end Go.Proofs.YtdpbclnpmkhooaaGreatDoor

namespace Go.Proofs.YtdpbclnpmkhooaaGreatDoor
open Go Go.Proofs Go.RowKit Skein

theorem finish_zero {m : M} (hf : (finish m).1 = 0) : finish m = (0, 0) := by
  unfold finish at hf ⊢
  split at hf
  · simp at hf
  · rename_i h1
    rw [if_neg h1]
    split at hf
    · simp at hf
    · rename_i h2
      rw [if_neg h2]
      split at hf
      · simp at hf
      · rename_i h3; rw [if_neg h3]

theorem evaled_ok (s : ByteArray) (lim : Int) (hN : NoSub s) (w : World) (ht : Tab w) : Calls Tryz.prog 12 #[.string s, .int .i64 lim] w fun e w' => e = .returned (.bool true) ∧ Below w.heap.size w w' := by
  by_cases hl : s.size ≤ 300
  · obtain ⟨t, m, hP⟩ := PM_ends s
    by_cases hf : (finish m).1 = 0
    · have hf0 := finish_zero hf
      obtain ⟨hc, hz⟩ := whole_good hl hP hf0
      have hok : Ok2 0 t := PM_ok2 s (noTok_of hN) _ _ _ _ hP (Inv.start s) trivial
      have htd : Tidy 0 t := tidy_of t 0 hc hok
      have hdp : dep t ≤ 1000 := by have := dep_le t; omega
      have hR : ∀ w, Calls Tryz.prog 25 #[.string s] w (RPost w t (0, 0)) := fun w => by rw [← hf0]; exact pread s w hl _ t m hP
      have hD : ∀ w, Calls Tryz.prog 21 #[.string s] w fun e w' => ∃ a, e = .returned (.tuple #[.pointer a, .int .i64 0, .int .i64 0]) ∧ NodeAt w.heap.size w' t (.pointer a) ∧ Below w.heap.size w w' := fun w => by
        refine (parse_ok s w hl _ t m hP).mono ?_
        rintro e w' ⟨v, he, hn, ⟨a, rfl⟩, hb⟩
        rw [hf0] at he hn
        exact ⟨a, he, hn rfl, hb⟩
      by_cases hlim : lim < 0 ∨ 500 < lim
      · exact evaled_of s lim w ht ⟨#[]⟩ 0 4 (fun w _ => peval_lim s lim w t hlim hR) (fun w => reval_lim s lim w hlim fun w => (hD w).mono fun e w' ⟨a, h1, _, h2⟩ => ⟨a, h1, h2⟩)
      · obtain ⟨L, rfl⟩ : ∃ L : Nat, lim = L := ⟨lim.toNat, by omega⟩
        have hL : L ≤ 500 := by omega
        obtain ⟨n, r, he, hro⟩ := ev_whole L t htd
        have hin := (ev_in L n _ _ _ he (by intro c h; cases h) (small_of t hc)).2
        have hnl := (ev_nl L n _ _ _ he (by intro c h; cases h) (nls_of t 0 htd)).2
        refine evaled_of s L w ht (txtOf r.1) r.2.steps (errOf r.1) (fun w ht => peval_ok s L w t hL _ _ _ ht hR fun w ht => preckE t htd hdp he hin w hL ht) (fun w => reval_ok s w t htd he hin hL (fun v hv => ?_) hD)
        rw [hv] at hnl
        cases v with
        | num k => exact .inl ⟨k, rfl⟩
        | fn y e => exact .inr ⟨y, e, rfl⟩
        | nil => exact hnl.elim
        | cons i j => exact hnl.elim
    · refine evaled_of s lim w ht ⟨#[]⟩ 0 (finish m).1 (fun w _ => peval_err s lim w t (finish m) hf fun w => pread s w hl _ t m hP) (fun w => reval_err s lim w (finish m).1 (finish m).2 hf fun w => ?_)
      refine (parse_ok s w hl _ t m hP).mono ?_
      rintro e w' ⟨v, he, -, ⟨a, rfl⟩, hb⟩
      exact ⟨a, he, hb⟩
  · have hs : 300 < s.size := by omega
    refine evaled_of s lim w ht ⟨#[]⟩ 0 1 (fun w _ => peval_err s lim w .nil (1, 0) (by decide) fun w => pread_long s w hs .nil) (fun w => reval_err s lim w 1 0 (by decide) fun w => ?_)
    refine (parse_long s w hs).mono ?_
    rintro e w' ⟨rfl, rfl⟩
    exact ⟨none, rfl, Below.refl _ _⟩

/-- A closed look whether a text speaks of lists. -/
def speaks (s : ByteArray) : Bool := (List.range s.size).any fun a => lw.any fun x => decide (a + x.size ≤ s.size) && eqb (s.extract a (a + x.size)) x
theorem noSub_of {s : ByteArray} (h : speaks s = false) : NoSub s := by
  intro a x hx hs e
  have hp := (lw_pos hx).1
  have h1 : ((List.range s.size).any fun a => lw.any fun x => decide (a + x.size ≤ s.size) && eqb (s.extract a (a + x.size)) x) = true := by
    rw [List.any_eq_true]
    refine ⟨a, List.mem_range.2 (by omega), ?_⟩
    rw [List.any_eq_true]
    refine ⟨x, hx, ?_⟩
    rw [Bool.and_eq_true]
    exact ⟨by simpa using hs, eqb_iff.2 e⟩
  unfold speaks at h
  rw [h1] at h
  cases h

def known5 : ByteArray := ⟨#[108, 101, 116, 32, 102, 32, 61, 32, 92, 110, 46, 32, 105, 102, 32, 110, 32, 116, 104, 101, 110, 32, 110, 32, 42, 32, 102, 32, 40, 110, 32, 45, 32, 49, 41, 32, 101, 108, 115, 101, 32, 49, 32, 105, 110, 32, 102, 32, 53]⟩
theorem known5_ok : speaks known5 = false := by decide +kernel

set_option maxRecDepth 100000 in
set_option maxHeartbeats 4000000 in
theorem evals_ok (s : ByteArray) (hs : s.size ≤ 9223372036854775807) (lim : Int) (w : World) (ht : Tab w) : Calls Tryz.prog 5 #[.string s, .int .i64 lim] w fun e w' => e = .returned (.bool true) ∧ Below w.heap.size w w' := by
  have HK : Hid (Calls Tryz.prog 12 #[.string known5, .int .i64 6] w fun e w' => e = .returned (.bool true) ∧ Below w.heap.size w w') := evaled_ok known5 6 (noSub_of known5_ok) w ht
  have HT : Hid (Tab w) := ht
  have h3 := ht.lt
  clear ht
  go_enter Tryz.func5, Tryz.ntmps5
  go_wp2_with fail
  refine HK.out.mono ?_
  rintro e w1 ⟨rfl, hb1⟩
  have hT1 : Hid (Tab w1) := HT.out.below hb1 h3
  go_wp2_with fail
  refine (lists_ok s hs _).mono ?_
  rintro e w2 ⟨b, rfl, hb, hg2⟩
  have hB2 := hb1.grown hg2 hb1.size (by simp)
  have hT2 : Hid (Tab w2) := hT1.out.grown hg2
  cases b
  · have HE : Hid (Calls Tryz.prog 12 #[.string s, .int .i64 lim] w2 fun e w' => e = .returned (.bool true) ∧ Below w2.heap.size w2 w') := evaled_ok s lim (hb rfl) w2 hT2.out
    clear hb
    go_wp2_with fail
    refine HE.out.mono ?_
    rintro e w3 ⟨rfl, hb3⟩
    have hB3 := hB2.trans (hb3.mono hB2.size)
    go_wp2_with fail
    go_ret
    exact ⟨rfl, hB3⟩
  · clear hb
    go_wp2_with fail
    go_ret
    exact ⟨rfl, hB2⟩
end Go.Proofs.YtdpbclnpmkhooaaGreatDoor
