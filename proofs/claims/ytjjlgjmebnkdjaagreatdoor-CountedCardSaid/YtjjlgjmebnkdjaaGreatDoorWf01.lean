/-
  Limited: with as many steps as it takes it is the same, with fewer it is out of steps.
-/
import Derived.Test.YtjjlgjmebnkdjaaGreatDoorWf00
namespace Go.Proofs.YtjjlgjmebnkdjaaGreatDoor
open Go Go.Proofs Go.RowKit Skein

def knownI : ByteArray := ⟨#[40, 92, 120, 46, 32, 120, 41, 32, 51]⟩
def knownIp : List Pc := [.mark 40, .mark 92, .word [120], .mark 46, .blank 32, .word [120], .mark 41, .blank 32, .num [51]]
theorem numT_small (n : Nat) (h : n < 10) : numT n = ⟨#[UInt8.ofNat (48 + n)]⟩ := by
  rw [numT_in (by unfold Skein.Int64; omega)]
  unfold sdig
  rw [Lib.itoa_nonneg, Lib.decDigits, dif_pos h]
theorem knownI_runs : Runs 1 (.app (.fn 0 (.var 0)) (.num 3)) (.ok ⟨#[51]⟩) 1 := by
  refine ⟨10, _, rfl, .inr ⟨.num 3, 1, _, rfl, rfl, ?_, rfl⟩⟩
  show Except.ok _ = Except.ok (numT 3)
  rw [show (3 : Int) = ((3 : Nat) : Int) from rfl, numT_small 3 (by omega)]; rfl
theorem knownI_ok (w : World) (ht : Tab w) : Calls Tryz.prog 20 #[.string knownI, .int .i64 1] w fun e w' => e = .returned (.agg #[.string ⟨#[51]⟩, .int .i64 1, .int .i64 0]) ∧ Below w.heap.size w w' := by
  obtain ⟨m, h1, h2⟩ := whole_of (s := knownI) (l := knownIp) (n := 20) (t := .app (.fn 0 (.var 0)) (.num 3)) (by rfl) (by rfl) (by rfl)
  exact pev_ok (L := 1) (by decide) h1 h2 (by decide) knownI_runs w ht

/-- What the two answers are. -/
theorem lim_cases (s : ByteArray) (n : Nat) (hn : n ≤ 500) : ∃ e x a ka ea b kb eb, (∀ w, Calls Tryz.prog 25 #[.string s] w fun r w' => r = .returned (.tuple #[.int .i64 e, .int .i64 x]) ∧ Below w.heap.size w w') ∧
    (∀ w, Tab w → Calls Tryz.prog 20 #[.string s, .int .i64 500] w fun r w' => r = .returned (.agg #[.string a, .int .i64 ka, .int .i64 ea]) ∧ Below w.heap.size w w') ∧
    (∀ w, Tab w → Calls Tryz.prog 20 #[.string s, .int .i64 n] w fun r w' => r = .returned (.agg #[.string b, .int .i64 kb, .int .i64 eb]) ∧ Below w.heap.size w w') ∧
    ((e ≠ 0 ∧ ea = e ∧ eb = e ∧ ka = 0 ∧ a = ⟨#[]⟩) ∨
     (e = 0 ∧ 0 ≤ ka ∧ ka ≤ 500 ∧ (ea = 8 → ka = 500) ∧ (ea ≠ 0 → a = ⟨#[]⟩) ∧ (((n : Int) < ka ∧ eb = 8 ∧ kb = n ∧ b = ⟨#[]⟩) ∨ (ka ≤ n ∧ eb = ea ∧ kb = ka ∧ b = a)))) := by
  by_cases hl : s.size ≤ 300
  · obtain ⟨t, m, hP⟩ := PM_ends s
    have hC := fun w => pcheck_of s w t (finish m) fun w => pread s w hl _ t m hP
    by_cases hf : (finish m).1 = 0
    · have hf0 := finish_zero hf
      obtain ⟨htd, hsm, hdp⟩ := whole_tree hl hP hf0
      obtain ⟨a, k, hRun⟩ := runs_ex 500 t htd
      have hks := runs_steps hRun
      have x1 : errA a = 8 → (k : Int) = 500 := fun e => by
        cases a with
        | ok s => cases e
        | error z => have e' : z = 8 := e
                     subst e'
                     have := hks.2 rfl; omega
      have x2 : errA a ≠ 0 → txtA a = ⟨#[]⟩ := fun e => by
        cases a with
        | ok s => exact absurd rfl e
        | error z => rfl
      rcases runs_le hn hRun with ⟨h1, h2⟩ | ⟨h1, h2⟩
      · exact ⟨(finish m).1, (finish m).2, txtA a, k, errA a, txtA a, k, errA a, hC, fun w ht => pev_ok (L := 500) hl hP hf0 (Nat.le_refl _) hRun w ht, fun w ht => pev_ok hl hP hf0 hn h2 w ht, .inr ⟨hf, by omega, by omega, x1, x2, .inr ⟨by omega, rfl, rfl, rfl⟩⟩⟩
      · exact ⟨(finish m).1, (finish m).2, txtA a, k, errA a, ⟨#[]⟩, n, 8, hC, fun w ht => pev_ok (L := 500) hl hP hf0 (Nat.le_refl _) hRun w ht, fun w ht => pev_ok hl hP hf0 hn h2 w ht, .inr ⟨hf, by omega, by omega, x1, x2, .inl ⟨by omega, rfl, rfl, rfl⟩⟩⟩
    · exact ⟨(finish m).1, (finish m).2, ⟨#[]⟩, 0, (finish m).1, ⟨#[]⟩, 0, (finish m).1, hC, fun w _ => pev_err hl hP hf _ w, fun w _ => pev_err hl hP hf _ w, .inl ⟨hf, rfl, rfl, rfl, rfl⟩⟩
  · have hs : 300 < s.size := by omega
    exact ⟨1, 0, ⟨#[]⟩, 0, 1, ⟨#[]⟩, 0, 1, fun w => pcheck_of s w .nil (1, 0) fun w => pread_long s w hs .nil, fun w _ => pev_long hs _ w, fun w _ => pev_long hs _ w, .inl ⟨by decide, rfl, rfl, rfl, rfl⟩⟩

def pickN (c : Int) (n : Nat) : Nat := if c < 0 then (-(c + 1)).toNat % n else c.toNat % n
set_option maxRecDepth 100000 in
set_option maxHeartbeats 1000000 in
theorem pick_is (c : Int) (hc : Skein.Int64 c) (n : Nat) (h0 : 0 < n) (h1 : n ≤ 1099511627776) (w : World) : Calls Tryz.prog 24 #[.int .i64 c, .int .i64 n] w fun e w' => e = .returned (.int .i64 (pickN c n)) ∧ w' = w := by
  obtain ⟨c1, c2⟩ := hc
  have hn0 : ((n : Int) == 0) = false := by simp; omega
  by_cases hneg : c < 0
  · have hd : decide (c < 0) = true := by simpa using hneg
    obtain ⟨d, hdd⟩ : ∃ d : Nat, c + 1 = -(d : Int) := ⟨(-(c + 1)).toNat, by omega⟩
    have HP : Hid (pickN c n = d % n) := by
      unfold Hid pickN; rw [if_pos hneg, hdd]; simp
    have HD : Hid (c + 1 = -(d : Int)) := hdd
    clear hdd
    go_enter Tryz.func24, Tryz.ntmps24
    go_wp2_with fail
    go_ret
    refine ⟨ret_int ?_, rfl⟩
    rw [HP.out, HD.out, Int.neg_tmod, Int.neg_neg, Int.tmod_eq_emod_of_nonneg (by omega)]; norm_cast
  · have hd : decide (c < 0) = false := by simpa using hneg
    obtain ⟨d, rfl⟩ := Int.eq_ofNat_of_zero_le (Int.not_lt.1 hneg)
    have HP : Hid (pickN d n = d % n) := by
      unfold Hid pickN; rw [if_neg hneg]; simp
    go_enter Tryz.func24, Tryz.ntmps24
    go_wp2_with fail
    go_ret
    refine ⟨ret_int ?_, rfl⟩
    rw [HP.out]; norm_cast

set_option maxRecDepth 100000 in
set_option maxHeartbeats 8000000 in
theorem limited_ok (s : ByteArray) (lim : Int) (hlim : Skein.Int64 lim) (w : World) (ht : Tab w) : Calls Tryz.prog 11 #[.string s, .int .i64 lim] w fun e w' => e = .returned (.bool true) ∧ Below w.heap.size w w' := by
  have HK : Hid (∀ w, Tab w → Calls Tryz.prog 20 #[.string ⟨#[40, 92, 120, 46, 32, 120, 41, 32, 51]⟩, .int .i64 1] w fun e w' => e = .returned (.agg #[.string ⟨#[51]⟩, .int .i64 1, .int .i64 0]) ∧ Below w.heap.size w w') := knownI_ok
  have HT : Hid (∀ w', Below w.heap.size w w' → Tab w') := fun w' hb => ht.belowB hb ht.lt
  have HP : Hid (∀ w, Calls Tryz.prog 24 #[.int .i64 lim, .int .i64 501] w fun e w' => e = .returned (.int .i64 (pickN lim 501)) ∧ w' = w) := fun w => pick_is lim hlim 501 (by decide) (by decide) w
  have hpk : pickN lim 501 ≤ 500 := by
    unfold pickN
    split <;> omega
  obtain ⟨e, x, a, ka, ea, b, kb, eb, hC, hA, hB, hcase⟩ := lim_cases s _ hpk
  generalize pickN lim 501 = n at HP hpk hB hcase
  have HC : Hid (∀ w, Calls Tryz.prog 25 #[.string s] w fun r w' => r = .returned (.tuple #[.int .i64 e, .int .i64 x]) ∧ Below w.heap.size w w') := hC
  have HA : Hid (∀ w, Tab w → Calls Tryz.prog 20 #[.string s, .int .i64 500] w fun r w' => r = .returned (.agg #[.string a, .int .i64 ka, .int .i64 ea]) ∧ Below w.heap.size w w') := hA
  have HB : Hid (∀ w, Tab w → Calls Tryz.prog 20 #[.string s, .int .i64 n] w fun r w' => r = .returned (.agg #[.string b, .int .i64 kb, .int .i64 eb]) ∧ Below w.heap.size w w') := hB
  have HCS : Hid (_ ∨ _) := hcase
  clear ht hlim hC hA hB hcase
  go_enter Tryz.func11, Tryz.ntmps11
  go_wp2_with fail
  refine (HK.out _ (HT.out _ (Below.refl _ _))).mono ?_
  rintro e0 w1 ⟨rfl, hb1⟩
  have q0 : ((⟨#[51]⟩ : ByteArray).toList == (⟨#[51]⟩ : ByteArray).toList) = true := by simp
  have q1 : ((⟨#[51]⟩ : ByteArray).toList != (⟨#[51]⟩ : ByteArray).toList) = false := by simp
  have hg1 := grown_alloc (grown_refl w1 none) (.cells #[.string ⟨#[51]⟩, .int .i64 1, .int .i64 0] 30 (0, 0))
  have hB1 := hb1.grown hg1 hb1.size (by simp)
  clear hb1 hg1
  go_wp2_with fail
  refine (HA.out _ (HT.out _ hB1)).mono ?_
  rintro e0 w2 ⟨rfl, hb2⟩
  have hB2 := hB1.trans (hb2.mono hB1.size)
  have hg2 := grown_alloc (grown_refl w2 none) (.cells #[.string a, .int .i64 ka, .int .i64 ea] 30 (0, 0))
  have hxa := alloc_at w2 (.cells #[.string a, .int .i64 ka, .int .i64 ea] 30 (0, 0)) _ rfl
  have hB2' := hB2.grown hg2 hB2.size (by simp)
  clear hb2 hB1 hg2 q0 q1
  go_wp2_with fail
  refine (HP.out _).mono ?_
  rintro e0 w3 ⟨rfl, rfl⟩
  go_wp2_with fail
  refine (HB.out _ (HT.out _ hB2')).mono ?_
  rintro e0 w4 ⟨rfl, hb4⟩
  have hxa4 := (hb4.block w2.heap.size (heap_lt hxa)).trans hxa
  have hB4 := hB2'.trans (hb4.mono hB2'.size)
  have hg4 := grown_alloc (grown_refl w4 none) (.cells #[.string b, .int .i64 kb, .int .i64 eb] 30 (0, 0))
  have hxb := alloc_at w4 (.cells #[.string b, .int .i64 kb, .int .i64 eb] 30 (0, 0)) _ rfl
  have hxa5 := keepB' hxa4 hg4
  have hB5 := hB4.grown hg4 hB4.size (by simp)
  clear hxa hxa4 hb4 hg4 hB4 hB2' hB2
  go_wp2_with fail
  refine (HC.out _).mono ?_
  rintro e0 w6 ⟨rfl, hb6⟩
  have ya := (hb6.block w2.heap.size (heap_lt hxa5)).trans hxa5
  have yb := (hb6.block w4.heap.size (heap_lt hxb)).trans hxb
  have hB6 := hB5.trans (hb6.mono hB5.size)
  obtain ⟨a0, a1, a2⟩ := ans3 ya
  obtain ⟨b0, b1, b2⟩ := ans3 yb
  clear hxa5 hxb hb6 ya yb hB5
  have q2 : ((⟨#[]⟩ : ByteArray).toList == (⟨#[]⟩ : ByteArray).toList) = true := by simp
  have q3 : ((⟨#[]⟩ : ByteArray).toList != (⟨#[]⟩ : ByteArray).toList) = false := by simp
  rcases HCS.out with ⟨c1, rfl, rfl, rfl, rfl⟩ | ⟨rfl, c1, c2, c3, c4, c5⟩
  · have d1 : (eb == 0) = false := by simpa using c1
    have d2 : (eb != 0) = true := by simp [bne, d1]
    clear HCS c1
    go_wp2_with fail
    go_ret
    exact ⟨rfl, hB6⟩
  · have d1 : decide (ka < 0) = false := by simp; omega
    have d2 : decide (500 < ka) = false := by simp; omega
    clear HCS
    have H4 : Hid (ea ≠ 0 → a = ⟨#[]⟩) := c4
    have H5 : Hid (_ ∨ _) := c5
    have hcond : (ea = 0 ∧ (ea == 8) = false ∧ (ea != 0) = false) ∨ (ea = 8 ∧ ka = 500 ∧ a = ⟨#[]⟩) ∨ ((ea == 8) = false ∧ (ea != 0) = true ∧ a = ⟨#[]⟩) := by
      by_cases h0 : ea = 0
      · subst h0; exact .inl ⟨rfl, rfl, rfl⟩
      · by_cases h8 : ea = 8
        · exact .inr (.inl ⟨h8, c3 h8, c4 h0⟩)
        · exact .inr (.inr ⟨by simpa using h8, by simpa [bne] using h0, c4 h0⟩)
    clear c3 c4 c5
    have q4 : (a.toList == a.toList) = true := by simp
    have q5 : (ka == ka) = true := by simp
    have q6 : (ea == ea) = true := by simp
    rcases hcond with ⟨rfl, h1, h2⟩ | ⟨rfl, rfl, rfl⟩ | ⟨h1, h2, rfl⟩
    all_goals
      rcases H5.out with ⟨d3, rfl, rfl, rfl⟩ | ⟨d3, rfl, rfl, rfl⟩
      · clear H5 H4
        have d4 : decide ((n : Int) < _) = true := decide_eq_true d3
        have q7 : ((n : Int) == n) = true := by simp
        go_wp2_with fail
        go_ret
        exact ⟨rfl, hB6⟩
      · clear H5 H4
        have d4 : decide ((n : Int) < _) = false := decide_eq_false (Int.not_lt.2 d3)
        go_wp2_with fail
        go_ret
        exact ⟨rfl, hB6⟩
end Go.Proofs.YtjjlgjmebnkdjaaGreatDoor
