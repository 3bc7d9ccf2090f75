/-
  Limited: with as many steps as it takes it is the same, with fewer it is out of steps.
  A text that stands within another: its signs (for Laid).
  The reader over signs, put together; the plain form of an expression is read as the expression (for Renamed).
  The plain form of an expression is read as the expression (for Renamed).
  'expression' of skeinkeep: what it makes (for Reckoned, Idle, Once).
  Texts with an expression of numbers in some places: how they are read, and what they come to (for Reckoned, Idle, Once).
  What is needed, in big steps: how what an expression comes to is put together.
  What is needed is reckoned once (for Once): what the three texts come to.
  The program's Eval on texts with an expression of numbers in some places (for Reckoned, Idle, Once).
  The three texts of Once, and what the program says of them.
-/
import Derived.Test.YtjjlgjmebnkdjaaGreatDoorWf00
import Derived.Test.YtjjlgjmebnkdjaaGreatDoorWc06
import Derived.Test.YtjjlgjmebnkdjaaGreatDoorWc00
import Derived.Test.YtjjlgjmebnkdjaaGreatDoorWc07
import Derived.KernelRfl
namespace Go.Proofs.YtjjlgjmebnkdjaaGreatDoor
open Go Go.Proofs Go.RowKit Skein

def knownI : ByteArray := ⟨#[40, 92, 120, 46, 32, 120, 41, 32, 51]⟩
def knownIp : List Pc := [.mark 40, .mark 92, .word [120], .mark 46, .blank 32, .word [120], .mark 41, .blank 32, .num [51]]
theorem numT_small (n : Nat) (h : n < 10) : numT n = ⟨#[UInt8.ofNat (48 + n)]⟩ := by
  rw [numT_in (by unfold Skein.Int64; omega)]
  unfold sdig
  rw [Lib.itoa_nonneg, Lib.decDigits, dif_pos h]
theorem knownI_runs : Runs 1 (.app (.fn 0 (.var 0)) (.num 3)) (.ok ⟨#[51]⟩) 1 := by
  refine ⟨10, _, rfl, .inr ⟨.num 3, 1, _, rfl, rfl, ?_, rfl⟩⟩
  show Except.ok _ = Except.ok (numT 3)
  rw [show (3 : Int) = ((3 : Nat) : Int) from rfl, numT_small 3 (by omega)]; rfl
theorem knownI_ok (w : World) (ht : Tab w) : Calls Tryz.prog 20 #[.string knownI, .int .i64 1] w fun e w' => e = .returned (.agg #[.string ⟨#[51]⟩, .int .i64 1, .int .i64 0]) ∧ Below w.heap.size w w' := by
  obtain ⟨m, h1, h2⟩ := whole_of (s := knownI) (l := knownIp) (n := 20) (t := .app (.fn 0 (.var 0)) (.num 3)) (by rfl) (by rfl) (by rfl)
  exact pev_ok (L := 1) (by decide) h1 h2 (by decide) knownI_runs w ht

/-- What the two answers are. -/
theorem lim_cases (s : ByteArray) (n : Nat) (hn : n ≤ 500) : ∃ e x a ka ea b kb eb, (∀ w, Calls Tryz.prog 25 #[.string s] w fun r w' => r = .returned (.tuple #[.int .i64 e, .int .i64 x]) ∧ Below w.heap.size w w') ∧
    (∀ w, Tab w → Calls Tryz.prog 20 #[.string s, .int .i64 500] w fun r w' => r = .returned (.agg #[.string a, .int .i64 ka, .int .i64 ea]) ∧ Below w.heap.size w w') ∧
    (∀ w, Tab w → Calls Tryz.prog 20 #[.string s, .int .i64 n] w fun r w' => r = .returned (.agg #[.string b, .int .i64 kb, .int .i64 eb]) ∧ Below w.heap.size w w') ∧
    ((e ≠ 0 ∧ ea = e ∧ eb = e ∧ ka = 0 ∧ a = ⟨#[]⟩) ∨
     (e = 0 ∧ 0 ≤ ka ∧ ka ≤ 500 ∧ (ea = 8 → ka = 500) ∧ (ea ≠ 0 → a = ⟨#[]⟩) ∧ (((n : Int) < ka ∧ eb = 8 ∧ kb = n ∧ b = ⟨#[]⟩) ∨ (ka ≤ n ∧ eb = ea ∧ kb = ka ∧ b = a)))) := by
  by_cases hl : s.size ≤ 300
  · obtain ⟨t, m, hP⟩ := PM_ends s
    have hC := fun w => pcheck_of s w t (finish m) fun w => pread s w hl _ t m hP
    by_cases hf : (finish m).1 = 0
    · have hf0 := finish_zero hf
      obtain ⟨htd, hsm, hdp⟩ := whole_tree hl hP hf0
      obtain ⟨a, k, hRun⟩ := runs_ex 500 t htd
      have hks := runs_steps hRun
      have x1 : errA a = 8 → (k : Int) = 500 := fun e => by
        cases a with
        | ok s => cases e
        | error z => have e' : z = 8 := e
                     subst e'
                     have := hks.2 rfl; omega
      have x2 : errA a ≠ 0 → txtA a = ⟨#[]⟩ := fun e => by
        cases a with
        | ok s => exact absurd rfl e
        | error z => rfl
      rcases runs_le hn hRun with ⟨h1, h2⟩ | ⟨h1, h2⟩
      · exact ⟨(finish m).1, (finish m).2, txtA a, k, errA a, txtA a, k, errA a, hC, fun w ht => pev_ok (L := 500) hl hP hf0 (Nat.le_refl _) hRun w ht, fun w ht => pev_ok hl hP hf0 hn h2 w ht, .inr ⟨hf, by omega, by omega, x1, x2, .inr ⟨by omega, rfl, rfl, rfl⟩⟩⟩
      · exact ⟨(finish m).1, (finish m).2, txtA a, k, errA a, ⟨#[]⟩, n, 8, hC, fun w ht => pev_ok (L := 500) hl hP hf0 (Nat.le_refl _) hRun w ht, fun w ht => pev_ok hl hP hf0 hn h2 w ht, .inr ⟨hf, by omega, by omega, x1, x2, .inl ⟨by omega, rfl, rfl, rfl⟩⟩⟩
    · exact ⟨(finish m).1, (finish m).2, ⟨#[]⟩, 0, (finish m).1, ⟨#[]⟩, 0, (finish m).1, hC, fun w _ => pev_err hl hP hf _ w, fun w _ => pev_err hl hP hf _ w, .inl ⟨hf, rfl, rfl, rfl, rfl⟩⟩
  · have hs : 300 < s.size := by omega
    exact ⟨1, 0, ⟨#[]⟩, 0, 1, ⟨#[]⟩, 0, 1, fun w => pcheck_of s w .nil (1, 0) fun w => pread_long s w hs .nil, fun w _ => pev_long hs _ w, fun w _ => pev_long hs _ w, .inl ⟨by decide, rfl, rfl, rfl, rfl⟩⟩

def pickN (c : Int) (n : Nat) : Nat := if c < 0 then (-(c + 1)).toNat % n else c.toNat % n
set_option maxRecDepth 100000 in
set_option maxHeartbeats 1000000 in
theorem pick_is (c : Int) (hc : Skein.Int64 c) (n : Nat) (h0 : 0 < n) (h1 : n ≤ 1099511627776) (w : World) : Calls Tryz.prog 24 #[.int .i64 c, .int .i64 n] w fun e w' => e = .returned (.int .i64 (pickN c n)) ∧ w' = w := by
  obtain ⟨c1, c2⟩ := hc
  have hn0 : ((n : Int) == 0) = false := by simp; omega
  by_cases hneg : c < 0
  · have hd : decide (c < 0) = true := by simpa using hneg
    obtain ⟨d, hdd⟩ : ∃ d : Nat, c + 1 = -(d : Int) := ⟨(-(c + 1)).toNat, by omega⟩
    have HP : Hid (pickN c n = d % n) := by
      unfold Hid pickN; rw [if_pos hneg, hdd]; simp
    have HD : Hid (c + 1 = -(d : Int)) := hdd
    clear hdd
    go_enter Tryz.func24, Tryz.ntmps24
    go_wp2_with fail
    go_ret
    refine ⟨ret_int ?_, rfl⟩
    rw [HP.out, HD.out, Int.neg_tmod, Int.neg_neg, Int.tmod_eq_emod_of_nonneg (by omega)]; norm_cast
  · have hd : decide (c < 0) = false := by simpa using hneg
    obtain ⟨d, rfl⟩ := Int.eq_ofNat_of_zero_le (Int.not_lt.1 hneg)
    have HP : Hid (pickN d n = d % n) := by
      unfold Hid pickN; rw [if_neg hneg]; simp
    go_enter Tryz.func24, Tryz.ntmps24
    go_wp2_with fail
    go_ret
    refine ⟨ret_int ?_, rfl⟩
    rw [HP.out]; norm_cast

set_option maxRecDepth 100000 in
set_option maxHeartbeats 8000000 in
theorem limited_ok (s : ByteArray) (lim : Int) (hlim : Skein.Int64 lim) (w : World) (ht : Tab w) : Calls Tryz.prog 11 #[.string s, .int .i64 lim] w fun e w' => e = .returned (.bool true) ∧ Below w.heap.size w w' := by
  have HK : Hid (∀ w, Tab w → Calls Tryz.prog 20 #[.string ⟨#[40, 92, 120, 46, 32, 120, 41, 32, 51]⟩, .int .i64 1] w fun e w' => e = .returned (.agg #[.string ⟨#[51]⟩, .int .i64 1, .int .i64 0]) ∧ Below w.heap.size w w') := knownI_ok
  have HT : Hid (∀ w', Below w.heap.size w w' → Tab w') := fun w' hb => ht.belowB hb ht.lt
  have HP : Hid (∀ w, Calls Tryz.prog 24 #[.int .i64 lim, .int .i64 501] w fun e w' => e = .returned (.int .i64 (pickN lim 501)) ∧ w' = w) := fun w => pick_is lim hlim 501 (by decide) (by decide) w
  have hpk : pickN lim 501 ≤ 500 := by
    unfold pickN
    split <;> omega
  obtain ⟨e, x, a, ka, ea, b, kb, eb, hC, hA, hB, hcase⟩ := lim_cases s _ hpk
  generalize pickN lim 501 = n at HP hpk hB hcase
  have HC : Hid (∀ w, Calls Tryz.prog 25 #[.string s] w fun r w' => r = .returned (.tuple #[.int .i64 e, .int .i64 x]) ∧ Below w.heap.size w w') := hC
  have HA : Hid (∀ w, Tab w → Calls Tryz.prog 20 #[.string s, .int .i64 500] w fun r w' => r = .returned (.agg #[.string a, .int .i64 ka, .int .i64 ea]) ∧ Below w.heap.size w w') := hA
  have HB : Hid (∀ w, Tab w → Calls Tryz.prog 20 #[.string s, .int .i64 n] w fun r w' => r = .returned (.agg #[.string b, .int .i64 kb, .int .i64 eb]) ∧ Below w.heap.size w w') := hB
  have HCS : Hid (_ ∨ _) := hcase
  clear ht hlim hC hA hB hcase
  go_enter Tryz.func11, Tryz.ntmps11
  go_wp2_with fail
  refine (HK.out _ (HT.out _ (Below.refl _ _))).mono ?_
  rintro e0 w1 ⟨rfl, hb1⟩
  have q0 : ((⟨#[51]⟩ : ByteArray).toList == (⟨#[51]⟩ : ByteArray).toList) = true := by simp
  have q1 : ((⟨#[51]⟩ : ByteArray).toList != (⟨#[51]⟩ : ByteArray).toList) = false := by simp
  have hg1 := grown_alloc (grown_refl w1 none) (.cells #[.string ⟨#[51]⟩, .int .i64 1, .int .i64 0] 30 (0, 0))
  have hB1 := hb1.grown hg1 hb1.size (by simp)
  clear hb1 hg1
  go_wp2_with fail
  refine (HA.out _ (HT.out _ hB1)).mono ?_
  rintro e0 w2 ⟨rfl, hb2⟩
  have hB2 := hB1.trans (hb2.mono hB1.size)
  have hg2 := grown_alloc (grown_refl w2 none) (.cells #[.string a, .int .i64 ka, .int .i64 ea] 30 (0, 0))
  have hxa := alloc_at w2 (.cells #[.string a, .int .i64 ka, .int .i64 ea] 30 (0, 0)) _ rfl
  have hB2' := hB2.grown hg2 hB2.size (by simp)
  clear hb2 hB1 hg2 q0 q1
  go_wp2_with fail
  refine (HP.out _).mono ?_
  rintro e0 w3 ⟨rfl, rfl⟩
  go_wp2_with fail
  refine (HB.out _ (HT.out _ hB2')).mono ?_
  rintro e0 w4 ⟨rfl, hb4⟩
  have hxa4 := (hb4.block w2.heap.size (heap_lt hxa)).trans hxa
  have hB4 := hB2'.trans (hb4.mono hB2'.size)
  have hg4 := grown_alloc (grown_refl w4 none) (.cells #[.string b, .int .i64 kb, .int .i64 eb] 30 (0, 0))
  have hxb := alloc_at w4 (.cells #[.string b, .int .i64 kb, .int .i64 eb] 30 (0, 0)) _ rfl
  have hxa5 := keepB' hxa4 hg4
  have hB5 := hB4.grown hg4 hB4.size (by simp)
  clear hxa hxa4 hb4 hg4 hB4 hB2' hB2
  go_wp2_with fail
  refine (HC.out _).mono ?_
  rintro e0 w6 ⟨rfl, hb6⟩
  have ya := (hb6.block w2.heap.size (heap_lt hxa5)).trans hxa5
  have yb := (hb6.block w4.heap.size (heap_lt hxb)).trans hxb
  have hB6 := hB5.trans (hb6.mono hB5.size)
  obtain ⟨a0, a1, a2⟩ := ans3 ya
  obtain ⟨b0, b1, b2⟩ := ans3 yb
  clear hxa5 hxb hb6 ya yb hB5
  have q2 : ((⟨#[]⟩ : ByteArray).toList == (⟨#[]⟩ : ByteArray).toList) = true := by simp
  have q3 : ((⟨#[]⟩ : ByteArray).toList != (⟨#[]⟩ : ByteArray).toList) = false := by simp
  rcases HCS.out with ⟨c1, rfl, rfl, rfl, rfl⟩ | ⟨rfl, c1, c2, c3, c4, c5⟩
  · have d1 : (eb == 0) = false := by simpa using c1
    have d2 : (eb != 0) = true := by simp [bne, d1]
    clear HCS c1
    go_wp2_with fail
    go_ret
    exact ⟨rfl, hB6⟩
  · have d1 : decide (ka < 0) = false := by simp; omega
    have d2 : decide (500 < ka) = false := by simp; omega
    clear HCS
    have H4 : Hid (ea ≠ 0 → a = ⟨#[]⟩) := c4
    have H5 : Hid (_ ∨ _) := c5
    have hcond : (ea = 0 ∧ (ea == 8) = false ∧ (ea != 0) = false) ∨ (ea = 8 ∧ ka = 500 ∧ a = ⟨#[]⟩) ∨ ((ea == 8) = false ∧ (ea != 0) = true ∧ a = ⟨#[]⟩) := by
      by_cases h0 : ea = 0
      · subst h0; exact .inl ⟨rfl, rfl, rfl⟩
      · by_cases h8 : ea = 8
        · exact .inr (.inl ⟨h8, c3 h8, c4 h0⟩)
        · exact .inr (.inr ⟨by simpa using h8, by simpa [bne] using h0, c4 h0⟩)
    clear c3 c4 c5
    have q4 : (a.toList == a.toList) = true := by simp
    have q5 : (ka == ka) = true := by simp
    have q6 : (ea == ea) = true := by simp
    rcases hcond with ⟨rfl, h1, h2⟩ | ⟨rfl, rfl, rfl⟩ | ⟨h1, h2, rfl⟩
    all_goals
      rcases H5.out with ⟨d3, rfl, rfl, rfl⟩ | ⟨d3, rfl, rfl, rfl⟩
      · clear H5 H4
        have d4 : decide ((n : Int) < _) = true := decide_eq_true d3
        have q7 : ((n : Int) == n) = true := by simp
        go_wp2_with fail
        go_ret
        exact ⟨rfl, hB6⟩
      · clear H5 H4
        have d4 : decide ((n : Int) < _) = false := decide_eq_false (Int.not_lt.2 d3)
        go_wp2_with fail
        go_ret
        exact ⟨rfl, hB6⟩
end Go.Proofs.YtjjlgjmebnkdjaaGreatDoor

namespace Skein

section
variable {s S : ByteArray} {o : Nat} {q : List UInt8}

theorem D.at {l r : List UInt8} (h : D S o (l ++ r)) {j : Nat} (hj : j < l.length) : ∃ hh : o + j < S.size, S[o + j] = l[j] := by
  have h2 : D S (o + j) (l.drop j ++ r) := by
    have e : l ++ r = l.take j ++ (l.drop j ++ r) := by rw [← List.append_assoc, List.take_append_drop]
    rw [e] at h
    have := h.app
    rwa [List.length_take, Nat.min_eq_left (by omega)] at this
  rw [List.drop_eq_getElem_cons hj] at h2
  exact h2.get

theorem at_in (h : D S o (s.data.toList ++ q)) {j : Nat} (hj : j < s.size) : ∃ hh : o + j < S.size, S[o + j] = s[j] := by
  have hj' : j < s.data.toList.length := by simpa using hj
  obtain ⟨hh, e⟩ := D.at h hj'
  exact ⟨hh, by rw [e]; simp [ByteArray.getElem_eq_getElem_data]⟩

theorem skip_in (h : D S o (s.data.toList ++ q)) : ∀ (i : Nat), skip s i < s.size → skip S (o + i) = o + skip s i := by
  intro i
  fun_induction skip s i with
  | case1 i hi hb ih =>
    intro hs
    obtain ⟨hh, e⟩ := at_in h hi
    rw [skip, dif_pos hh, e, if_pos hb]
    exact ih hs
  | case2 i hi hb =>
    intro _
    obtain ⟨hh, e⟩ := at_in h hi
    rw [skip, dif_pos hh, e, if_neg hb]
  | case3 i hi => intro hs; exact absurd hs hi
theorem skip_out (h : D S o (s.data.toList ++ q)) : ∀ (i : Nat), i ≤ s.size → ¬ skip s i < s.size → skip S (o + i) = skip S (o + s.size) := by
  intro i
  fun_induction skip s i with
  | case1 i hi hb ih =>
    intro _ hs
    obtain ⟨hh, e⟩ := at_in h hi
    rw [skip, dif_pos hh, e, if_pos hb]
    exact ih hi hs
  | case2 i hi hb => intro _ hs; exact absurd hi hs
  | case3 i hi => intro h1 _; rw [show i = s.size by omega]
theorem run_in (h : D S o (s.data.toList ++ q)) {b : Bool} (hq : Halts b q) : ∀ (i : Nat), i ≤ s.size → runLen S b (o + i) = runLen s b i := by
  intro i
  fun_induction runLen s b i with
  | case1 i hi hb ih =>
    intro _
    obtain ⟨hh, e⟩ := at_in h hi
    rw [runLen, dif_pos hh, e, if_pos hb, Nat.add_assoc, ih hi]
  | case2 i hi hb =>
    intro _
    obtain ⟨hh, e⟩ := at_in h hi
    rw [runLen, dif_pos hh, e, if_neg hb]
  | case3 i hi =>
    intro h1
    obtain rfl : i = s.size := by omega
    have hD : D S (o + s.size) q := by
      have := h.app
      simpa using this
    rw [runLen]
    cases q with
    | nil => simp [hD.stop]
    | cons c r =>
      obtain ⟨hh, e⟩ := hD.get
      simp [hh, e, hq c r rfl]
theorem extract_in (h : D S o (s.data.toList ++ q)) {a k : Nat} (hk : a + k ≤ s.size) : S.extract (o + a) (o + a + k) = s.extract a (a + k) := by
  have hs : s.data.toList.length = s.size := by simp
  have h2 : D S (o + a) (s.data.toList.drop a ++ q) := by
    have e : s.data.toList ++ q = s.data.toList.take a ++ (s.data.toList.drop a ++ q) := by rw [← List.append_assoc, List.take_append_drop]
    rw [e] at h
    have := h.app
    rwa [List.length_take, Nat.min_eq_left (by omega)] at this
  have e2 : s.data.toList.drop a ++ q = (s.data.toList.drop a).take k ++ ((s.data.toList.drop a).drop k ++ q) := by rw [← List.append_assoc, List.take_append_drop]
  rw [e2] at h2
  have h3 := h2.extract
  rw [List.length_take, List.length_drop, Nat.min_eq_left (by omega)] at h3
  rw [h3]
  apply ByteArray.ext
  apply Array.ext'
  simp [ByteArray.data_extract, Array.toList_extract]

theorem tok_in (h : D S o (s.data.toList ++ q)) (hq1 : Halts true q) (hq0 : Halts false q) {i : Nat} (h1 : (tok s i).k ≠ .eof) (h2 : (tok s i).k ≠ .bad) : tok S (o + i) = ⟨(tok s i).k, (tok s i).text, o + (tok s i).at_⟩ := by
  have hlt : skip s i < s.size := by
    rcases Nat.lt_or_ge (skip s i) s.size with h | h
    · exact h
    · exfalso; apply h1; unfold tok tokAt; rw [dif_neg (by omega)]
  have hsk := skip_in h i hlt
  obtain ⟨hh, e⟩ := at_in h hlt
  have r0 := run_in h hq0 (skip s i) (Nat.le_of_lt hlt)
  have r1 := run_in h hq1 (skip s i) (Nat.le_of_lt hlt)
  have l0 := runLen_le s false (skip s i) (Nat.le_of_lt hlt)
  have l1 := runLen_le s true (skip s i) (Nat.le_of_lt hlt)
  have x0 := extract_in h l0
  have x1 := extract_in h l1
  have x2 := extract_in h (a := skip s i) (k := 1) (by omega)
  unfold tok at h1 h2 ⊢
  rw [hsk]
  unfold tokAt at h1 h2 ⊢
  rw [dif_pos hlt] at h1 h2 ⊢
  rw [dif_pos hh, e, r0, r1, x0, x1, x2]
  split
  · rename_i hd
    rw [if_pos hd] at h2
    split
    · rename_i h9; exact absurd (by rw [if_pos h9]) h2
    · rfl
  · rename_i hd
    rw [if_neg hd] at h2
    split
    · rename_i hl
      rw [if_pos hl] at h2
      split
      · rename_i h9; exact absurd (by rw [if_pos h9]) h2
      · split <;> rfl
    · rename_i hl
      rw [if_neg hl] at h2
      split
      · rename_i h91
        rw [if_pos h91] at h2
        by_cases hn : skip s i + 1 < s.size
        · rw [dif_pos hn] at h2
          obtain ⟨hh2, e2⟩ := at_in h hn
          have x3 := extract_in h (a := skip s i) (k := 2) (by omega)
          rw [dif_pos hn, dif_pos (show o + skip s i + 1 < S.size from hh2)]
          have e2' : S[o + skip s i + 1] = s[skip s i + 1] := e2
          rw [e2', x3]
          split
          · rfl
          · rename_i h93; exact absurd (by rw [if_neg h93]) h2
        · rw [dif_neg hn] at h2; exact absurd rfl h2
      · rename_i h91
        rw [if_neg h91] at h2
        split
        · rfl
        · rename_i hm; exact absurd (by rw [if_neg hm]) h2

/-- The signs of what stands within, then those behind. -/
theorem Str_in (h : D S o (s.data.toList ++ q)) (hq1 : Halts true q) (hq0 : Halts false q) {r : List Tk} (hr : Str S (tok S (o + s.size)) r) : ∀ (l : List Tk) (i : Nat), i ≤ s.size → Str s (tok s i) l → Tk.bad ∉ l → Str S (tok S (o + i)) (l ++ r) := by
  intro l
  induction l with
  | nil =>
    intro i hi hs _
    have hns : ¬ skip s i < s.size := by
      intro hlt
      have hk := hs.1
      have ht := hs.2
      have hb := tok_kind s i hi
      unfold tok tokAt at hk
      rw [dif_pos hlt] at hk
      repeat' split at hk
      all_goals cases hk
    rw [List.nil_append]
    unfold tok at hr ⊢
    rw [skip_out h i hi hns]; exact hr
  | cons k l ih =>
    intro i hi hs hb
    have hbl : Tk.bad ∉ l := fun hx => hb (List.mem_cons_of_mem _ hx)
    have hbe := tok_behind s i hi
    cases k with
    | bad => exact absurd (List.mem_cons_self) hb
    | tree t => exact hs.elim
    | num x =>
      obtain ⟨a1, a2, a3, a4⟩ := hs
      rw [tok_in h hq1 hq0 (by rw [a1]; decide) (by rw [a1]; decide)]
      refine ⟨a1, a2, a3, ?_⟩
      have := ih _ hbe a4 hbl
      rw [← Nat.add_assoc] at this; exact this
    | name x =>
      obtain ⟨a1, a2, a3, a4⟩ := hs
      rw [tok_in h hq1 hq0 (by rw [a1]; decide) (by rw [a1]; decide)]
      refine ⟨a1, a2, a3, ?_⟩
      have := ih _ hbe a4 hbl
      rw [← Nat.add_assoc] at this; exact this
    | sym x =>
      obtain ⟨a1, a2, a3, a4⟩ := hs
      rw [tok_in h hq1 hq0 (by rw [a1]; decide) (by rw [a1]; decide)]
      refine ⟨a1, a2, a3, ?_⟩
      have := ih _ hbe a4 hbl
      rw [← Nat.add_assoc] at this; exact this
end

theorem halts_pre {r : List Pc} {rest : List UInt8} (hr : fin r rest.head? = true) (h : halt (firstN r rest.head?) = true) (b : Bool) : Halts b (flat r ++ rest) := by
  intro c q e
  have hc : fits true c = false := by
    cases r with
    | nil =>
      have e2 : rest = c :: q := e
      rw [e2] at h
      simpa [firstN, halt] using h
    | cons p r =>
      simp only [fin, Bool.and_eq_true] at hr
      obtain ⟨c', q', e'⟩ := ok_cons hr.1.1
      simp only [flat, List.flatMap_cons, e', List.cons_append, List.append_assoc, List.cons.injEq] at e
      simp only [firstN, e', List.head?_cons, halt, Bool.not_eq_true'] at h
      rw [← e.1]; exact h
  cases b with
  | true => exact hc
  | false =>
    simp only [fits, Bool.or_eq_false_iff] at hc ⊢
    exact ⟨hc.1, by simp⟩

/-- The signs of pieces, then those behind. -/
theorem Str_pre {s : ByteArray} {rest : List UInt8} {r' : List Tk} : ∀ (l : List Pc) (i : Nat), i ≤ s.size → D s i (flat l ++ rest) → fin l rest.head? = true → Str s (tok s (i + (flat l).length)) r' → Str s (tok s i) (tks l ++ r') := by
  intro l
  induction l with
  | nil => intro i _ h _ hr; simpa [flat, tks] using hr
  | cons p r ih =>
    intro i hi h hf hr
    simp only [fin, Bool.and_eq_true] at hf
    obtain ⟨⟨hok, hrun⟩, hfr⟩ := hf
    have hD : D s i (p.txt ++ (flat r ++ rest)) := by simpa [flat] using h
    have el : (flat (p :: r)).length = p.txt.length + (flat r).length := by simp [flat]
    rw [el, ← Nat.add_assoc] at hr
    have hn := ih (i + p.txt.length) (by have := D.le hD hi; simp at this; omega) hD.app hfr hr
    have et : tks (p :: r) ++ r' = p.tk ++ (tks r ++ r') := by simp [tks]
    rw [et]
    clear et
    have hk := tok_kind s i hi
    cases p with
    | blank c =>
      rw [tok_skip (r := flat r ++ rest) hD hok]
      exact hn
    | num x =>
      simp only [Pc.ok, Bool.and_eq_true, Bool.not_eq_true', List.isEmpty_eq_false_iff, decide_eq_true_eq, List.all_eq_true] at hok
      simp only [Pc.runs, Bool.not_true, Bool.false_or] at hrun
      have e := tok_num hD hok.1.1 hok.1.2 hok.2 (halts_pre hfr hrun false)
      rw [e] at hk
      have hm : mem specials ⟨x.toArray⟩ = false := by
        rcases hk with ⟨h, _⟩ | ⟨h, _⟩ | ⟨_, h, _⟩ | ⟨h, _⟩ | ⟨h, _⟩ <;> first | exact h | cases h
      rw [e]
      refine ⟨rfl, rfl, hm, ?_⟩
      have e2 : (⟨x.toArray⟩ : ByteArray).size = x.length := by simp [ByteArray.size]
      show Str s (tok s (i + (⟨x.toArray⟩ : ByteArray).size)) _
      rw [e2]; exact hn
    | word x =>
      cases x with
      | nil => simp [Pc.ok] at hok
      | cons c w =>
        simp only [Pc.ok, Bool.and_eq_true, decide_eq_true_eq, List.all_eq_true] at hok
        simp only [Pc.runs, Bool.not_true, Bool.false_or] at hrun
        have hc : isBlank c = false ∧ isDig c = false ∧ isLet c = true := by
          have h1 := hok.1.1
          refine ⟨?_, ?_, h1⟩
          · simp only [isLet, isBlank, Bool.and_eq_true, decide_eq_true_eq, Bool.or_eq_false_iff, beq_eq_false_iff_ne] at h1 ⊢
            refine ⟨⟨⟨?_, ?_⟩, ?_⟩, ?_⟩ <;> (rintro rfl; revert h1; decide)
          · simp only [isLet, isDig, Bool.and_eq_true, decide_eq_true_eq, Bool.and_eq_false_iff, decide_eq_false_iff_not] at h1 ⊢
            right
            intro h2
            have h3 := UInt8.le_trans h1.1 h2
            revert h3; decide
        have e := tok_word (c := c) (w := w) hD hc hok.1.2 hok.2 (halts_pre hfr hrun true)
        have e2 : (⟨(c :: w).toArray⟩ : ByteArray).size = (c :: w).length := by simp [ByteArray.size]
        show Str s (tok s i) ([if mem words ⟨(c :: w).toArray⟩ then Tk.sym ⟨(c :: w).toArray⟩ else Tk.name ⟨(c :: w).toArray⟩] ++ (tks r ++ r'))
        rw [e] at hk ⊢
        cases hw : mem words ⟨(c :: w).toArray⟩ with
        | true =>
          refine ⟨by simp, rfl, by rw [e2]; simp, ?_⟩
          show Str s (tok s (i + (⟨(c :: w).toArray⟩ : ByteArray).size)) _
          rw [e2]; exact hn
        | false =>
          rw [hw] at hk
          have hm : mem specials ⟨(c :: w).toArray⟩ = false := by
            rcases hk with ⟨h, _⟩ | ⟨h, _⟩ | ⟨h, _⟩ | ⟨_, h, _⟩ | ⟨h, _⟩ <;> first | exact h | cases h
          refine ⟨by simp, rfl, hm, ?_⟩
          show Str s (tok s (i + (⟨(c :: w).toArray⟩ : ByteArray).size)) _
          rw [e2]; exact hn
    | mark c =>
      simp only [Pc.ok, Bool.and_eq_true, Bool.not_eq_true'] at hok
      have e := tok_mark (r := flat r ++ rest) hD ⟨hok.1.1.1.1, hok.1.1.1.2, hok.1.1.2, hok.1.2, hok.2⟩
      rw [e]
      exact ⟨rfl, rfl, Nat.one_pos, hn⟩
    | nil =>
      have hD2 : D s i (91 :: 93 :: (flat r ++ rest)) := hD
      obtain ⟨h1, e1⟩ := hD2.get
      obtain ⟨h2, e2⟩ := hD2.next.get
      have e : tok s i = ⟨.sym, ⟨#[91, 93]⟩, i⟩ := by
        unfold tok; rw [skip_here hD2 (by decide)]
        unfold tokAt
        have hx : s.extract i (i + 2) = ⟨#[91, 93]⟩ := D.extract (l := [91, 93]) hD2
        rw [dif_pos h1, e1]
        rw [if_neg (by decide), if_neg (by decide), if_pos (by decide), dif_pos h2, e2, if_pos (by decide), hx]
      rw [e]
      exact ⟨rfl, rfl, by decide, hn⟩


/-- A sign that is bad is passed by nobody. -/
def NB (l l' : List Tk) : Prop := Tk.bad ∉ l' → Tk.bad ∉ l
theorem NB.rfl' (l : List Tk) : NB l l := id
theorem NB.tr {a b c : List Tk} (h : NB a b) (k : NB b c) : NB a c := fun x => h (k x)
theorem NB.hd {x : ByteArray} {l : List Tk} (hx : Skein.hd x l = true) : NB l l.tail := by
  cases l with
  | nil => cases hx
  | cons k l => cases k <;> first | cases hx | (intro h; simpa using h)
theorem NB.eat {x : ByteArray} {l l1 : List Tk} (he : Skein.eat x l = some l1) : NB l l1 := by
  obtain ⟨h1, rfl⟩ := eat_ok he
  exact NB.hd h1
theorem NB.name {l : List Tk} {y : ByteArray × List Tk} (he : eatName l = some y) : NB l y.2 := by
  cases l with
  | nil => cases he
  | cons k l => cases k <;> first | (cases he; done) | (cases he; intro h; simpa using h)

theorem no_bad : ∀ (n : Nat) (nt : NT) (g : List ByteArray) (l : List Tk) (r : T × List Tk), PT n nt g l = some r → NB l r.2 := by
  intro n
  induction n with
  | zero => intro nt g l r h; simp [PT] at h
  | succ n ih =>
    intro nt g l r h
    cases nt with
    | expr =>
      rw [PT] at h
      split at h
      · rename_i hx
        obtain ⟨y, h1, h⟩ := Option.bind_eq_some_iff.1 h
        obtain ⟨l2, h2, h⟩ := Option.bind_eq_some_iff.1 h
        obtain ⟨r1, h3, h⟩ := Option.bind_eq_some_iff.1 h
        obtain ⟨l3, h4, h⟩ := Option.bind_eq_some_iff.1 h
        obtain ⟨q, h5, h⟩ := Option.bind_eq_some_iff.1 h
        cases h
        exact (NB.hd hx).tr ((NB.name h1).tr ((NB.eat h2).tr ((ih _ _ _ _ h3).tr ((NB.eat h4).tr (ih _ _ _ q h5)))))
      · split at h
        · rename_i hx
          obtain ⟨y, h1, h⟩ := Option.bind_eq_some_iff.1 h
          obtain ⟨l2, h2, h⟩ := Option.bind_eq_some_iff.1 h
          obtain ⟨r1, h3, h⟩ := Option.bind_eq_some_iff.1 h
          cases h
          exact (NB.hd hx).tr ((NB.name h1).tr ((NB.eat h2).tr (ih _ _ _ r1 h3)))
        · split at h
          · rename_i hx
            obtain ⟨r1, h1, h⟩ := Option.bind_eq_some_iff.1 h
            obtain ⟨l2, h2, h⟩ := Option.bind_eq_some_iff.1 h
            obtain ⟨q, h3, h⟩ := Option.bind_eq_some_iff.1 h
            obtain ⟨l3, h4, h⟩ := Option.bind_eq_some_iff.1 h
            obtain ⟨p, h5, h⟩ := Option.bind_eq_some_iff.1 h
            cases h
            exact (NB.hd hx).tr ((ih _ _ _ _ h1).tr ((NB.eat h2).tr ((ih _ _ _ _ h3).tr ((NB.eat h4).tr (ih _ _ _ p h5)))))
          · exact ih _ _ _ _ h
    | list =>
      rw [PT] at h
      obtain ⟨r1, h1, h⟩ := Option.bind_eq_some_iff.1 h
      split at h
      · rename_i hx
        obtain ⟨q, h2, h⟩ := Option.bind_eq_some_iff.1 h
        cases h
        exact (ih _ _ _ _ h1).tr ((NB.hd hx).tr (ih _ _ _ q h2))
      · cases h; exact ih _ _ _ _ h1
    | order =>
      rw [PT] at h
      obtain ⟨r1, h1, h⟩ := Option.bind_eq_some_iff.1 h
      split at h
      · rename_i hx
        obtain ⟨q, h2, h⟩ := Option.bind_eq_some_iff.1 h
        cases h
        rcases Bool.or_eq_true _ _ |>.mp hx with hx | hx
        · exact (ih _ _ _ _ h1).tr ((NB.hd hx).tr (ih _ _ _ q h2))
        · exact (ih _ _ _ _ h1).tr ((NB.hd hx).tr (ih _ _ _ q h2))
      · cases h; exact ih _ _ _ _ h1
    | sum =>
      rw [PT] at h
      obtain ⟨r1, h1, h⟩ := Option.bind_eq_some_iff.1 h
      exact (ih _ _ _ _ h1).tr (ih _ _ _ _ h)
    | prod =>
      rw [PT] at h
      obtain ⟨r1, h1, h⟩ := Option.bind_eq_some_iff.1 h
      exact (ih _ _ _ _ h1).tr (ih _ _ _ _ h)
    | use =>
      rw [PT] at h
      obtain ⟨r1, h1, h⟩ := Option.bind_eq_some_iff.1 h
      exact (ih _ _ _ _ h1).tr (ih _ _ _ _ h)
    | sumL a =>
      rw [PT] at h
      split at h
      · rename_i hx
        obtain ⟨r1, h1, h⟩ := Option.bind_eq_some_iff.1 h
        rcases Bool.or_eq_true _ _ |>.mp hx with hx | hx
        · exact (NB.hd hx).tr ((ih _ _ _ _ h1).tr (ih _ _ _ _ h))
        · exact (NB.hd hx).tr ((ih _ _ _ _ h1).tr (ih _ _ _ _ h))
      · cases h; exact NB.rfl' _
    | prodL a =>
      rw [PT] at h
      split at h
      · rename_i hx
        obtain ⟨r1, h1, h⟩ := Option.bind_eq_some_iff.1 h
        exact (NB.hd hx).tr ((ih _ _ _ _ h1).tr (ih _ _ _ _ h))
      · cases h; exact NB.rfl' _
    | useL a =>
      rw [PT] at h
      split at h
      · obtain ⟨r1, h1, h⟩ := Option.bind_eq_some_iff.1 h
        exact (ih _ _ _ _ h1).tr (ih _ _ _ _ h)
      · cases h; exact NB.rfl' _
    | atom =>
      cases l with
      | nil => simp [PT] at h
      | cons k l =>
        cases k with
        | num x => simp only [PT, Option.some.injEq] at h; subst h; intro h; simpa using h
        | tree x => simp only [PT, Option.some.injEq] at h; subst h; intro h; simpa using h
        | bad => simp [PT] at h
        | name x =>
          simp only [PT] at h
          obtain ⟨i, h1, h⟩ := Option.bind_eq_some_iff.1 h
          cases h; intro h; simpa using h
        | sym x =>
          have hc : ∀ {l : List Tk}, NB (Tk.sym x :: l) l := fun h => by simpa using h
          simp only [PT] at h
          split at h
          · cases h; exact hc
          · split at h
            · obtain ⟨r1, h1, h⟩ := Option.bind_eq_some_iff.1 h
              obtain ⟨l2, h2, h⟩ := Option.bind_eq_some_iff.1 h
              cases h
              exact hc.tr ((ih _ _ _ _ h1).tr (NB.eat h2))
            · split at h
              · obtain ⟨r1, h1, h⟩ := Option.bind_eq_some_iff.1 h
                cases h
                exact hc.tr (ih _ _ _ r1 h1)
              · cases h

/-- The signs of a text that is an expression. -/
theorem whole_signs {s : ByteArray} {n : Nat} {t : T} {m : M} (hP : PM s n .expr (start s) = some (t, m)) (hf : finish m = (0, 0)) (hnf : NoFree t) : ∃ l, Str s (tok s 0) l ∧ Tk.bad ∉ l ∧ PT n .expr [] l = some (t, []) := by
  obtain ⟨l, hl⟩ := lex s (s.size + 1) 0 (Nat.zero_le _) (by omega)
  have hb : m.bad = none ∧ (m.tok.k == K.bad) = false ∧ m.tok.text = ⟨#[]⟩ := by
    unfold finish at hf
    split at hf
    · simp at hf
    · rename_i h1
      split at hf
      · simp at hf
      · rename_i h2
        unfold M.isBad at h1
        simp only [Bool.not_eq_true, Bool.or_eq_false_iff] at h1
        simp only [Bool.not_eq_true', Bool.not_eq_false] at h2
        exact ⟨by cases e : m.bad with | none => rfl | some q => rw [e] at h1; simp at h1, h1.2, eqb_iff.1 h2⟩
  obtain ⟨l', p, hs⟩ := PM_PT s n .expr (start s) (t, m) hP hb.1 hnf l hl
  have hi := (PM_keeps s n _ _ _ hP).1 (Inv.start s)
  have e : l' = [] := by
    cases l' with
    | nil => rfl
    | cons k r =>
      exfalso
      cases k with
      | num x => have := sign_pos hi (.inl hs.1); rw [hb.2.2] at this; exact absurd this (by decide)
      | name x => have := sign_pos hi (.inr hs.1); rw [hb.2.2] at this; exact absurd this (by decide)
      | sym x => have h0 := hs.2.2.1; rw [← hs.2.1, hb.2.2] at h0; exact absurd h0 (by decide)
      | bad => have h0 := hb.2.1; rw [hs.1] at h0; cases h0
      | tree t => exact hs.elim
  subst e
  exact ⟨l, hl, no_bad _ _ _ _ _ p (by simp), p⟩

theorem term_close (r : List Tk) : Term (.sym ⟨#[41]⟩ :: r) := ⟨rfl, rfl, rfl, rfl, rfl, rfl, rfl, rfl, rfl, rfl⟩
theorem term_in (r : List Tk) : Term (.sym ⟨#[105, 110]⟩ :: r) := ⟨rfl, rfl, rfl, rfl, rfl, rfl, rfl, rfl, rfl, rfl⟩

/-- In brackets. -/
theorem PT_paren {n : Nat} {g : List ByteArray} {l : List Tk} {t : T} (h : PT n .expr g l = some (t, [])) : PT (n + 1) .atom g (.sym ⟨#[40]⟩ :: (l ++ [.sym ⟨#[41]⟩])) = some (t, []) := by
  have h2 := PT_ext (term_close []) _ _ _ _ _ _ h
  rw [PT]
  rw [if_neg (by decide), if_pos (by decide), h2]
  rfl
theorem PT_up {n : Nat} {g : List ByteArray} {l : List Tk} {t : T} (h : PT (n + 1) .atom g l = some (t, [])) (h1 : hd ⟨#[108, 101, 116]⟩ l = false) (h2 : hd ⟨#[92]⟩ l = false) (h3 : hd ⟨#[105, 102]⟩ l = false) : PT (n + 7) .expr g l = some (t, []) := by
  rw [PT, h1, h2, h3]
  simp only [Bool.false_eq_true, if_false]
  rw [PT, PT, PT, PT, PT, h]
  rfl
theorem PT_up2 {n : Nat} {g : List ByteArray} {l : List Tk} {t : T} (h : PT (n + 1) .use g l = some (t, [])) (h1 : hd ⟨#[108, 101, 116]⟩ l = false) (h2 : hd ⟨#[92]⟩ l = false) (h3 : hd ⟨#[105, 102]⟩ l = false) : PT (n + 6) .expr g l = some (t, []) := by
  rw [PT, h1, h2, h3]
  simp only [Bool.false_eq_true, if_false]
  rw [PT, PT, PT, PT, h]
  rfl
theorem PT_laid_let {n : Nat} {l : List Tk} {t : T} {x : ByteArray} (hl : l.map (lftK 1) = l) (h : PT n .expr [] l = some (t, [])) : PT (n + 20) .expr [] (.sym ⟨#[108, 101, 116]⟩ :: .name x :: .sym ⟨#[61]⟩ :: (l ++ (.sym ⟨#[105, 110]⟩ :: [.name x]))) = some (.letE 0 (lft 1 t) (.var 0), []) := by
  have h1 := PT_lft [x] _ _ _ _ _ _ h
  simp only [List.length_singleton, lftN, List.append_nil, hl, List.map_nil] at h1
  have h2 := PT_more (PT_ext (term_in [.name x]) _ _ _ _ _ _ h1) (show n ≤ n + 19 by omega)
  have h3 : PT (n + 19) .expr [x] [.name x] = some (.var 0, []) := by
    have ha : PT (n + 12 + 1) .atom [x] [.name x] = some (.var 0, []) := by
      simp only [PT, lastIdx]
      rw [if_pos (eqb_iff.2 rfl)]; rfl
    exact PT_up ha rfl rfl rfl
  rw [PT]
  rw [if_pos (by rfl)]
  simp only [List.tail_cons, eatName, Option.bind_some]
  have e1 : eat ⟨#[61]⟩ (.sym ⟨#[61]⟩ :: (l ++ (.sym ⟨#[105, 110]⟩ :: [.name x]))) = some (l ++ (.sym ⟨#[105, 110]⟩ :: [.name x])) := rfl
  rw [e1, Option.bind_some, List.nil_append, h2, Option.bind_some]
  have e2 : eat ⟨#[105, 110]⟩ (.sym ⟨#[105, 110]⟩ :: [Tk.name x]) = some [.name x] := rfl
  rw [List.nil_append, e2, Option.bind_some, h3]
  rfl
theorem PT_laid_fn {n : Nat} {l : List Tk} {t : T} (h : PT n .expr [] l = some (t, [])) : PT (n + 41) .expr [] ([.sym ⟨#[40]⟩, .sym ⟨#[92]⟩, .name ⟨#[120]⟩, .sym ⟨#[46]⟩, .name ⟨#[120]⟩, .sym ⟨#[41]⟩] ++ (.sym ⟨#[40]⟩ :: (l ++ [.sym ⟨#[41]⟩]))) = some (.app (.fn 0 (.var 0)) t, []) := by
  have hA := PT_more (PT_paren h) (show n + 1 ≤ n + 34 by omega)
  have hF : PT 15 .atom [] [.sym ⟨#[40]⟩, .sym ⟨#[92]⟩, .name ⟨#[120]⟩, .sym ⟨#[46]⟩, .name ⟨#[120]⟩, .sym ⟨#[41]⟩] = some (.fn 0 (.var 0), []) := rfl
  have hF2 := PT_more (PT_any (.sym ⟨#[40]⟩ :: (l ++ [.sym ⟨#[41]⟩])) _ _ _ _ _ _ hF (.inr rfl)) (show 15 ≤ n + 35 by omega)
  rw [List.nil_append] at hF2
  have hU : PT (n + 36) .use [] ([.sym ⟨#[40]⟩, .sym ⟨#[92]⟩, .name ⟨#[120]⟩, .sym ⟨#[46]⟩, .name ⟨#[120]⟩, .sym ⟨#[41]⟩] ++ (.sym ⟨#[40]⟩ :: (l ++ [.sym ⟨#[41]⟩]))) = some (.app (.fn 0 (.var 0)) t, []) := by
    rw [PT, hF2, Option.bind_some, PT]
    rw [if_pos (show beg _ = true from rfl), hA, Option.bind_some]
    rfl
  exact PT_more (PT_up2 hU rfl rfl rfl) (by omega)
end Skein

namespace Skein

/-- Signs that are an atom; signs that are an expression. -/
def At (g : List ByteArray) (l : List Tk) (t : T) : Prop := ∃ k, ∀ n, k ≤ n → ∀ r, PT n .atom g (l ++ r) = some (t, r)
def Ex (g : List ByteArray) (l : List Tk) (t : T) : Prop := ∃ k, ∀ n, k ≤ n → ∀ r, Term r → PT n .expr g (l ++ r) = some (t, r)
structure Beg (l : List Tk) : Prop where
  b : ∀ r, beg (l ++ r) = true
  k1 : ∀ r, hd ⟨#[108, 101, 116]⟩ (l ++ r) = false
  k2 : ∀ r, hd ⟨#[92]⟩ (l ++ r) = false
  k3 : ∀ r, hd ⟨#[105, 102]⟩ (l ++ r) = false

theorem stepN {k : Nat} {P : Nat → Prop} (h : ∀ n, k ≤ n → P (n + 1)) : ∃ k, ∀ n, k ≤ n → P n := ⟨k + 1, fun n hn => by
  obtain ⟨m, rfl⟩ : ∃ m, n = m + 1 := ⟨n - 1, by omega⟩
  exact h m (by omega)⟩

/-- What goes up through the levels. -/
theorem up_use {g l t r k} (h : ∀ n, k ≤ n → PT n .use g l = some (t, r)) (hr : Term r) (h1 : hd ⟨#[108, 101, 116]⟩ l = false) (h2 : hd ⟨#[92]⟩ l = false) (h3 : hd ⟨#[105, 102]⟩ l = false) : ∀ n, k + 5 ≤ n → PT n .expr g l = some (t, r) := by
  intro n hn
  obtain ⟨n, rfl⟩ : ∃ m, n = m + 5 := ⟨n - 5, by omega⟩
  rw [PT, h1, h2, h3]
  simp only [Bool.false_eq_true, if_false]
  rw [PT, PT, PT, PT, h n (by omega), Option.bind_some]
  obtain ⟨m, rfl⟩ : ∃ m, n = m + 1 := ⟨n - 1, by
    have : n ≠ 0 := by rintro rfl; have := h 0 (by omega); simp [PT] at this
    omega⟩
  rw [PT, hr.o6]
  simp only [Bool.false_eq_true, if_false, Option.bind_some]
  rw [PT, hr.o4, hr.o5]
  simp [hr.o1, hr.o2, hr.o3]
theorem use_at {g l t r k} (h : ∀ n, k ≤ n → PT n .atom g l = some (t, r)) (hr : beg r = false) : ∀ n, k + 2 ≤ n → PT n .use g l = some (t, r) := by
  intro n hn
  obtain ⟨n, rfl⟩ : ∃ m, n = m + 2 := ⟨n - 2, by omega⟩
  rw [PT, h (n + 1) (by omega), Option.bind_some, PT, hr]; rfl
theorem At.ex {g l t} (h : At g l t) (hb : Beg l) : Ex g l t := by
  obtain ⟨k, h⟩ := h
  exact ⟨k + 7, fun n hn r hr => up_use (use_at (fun n hn => h n hn r) hr.b) hr (hb.k1 r) (hb.k2 r) (hb.k3 r) n (by omega)⟩
theorem At.app {g a b ta tb} (ha : At g a ta) (hb : At g b tb) (ba : Beg a) (bb : Beg b) : Ex g (a ++ b) (.app ta tb) := by
  obtain ⟨k, ha⟩ := ha
  obtain ⟨j, hb⟩ := hb
  refine ⟨k + j + 9, fun n hn r hr => ?_⟩
  rw [List.append_assoc]
  refine up_use (k := k + j + 3) (fun n hn => ?_) hr (ba.k1 _) (ba.k2 _) (ba.k3 _) n (by omega)
  obtain ⟨n, rfl⟩ : ∃ m, n = m + 3 := ⟨n - 3, by omega⟩
  rw [PT, ha (n + 2) (by omega), Option.bind_some, PT, bb.b, if_pos rfl, hb (n + 1) (by omega), Option.bind_some, PT, hr.b]; rfl
theorem At.paren {g l t} (h : Ex g l t) : At g (.sym ⟨#[40]⟩ :: (l ++ [.sym ⟨#[41]⟩])) t := by
  obtain ⟨k, h⟩ := h
  refine ⟨k + 1, fun n hn r => ?_⟩
  obtain ⟨n, rfl⟩ : ∃ m, n = m + 1 := ⟨n - 1, by omega⟩
  rw [List.cons_append, List.append_assoc, List.singleton_append, PT]
  rw [if_neg (by decide), if_pos (by decide), h n (by omega) _ (term_close r)]; rfl
theorem At.un {g l t} (op : UInt8) (x : ByteArray) (hx : (op = 104 ∧ x = ⟨#[104, 101, 97, 100]⟩) ∨ (op = 116 ∧ x = ⟨#[116, 97, 105, 108]⟩) ∨ (op = 110 ∧ x = ⟨#[110, 117, 108, 108]⟩)) (h : At g l t) : At g (.sym x :: l) (.un op t) := by
  obtain ⟨k, h⟩ := h
  refine ⟨k + 1, fun n hn r => ?_⟩
  obtain ⟨n, rfl⟩ : ∃ m, n = m + 1 := ⟨n - 1, by omega⟩
  rw [List.cons_append, PT]
  rcases hx with ⟨rfl, rfl⟩ | ⟨rfl, rfl⟩ | ⟨rfl, rfl⟩ <;> (rw [if_neg (by decide), if_neg (by decide), if_pos (by decide), h n (by omega) r]; rfl)

theorem l_prod {g l t r k} (h : ∀ n, k ≤ n → PT n .use g l = some (t, r)) (h1 : hd ⟨#[42]⟩ r = false) : ∀ n, k + 2 ≤ n → PT n .prod g l = some (t, r) := by
  intro n hn
  obtain ⟨n, rfl⟩ : ∃ m, n = m + 2 := ⟨n - 2, by omega⟩
  rw [PT, h (n + 1) (by omega), Option.bind_some, PT, h1]; rfl
theorem l_sum {g l t r k} (h : ∀ n, k ≤ n → PT n .prod g l = some (t, r)) (h1 : hd ⟨#[43]⟩ r = false) (h2 : hd ⟨#[45]⟩ r = false) : ∀ n, k + 2 ≤ n → PT n .sum g l = some (t, r) := by
  intro n hn
  obtain ⟨n, rfl⟩ : ∃ m, n = m + 2 := ⟨n - 2, by omega⟩
  rw [PT, h (n + 1) (by omega), Option.bind_some, PT, h1, h2]; rfl
theorem l_order {g l t r k} (h : ∀ n, k ≤ n → PT n .sum g l = some (t, r)) (h1 : hd ⟨#[61]⟩ r = false) (h2 : hd ⟨#[60]⟩ r = false) : ∀ n, k + 1 ≤ n → PT n .order g l = some (t, r) := by
  intro n hn
  obtain ⟨n, rfl⟩ : ∃ m, n = m + 1 := ⟨n - 1, by omega⟩
  rw [PT, h n (by omega), Option.bind_some, h1, h2]; rfl
theorem l_list {g l t r k} (h : ∀ n, k ≤ n → PT n .order g l = some (t, r)) (h1 : hd ⟨#[58]⟩ r = false) : ∀ n, k + 1 ≤ n → PT n .list g l = some (t, r) := by
  intro n hn
  obtain ⟨n, rfl⟩ : ∃ m, n = m + 1 := ⟨n - 1, by omega⟩
  rw [PT, h n (by omega), Option.bind_some, h1]; rfl
theorem l_expr {g l t r k} (h : ∀ n, k ≤ n → PT n .list g l = some (t, r)) (h1 : hd ⟨#[108, 101, 116]⟩ l = false) (h2 : hd ⟨#[92]⟩ l = false) (h3 : hd ⟨#[105, 102]⟩ l = false) : ∀ n, k + 1 ≤ n → PT n .expr g l = some (t, r) := by
  intro n hn
  obtain ⟨n, rfl⟩ : ∃ m, n = m + 1 := ⟨n - 1, by omega⟩
  rw [PT, h1, h2, h3]
  simp only [Bool.false_eq_true, if_false]
  exact h n (by omega)

theorem At.bin {g a b ta tb} (op : UInt8) (hop : op = 58 ∨ op = 43 ∨ op = 45 ∨ op = 42 ∨ op = 61 ∨ op = 60) (ha : At g a ta) (hb : At g b tb) (ba : Beg a) : Ex g (a ++ (.sym ⟨#[op]⟩ :: b)) (.bin op ta tb) := by
  obtain ⟨k, ha⟩ := ha
  obtain ⟨j, hb⟩ := hb
  refine ⟨k + j + 30, fun n hn r hr => ?_⟩
  rw [List.append_assoc, List.cons_append]
  have use1 := use_at (fun n hn => ha n hn (.sym ⟨#[op]⟩ :: (b ++ r))) (by rcases hop with rfl | rfl | rfl | rfl | rfl | rfl <;> rfl)
  have use2 := use_at (fun n hn => hb n hn r) hr.b
  rcases hop with rfl | rfl | rfl | rfl | rfl | rfl
  · have o1 := l_order (l_sum (l_prod use1 rfl) rfl rfl) rfl rfl
    have o2 := l_list (l_order (l_sum (l_prod use2 hr.o6) hr.o4 hr.o5) hr.o2 hr.o3) hr.o1
    refine l_expr (k := k + j + 20) (fun n hn => ?_) (ba.k1 _) (ba.k2 _) (ba.k3 _) n (by omega)
    obtain ⟨n, rfl⟩ : ∃ m, n = m + 1 := ⟨n - 1, by omega⟩
    rw [PT, o1 n (by omega), Option.bind_some, if_pos (show hd _ _ = true from rfl)]
    simp only [List.tail_cons]
    rw [o2 n (by omega)]; rfl
  · have o1 := l_prod use1 rfl
    have o2 := l_prod use2 hr.o6
    refine l_expr (l_list (l_order (k := k + j + 10) (fun n hn => ?_) hr.o2 hr.o3) hr.o1) (ba.k1 _) (ba.k2 _) (ba.k3 _) n (by omega)
    obtain ⟨n, rfl⟩ : ∃ m, n = m + 3 := ⟨n - 3, by omega⟩
    rw [PT, o1 (n + 2) (by omega), Option.bind_some, PT, if_pos (show (hd _ _ || hd _ _) = true from rfl)]
    simp only [List.tail_cons]
    rw [o2 (n + 1) (by omega), Option.bind_some, PT, hr.o4, hr.o5]; rfl
  · have o1 := l_prod use1 rfl
    have o2 := l_prod use2 hr.o6
    refine l_expr (l_list (l_order (k := k + j + 10) (fun n hn => ?_) hr.o2 hr.o3) hr.o1) (ba.k1 _) (ba.k2 _) (ba.k3 _) n (by omega)
    obtain ⟨n, rfl⟩ : ∃ m, n = m + 3 := ⟨n - 3, by omega⟩
    rw [PT, o1 (n + 2) (by omega), Option.bind_some, PT, if_pos (show (hd _ _ || hd _ _) = true from rfl)]
    simp only [List.tail_cons]
    rw [o2 (n + 1) (by omega), Option.bind_some, PT, hr.o4, hr.o5]; rfl
  · refine l_expr (l_list (l_order (l_sum (k := k + j + 10) (fun n hn => ?_) hr.o4 hr.o5) hr.o2 hr.o3) hr.o1) (ba.k1 _) (ba.k2 _) (ba.k3 _) n (by omega)
    obtain ⟨n, rfl⟩ : ∃ m, n = m + 3 := ⟨n - 3, by omega⟩
    rw [PT, use1 (n + 2) (by omega), Option.bind_some, PT, if_pos (show hd _ _ = true from rfl)]
    simp only [List.tail_cons]
    rw [use2 (n + 1) (by omega), Option.bind_some, PT, hr.o6]; rfl
  · have o1 := l_sum (l_prod use1 rfl) rfl rfl
    have o2 := l_sum (l_prod use2 hr.o6) hr.o4 hr.o5
    refine l_expr (l_list (k := k + j + 10) (fun n hn => ?_) hr.o1) (ba.k1 _) (ba.k2 _) (ba.k3 _) n (by omega)
    obtain ⟨n, rfl⟩ : ∃ m, n = m + 1 := ⟨n - 1, by omega⟩
    rw [PT, o1 n (by omega), Option.bind_some, if_pos (show (hd _ _ || hd _ _) = true from rfl)]
    simp only [List.tail_cons]
    rw [o2 n (by omega)]; rfl
  · have o1 := l_sum (l_prod use1 rfl) rfl rfl
    have o2 := l_sum (l_prod use2 hr.o6) hr.o4 hr.o5
    refine l_expr (l_list (k := k + j + 10) (fun n hn => ?_) hr.o1) (ba.k1 _) (ba.k2 _) (ba.k3 _) n (by omega)
    obtain ⟨n, rfl⟩ : ∃ m, n = m + 1 := ⟨n - 1, by omega⟩
    rw [PT, o1 n (by omega), Option.bind_some, if_pos (show (hd _ _ || hd _ _) = true from rfl)]
    simp only [List.tail_cons]
    rw [o2 n (by omega)]; rfl

theorem term_then (r : List Tk) : Term (.sym ⟨#[116, 104, 101, 110]⟩ :: r) := ⟨rfl, rfl, rfl, rfl, rfl, rfl, rfl, rfl, rfl, rfl⟩
theorem term_else (r : List Tk) : Term (.sym ⟨#[101, 108, 115, 101]⟩ :: r) := ⟨rfl, rfl, rfl, rfl, rfl, rfl, rfl, rfl, rfl, rfl⟩
theorem Ex.ite {g a b c ta tb tc} (ha : Ex g a ta) (hb : Ex g b tb) (hc : Ex g c tc) : Ex g (.sym ⟨#[105, 102]⟩ :: (a ++ (.sym ⟨#[116, 104, 101, 110]⟩ :: (b ++ (.sym ⟨#[101, 108, 115, 101]⟩ :: c))))) (.ite ta tb tc) := by
  obtain ⟨i, ha⟩ := ha
  obtain ⟨j, hb⟩ := hb
  obtain ⟨k, hc⟩ := hc
  refine ⟨i + j + k + 1, fun n hn r hr => ?_⟩
  obtain ⟨n, rfl⟩ : ∃ m, n = m + 1 := ⟨n - 1, by omega⟩
  simp only [List.cons_append, List.append_assoc]
  rw [PT, if_neg (by rw [show ∀ l, hd ⟨#[108, 101, 116]⟩ (Tk.sym ⟨#[105, 102]⟩ :: l) = false from fun _ => rfl]; exact Bool.false_ne_true), if_neg (by rw [show ∀ l, hd ⟨#[92]⟩ (Tk.sym ⟨#[105, 102]⟩ :: l) = false from fun _ => rfl]; exact Bool.false_ne_true), if_pos (show hd _ _ = true from rfl)]
  simp only [List.tail_cons]
  rw [ha n (by omega) _ (term_then _), Option.bind_some]
  rw [show eat ⟨#[116, 104, 101, 110]⟩ (Tk.sym ⟨#[116, 104, 101, 110]⟩ :: (b ++ (.sym ⟨#[101, 108, 115, 101]⟩ :: (c ++ r)))) = some (b ++ (.sym ⟨#[101, 108, 115, 101]⟩ :: (c ++ r))) from rfl, Option.bind_some, hb n (by omega) _ (term_else _), Option.bind_some]
  rw [show eat ⟨#[101, 108, 115, 101]⟩ (Tk.sym ⟨#[101, 108, 115, 101]⟩ :: (c ++ r)) = some (c ++ r) from rfl, Option.bind_some, hc n (by omega) _ hr]; rfl
theorem Ex.fn {g a ta} (x : ByteArray) (ha : Ex (g ++ [x]) a ta) : Ex g (.sym ⟨#[92]⟩ :: .name x :: .sym ⟨#[46]⟩ :: a) (.fn g.length ta) := by
  obtain ⟨i, ha⟩ := ha
  refine ⟨i + 1, fun n hn r hr => ?_⟩
  obtain ⟨n, rfl⟩ : ∃ m, n = m + 1 := ⟨n - 1, by omega⟩
  simp only [List.cons_append]
  rw [PT, if_neg (by rw [show ∀ l, hd ⟨#[108, 101, 116]⟩ (Tk.sym ⟨#[92]⟩ :: l) = false from fun _ => rfl]; exact Bool.false_ne_true), if_pos (show hd _ _ = true from rfl)]
  simp only [List.tail_cons, eatName, Option.bind_some]
  rw [show eat ⟨#[46]⟩ (Tk.sym ⟨#[46]⟩ :: (a ++ r)) = some (a ++ r) from rfl, Option.bind_some, ha n (by omega) _ hr]; rfl
theorem Ex.letE {g a b ta tb} (x : ByteArray) (ha : Ex (g ++ [x]) a ta) (hb : Ex (g ++ [x]) b tb) : Ex g (.sym ⟨#[108, 101, 116]⟩ :: .name x :: .sym ⟨#[61]⟩ :: (a ++ (.sym ⟨#[105, 110]⟩ :: b))) (.letE g.length ta tb) := by
  obtain ⟨i, ha⟩ := ha
  obtain ⟨j, hb⟩ := hb
  refine ⟨i + j + 1, fun n hn r hr => ?_⟩
  obtain ⟨n, rfl⟩ : ∃ m, n = m + 1 := ⟨n - 1, by omega⟩
  simp only [List.cons_append, List.append_assoc]
  rw [PT, if_pos (show hd _ _ = true from rfl)]
  simp only [List.tail_cons, eatName, Option.bind_some]
  rw [show eat ⟨#[61]⟩ (Tk.sym ⟨#[61]⟩ :: (a ++ (.sym ⟨#[105, 110]⟩ :: (b ++ r)))) = some (a ++ (.sym ⟨#[105, 110]⟩ :: (b ++ r))) from rfl, Option.bind_some, ha n (by omega) _ (term_in _), Option.bind_some]
  rw [show eat ⟨#[105, 110]⟩ (Tk.sym ⟨#[105, 110]⟩ :: (b ++ r)) = some (b ++ r) from rfl, Option.bind_some, hb n (by omega) _ hr]; rfl
theorem term_nil : Term [] := ⟨rfl, rfl, rfl, rfl, rfl, rfl, rfl, rfl, rfl, rfl⟩
theorem Ex.whole {l t} (h : Ex [] l t) : ∃ n, PT n .expr [] l = some (t, []) := by
  obtain ⟨k, h⟩ := h
  exact ⟨k, by simpa using h k (Nat.le_refl _) [] term_nil⟩
theorem Beg.paren (l : List Tk) : Beg (.sym ⟨#[40]⟩ :: l) := ⟨fun _ => rfl, fun _ => rfl, fun _ => rfl, fun _ => rfl⟩
end Skein

namespace Go.Proofs.YtjjlgjmebnkdjaaGreatDoor
open Go Go.Proofs Go.RowKit Skein

theorem dd_step (n : Nat) (h : ¬ n < 10) : Lib.decDigits n = Lib.decDigits (n / 10) ++ [UInt8.ofNat (48 + n % 10)] := by rw [Lib.decDigits, dif_neg h]
theorem dig_isDig (d : Nat) (h : d < 10) : isDig (UInt8.ofNat (48 + d)) = true := by
  have : d = 0 ∨ d = 1 ∨ d = 2 ∨ d = 3 ∨ d = 4 ∨ d = 5 ∨ d = 6 ∨ d = 7 ∨ d = 8 ∨ d = 9 := by omega
  rcases this with rfl | rfl | rfl | rfl | rfl | rfl | rfl | rfl | rfl | rfl <;> decide
theorem dig_toNat (d : Nat) (h : d < 10) : (UInt8.ofNat (48 + d)).toNat - 48 = d := by
  have : d = 0 ∨ d = 1 ∨ d = 2 ∨ d = 3 ∨ d = 4 ∨ d = 5 ∨ d = 6 ∨ d = 7 ∨ d = 8 ∨ d = 9 := by omega
  rcases this with rfl | rfl | rfl | rfl | rfl | rfl | rfl | rfl | rfl | rfl <;> decide
theorem dd_all : ∀ (n : Nat), (∀ c ∈ Lib.decDigits n, isDig c = true) ∧ Lib.decDigits n ≠ [] ∧ (Lib.decDigits n).foldl (fun n c => n * 10 + (c.toNat - 48)) 0 = n := by
  intro n
  induction n using Nat.strongRecOn with
  | _ n ih =>
    by_cases h : n < 10
    · rw [Lib.decDigits_one h]
      refine ⟨fun c hc => ?_, by simp, ?_⟩
      · rw [List.mem_singleton.1 hc]; exact dig_isDig n h
      · simp only [List.foldl_cons, List.foldl_nil]; rw [dig_toNat n h]; omega
    · obtain ⟨i1, i2, i3⟩ := ih (n / 10) (by omega)
      rw [dd_step n h]
      refine ⟨fun c hc => ?_, by simp, ?_⟩
      · rcases List.mem_append.1 hc with hc | hc
        · exact i1 c hc
        · rw [List.mem_singleton.1 hc]; exact dig_isDig _ (by omega)
      · rw [List.foldl_append, i3]
        simp only [List.foldl_cons, List.foldl_nil]; rw [dig_toNat _ (by omega)]; omega
theorem dd_len : ∀ (k n : Nat), n < 10 ^ (k + 1) → (Lib.decDigits n).length ≤ k + 1 := by
  intro k
  induction k with
  | zero => intro n h; rw [Lib.decDigits_one (by simpa using h)]; simp
  | succ k ih =>
    intro n h
    by_cases h1 : n < 10
    · rw [Lib.decDigits_one h1]; simp
    · rw [dd_step n h1]
      have := ih (n / 10) (by rw [Nat.pow_succ] at h; omega)
      simp; omega
theorem dd_inj {i j : Nat} (h : Lib.decDigits i = Lib.decDigits j) : i = j := by
  have a := (dd_all i).2.2
  rw [h, (dd_all j).2.2] at a; exact a.symm

def vn (i : Nat) : List UInt8 := 118 :: Lib.decDigits i
def vname (i : Nat) : ByteArray := ⟨(vn i).toArray⟩
theorem vname_inj {i j : Nat} (h : vname i = vname j) : i = j := by
  have := congrArg (fun b : ByteArray => b.data.toList) h
  simp [vname, vn] at this
  exact dd_inj this
def gN (d : Nat) : List ByteArray := (List.range d).map vname
theorem gN_succ (d : Nat) : gN (d + 1) = gN d ++ [vname d] := by simp [gN, List.range_succ]
theorem gN_len (d : Nat) : (gN d).length = d := by simp [gN]
theorem lastIdx_snoc (x y : ByteArray) : ∀ l : List ByteArray, lastIdx x (l ++ [y]) = if eqb y x then some l.length else lastIdx x l := by
  intro l
  induction l with
  | nil => simp [lastIdx]
  | cons z r ih =>
    simp only [List.cons_append, lastIdx, ih]
    split
    · rename_i i hi
      split at hi
      · rename_i hy; cases hi; rw [if_pos hy]; simp
      · rename_i hne; rw [if_neg hne, hi]
    · rename_i hi
      split at hi
      · cases hi
      · rename_i hne; rw [if_neg hne, hi]
theorem gN_find {i : Nat} : ∀ d, i < d → lastIdx (vname i) (gN d) = some i := by
  intro d
  induction d with
  | zero => intro h; omega
  | succ d ih =>
    intro h
    rw [gN_succ, lastIdx_snoc]
    by_cases e : d = i
    · subst e; rw [if_pos (eqb_iff.2 rfl), gN_len]
    · rw [if_neg (by rw [Bool.not_eq_true, eqb_ne]; exact fun h => e (vname_inj h)), ih (by omega)]
theorem vname_word (i : Nat) : mem words (vname i) = false := by simp [mem, words, eqb, vname, vn]

def unW (op : UInt8) : List UInt8 := if op == 104 then [104, 101, 97, 100] else if op == 116 then [116, 97, 105, 108] else [110, 117, 108, 108]
/-- The pieces of the plain form. -/
def ppcs : T → List Pc
  | .junk => [] | .free => []
  | .nil => [.nil]
  | .num n => [.num (Lib.decDigits n)]
  | .var n => [.word (vn n)]
  | .letE n a b => .mark 40 :: .word [108, 101, 116] :: .blank 32 :: .word (vn n) :: .blank 32 :: .mark 61 :: .blank 32 :: (ppcs a ++ (.blank 32 :: .word [105, 110] :: .blank 32 :: (ppcs b ++ [.mark 41])))
  | .fn n a => .mark 40 :: .mark 92 :: .word (vn n) :: .mark 46 :: .blank 32 :: (ppcs a ++ [.mark 41])
  | .ite a b c => .mark 40 :: .word [105, 102] :: .blank 32 :: (ppcs a ++ (.blank 32 :: .word [116, 104, 101, 110] :: .blank 32 :: (ppcs b ++ (.blank 32 :: .word [101, 108, 115, 101] :: .blank 32 :: (ppcs c ++ [.mark 41])))))
  | .app a b => .mark 40 :: (ppcs a ++ (.blank 32 :: (ppcs b ++ [.mark 41])))
  | .un op a => .mark 40 :: .word (unW op) :: .blank 32 :: (ppcs a ++ [.mark 41])
  | .bin op a b => .mark 40 :: (ppcs a ++ (.blank 32 :: .mark op :: .blank 32 :: (ppcs b ++ [.mark 41])))

theorem ppcs_flat : ∀ t, Clean t → flat (ppcs t) = (plain t).data.toList := by
  intro t
  induction t with
  | junk => intro h; exact h.elim
  | free => intro h; exact h.elim
  | nil => intro _; rfl
  | num n => intro _; simp [ppcs, flat, Pc.txt, plain, dig]
  | var n => intro _; simp [ppcs, flat, Pc.txt, plain, dig, vn]
  | letE n a b ia ib => intro h; have ia := ia h.2.1; have ib := ib h.2.2; simp only [flat] at ia ib; simp [ppcs, flat, Pc.txt, plain, dig, vn, ia, ib]
  | fn n a ia => intro h; have ia := ia h.2; simp only [flat] at ia; simp [ppcs, flat, Pc.txt, plain, dig, vn, ia]
  | ite a b c ia ib ic => intro h; have ia := ia h.1; have ib := ib h.2.1; have ic := ic h.2.2; simp only [flat] at ia ib ic; simp [ppcs, flat, Pc.txt, plain, ia, ib, ic]
  | app a b ia ib => intro h; have ia := ia h.1; have ib := ib h.2; simp only [flat] at ia ib; simp [ppcs, flat, Pc.txt, plain, ia, ib]
  | un op a ia =>
    intro h; have ia := ia h.2; simp only [flat] at ia
    rcases h.1 with rfl | rfl | rfl <;> simp [ppcs, flat, Pc.txt, plain, wordOf, unW, ia]
  | bin op a b ia ib => intro h; have ia := ia h.2.1; have ib := ib h.2.2; simp only [flat] at ia ib; simp [ppcs, flat, Pc.txt, plain, ia, ib]

theorem num_pc {n : Nat} (h : n < 10 ^ 9) : (Pc.num (Lib.decDigits n)).ok = true := by
  obtain ⟨h1, h2, _⟩ := dd_all n
  simp only [Pc.ok, Bool.and_eq_true, Bool.not_eq_true', List.isEmpty_eq_false_iff, decide_eq_true_eq, List.all_eq_true]
  exact ⟨⟨h2, dd_len 8 n h⟩, h1⟩
theorem var_pc {n : Nat} (h : n ≤ 300) : (Pc.word (vn n)).ok = true := by
  obtain ⟨h1, h2, _⟩ := dd_all n
  have := dd_len 2 n (by omega)
  simp only [Pc.ok, vn, Bool.and_eq_true, List.all_eq_true, List.length_cons]
  refine ⟨⟨by decide, decide_eq_true (by omega)⟩, fun c hc => ?_⟩
  rcases List.mem_cons.1 hc with rfl | hc
  · decide
  · simp [fits, h1 c hc]
theorem ppcs_fin : ∀ t, Clean t → ∀ nx, halt nx = true → fin (ppcs t) nx = true := by
  intro t
  induction t with
  | junk => intro h; exact h.elim
  | free => intro h; exact h.elim
  | nil => intro _ nx _; rfl
  | num n => intro h nx hn; simp [ppcs, fin, num_pc h, firstN, hn]
  | var n => intro h nx hn; simp [ppcs, fin, var_pc h, firstN, hn]
  | letE n a b ia ib =>
    intro h nx hn
    have e1 := fin_app (ppcs b) [.mark 41] nx (ib h.2.2 _ rfl) rfl
    have e2 : fin (.blank 32 :: .word [105, 110] :: .blank 32 :: (ppcs b ++ [.mark 41])) nx = true := by
      simp only [fin, Bool.and_eq_true]; exact ⟨⟨rfl, rfl⟩, ⟨rfl, rfl⟩, ⟨rfl, rfl⟩, e1⟩
    have e3 := fin_app (ppcs a) _ nx (ia h.2.1 _ rfl) e2
    simp only [ppcs]
    have hv := var_pc h.1
    simp only [fin, Bool.and_eq_true] at e3 ⊢
    exact ⟨⟨rfl, rfl⟩, ⟨rfl, rfl⟩, ⟨rfl, rfl⟩, ⟨hv, rfl⟩, ⟨rfl, rfl⟩, ⟨rfl, rfl⟩, ⟨rfl, rfl⟩, e3⟩
  | fn n a ia =>
    intro h nx hn
    have e1 := fin_app (ppcs a) [.mark 41] nx (ia h.2 _ rfl) rfl
    have hv := var_pc h.1
    simp only [ppcs]
    simp only [fin, Bool.and_eq_true] at e1 ⊢
    exact ⟨⟨rfl, rfl⟩, ⟨rfl, rfl⟩, ⟨hv, rfl⟩, ⟨rfl, rfl⟩, ⟨rfl, rfl⟩, e1⟩
  | ite a b c ia ib ic =>
    intro h nx hn
    have e1 := fin_app (ppcs c) [.mark 41] nx (ic h.2.2 _ rfl) rfl
    have e2 : fin (.blank 32 :: .word [101, 108, 115, 101] :: .blank 32 :: (ppcs c ++ [.mark 41])) nx = true := by
      simp only [fin, Bool.and_eq_true]; exact ⟨⟨rfl, rfl⟩, ⟨rfl, rfl⟩, ⟨rfl, rfl⟩, e1⟩
    have e3 := fin_app (ppcs b) _ nx (ib h.2.1 _ rfl) e2
    have e4 : fin (.blank 32 :: .word [116, 104, 101, 110] :: .blank 32 :: (ppcs b ++ (.blank 32 :: .word [101, 108, 115, 101] :: .blank 32 :: (ppcs c ++ [.mark 41])))) nx = true := by
      simp only [fin, Bool.and_eq_true] at e3 ⊢; exact ⟨⟨rfl, rfl⟩, ⟨rfl, rfl⟩, ⟨rfl, rfl⟩, e3⟩
    have e5 := fin_app (ppcs a) _ nx (ia h.1 _ rfl) e4
    simp only [ppcs]
    simp only [fin, Bool.and_eq_true] at e5 ⊢
    exact ⟨⟨rfl, rfl⟩, ⟨rfl, rfl⟩, ⟨rfl, rfl⟩, e5⟩
  | app a b ia ib =>
    intro h nx hn
    have e1 := fin_app (ppcs b) [.mark 41] nx (ib h.2 _ rfl) rfl
    have e2 : fin (.blank 32 :: (ppcs b ++ [.mark 41])) nx = true := by
      simp only [fin, Bool.and_eq_true]; exact ⟨⟨rfl, rfl⟩, e1⟩
    have e3 := fin_app (ppcs a) _ nx (ia h.1 _ rfl) e2
    simp only [ppcs]
    simp only [fin, Bool.and_eq_true] at e3 ⊢
    exact ⟨⟨rfl, rfl⟩, e3⟩
  | un op a ia =>
    intro h nx hn
    have e1 := fin_app (ppcs a) [.mark 41] nx (ia h.2 _ rfl) rfl
    simp only [ppcs]
    simp only [fin, Bool.and_eq_true] at e1 ⊢
    rcases h.1 with rfl | rfl | rfl <;> exact ⟨⟨rfl, rfl⟩, ⟨rfl, rfl⟩, ⟨rfl, rfl⟩, e1⟩
  | bin op a b ia ib =>
    intro h nx hn
    have e1 := fin_app (ppcs b) [.mark 41] nx (ib h.2.2 _ rfl) rfl
    have hop : (Pc.mark op).ok = true := by rcases h.1 with rfl | rfl | rfl | rfl | rfl | rfl <;> decide
    have e2 : fin (.blank 32 :: .mark op :: .blank 32 :: (ppcs b ++ [.mark 41])) nx = true := by
      simp only [fin, Bool.and_eq_true]; exact ⟨⟨rfl, rfl⟩, ⟨hop, rfl⟩, ⟨rfl, rfl⟩, e1⟩
    have e3 := fin_app (ppcs a) _ nx (ia h.2.1 _ rfl) e2
    simp only [ppcs]
    simp only [fin, Bool.and_eq_true] at e3 ⊢
    exact ⟨⟨rfl, rfl⟩, e3⟩

theorem ppcs_at : ∀ (t : T) (d : Nat), Tidy d t → Clean t → At (gN d) (tks (ppcs t)) t ∧ Beg (tks (ppcs t)) := by
  have w1 : mem words ⟨#[108, 101, 116]⟩ = true := by decide
  have w2 : mem words ⟨#[105, 110]⟩ = true := by decide
  have w3 : mem words ⟨#[105, 102]⟩ = true := by decide
  have w4 : mem words ⟨#[116, 104, 101, 110]⟩ = true := by decide
  have w5 : mem words ⟨#[101, 108, 115, 101]⟩ = true := by decide
  have w6 : ∀ n, mem words ⟨(118 :: Lib.decDigits n).toArray⟩ = false := vname_word
  intro t
  induction t with
  | junk => intro d h; exact h.elim
  | free => intro d h; exact h.elim
  | nil => intro d _ _; exact ⟨⟨1, fun n hn r => by obtain ⟨n, rfl⟩ : ∃ m, n = m + 1 := ⟨n - 1, by omega⟩
                                                    rfl⟩, fun _ => rfl, fun _ => rfl, fun _ => rfl, fun _ => rfl⟩
  | num k =>
    intro d _ h
    refine ⟨⟨1, fun n hn r => ?_⟩, fun _ => rfl, fun _ => rfl, fun _ => rfl, fun _ => rfl⟩
    obtain ⟨n, rfl⟩ : ∃ m, n = m + 1 := ⟨n - 1, by omega⟩
    have e : val ⟨(Lib.decDigits k).toArray⟩ = k := (dd_all k).2.2
    show some (T.num (val ⟨(Lib.decDigits k).toArray⟩), r) = _
    rw [e]
  | var k =>
    intro d h _
    have e : tks (ppcs (.var k)) = [.name (vname k)] := by
      show [if mem words (vname k) then Tk.sym (vname k) else Tk.name (vname k)] ++ [] = _
      rw [vname_word]; rfl
    rw [e]
    refine ⟨⟨1, fun n hn r => ?_⟩, fun _ => rfl, fun _ => rfl, fun _ => rfl, fun _ => rfl⟩
    obtain ⟨n, rfl⟩ : ∃ m, n = m + 1 := ⟨n - 1, by omega⟩
    simp only [List.singleton_append, PT, gN_find d h]; rfl
  | letE k a b ia ib =>
    rintro d ⟨rfl, ta, tb⟩ ⟨hk, ca, cb⟩
    obtain ⟨a1, a2⟩ := ia _ ta ca
    obtain ⟨b1, b2⟩ := ib _ tb cb
    rw [gN_succ] at a1 b1
    have h := Ex.letE (vname k) (a1.ex a2) (b1.ex b2)
    rw [gN_len] at h
    have e : tks (ppcs (.letE k a b)) = .sym ⟨#[40]⟩ :: ((.sym ⟨#[108, 101, 116]⟩ :: .name (vname k) :: .sym ⟨#[61]⟩ :: (tks (ppcs a) ++ (.sym ⟨#[105, 110]⟩ :: tks (ppcs b)))) ++ [.sym ⟨#[41]⟩]) := by
      simp [ppcs, tks, Pc.tk, w1, w2, vname, vn, w6]
    rw [e]; exact ⟨At.paren h, Beg.paren _⟩
  | fn k a ia =>
    rintro d ⟨rfl, ta⟩ ⟨hk, ca⟩
    obtain ⟨a1, a2⟩ := ia _ ta ca
    rw [gN_succ] at a1
    have h := Ex.fn (vname k) (a1.ex a2)
    rw [gN_len] at h
    have e : tks (ppcs (.fn k a)) = .sym ⟨#[40]⟩ :: ((.sym ⟨#[92]⟩ :: .name (vname k) :: .sym ⟨#[46]⟩ :: tks (ppcs a)) ++ [.sym ⟨#[41]⟩]) := by
      simp [ppcs, tks, Pc.tk, vname, vn, w6]
    rw [e]; exact ⟨At.paren h, Beg.paren _⟩
  | ite a b c ia ib ic =>
    rintro d ⟨ta, tb, tc⟩ ⟨ca, cb, cc⟩
    obtain ⟨a1, a2⟩ := ia _ ta ca
    obtain ⟨b1, b2⟩ := ib _ tb cb
    obtain ⟨c1, c2⟩ := ic _ tc cc
    have h := Ex.ite (a1.ex a2) (b1.ex b2) (c1.ex c2)
    have e : tks (ppcs (.ite a b c)) = .sym ⟨#[40]⟩ :: ((.sym ⟨#[105, 102]⟩ :: (tks (ppcs a) ++ (.sym ⟨#[116, 104, 101, 110]⟩ :: (tks (ppcs b) ++ (.sym ⟨#[101, 108, 115, 101]⟩ :: tks (ppcs c)))))) ++ [.sym ⟨#[41]⟩]) := by
      simp [ppcs, tks, Pc.tk, w3, w4, w5]
    rw [e]; exact ⟨At.paren h, Beg.paren _⟩
  | app a b ia ib =>
    rintro d ⟨ta, tb⟩ ⟨ca, cb⟩
    obtain ⟨a1, a2⟩ := ia _ ta ca
    obtain ⟨b1, b2⟩ := ib _ tb cb
    have e : tks (ppcs (.app a b)) = .sym ⟨#[40]⟩ :: ((tks (ppcs a) ++ tks (ppcs b)) ++ [.sym ⟨#[41]⟩]) := by
      simp [ppcs, tks, Pc.tk]
    rw [e]; exact ⟨At.paren (At.app a1 b1 a2 b2), Beg.paren _⟩
  | un op a ia =>
    rintro d ⟨_, ta⟩ ⟨hop, ca⟩
    obtain ⟨a1, a2⟩ := ia _ ta ca
    rcases hop with rfl | rfl | rfl
    · have w7 : mem words ⟨#[104, 101, 97, 100]⟩ = true := by decide
      have e : tks (ppcs (.un 104 a)) = .sym ⟨#[40]⟩ :: ((.sym ⟨#[104, 101, 97, 100]⟩ :: tks (ppcs a)) ++ [.sym ⟨#[41]⟩]) := by simp [ppcs, tks, Pc.tk, unW, w7]
      rw [e]
      exact ⟨At.paren (At.ex (At.un 104 _ (.inl ⟨rfl, rfl⟩) a1) ⟨fun _ => rfl, fun _ => rfl, fun _ => rfl, fun _ => rfl⟩), Beg.paren _⟩
    · have w7 : mem words ⟨#[116, 97, 105, 108]⟩ = true := by decide
      have e : tks (ppcs (.un 116 a)) = .sym ⟨#[40]⟩ :: ((.sym ⟨#[116, 97, 105, 108]⟩ :: tks (ppcs a)) ++ [.sym ⟨#[41]⟩]) := by simp [ppcs, tks, Pc.tk, unW, w7]
      rw [e]
      exact ⟨At.paren (At.ex (At.un 116 _ (.inr (.inl ⟨rfl, rfl⟩)) a1) ⟨fun _ => rfl, fun _ => rfl, fun _ => rfl, fun _ => rfl⟩), Beg.paren _⟩
    · have w7 : mem words ⟨#[110, 117, 108, 108]⟩ = true := by decide
      have e : tks (ppcs (.un 110 a)) = .sym ⟨#[40]⟩ :: ((.sym ⟨#[110, 117, 108, 108]⟩ :: tks (ppcs a)) ++ [.sym ⟨#[41]⟩]) := by simp [ppcs, tks, Pc.tk, unW, w7]
      rw [e]
      exact ⟨At.paren (At.ex (At.un 110 _ (.inr (.inr ⟨rfl, rfl⟩)) a1) ⟨fun _ => rfl, fun _ => rfl, fun _ => rfl, fun _ => rfl⟩), Beg.paren _⟩
  | bin op a b ia ib =>
    rintro d ⟨_, ta, tb⟩ ⟨hop, ca, cb⟩
    obtain ⟨a1, a2⟩ := ia _ ta ca
    obtain ⟨b1, b2⟩ := ib _ tb cb
    have e : tks (ppcs (.bin op a b)) = .sym ⟨#[40]⟩ :: ((tks (ppcs a) ++ (.sym ⟨#[op]⟩ :: tks (ppcs b))) ++ [.sym ⟨#[41]⟩]) := by
      simp [ppcs, tks, Pc.tk]
    rw [e]; exact ⟨At.paren (At.bin op (by rcases hop with h | h | h | h | h | h <;> simp [h]) a1 b1 a2), Beg.paren _⟩

/-- The plain form is read as the expression that it is. -/
theorem plain_whole {t : T} (ht : Tidy 0 t) (hc : Clean t) : ∃ m, PM (plain t) (8 * (plain t).size + 8) .expr (Skein.start (plain t)) = some (t, m) ∧ finish m = (0, 0) := by
  obtain ⟨h1, h2⟩ := ppcs_at t 0 ht hc
  obtain ⟨n, hn⟩ := Ex.whole (At.ex h1 h2)
  exact whole_of (ppcs_flat t hc).symm (ppcs_fin t hc none rfl) hn
end Go.Proofs.YtjjlgjmebnkdjaaGreatDoor

namespace Go.Proofs.YtjjlgjmebnkdjaaGreatDoor
open Go Go.Proofs Go.RowKit Skein

/-- What is laid up. -/
def xcells (xs : List X) : List Value := xs.flatMap fun x => [.string ⟨x.txt.toArray⟩, .int .i64 x.n]
theorem xcells_len (xs : List X) : (xcells xs).length = xs.length * 2 := by
  induction xs with
  | nil => rfl
  | cons x r ih =>
    have : xcells (x :: r) = .string ⟨x.txt.toArray⟩ :: .int .i64 x.n :: xcells r := rfl
    rw [this]; simp only [List.length_cons, ih]; omega
theorem xcells_get : ∀ (xs : List X) (j : Nat) (h : j < xs.length), (xcells xs)[j * 2]? = some (.string ⟨(xs[j]).txt.toArray⟩) ∧ (xcells xs)[j * 2 + 1]? = some (.int .i64 (xs[j]).n) := by
  intro xs
  induction xs with
  | nil => intro j h; cases h
  | cons x r ih =>
    intro j h
    have e : xcells (x :: r) = .string ⟨x.txt.toArray⟩ :: .int .i64 x.n :: xcells r := rfl
    cases j with
    | zero => rw [e]; exact ⟨rfl, rfl⟩
    | succ j =>
      obtain ⟨h1, h2⟩ := ih j (by simpa using h)
      rw [e, show (j + 1) * 2 = j * 2 + 2 by omega]
      exact ⟨by simpa using h1, by simpa using h2⟩
theorem xcells_snoc (xs : List X) (x : X) : xcells (xs ++ [x]) = xcells xs ++ [.string ⟨x.txt.toArray⟩, .int .i64 x.n] := by simp [xcells]
theorem xcells_take (xs : List X) (k : Nat) : (xcells xs).take (k * 2) = xcells (xs.take k) := by
  induction xs generalizing k with
  | nil => simp [xcells]
  | cons x r ih =>
    have e : xcells (x :: r) = .string ⟨x.txt.toArray⟩ :: .int .i64 x.n :: xcells r := rfl
    cases k with
    | zero => simp [xcells]
    | succ k =>
      rw [e, show (k + 1) * 2 = k * 2 + 2 by omega, List.take_succ_cons, List.take_succ_cons, ih, List.take_succ_cons]; rfl

structure XS (b : Nat) (W : World) (v : Value) (xs : List X) : Prop where
  own : W.ownsRow b 26 2 v xs.length (xcells xs)
  ok : ∀ x ∈ xs, x.ok ∧ x.txt.length ≤ 110
  ne : xs ≠ []
theorem own_cells {W : World} {b : Nat} {v : Value} {xs : List X} (h : W.ownsRow b 26 2 v xs.length (xcells xs)) (hn : xs ≠ []) : ∃ g cap, v = .slice (some ⟨g, 0, none⟩) xs.length cap ∧ b ≤ g ∧ xs.length ≤ cap ∧
    (∀ j (hj : j < xs.length), W.cell? ⟨g, j * 2, none⟩ = some (.string ⟨(xs[j]).txt.toArray⟩) ∧ W.cell? ⟨g, j * 2 + 1, none⟩ = some (.int .i64 (xs[j]).n)) ∧ (∀ k, k ≤ xs.length → W.ownsRow b 26 2 (.slice (some ⟨g, 0, none⟩) k cap) k (xcells (xs.take k))) := by
  rcases h.2 with ⟨_, h0⟩ | ⟨g, cap, cur, rfl, hb, hh, h1, h2, h3, h4⟩
  · exact absurd (List.length_eq_zero_iff.1 h0) hn
  · have hc : ∀ j, j < xs.length * 2 → cur[j]? = (xcells xs)[j]? := fun j hj => by
      rw [← h4, List.getElem?_take, if_pos hj]; simp
    refine ⟨g, cap, rfl, hb, h1, fun j hj => ?_, fun k hk => ⟨?_, .inr ⟨g, cap, cur, rfl, hb, hh, by omega, h2, h3, ?_⟩⟩⟩
    · obtain ⟨a1, a2⟩ := xcells_get xs j hj
      rw [← hc _ (by omega)] at a1 a2
      exact ⟨by simp [World.cell?, hh, a1], by simp [World.cell?, hh, a2]⟩
    · rw [xcells_len, List.length_take]; congr 1; omega
    · rw [← xcells_take, ← h4, List.take_take]; congr 1; omega

theorem info26 : (Tryz.prog.info? 26).map (fun i => (i.zero, i.size, i.bytes)) = some (some (.agg #[.string ByteArray.empty, .int .i64 0]), 2, 24) := by kernel_rfl

theorem XS.alloc {b : Nat} {W : World} {v : Value} {xs : List X} (h : XS b W v xs) (o : Obj) : XS b (W.alloc o) v xs := ⟨h.own.alloc o, h.ok, h.ne⟩
theorem own_put {W : World} {b g cap k : Nat} {cs : List Value} (x y : Value) (h : W.ownsRow b 26 2 (.slice (some ⟨g, 0, none⟩) k cap) k cs) (hr : k + 1 ≤ cap) :
    (W.setCells g (0 + k * 2) [x, y]).ownsRow b 26 2 (.slice (some ⟨g, 0, none⟩) (k + 1) cap) (k + 1) (cs ++ [x, y]) := by
  obtain ⟨hl, h2⟩ := h
  rcases h2 with ⟨h, _⟩ | ⟨g', cap', cur, e, hb, hh, h1, hm, h3, h4⟩
  · cases h
  · simp only [Value.slice.injEq, Option.some.injEq, Addr.mk.injEq] at e
    obtain ⟨⟨rfl, _⟩, _, rfl⟩ := e
    have hh2 := RB.set (RB.set hh (0 + k * 2) x) (0 + k * 2 + 1) y
    refine ⟨by simp [hl]; omega, .inr ⟨g, cap, _, rfl, hb, hh2, hr, hm, ?_, ?_⟩⟩
    · simp [h3]
    · apply List.ext_getElem?
      intro j
      have hj : ∀ j, j < k * 2 → cur.toList[j]? = cs[j]? := fun j hj => by rw [← h4, List.getElem?_take, if_pos hj]
      have hsz : cur.toList.length = cap * 2 := by simp [h3]
      rcases Nat.lt_or_ge j (k * 2) with c | c
      · rw [List.getElem?_take, if_pos (by omega), List.getElem?_append_left (by omega), ← hj j c]
        simp only [Array.toList_setIfInBounds]
        rw [List.getElem?_set_ne (by omega), List.getElem?_set_ne (by omega)]
      · rw [List.getElem?_append_right (by omega), hl, List.getElem?_take]
        simp only [Array.toList_setIfInBounds]
        rcases Nat.lt_or_ge j (k * 2 + 1) with c1 | c1
        · obtain rfl : j = k * 2 := by omega
          rw [if_pos (by omega), List.getElem?_set_ne (by omega), Nat.zero_add, List.getElem?_set_self (by omega)]; simp
        · rcases Nat.lt_or_ge j (k * 2 + 2) with c2 | c2
          · obtain rfl : j = k * 2 + 1 := by omega
            rw [if_pos (by omega), Nat.zero_add, List.getElem?_set_self (by simp; omega)]; simp
          · rw [if_neg (by omega), List.getElem?_eq_none (by simp; omega)]
theorem own_spare {W : World} {b g cap k : Nat} {cs : List Value} (h : W.ownsRow b 26 2 (.slice (some ⟨g, 0, none⟩) k cap) k cs) (hr : k + 1 ≤ cap) (x y : Value) :
    ∀ j, j < [x, y].length → (W.cell? ⟨g, 0 + k * 2 + j, none⟩).isSome = true ∧ W.frozen? ⟨g, 0 + k * 2 + j, none⟩ = false := by
  obtain ⟨hl, h2⟩ := h
  rcases h2 with ⟨h, _⟩ | ⟨g', cap', cur, e, hb, hh, h1, hm, h3, h4⟩
  · cases h
  · simp only [Value.slice.injEq, Option.some.injEq, Addr.mk.injEq] at e
    obtain ⟨⟨rfl, _⟩, _, rfl⟩ := e
    intro j hj
    simp only [List.length_cons, List.length_nil] at hj
    have hlt : 0 + k * 2 + j < cur.size := by omega
    exact ⟨by simp [World.cell?, hh]; omega, by simp [World.frozen?, hh]⟩
theorem XS.push {b : Nat} {W : World} {v : Value} {xs : List X} {x : X} (ho : W.ownsRow b 26 2 v (xs.length + 1) (xcells xs ++ [.string ⟨x.txt.toArray⟩, .int .i64 x.n])) (ha : ∀ y ∈ xs, y.ok ∧ y.txt.length ≤ 110) (hx : x.ok) (hl : x.txt.length ≤ 110) : XS b W v (xs ++ [x]) :=
  ⟨by rw [xcells_snoc, List.length_append]; exact ho, fun y hy => by
    rcases List.mem_append.1 hy with h | h
    · exact ha y h
    · rw [List.mem_singleton.1 h]; exact ⟨hx, hl⟩, by simp⟩
theorem xnum (d : Nat) (h : d < 1000000) : (X.num (Lib.decDigits d)).ok ∧ (X.num (Lib.decDigits d)).txt.length ≤ 110 ∧ (X.num (Lib.decDigits d)).n = d := by
  obtain ⟨h1, h2, h3⟩ := dd_all d
  have hl := dd_len 5 d h
  refine ⟨⟨h2, by omega, h1⟩, ?_, ?_⟩
  · show (Lib.decDigits d).length ≤ 110
    omega
  · show ((val ⟨(Lib.decDigits d).toArray⟩ : Nat) : Int) = d
    have : val ⟨(Lib.decDigits d).toArray⟩ = d := h3
    rw [this]
theorem x43 (a b : X) : (⟨(X.op true 43 a b).txt.toArray⟩ : ByteArray) = ⟨#[40]⟩ ++ ⟨a.txt.toArray⟩ ++ ⟨#[32, 43, 32]⟩ ++ ⟨b.txt.toArray⟩ ++ ⟨#[41]⟩ := by
  apply ByteArray.ext; apply Array.ext'; simp [X.txt]
theorem x45 (a b : X) : (⟨(X.op false 45 a b).txt.toArray⟩ : ByteArray) = ⟨#[40]⟩ ++ ⟨a.txt.toArray⟩ ++ ⟨#[45]⟩ ++ ⟨b.txt.toArray⟩ ++ ⟨#[41]⟩ := by
  apply ByteArray.ext; apply Array.ext'; simp [X.txt]
theorem x42 (a b : X) : (⟨(X.op true 42 a b).txt.toArray⟩ : ByteArray) = ⟨#[40]⟩ ++ ⟨a.txt.toArray⟩ ++ ⟨#[32, 42, 32]⟩ ++ ⟨b.txt.toArray⟩ ++ ⟨#[41]⟩ := by
  apply ByteArray.ext; apply Array.ext'; simp [X.txt]
theorem x60 (a b : X) : (⟨(X.op true 60 a b).txt.toArray⟩ : ByteArray) = ⟨#[40]⟩ ++ ⟨a.txt.toArray⟩ ++ ⟨#[32, 60, 32]⟩ ++ ⟨b.txt.toArray⟩ ++ ⟨#[41]⟩ := by
  apply ByteArray.ext; apply Array.ext'; simp [X.txt]
theorem x61 (a b : X) : (⟨(X.op false 61 a b).txt.toArray⟩ : ByteArray) = ⟨#[40]⟩ ++ ⟨a.txt.toArray⟩ ++ ⟨#[61]⟩ ++ ⟨b.txt.toArray⟩ ++ ⟨#[41]⟩ := by
  apply ByteArray.ext; apply Array.ext'; simp [X.txt]
theorem xif (a b : X) : (⟨(X.ite a b).txt.toArray⟩ : ByteArray) = ⟨#[40, 105, 102, 32]⟩ ++ ⟨a.txt.toArray⟩ ++ ⟨#[32, 116, 104, 101, 110, 32]⟩ ++ ⟨b.txt.toArray⟩ ++ ⟨#[32, 101, 108, 115, 101, 32]⟩ ++ ⟨a.txt.toArray⟩ ++ ⟨#[41]⟩ := by
  apply ByteArray.ext; apply Array.ext'; simp [X.txt]
theorem truth_ok (t : Bool) (w : World) : Calls Tryz.prog 30 #[.bool t] w fun e w' => e = .returned (.int .i64 (tr t)) ∧ w' = w := by
  cases t <;> (go_enter Tryz.func30, Tryz.ntmps30; go_wp2_with fail; go_ret; exact ⟨rfl, rfl⟩)
theorem mcells {W : World} {k : Nat} {x y : Value} (h : W.heap[k]? = some (.cells #[x, y] 26 (0, 0))) : W.cell? ⟨k, 0, none⟩ = some x ∧ W.cell? ⟨k, 1, none⟩ = some y ∧ k < W.heap.size :=
  ⟨by simp [World.cell?, h], by simp [World.cell?, h], heap_lt h⟩
theorem own_drew {W : World} {b n : Nat} {v : Value} {cs : List Value} (h : W.ownsRow b 26 2 v n cs) : W.drew.ownsRow b 26 2 v n cs := h
structure MW (w : World) (g cap n k : Nat) (xs : List X) (S : ByteArray) (z : Int) (W : World) : Prop where
  held : XS (w.heap.size + 1) W (.slice (some ⟨g, 0, none⟩) xs.length cap) xs
  row : W.ownsRow (w.heap.size + 1) 26 2 (.slice (some ⟨g, 0, none⟩) k cap) k (xcells (xs.take k))
  below : Below w.heap.size w W
  res : W.heap[w.heap.size]? = some (.cells #[.string ⟨#[]⟩, .int .i64 0] 26 (0, 0))
  m : W.heap[n + 1 + 1]? = some (.cells #[.string S, .int .i64 z] 26 (0, 0))
theorem m_world {w w1 : World} {g cap k : Nat} {xs : List X} (oa ob : Obj) (S : ByteArray) (z : Int) (hB : Below w.heap.size w w1)
    (hrb : w1.heap[w.heap.size]? = some (.cells #[.string ⟨#[]⟩, .int .i64 0] 26 (0, 0))) (HX : XS (w.heap.size + 1) w1 (.slice (some ⟨g, 0, none⟩) xs.length cap) xs)
    (HT : w1.ownsRow (w.heap.size + 1) 26 2 (.slice (some ⟨g, 0, none⟩) k cap) k (xcells (xs.take k))) :
    MW w g cap w1.heap.size k xs S z (((w1.alloc oa).alloc ob).alloc (.cells #[.string S, .int .i64 z] 26 (0, 0))) := by
  have hlt := heap_lt hrb
  refine ⟨((HX.alloc _).alloc _).alloc _, ((HT.alloc _).alloc _).alloc _, ?_, ?_, alloc_at _ _ _ (by simp)⟩
  · exact ((hB.alloc (by omega) _).alloc (by simp; omega) _).alloc (by simp; omega) _
  · rw [Below.heap_alloc _ _ _ (by simp; omega), Below.heap_alloc _ _ _ (by simp; omega), Below.heap_alloc _ _ _ hlt]; exact hrb
theorem m_push {w W : World} {g cap n k : Nat} {xs : List X} {S : ByteArray} {z : Int} {x : X} (h : MW w g cap n k xs S z W) (hg : w.heap.size + 1 ≤ g) (hk : k + 1 ≤ cap) (hkl : k ≤ xs.length) (hS : (⟨x.txt.toArray⟩ : ByteArray) = S) (hz : x.n = z) (hx : x.ok) (hl : x.txt.length ≤ 110) (o : Obj) :
    XS (w.heap.size + 1) ((W.alloc o).drew.setCells g (k * 2) [.string S, .int .i64 z]) (.slice (some ⟨g, 0, none⟩) (k + 1) cap) (xs.take k ++ [x]) ∧
    Below w.heap.size w ((W.alloc o).drew.setCells g (k * 2) [.string S, .int .i64 z]) ∧
    ((W.alloc o).drew.setCells g (k * 2) [.string S, .int .i64 z]).heap[w.heap.size]? = some (.cells #[.string ⟨#[]⟩, .int .i64 0] 26 (0, 0)) := by
  rw [show (W.alloc o).drew = W.drew.alloc o from rfl, show k * 2 = 0 + k * 2 by omega]
  have hlt := heap_lt h.res
  have hkl' : (xs.take k).length = k := by rw [List.length_take]; omega
  subst hS hz
  refine ⟨XS.push (by rw [hkl']; exact own_put _ _ ((own_drew h.row).alloc o) hk) (fun y hy => h.held.ok y (List.mem_of_mem_take hy)) hx hl, ?_, ?_⟩
  · exact (((h.below.drew).alloc (by show w.heap.size ≤ W.heap.size; omega) _).setCell (p := ⟨g, 0 + k * 2, none⟩) (by show w.heap.size ≤ g; omega) _).setCell (p := ⟨g, 0 + k * 2 + 1, none⟩) (by show w.heap.size ≤ g; omega) _
  · show (((W.drew.alloc o).setCell ⟨g, 0 + k * 2, none⟩ _).setCell ⟨g, 0 + k * 2 + 1, none⟩ _).heap[w.heap.size]? = _
    rw [Below.heap_setCell _ _ _ _ (by show w.heap.size ≠ g; omega), Below.heap_setCell _ _ _ _ (by show w.heap.size ≠ g; omega)]
    exact (Below.heap_alloc W.drew o _ hlt).trans h.res
theorem mfroz {W : World} {k : Nat} {x y : Value} (h : W.heap[k]? = some (.cells #[x, y] 26 (0, 0))) : W.frozen? ⟨k, 0, none⟩ = false ∧ W.frozen? ⟨k, 1, none⟩ = false :=
  ⟨by simp [World.frozen?, h], by simp [World.frozen?, h]⟩
theorem ab_world {w1 : World} (oa ob o : Obj) : (((w1.alloc oa).alloc ob).alloc o).heap[w1.heap.size]? = some oa ∧ (((w1.alloc oa).alloc ob).alloc o).heap[w1.heap.size + 1]? = some ob := by
  constructor
  · rw [Below.heap_alloc _ _ _ (by simp; omega), Below.heap_alloc _ _ _ (by simp)]; exact alloc_at _ _ _ rfl
  · rw [Below.heap_alloc _ _ _ (by simp)]; exact alloc_at _ _ _ (by simp)
theorem own_set {W : World} {b g cap k m o : Nat} {v : Value} {cs : List Value} (h : W.ownsRow b 26 2 (.slice (some ⟨g, 0, none⟩) k cap) k cs) (hm : g ≠ m) : (W.setCell ⟨m, o, none⟩ v).ownsRow b 26 2 (.slice (some ⟨g, 0, none⟩) k cap) k cs := by
  obtain ⟨hl, h2⟩ := h
  rcases h2 with ⟨h, _⟩ | ⟨g', cap', cur, e, hb, hh, h1, h2, h3, h4⟩
  · cases h
  · have e' := e
    simp only [Value.slice.injEq, Option.some.injEq, Addr.mk.injEq] at e
    obtain ⟨⟨rfl, _⟩, _, rfl⟩ := e
    exact ⟨hl, .inr ⟨g, cap, cur, e', hb, by rw [Below.heap_setCell _ _ _ _ hm]; exact hh, h1, h2, h3, h4⟩⟩
theorem MW.store {w W : World} {g cap n k : Nat} {xs : List X} {S0 : ByteArray} {z0 : Int} (h : MW w g cap n k xs S0 z0 W) (hg : g < n) (hn : w.heap.size < n) (S : ByteArray) (z : Int) :
    MW w g cap n k xs S z ((W.drew.setCell ⟨n + 1 + 1, 0, none⟩ (.string S)).setCell ⟨n + 1 + 1, 1, none⟩ (.int .i64 z)) := by
  have d1 : g ≠ n + 1 + 1 := by omega
  have d2 : w.heap.size ≠ n + 1 + 1 := by omega
  refine ⟨⟨own_set (own_set (own_drew h.held.own) d1) d1, h.held.ok, h.held.ne⟩, own_set (own_set (own_drew h.row) d1) d1, ?_, ?_, ?_⟩
  · exact (h.below.drew.setCell (p := ⟨n + 1 + 1, 0, none⟩) (by show w.heap.size ≤ n + 1 + 1; omega) _).setCell (p := ⟨n + 1 + 1, 1, none⟩) (by show w.heap.size ≤ n + 1 + 1; omega) _
  · rw [Below.heap_setCell _ _ _ _ d2, Below.heap_setCell _ _ _ _ d2]; exact h.res
  · have e := RB.set (RB.set (w := W.drew) h.m 0 (.string S)) 1 (.int .i64 z)
    exact e
theorem MW.store' {w W : World} {g cap n k : Nat} {xs : List X} {S0 : ByteArray} {z0 : Int} (h : MW w g cap n k xs S0 z0 W) (hg : g < n) (hn : w.heap.size < n) (S : ByteArray) (z : Int) :
    MW w g cap n k xs S z ((W.setCell ⟨n + 1 + 1, 0, none⟩ (.string S)).setCell ⟨n + 1 + 1, 1, none⟩ (.int .i64 z)).drew := h.store hg hn S z
theorem set26 {w : World} {k : Nat} {x y : Value} (h : w.heap[k]? = some (.cells #[x, y] 26 (0, 0))) (a b : Value) :
    ((w.setCell ⟨k, 0, none⟩ a).setCell ⟨k, 1, none⟩ b).heap[k]? = some (.cells #[a, b] 26 (0, 0)) := by
  simp [World.setCell, Array.getElem?_modify, h]
theorem fin2 {f : Func} {R : Ending → World → Prop} {t : Nat} {a : Act} {W : World} {k : Nat} {x0 x1 : Value} (hf : f.results = #[.cell t 26]) (ht : a.tmps[t]?.getD undef = .pointer (some ⟨k, 0, none⟩)) (hd : a.defers = []) (hk : W.heap[k]? = some (.cells #[x0, x1] 26 (0, 0)))
    (hR : R (.returned (.agg #[x0, x1])) W) : bodyPost Tryz.prog f R .ret a W := by
  obtain ⟨y0, y1, _⟩ := mcells hk
  refine bodyPost_ret (v := .agg #[x0, x1]) ?_ hd hR
  simp [results, hf, go_sem, ht, y0, y1]
end Go.Proofs.YtjjlgjmebnkdjaaGreatDoor

namespace Skein
open Go

/-- A piece of a text, or the expression. -/
inductive Ch where
  | pc (p : Pc) | x

def Ch.txt (x : X) : Ch → List UInt8 | .pc p => p.txt | .x => x.txt
def Ch.pcs (x : X) : Ch → List Pc | .pc p => [p] | .x => x.pcs
def Ch.tk (t : T) : Ch → List Tk | .pc p => p.tk | .x => [.tree t]
def chTxt (x : X) : List Ch → List UInt8 | [] => [] | c :: r => c.txt x ++ chTxt x r
def chPcs (x : X) : List Ch → List Pc | [] => [] | c :: r => c.pcs x ++ chPcs x r
def chTk (t : T) : List Ch → List Tk | [] => [] | c :: r => c.tk t ++ chTk t r
def chHalt : List Ch → Bool
  | [] => true | .pc p :: _ => halt p.txt.head? | .x :: _ => false
def chFin : List Ch → Bool
  | [] => true
  | .pc p :: r => p.ok && (!p.runs || chHalt r) && chFin r
  | .x :: r => chHalt r && chFin r

theorem chTxt_app (x : X) (a b : List Ch) : chTxt x (a ++ b) = chTxt x a ++ chTxt x b := by
  induction a with
  | nil => rfl
  | cons c r ih => simp [chTxt, ih]
theorem chHalt_halt (x : X) : ∀ l, chHalt l = true → halt (firstN (chPcs x l) none) = true := by
  intro l h
  cases l with
  | nil => rfl
  | cons c r => cases c with
    | pc p => exact h
    | x => cases h
theorem chFin_fin {x : X} (hx : x.ok) : ∀ l, chFin l = true → fin (chPcs x l) none = true := by
  intro l
  induction l with
  | nil => intro _; rfl
  | cons c r ih =>
    intro h
    cases c with
    | pc p =>
      simp only [chFin, Bool.and_eq_true, Bool.or_eq_true] at h
      show fin (p :: chPcs x r) none = true
      simp only [fin, Bool.and_eq_true, Bool.or_eq_true]
      refine ⟨⟨h.1.1, ?_⟩, ih h.2⟩
      rcases h.1.2 with h1 | h1
      · exact .inl h1
      · exact .inr (chHalt_halt x r h1)
    | x =>
      simp only [chFin, Bool.and_eq_true] at h
      exact fin_app _ _ _ (X.fin_pcs x hx _ (chHalt_halt x r h.1)) (ih h.2)
theorem ch_flat (x : X) : ∀ l, flat (chPcs x l) = chTxt x l := by
  intro l
  induction l with
  | nil => rfl
  | cons c r ih =>
    show flat (c.pcs x ++ chPcs x r) = c.txt x ++ chTxt x r
    rw [flat_app, ih]
    cases c with
    | pc p => simp [Ch.pcs, Ch.txt, flat]
    | x => simp [Ch.pcs, Ch.txt, X.flat_pcs]
theorem ch_sub {x : X} (hx : x.ok) : ∀ l, Sub (chTk x.tree l) (tks (chPcs x l)) := by
  intro l
  induction l with
  | nil => exact .nil
  | cons c r ih =>
    show Sub (c.tk x.tree ++ chTk x.tree r) (tks (c.pcs x ++ chPcs x r))
    rw [tks_app]
    cases c with
    | pc p =>
      have : tks (Ch.pcs x (.pc p)) = p.tk := by simp [Ch.pcs, tks]
      rw [this]; exact sub_same _ ih
    | x => exact .tree (X.rd x hx) ih
theorem ch_read {x : X} (hx : x.ok) {s : ByteArray} (l : List Ch) {t : T} {n : Nat} (hs : s.data.toList = chTxt x l) (hf : chFin l = true) (hp : PT n .expr [] (chTk x.tree l) = some (t, [])) :
    ∃ m, PM s (8 * s.size + 8) .expr (start s) = some (t, m) ∧ finish m = (0, 0) := by
  obtain ⟨N, l1, h1, h2⟩ := PT_sub _ _ _ _ _ _ hp _ (ch_sub hx l)
  rw [sub_nil h1] at h2
  exact whole_of (hs.trans (ch_flat x l).symm) (chFin_fin hx l hf) (h2 N (Nat.le_refl _))

theorem val_lt9 : ∀ (l : List UInt8), (∀ c ∈ l, isDig c = true) → val ⟨l.toArray⟩ < 10 ^ l.length := by
  intro l h
  have aux : ∀ (l : List UInt8) (a : Nat), (∀ c ∈ l, isDig c = true) → l.foldl (fun n c => n * 10 + (c.toNat - 48)) a < (a + 1) * 10 ^ l.length := by
    intro l
    induction l with
    | nil => intro a _; simp
    | cons c r ih =>
      intro a h
      have hc := h c (by simp)
      have hc9 : c.toNat - 48 ≤ 9 := by
        simp only [isDig, Bool.and_eq_true, decide_eq_true_eq] at hc
        have := hc.2
        have h2 : c.toNat ≤ 57 := by simpa [UInt8.le_iff_toNat_le] using this
        omega
      have := ih (a * 10 + (c.toNat - 48)) (fun x hx => h x (by simp [hx]))
      simp only [List.foldl_cons, List.length_cons]
      refine Nat.lt_of_lt_of_le this ?_
      rw [Nat.pow_succ, Nat.mul_comm (10 ^ r.length) 10, ← Nat.mul_assoc]
      exact Nat.mul_le_mul_right _ (by omega)
  have := aux l 0 h
  simpa [val] using this
theorem X.in64 : ∀ x : X, x.ok → Int64 x.n := by
  intro x
  induction x with
  | num ds =>
    intro h
    have h1 := val_lt9 ds h.2.2
    have h2 : 10 ^ ds.length ≤ 10 ^ 9 := Nat.pow_le_pow_right (by decide) h.2.1
    show Int64 ((val ⟨ds.toArray⟩ : Nat) : Int)
    unfold Int64
    omega
  | op sp o a b ia ib => intro h; exact reck_in _ _ _
  | ite a b ia ib =>
    intro h
    unfold X.n
    split
    · exact ia h.1
    · exact ib h.2
end Skein

namespace Skein
open Go

/-- From some fuel on, it comes to this. -/
def Ev (L : Nat) (j : J) (S : E) (r : R × E) : Prop := ∃ k, ∀ n, k ≤ n → ev L n j S = some r

section
variable {L : Nat} {env env' : List Nat} {S S1 S2 : E} {r : R × E}

theorem Ev.up {j : J} {k : Nat} (h : ∀ n, k ≤ n → ev L (n + 1) j S = some r) : Ev L j S r := ⟨k + 1, fun n hn => by
  obtain ⟨m, rfl⟩ : ∃ m, n = m + 1 := ⟨n - 1, by omega⟩
  exact h m (by omega)⟩
theorem nd_num (k : Nat) : Ev L (.need (.num k) env) S (.ok (.num k), S) := .up (k := 0) fun _ _ => rfl
theorem nd_nil : Ev L (.need .nil env) S (.ok .nil, S) := .up (k := 0) fun _ _ => rfl
theorem nd_fn (l : Nat) (b : T) : Ev L (.need (.fn l b) env) S (.ok (.fn b env), S) := .up (k := 0) fun _ _ => rfl
theorem nd_cons (a b : T) : Ev L (.need (.bin 58 a b) env) S (.ok (.cons S.heap.length (S.heap.length + 1)), ⟨S.heap ++ [.wait a env, .wait b env], S.steps⟩) := .up (k := 0) fun _ _ => rfl
theorem nd_var {i j : Nat} (hj : env[i]? = some j) (h : Ev L (.force j) S r) : Ev L (.need (.var i) env) S r := by
  obtain ⟨k, h⟩ := h
  refine .up (k := k) fun n hn => ?_
  rw [ev, hj]; exact h n hn
theorem nd_let {l : Nat} {a b : T} (h : Ev L (.need b (env ++ [S.heap.length])) ⟨S.heap ++ [.wait a (env ++ [S.heap.length])], S.steps⟩ r) : Ev L (.need (.letE l a b) env) S r := by
  obtain ⟨k, h⟩ := h
  refine .up (k := k) fun n hn => ?_
  rw [ev]; exact h n hn
theorem nd_app {a b b' : T} (ha : Ev L (.need a env) S (.ok (.fn b' env'), S1)) (hs : S1.steps < L) (h : Ev L (.need b' (env' ++ [S1.heap.length])) ⟨S1.heap ++ [.wait b env], S1.steps + 1⟩ r) : Ev L (.need (.app a b) env) S r := by
  obtain ⟨k, ha⟩ := ha
  obtain ⟨j, h⟩ := h
  refine .up (k := k + j) fun n hn => ?_
  rw [ev, ha n (by omega)]
  simp only [Option.bind_some, R.fn]
  rw [if_neg (by omega)]; exact h n (by omega)
theorem nd_app_lim {a b b' : T} (ha : Ev L (.need a env) S (.ok (.fn b' env'), S1)) (hs : L ≤ S1.steps) : Ev L (.need (.app a b) env) S (.err 8, S1) := by
  obtain ⟨k, ha⟩ := ha
  refine .up (k := k) fun n hn => ?_
  rw [ev, ha n (by omega)]
  simp only [Option.bind_some, R.fn]
  rw [if_pos hs]
theorem nd_bin {op : UInt8} (hop : (op == 58) = false) {a b : T} {x y : Int} (ha : Ev L (.need a env) S (.ok (.num x), S1)) (hb : Ev L (.need b env) S1 (.ok (.num y), S2)) : Ev L (.need (.bin op a b) env) S (.ok (.num (reck op x y)), S2) := by
  obtain ⟨k, ha⟩ := ha
  obtain ⟨j, hb⟩ := hb
  refine .up (k := k + j) fun n hn => ?_
  rw [ev, hop, if_neg Bool.false_ne_true, ha n (by omega)]
  simp only [Option.bind_some, R.num]
  rw [hb n (by omega)]; rfl
theorem nd_then {a b c : T} {x : Int} (ha : Ev L (.need a env) S (.ok (.num x), S1)) (hx : x ≠ 0) (h : Ev L (.need b env) S1 r) : Ev L (.need (.ite a b c) env) S r := by
  obtain ⟨k, ha⟩ := ha
  obtain ⟨j, h⟩ := h
  refine .up (k := k + j) fun n hn => ?_
  rw [ev, ha n (by omega)]
  simp only [Option.bind_some, R.num]
  rw [if_neg (by simpa using hx)]; exact h n (by omega)
theorem nd_else {a b c : T} (ha : Ev L (.need a env) S (.ok (.num 0), S1)) (h : Ev L (.need c env) S1 r) : Ev L (.need (.ite a b c) env) S r := by
  obtain ⟨k, ha⟩ := ha
  obtain ⟨j, h⟩ := h
  refine .up (k := k + j) fun n hn => ?_
  rw [ev, ha n (by omega)]
  simp only [Option.bind_some, R.num]
  rw [if_pos (by rfl)]; exact h n (by omega)
theorem nd_head {a : T} {i j : Nat} (ha : Ev L (.need a env) S (.ok (.cons i j), S1)) (h : Ev L (.force i) S1 r) : Ev L (.need (.un 104 a) env) S r := by
  obtain ⟨k, ha⟩ := ha
  obtain ⟨q, h⟩ := h
  refine .up (k := k + q) fun n hn => ?_
  rw [ev, ha n (by omega)]
  simp only [Option.bind_some, R.list]
  rw [if_neg (by decide), if_pos (by decide)]; exact h n (by omega)
theorem nd_tail {a : T} {i j : Nat} (ha : Ev L (.need a env) S (.ok (.cons i j), S1)) (h : Ev L (.force j) S1 r) : Ev L (.need (.un 116 a) env) S r := by
  obtain ⟨k, ha⟩ := ha
  obtain ⟨q, h⟩ := h
  refine .up (k := k + q) fun n hn => ?_
  rw [ev, ha n (by omega)]
  simp only [Option.bind_some, R.list]
  rw [if_neg (by decide), if_neg (by decide)]; exact h n (by omega)
theorem nd_null0 {a : T} {i j : Nat} (ha : Ev L (.need a env) S (.ok (.cons i j), S1)) : Ev L (.need (.un 110 a) env) S (.ok (.num 0), S1) := by
  obtain ⟨k, ha⟩ := ha
  refine .up (k := k) fun n hn => ?_
  rw [ev, ha n (by omega)]; rfl
theorem nd_null1 {a : T} (ha : Ev L (.need a env) S (.ok .nil, S1)) : Ev L (.need (.un 110 a) env) S (.ok (.num 1), S1) := by
  obtain ⟨k, ha⟩ := ha
  refine .up (k := k) fun n hn => ?_
  rw [ev, ha n (by omega)]; rfl
theorem fc_known {i : Nat} {v : V} (hi : S.heap[i]? = some (.known v)) : Ev L (.force i) S (.ok v, S) := by
  refine .up (k := 0) fun n hn => ?_
  rw [ev, hi]
theorem fc_wait {i : Nat} {x : T} {v : V} (hi : S.heap[i]? = some (.wait x env)) (h : Ev L (.need x env) ⟨S.heap.set i .busy, S.steps⟩ (.ok v, S1)) : Ev L (.force i) S (.ok v, ⟨S1.heap.set i (.known v), S1.steps⟩) := by
  obtain ⟨k, h⟩ := h
  refine .up (k := k) fun n hn => ?_
  rw [ev, hi]
  simp only
  rw [h n (by omega)]; rfl
theorem fc_bad {i : Nat} {x : T} {e : Int} (hi : S.heap[i]? = some (.wait x env)) (h : Ev L (.need x env) ⟨S.heap.set i .busy, S.steps⟩ (.err e, S1)) : Ev L (.force i) S (.err e, S1) := by
  obtain ⟨k, h⟩ := h
  refine .up (k := k) fun n hn => ?_
  rw [ev, hi]
  simp only
  rw [h n (by omega)]; rfl
end
end Skein

namespace Skein
open Go

def sumT (v : Nat) (b : T) : Nat → T | 0 => b | k + 1 => .bin 43 (sumT v b k) (.var v)
def wsum (z0 z : Int) : Nat → Int | 0 => z0 | k + 1 => reck 43 (wsum z0 z k) z

theorem nd_X {x : X} (h : x.ok) {L : Nat} {env : List Nat} {S : E} : Ev L (.need x.tree env) S (.ok (.num x.n), S) := ⟨x.fuel, fun n hn => ev_X L x h n hn env S⟩

def callT (d : Nat) (t : T) : T := .app (.app (.fn d (.fn (d + 1) (.var d))) t) (.num 0)
theorem nd_call {x : X} (h : x.ok) {L : Nat} {env : List Nat} {S : E} (hs : S.steps + 2 ≤ L) (d : Nat) (hd : d = env.length) : Ev L (.need (callT d x.tree) env) S (.ok (.num x.n), ⟨S.heap ++ [.known (.num x.n), .wait (.num 0) env], S.steps + 2⟩) := by
  subst hd
  have h1 := nd_app (L := L) (S := S) (env := env) (b := x.tree) (nd_fn env.length (.fn (env.length + 1) (.var env.length))) (by omega) (nd_fn _ _)
  have hw := fc_wait (L := L) (S := ⟨S.heap ++ [.wait x.tree env] ++ [.wait (.num 0) env], S.steps + 1 + 1⟩) (i := S.heap.length) (x := x.tree) (env := env) (by simp) (nd_X h)
  have h2 := nd_app (b := .num 0) h1 (by show S.steps + 1 < L; omega) (nd_var (by simp) hw)
  have e : ((S.heap ++ [C.wait x.tree env] ++ [C.wait (T.num 0) env]).set S.heap.length C.busy).set S.heap.length (C.known (V.num x.n)) = S.heap ++ [.known (.num x.n), .wait (.num 0) env] := by simp
  rw [e] at h2
  exact h2

theorem nd_sum {L c v : Nat} {env : List Nat} {S S' : E} {b : T} {z0 z : Int} (hb : Ev L (.need b env) S (.ok (.num z0), S')) (hv : env[v]? = some c) (hc : S'.heap[c]? = some (.known (.num z))) :
    ∀ k, Ev L (.need (sumT v b k) env) S (.ok (.num (wsum z0 z k)), S') := by
  intro k
  induction k with
  | zero => exact hb
  | succ k ih => exact nd_bin (by decide) ih (nd_var hv (fc_known hc))

theorem nd_o1 {x : X} (h : x.ok) (k : Nat) : ∃ S, Ev 3 (.need (.app (.fn 0 (sumT 0 (.var 0) k)) (callT 0 x.tree)) []) ⟨[], 0⟩ (.ok (.num (wsum x.n x.n k)), S) ∧ S.steps = 3 := by
  have h1 : Ev 3 (.force 0) ⟨[.wait (callT 0 x.tree) []], 1⟩ (.ok (.num x.n), ⟨[.known (.num x.n), .known (.num x.n), .wait (.num 0) []], 3⟩) := fc_wait (S1 := ⟨[.busy, .known (.num x.n), .wait (.num 0) []], 3⟩) rfl (nd_call h (by simp) 0 rfl)
  have h2 := nd_sum (c := 0) (v := 0) (z := x.n) (nd_var (i := 0) (env := [0]) rfl h1) rfl rfl k
  exact ⟨_, nd_app (nd_fn _ _) (by decide) h2, rfl⟩
theorem nd_o2 {x : X} (h : x.ok) (k : Nat) : ∃ S, Ev 2 (.need (.letE 0 (callT 1 x.tree) (sumT 0 (.var 0) k)) []) ⟨[], 0⟩ (.ok (.num (wsum x.n x.n k)), S) ∧ S.steps = 2 := by
  have h1 : Ev 2 (.force 0) ⟨[.wait (callT 1 x.tree) [0]], 0⟩ (.ok (.num x.n), ⟨[.known (.num x.n), .known (.num x.n), .wait (.num 0) [0]], 2⟩) := fc_wait (S1 := ⟨[.busy, .known (.num x.n), .wait (.num 0) [0]], 2⟩) rfl (nd_call h (by simp) 1 rfl)
  have h2 := nd_sum (c := 0) (v := 0) (z := x.n) (nd_var (i := 0) (env := [0]) rfl h1) rfl rfl k
  exact ⟨_, nd_let h2, rfl⟩
theorem reck_back {z : Int} (h : Int64 z) : reck 43 (reck 45 z z) z = z := by
  have e1 : reck 45 z z = 0 := by
    show IntKind.wrap .i64 (z - z) = 0
    rw [Int.sub_self]; rfl
  rw [e1]
  show IntKind.wrap .i64 (0 + z) = z
  rw [Int.zero_add]
  exact (IntWalk.i64_left z).trans (IntWalk.wrap64_in z h)
def onceB : T := .bin 43 (.bin 45 (.var 1) (.un 104 (.var 0))) (.var 1)
theorem nd_o3 {x : X} (h : x.ok) (k : Nat) : ∃ S, Ev 2 (.need (.letE 0 (.bin 58 (callT 1 x.tree) .nil) (.letE 1 (.un 104 (.var 0)) (sumT 1 onceB k))) []) ⟨[], 0⟩ (.ok (.num (wsum x.n x.n k)), S) ∧ S.steps = 2 := by
  have hA : Ev 2 (.force 0) ⟨[.wait (.bin 58 (callT 1 x.tree) .nil) [0], .busy], 0⟩ (.ok (.cons 2 3), ⟨[.known (.cons 2 3), .busy, .wait (callT 1 x.tree) [0], .wait .nil [0]], 0⟩) :=
    fc_wait (S1 := ⟨[.busy, .busy, .wait (callT 1 x.tree) [0], .wait .nil [0]], 0⟩) rfl (nd_cons _ _)
  have hB : Ev 2 (.force 2) ⟨[.known (.cons 2 3), .busy, .wait (callT 1 x.tree) [0], .wait .nil [0]], 0⟩ (.ok (.num x.n), ⟨[.known (.cons 2 3), .busy, .known (.num x.n), .wait .nil [0], .known (.num x.n), .wait (.num 0) [0]], 2⟩) :=
    fc_wait (S1 := ⟨[.known (.cons 2 3), .busy, .busy, .wait .nil [0], .known (.num x.n), .wait (.num 0) [0]], 2⟩) rfl (nd_call h (by simp) 1 rfl)
  have hC : Ev 2 (.force 1) ⟨[.wait (.bin 58 (callT 1 x.tree) .nil) [0], .wait (.un 104 (.var 0)) [0, 1]], 0⟩ (.ok (.num x.n), ⟨[.known (.cons 2 3), .known (.num x.n), .known (.num x.n), .wait .nil [0], .known (.num x.n), .wait (.num 0) [0]], 2⟩) :=
    fc_wait (S1 := ⟨[.known (.cons 2 3), .busy, .known (.num x.n), .wait .nil [0], .known (.num x.n), .wait (.num 0) [0]], 2⟩) rfl (nd_head (nd_var (i := 0) rfl hA) hB)
  have h0 : Ev 2 (.need onceB [0, 1]) ⟨[.wait (.bin 58 (callT 1 x.tree) .nil) [0], .wait (.un 104 (.var 0)) [0, 1]], 0⟩ (.ok (.num (reck 43 (reck 45 x.n x.n) x.n)), ⟨[.known (.cons 2 3), .known (.num x.n), .known (.num x.n), .wait .nil [0], .known (.num x.n), .wait (.num 0) [0]], 2⟩) :=
    nd_bin (by decide) (nd_bin (by decide) (nd_var (i := 1) rfl hC) (nd_head (nd_var (i := 0) (j := 0) rfl (fc_known (v := .cons 2 3) rfl)) (fc_known (v := .num x.n) rfl))) (nd_var (i := 1) (j := 1) rfl (fc_known (v := .num x.n) rfl))
  rw [reck_back (X.in64 x h)] at h0
  have h2 := nd_sum (c := 1) (v := 1) (z := x.n) h0 rfl rfl k
  exact ⟨_, nd_let (nd_let h2), rfl⟩
theorem nd_i0 {x : X} (h : x.ok) : ∃ S, Ev 0 (.need x.tree []) ⟨[], 0⟩ (.ok (.num x.n), S) ∧ S.steps = 0 := ⟨⟨[], 0⟩, nd_X h, rfl⟩
theorem nd_i1 {x : X} (h : x.ok) (t : T) : ∃ S, Ev 1 (.need (.app (.fn 0 x.tree) t) []) ⟨[], 0⟩ (.ok (.num x.n), S) ∧ S.steps = 1 := ⟨⟨[.wait t []], 1⟩, nd_app (nd_fn 0 x.tree) (by decide) (nd_X h), rfl⟩
theorem nd_i2 {x : X} (h : x.ok) (t : T) : ∃ S, Ev 0 (.need (.letE 0 t x.tree) []) ⟨[], 0⟩ (.ok (.num x.n), S) ∧ S.steps = 0 := ⟨⟨[.wait t [0]], 0⟩, nd_let (nd_X h), rfl⟩
theorem nd_i3 {x : X} (h : x.ok) (t : T) : ∃ S, Ev 0 (.need (.ite (.num 1) x.tree t) []) ⟨[], 0⟩ (.ok (.num x.n), S) ∧ S.steps = 0 := ⟨⟨[], 0⟩, nd_then (nd_num 1) (by decide) (nd_X h), rfl⟩
theorem nd_i4 {x : X} (h : x.ok) (t : T) : ∃ S, Ev 0 (.need (.un 104 (.bin 58 x.tree t)) []) ⟨[], 0⟩ (.ok (.num x.n), S) ∧ S.steps = 0 := by
  have h1 : Ev 0 (.force 0) ⟨[.wait x.tree [], .wait t []], 0⟩ (.ok (.num x.n), ⟨[.known (.num x.n), .wait t []], 0⟩) := fc_wait (S1 := ⟨[.busy, .wait t []], 0⟩) rfl (nd_X h)
  exact ⟨_, nd_head (nd_cons _ _) h1, rfl⟩
theorem nd_i5 {x : X} (h : x.ok) (t : T) : ∃ S, Ev 0 (.need (.un 104 (.un 116 (.bin 58 t (.bin 58 x.tree t)))) []) ⟨[], 0⟩ (.ok (.num x.n), S) ∧ S.steps = 0 := by
  have h1 : Ev 0 (.force 1) ⟨[.wait t [], .wait (.bin 58 x.tree t) []], 0⟩ (.ok (.cons 2 3), ⟨[.wait t [], .known (.cons 2 3), .wait x.tree [], .wait t []], 0⟩) := fc_wait (S1 := ⟨[.wait t [], .busy, .wait x.tree [], .wait t []], 0⟩) rfl (nd_cons _ _)
  have h2 : Ev 0 (.force 2) ⟨[.wait t [], .known (.cons 2 3), .wait x.tree [], .wait t []], 0⟩ (.ok (.num x.n), ⟨[.wait t [], .known (.cons 2 3), .known (.num x.n), .wait t []], 0⟩) := fc_wait (S1 := ⟨[.wait t [], .known (.cons 2 3), .busy, .wait t []], 0⟩) rfl (nd_X h)
  exact ⟨_, nd_head (nd_tail (nd_cons _ _) h1) h2, rfl⟩
theorem nd_i6 (t : T) : ∃ S, Ev 0 (.need (.un 110 (.bin 58 t t)) []) ⟨[], 0⟩ (.ok (.num 0), S) ∧ S.steps = 0 := ⟨_, nd_null0 (nd_cons _ _), rfl⟩
theorem nd_r2 {x : X} (h : x.ok) : ∃ S, Ev 0 (.need (.letE 0 x.tree (.var 0)) []) ⟨[], 0⟩ (.ok (.num x.n), S) ∧ S.steps = 0 := by
  have h1 : Ev 0 (.force 0) ⟨[.wait x.tree [0]], 0⟩ (.ok (.num x.n), ⟨[.known (.num x.n)], 0⟩) := fc_wait (S1 := ⟨[.busy], 0⟩) rfl (nd_X h)
  exact ⟨_, nd_let (nd_var (j := 0) rfl h1), rfl⟩
theorem nd_r3 {x : X} (h : x.ok) : ∃ S, Ev 1 (.need (.app (.fn 0 (.var 0)) x.tree) []) ⟨[], 0⟩ (.ok (.num x.n), S) ∧ S.steps = 1 := by
  have h1 : Ev 1 (.force 0) ⟨[.wait x.tree []], 1⟩ (.ok (.num x.n), ⟨[.known (.num x.n)], 1⟩) := fc_wait (S1 := ⟨[.busy], 1⟩) rfl (nd_X h)
  exact ⟨_, nd_app (nd_fn _ _) (by decide) (nd_var (j := 0) rfl h1), rfl⟩
end Skein

namespace Go.Proofs.YtjjlgjmebnkdjaaGreatDoor
open Go Go.Proofs Go.RowKit Skein

theorem runs_num {L : Nat} {t : T} {z : Int} {S : E} (h : Ev L (.need t []) ⟨[], 0⟩ (.ok (.num z), S)) (hz : Skein.Int64 z) : Runs L t (.ok (sdig z)) S.steps := by
  obtain ⟨k, h⟩ := h
  exact ⟨k, _, h k (Nat.le_refl _), .inr ⟨.num z, 1, (.ok (numT z), S), rfl, rfl, by rw [numT_in hz], rfl⟩⟩
theorem ch_size {x : X} {s : ByteArray} {l : List Ch} (hs : s.data.toList = chTxt x l) : s.size = (chTxt x l).length := by
  rw [← hs]; simp
theorem ch_eval {x : X} (hx : x.ok) {s : ByteArray} (l : List Ch) {t : T} {n L k : Nat} {z : Int} (hs : s.data.toList = chTxt x l) (hl : (chTxt x l).length ≤ 300) (hf : chFin l = true) (hp : PT n .expr [] (chTk x.tree l) = some (t, [])) (hL : L ≤ 500)
    (he : ∃ S, Ev L (.need t []) ⟨[], 0⟩ (.ok (.num z), S) ∧ S.steps = k) (hz : Skein.Int64 z) : ∀ w, Tab w → Calls Tryz.prog 20 #[.string s, .int .i64 L] w fun e w' => e = .returned (.agg #[.string (sdig z), .int .i64 k, .int .i64 0]) ∧ Below w.heap.size w w' := by
  intro w ht
  obtain ⟨S, he, rfl⟩ := he
  obtain ⟨m, h1, h2⟩ := ch_read hx l hs hf hp
  exact pev_ok (by rw [ch_size hs]; exact hl) h1 h2 hL (runs_num he hz) w ht

/-- What an answer of this text and so many steps is. -/
def XSay (s : ByteArray) (L : Int) (d : ByteArray) (k : Int) : Prop := ∀ w, Tab w → Calls Tryz.prog 20 #[.string s, .int .i64 L] w fun e w' => e = .returned (.agg #[.string d, .int .i64 k, .int .i64 0]) ∧ Below w.heap.size w w'

section
variable {x : X} (hx : x.ok) (lx : x.txt.length ≤ 110)
include hx lx

theorem rk_a : XSay ⟨x.txt.toArray⟩ 0 (sdig x.n) 0 :=
  ch_eval hx (n := 20) (L := 0) (k := 0) [.x] (by simp [chTxt, Ch.txt]) (by simp [chTxt, Ch.txt]; omega) rfl rfl (by decide) (nd_i0 hx) (X.in64 x hx)
theorem rk_b : XSay ((⟨#[108, 101, 116, 32, 120, 32, 61, 32]⟩ : ByteArray) ++ (⟨x.txt.toArray⟩ : ByteArray) ++ (⟨#[32, 105, 110, 32, 120]⟩ : ByteArray)) 0 (sdig x.n) 0 :=
  ch_eval hx (n := 40) (L := 0) (k := 0) (t := .letE 0 x.tree (.var 0)) [.pc (.word [108, 101, 116]), .pc (.blank 32), .pc (.word [120]), .pc (.blank 32), .pc (.mark 61), .pc (.blank 32), .x, .pc (.blank 32), .pc (.word [105, 110]), .pc (.blank 32), .pc (.word [120])] (by simp [chTxt, Ch.txt, Pc.txt]) (by simp [chTxt, Ch.txt, Pc.txt]; omega) rfl rfl (by decide) (nd_r2 hx) (X.in64 x hx)
theorem rk_c : XSay ((⟨#[40, 92, 120, 46, 32, 120, 41, 32]⟩ : ByteArray) ++ (⟨x.txt.toArray⟩ : ByteArray)) 1 (sdig x.n) 1 :=
  ch_eval hx (n := 40) (L := 1) (k := 1) (t := .app (.fn 0 (.var 0)) x.tree) [.pc (.mark 40), .pc (.mark 92), .pc (.word [120]), .pc (.mark 46), .pc (.blank 32), .pc (.word [120]), .pc (.mark 41), .pc (.blank 32), .x] (by simp [chTxt, Ch.txt, Pc.txt]) (by simp [chTxt, Ch.txt, Pc.txt]; omega) rfl rfl (by decide) (nd_r3 hx) (X.in64 x hx)
end

def wby : Nat → ByteArray
  | 0 => (⟨#[40, 104, 101, 97, 100, 32, 91, 93, 41]⟩ : ByteArray)
  | 1 => (⟨#[40, 49, 32, 50, 41]⟩ : ByteArray)
  | 2 => (⟨#[40, 91, 93, 32, 43, 32, 49, 41]⟩ : ByteArray)
  | 3 => (⟨#[40, 108, 101, 116, 32, 120, 32, 61, 32, 120, 32, 105, 110, 32, 120, 41]⟩ : ByteArray)
  | 4 => (⟨#[40, 108, 101, 116, 32, 102, 32, 61, 32, 92, 120, 46, 32, 102, 32, 120, 32, 105, 110, 32, 102, 32, 49, 41]⟩ : ByteArray)
  | 5 => (⟨#[40, 116, 97, 105, 108, 32, 51, 41]⟩ : ByteArray)
  | _ => (⟨#[40, 40, 92, 120, 46, 32, 120, 41, 32, 91, 93, 32, 49, 41]⟩ : ByteArray)
def wtree (d : Nat) : Nat → T
  | 0 => .un 104 .nil
  | 1 => .app (.num 1) (.num 2)
  | 2 => .bin 43 .nil (.num 1)
  | 3 => .letE d (.var d) (.var d)
  | 4 => .letE d (.fn (d + 1) (.app (.var d) (.var (d + 1)))) (.app (.var d) (.num 1))
  | 5 => .un 116 (.num 3)
  | _ => .app (.app (.fn d (.var d)) .nil) (.num 1)
def wch : Nat → List Ch
  | 0 => [.pc (.mark 40), .pc (.word [104, 101, 97, 100]), .pc (.blank 32), .pc .nil, .pc (.mark 41)]
  | 1 => [.pc (.mark 40), .pc (.num [49]), .pc (.blank 32), .pc (.num [50]), .pc (.mark 41)]
  | 2 => [.pc (.mark 40), .pc .nil, .pc (.blank 32), .pc (.mark 43), .pc (.blank 32), .pc (.num [49]), .pc (.mark 41)]
  | 3 => [.pc (.mark 40), .pc (.word [108, 101, 116]), .pc (.blank 32), .pc (.word [120]), .pc (.blank 32), .pc (.mark 61), .pc (.blank 32), .pc (.word [120]), .pc (.blank 32), .pc (.word [105, 110]), .pc (.blank 32), .pc (.word [120]), .pc (.mark 41)]
  | 4 => [.pc (.mark 40), .pc (.word [108, 101, 116]), .pc (.blank 32), .pc (.word [102]), .pc (.blank 32), .pc (.mark 61), .pc (.blank 32), .pc (.mark 92), .pc (.word [120]), .pc (.mark 46), .pc (.blank 32), .pc (.word [102]), .pc (.blank 32), .pc (.word [120]), .pc (.blank 32), .pc (.word [105, 110]), .pc (.blank 32), .pc (.word [102]), .pc (.blank 32), .pc (.num [49]), .pc (.mark 41)]
  | 5 => [.pc (.mark 40), .pc (.word [116, 97, 105, 108]), .pc (.blank 32), .pc (.num [51]), .pc (.mark 41)]
  | _ => [.pc (.mark 40), .pc (.mark 40), .pc (.mark 92), .pc (.word [120]), .pc (.mark 46), .pc (.blank 32), .pc (.word [120]), .pc (.mark 41), .pc (.blank 32), .pc .nil, .pc (.blank 32), .pc (.num [49]), .pc (.mark 41)]
theorem seven {k : Nat} (h : k < 7) : k = 0 ∨ k = 1 ∨ k = 2 ∨ k = 3 ∨ k = 4 ∨ k = 5 ∨ k = 6 := by omega
theorem wch_txt (x : X) {k : Nat} (h : k < 7) : chTxt x (wch k) = (wby k).data.toList ∧ (wby k).data.toList.length ≤ 24 := by
  rcases seven h with rfl | rfl | rfl | rfl | rfl | rfl | rfl <;> exact ⟨rfl, by decide⟩
theorem wby_size {k : Nat} (h : k < 7) : (wby k).size ≤ 24 := by
  rcases seven h with rfl | rfl | rfl | rfl | rfl | rfl | rfl <;> decide

def errOf (o : Option (R × E)) : Option Int := match o with
  | some (.err e, _) => some e
  | _ => none
def wz : Nat → Int | 0 => 6 | 1 => 5 | 2 => 5 | 3 => 7 | 4 => 8 | _ => 5
theorem w_err {k : Nat} (h : k < 7) : errOf (ev 400 1000 (.need (wtree 0 k) []) ⟨[], 0⟩) = some (wz k) := by
  rcases seven h with rfl | rfl | rfl | rfl | rfl | rfl | rfl
  · kernel_rfl
  · kernel_rfl
  · kernel_rfl
  · kernel_rfl
  · kernel_rfl
  · kernel_rfl
  · kernel_rfl
theorem w_runs {k : Nat} (h : k < 7) : ∃ m, Runs 400 (wtree 0 k) (.error (wz k)) m := by
  have e := w_err h
  rcases hr : ev 400 1000 (.need (wtree 0 k) []) ⟨[], 0⟩ with _ | ⟨r, S⟩
  · rw [hr] at e; cases e
  · rw [hr] at e
    cases r with
    | ok v => cases e
    | err z =>
      simp only [errOf, Option.some.injEq] at e
      subst e
      exact ⟨S.steps, 1000, _, hr, .inl ⟨_, rfl, rfl, rfl⟩⟩
theorem wz_ne {k : Nat} (h : k < 7) : wz k ≠ 0 := by
  rcases seven h with rfl | rfl | rfl | rfl | rfl | rfl | rfl <;> decide
theorem id_g {k : Nat} (h : k < 7) : ∃ m : Nat, ∀ w, Tab w → Calls Tryz.prog 20 #[.string (wby k), .int .i64 400] w fun e w' => e = .returned (.agg #[.string ⟨#[]⟩, .int .i64 m, .int .i64 (wz k)]) ∧ Below w.heap.size w w' := by
  obtain ⟨m, hR⟩ := w_runs h
  refine ⟨m, fun w ht => ?_⟩
  have hx : (X.num [49]).ok := ⟨by simp, by decide, by intro c hc; rw [List.mem_singleton.1 hc]; decide⟩
  have hp : PT 60 .expr [] (chTk (X.num [49]).tree (wch k)) = some (wtree 0 k, []) := by
    rcases seven h with rfl | rfl | rfl | rfl | rfl | rfl | rfl <;> rfl
  have hf : chFin (wch k) = true := by
    rcases seven h with rfl | rfl | rfl | rfl | rfl | rfl | rfl <;> rfl
  obtain ⟨m', h1, h2⟩ := ch_read hx (s := wby k) (wch k) (wch_txt _ h).1.symm hf hp
  exact pev_ok (L := 400) (by have := wby_size h; omega) h1 h2 (by decide) hR w ht

section
variable {x : X} (hx : x.ok) (lx : x.txt.length ≤ 110) {k : Nat} (hk : k < 7)
include hx lx hk

theorem id_a : XSay ((⟨#[40, 92, 121, 46, 32]⟩ : ByteArray) ++ (⟨x.txt.toArray⟩ : ByteArray) ++ (⟨#[41, 32]⟩ : ByteArray) ++ wby k) 1 (sdig x.n) 1 := by
  have hw := wch_txt x hk
  have hp : PT 60 .expr [] (chTk x.tree (([.pc (.mark 40), .pc (.mark 92), .pc (.word [121]), .pc (.mark 46), .pc (.blank 32), .x, .pc (.mark 41), .pc (.blank 32)] : List Ch) ++ wch k)) = some (.app (.fn 0 x.tree) (wtree 0 k), []) := by
    rcases seven hk with rfl | rfl | rfl | rfl | rfl | rfl | rfl <;> rfl
  have hf : chFin (([.pc (.mark 40), .pc (.mark 92), .pc (.word [121]), .pc (.mark 46), .pc (.blank 32), .x, .pc (.mark 41), .pc (.blank 32)] : List Ch) ++ wch k) = true := by
    rcases seven hk with rfl | rfl | rfl | rfl | rfl | rfl | rfl <;> rfl
  exact ch_eval hx (n := 60) (L := 1) (k := 1) (([.pc (.mark 40), .pc (.mark 92), .pc (.word [121]), .pc (.mark 46), .pc (.blank 32), .x, .pc (.mark 41), .pc (.blank 32)] : List Ch) ++ wch k) (by simp [chTxt, Ch.txt, Pc.txt, hw.1]) (by have := hw.2; simp only [chTxt_app, hw.1, List.length_append]; simp [chTxt, Ch.txt, Pc.txt]; simp at this; omega) hf hp (by decide) (nd_i1 hx _) (X.in64 x hx)
theorem id_b : XSay ((⟨#[108, 101, 116, 32, 121, 32, 61, 32]⟩ : ByteArray) ++ wby k ++ (⟨#[32, 105, 110, 32]⟩ : ByteArray) ++ (⟨x.txt.toArray⟩ : ByteArray)) 0 (sdig x.n) 0 := by
  have hw := wch_txt x hk
  have hp : PT 60 .expr [] (chTk x.tree (([.pc (.word [108, 101, 116]), .pc (.blank 32), .pc (.word [121]), .pc (.blank 32), .pc (.mark 61), .pc (.blank 32)] : List Ch) ++ wch k ++ ([.pc (.blank 32), .pc (.word [105, 110]), .pc (.blank 32), .x] : List Ch))) = some (.letE 0 (wtree 1 k) x.tree, []) := by
    rcases seven hk with rfl | rfl | rfl | rfl | rfl | rfl | rfl <;> rfl
  have hf : chFin (([.pc (.word [108, 101, 116]), .pc (.blank 32), .pc (.word [121]), .pc (.blank 32), .pc (.mark 61), .pc (.blank 32)] : List Ch) ++ wch k ++ ([.pc (.blank 32), .pc (.word [105, 110]), .pc (.blank 32), .x] : List Ch)) = true := by
    rcases seven hk with rfl | rfl | rfl | rfl | rfl | rfl | rfl <;> rfl
  exact ch_eval hx (n := 60) (L := 0) (k := 0) (([.pc (.word [108, 101, 116]), .pc (.blank 32), .pc (.word [121]), .pc (.blank 32), .pc (.mark 61), .pc (.blank 32)] : List Ch) ++ wch k ++ ([.pc (.blank 32), .pc (.word [105, 110]), .pc (.blank 32), .x] : List Ch)) (by simp [chTxt_app, chTxt, Ch.txt, Pc.txt, hw.1]) (by have := hw.2; simp only [chTxt_app, hw.1, List.length_append]; simp [chTxt, Ch.txt, Pc.txt]; simp at this; omega) hf hp (by decide) (nd_i2 hx _) (X.in64 x hx)
theorem id_c : XSay ((⟨#[105, 102, 32, 49, 32, 116, 104, 101, 110, 32]⟩ : ByteArray) ++ (⟨x.txt.toArray⟩ : ByteArray) ++ (⟨#[32, 101, 108, 115, 101, 32]⟩ : ByteArray) ++ wby k) 0 (sdig x.n) 0 := by
  have hw := wch_txt x hk
  have hp : PT 60 .expr [] (chTk x.tree (([.pc (.word [105, 102]), .pc (.blank 32), .pc (.num [49]), .pc (.blank 32), .pc (.word [116, 104, 101, 110]), .pc (.blank 32), .x, .pc (.blank 32), .pc (.word [101, 108, 115, 101]), .pc (.blank 32)] : List Ch) ++ wch k)) = some (.ite (.num 1) x.tree (wtree 0 k), []) := by
    rcases seven hk with rfl | rfl | rfl | rfl | rfl | rfl | rfl <;> rfl
  have hf : chFin (([.pc (.word [105, 102]), .pc (.blank 32), .pc (.num [49]), .pc (.blank 32), .pc (.word [116, 104, 101, 110]), .pc (.blank 32), .x, .pc (.blank 32), .pc (.word [101, 108, 115, 101]), .pc (.blank 32)] : List Ch) ++ wch k) = true := by
    rcases seven hk with rfl | rfl | rfl | rfl | rfl | rfl | rfl <;> rfl
  exact ch_eval hx (n := 60) (L := 0) (k := 0) (([.pc (.word [105, 102]), .pc (.blank 32), .pc (.num [49]), .pc (.blank 32), .pc (.word [116, 104, 101, 110]), .pc (.blank 32), .x, .pc (.blank 32), .pc (.word [101, 108, 115, 101]), .pc (.blank 32)] : List Ch) ++ wch k) (by simp [chTxt, Ch.txt, Pc.txt, hw.1]) (by have := hw.2; simp only [chTxt_app, hw.1, List.length_append]; simp [chTxt, Ch.txt, Pc.txt]; simp at this; omega) hf hp (by decide) (nd_i3 hx _) (X.in64 x hx)
theorem id_d : XSay ((⟨#[104, 101, 97, 100, 32, 40]⟩ : ByteArray) ++ (⟨x.txt.toArray⟩ : ByteArray) ++ (⟨#[32, 58, 32]⟩ : ByteArray) ++ wby k ++ (⟨#[41]⟩ : ByteArray)) 0 (sdig x.n) 0 := by
  have hw := wch_txt x hk
  have hp : PT 60 .expr [] (chTk x.tree (([.pc (.word [104, 101, 97, 100]), .pc (.blank 32), .pc (.mark 40), .x, .pc (.blank 32), .pc (.mark 58), .pc (.blank 32)] : List Ch) ++ wch k ++ ([.pc (.mark 41)] : List Ch))) = some (.un 104 (.bin 58 x.tree (wtree 0 k)), []) := by
    rcases seven hk with rfl | rfl | rfl | rfl | rfl | rfl | rfl <;> rfl
  have hf : chFin (([.pc (.word [104, 101, 97, 100]), .pc (.blank 32), .pc (.mark 40), .x, .pc (.blank 32), .pc (.mark 58), .pc (.blank 32)] : List Ch) ++ wch k ++ ([.pc (.mark 41)] : List Ch)) = true := by
    rcases seven hk with rfl | rfl | rfl | rfl | rfl | rfl | rfl <;> rfl
  exact ch_eval hx (n := 60) (L := 0) (k := 0) (([.pc (.word [104, 101, 97, 100]), .pc (.blank 32), .pc (.mark 40), .x, .pc (.blank 32), .pc (.mark 58), .pc (.blank 32)] : List Ch) ++ wch k ++ ([.pc (.mark 41)] : List Ch)) (by simp [chTxt_app, chTxt, Ch.txt, Pc.txt, hw.1]) (by have := hw.2; simp only [chTxt_app, hw.1, List.length_append]; simp [chTxt, Ch.txt, Pc.txt]; simp at this; omega) hf hp (by decide) (nd_i4 hx _) (X.in64 x hx)
theorem id_e : XSay ((⟨#[104, 101, 97, 100, 32, 40, 116, 97, 105, 108, 32, 40]⟩ : ByteArray) ++ wby k ++ (⟨#[32, 58, 32]⟩ : ByteArray) ++ (⟨x.txt.toArray⟩ : ByteArray) ++ (⟨#[32, 58, 32]⟩ : ByteArray) ++ wby k ++ (⟨#[41, 41]⟩ : ByteArray)) 0 (sdig x.n) 0 := by
  have hw := wch_txt x hk
  have hp : PT 60 .expr [] (chTk x.tree (([.pc (.word [104, 101, 97, 100]), .pc (.blank 32), .pc (.mark 40), .pc (.word [116, 97, 105, 108]), .pc (.blank 32), .pc (.mark 40)] : List Ch) ++ wch k ++ ([.pc (.blank 32), .pc (.mark 58), .pc (.blank 32), .x, .pc (.blank 32), .pc (.mark 58), .pc (.blank 32)] : List Ch) ++ wch k ++ ([.pc (.mark 41), .pc (.mark 41)] : List Ch))) = some (.un 104 (.un 116 (.bin 58 (wtree 0 k) (.bin 58 x.tree (wtree 0 k)))), []) := by
    rcases seven hk with rfl | rfl | rfl | rfl | rfl | rfl | rfl <;> rfl
  have hf : chFin (([.pc (.word [104, 101, 97, 100]), .pc (.blank 32), .pc (.mark 40), .pc (.word [116, 97, 105, 108]), .pc (.blank 32), .pc (.mark 40)] : List Ch) ++ wch k ++ ([.pc (.blank 32), .pc (.mark 58), .pc (.blank 32), .x, .pc (.blank 32), .pc (.mark 58), .pc (.blank 32)] : List Ch) ++ wch k ++ ([.pc (.mark 41), .pc (.mark 41)] : List Ch)) = true := by
    rcases seven hk with rfl | rfl | rfl | rfl | rfl | rfl | rfl <;> rfl
  exact ch_eval hx (n := 60) (L := 0) (k := 0) (([.pc (.word [104, 101, 97, 100]), .pc (.blank 32), .pc (.mark 40), .pc (.word [116, 97, 105, 108]), .pc (.blank 32), .pc (.mark 40)] : List Ch) ++ wch k ++ ([.pc (.blank 32), .pc (.mark 58), .pc (.blank 32), .x, .pc (.blank 32), .pc (.mark 58), .pc (.blank 32)] : List Ch) ++ wch k ++ ([.pc (.mark 41), .pc (.mark 41)] : List Ch)) (by simp [chTxt_app, chTxt, Ch.txt, Pc.txt, hw.1]) (by have := hw.2; simp only [chTxt_app, hw.1, List.length_append]; simp [chTxt, Ch.txt, Pc.txt]; simp at this; omega) hf hp (by decide) (nd_i5 hx _) (X.in64 x hx)
omit lx in
theorem id_f : XSay ((⟨#[110, 117, 108, 108, 32, 40]⟩ : ByteArray) ++ wby k ++ (⟨#[32, 58, 32]⟩ : ByteArray) ++ wby k ++ (⟨#[41]⟩ : ByteArray)) 0 (sdig 0) 0 := by
  have hw := wch_txt x hk
  have hp : PT 60 .expr [] (chTk x.tree (([.pc (.word [110, 117, 108, 108]), .pc (.blank 32), .pc (.mark 40)] : List Ch) ++ wch k ++ ([.pc (.blank 32), .pc (.mark 58), .pc (.blank 32)] : List Ch) ++ wch k ++ ([.pc (.mark 41)] : List Ch))) = some (.un 110 (.bin 58 (wtree 0 k) (wtree 0 k)), []) := by
    rcases seven hk with rfl | rfl | rfl | rfl | rfl | rfl | rfl <;> rfl
  have hf : chFin (([.pc (.word [110, 117, 108, 108]), .pc (.blank 32), .pc (.mark 40)] : List Ch) ++ wch k ++ ([.pc (.blank 32), .pc (.mark 58), .pc (.blank 32)] : List Ch) ++ wch k ++ ([.pc (.mark 41)] : List Ch)) = true := by
    rcases seven hk with rfl | rfl | rfl | rfl | rfl | rfl | rfl <;> rfl
  exact ch_eval hx (n := 60) (L := 0) (k := 0) (([.pc (.word [110, 117, 108, 108]), .pc (.blank 32), .pc (.mark 40)] : List Ch) ++ wch k ++ ([.pc (.blank 32), .pc (.mark 58), .pc (.blank 32)] : List Ch) ++ wch k ++ ([.pc (.mark 41)] : List Ch)) (by simp [chTxt_app, chTxt, Ch.txt, Pc.txt, hw.1]) (by have := hw.2; simp only [chTxt_app, hw.1, List.length_append]; simp [chTxt, Ch.txt, Pc.txt]; simp at this; omega) hf hp (by decide) (nd_i6 _) (by unfold Skein.Int64; omega)
end
end Go.Proofs.YtjjlgjmebnkdjaaGreatDoor

namespace Go.Proofs.YtjjlgjmebnkdjaaGreatDoor
open Go Go.Proofs Go.RowKit Skein

def sumCh : Nat → List Ch | 0 => [.pc (.word [120])] | k + 1 => sumCh k ++ [.pc (.mark 43), .pc (.word [120])]
def sumBy : Nat → ByteArray | 0 => ⟨#[120]⟩ | k + 1 => sumBy k ++ ⟨#[43, 120]⟩
theorem sumCh_txt (x : X) : ∀ k, chTxt x (sumCh k) = (sumBy k).data.toList := by
  intro k
  induction k with
  | zero => rfl
  | succ k ih => simp [sumCh, sumBy, chTxt_app, ih, chTxt, Ch.txt, Pc.txt]
theorem sumBy_size : ∀ k, (sumBy k).size = 1 + 2 * k := by
  intro k
  induction k with
  | zero => rfl
  | succ k ih => rw [sumBy, ByteArray.size_append, ih]; show 1 + 2 * k + 2 = _; omega
def onCall : List Ch := [.pc (.mark 40), .pc (.mark 92), .pc (.word [121]), .pc (.mark 46), .pc (.blank 32), .pc (.mark 92), .pc (.word [122]), .pc (.mark 46), .pc (.blank 32), .pc (.word [121]), .pc (.mark 41), .pc (.blank 32), .x, .pc (.blank 32), .pc (.num [48])]
theorem wsum_in {z0 z : Int} (h : Skein.Int64 z0) : ∀ k, Skein.Int64 (wsum z0 z k) := by
  intro k
  cases k with
  | zero => exact h
  | succ k => exact reck_in _ _ _
theorem on_pa {k : Nat} (hk : k < 20) (t : T) : PT 120 .expr [] (chTk t (([.pc (.mark 40), .pc (.mark 92), .pc (.word [120]), .pc (.mark 46), .pc (.blank 32)] : List Ch) ++ sumCh k ++ ([.pc (.mark 41), .pc (.blank 32), .pc (.mark 40)] : List Ch) ++ onCall ++ ([.pc (.mark 41)] : List Ch))) = some (.app (.fn 0 (sumT 0 (.var 0) k)) (callT 0 t), []) ∧ chFin (([.pc (.mark 40), .pc (.mark 92), .pc (.word [120]), .pc (.mark 46), .pc (.blank 32)] : List Ch) ++ sumCh k ++ ([.pc (.mark 41), .pc (.blank 32), .pc (.mark 40)] : List Ch) ++ onCall ++ ([.pc (.mark 41)] : List Ch)) = true := by
  have h : k = 0 ∨ k = 1 ∨ k = 2 ∨ k = 3 ∨ k = 4 ∨ k = 5 ∨ k = 6 ∨ k = 7 ∨ k = 8 ∨ k = 9 ∨ k = 10 ∨ k = 11 ∨ k = 12 ∨ k = 13 ∨ k = 14 ∨ k = 15 ∨ k = 16 ∨ k = 17 ∨ k = 18 ∨ k = 19 := by omega
  rcases h with rfl | rfl | rfl | rfl | rfl | rfl | rfl | rfl | rfl | rfl | rfl | rfl | rfl | rfl | rfl | rfl | rfl | rfl | rfl | rfl
  · exact ⟨by kernel_rfl, by kernel_rfl⟩
  · exact ⟨by kernel_rfl, by kernel_rfl⟩
  · exact ⟨by kernel_rfl, by kernel_rfl⟩
  · exact ⟨by kernel_rfl, by kernel_rfl⟩
  · exact ⟨by kernel_rfl, by kernel_rfl⟩
  · exact ⟨by kernel_rfl, by kernel_rfl⟩
  · exact ⟨by kernel_rfl, by kernel_rfl⟩
  · exact ⟨by kernel_rfl, by kernel_rfl⟩
  · exact ⟨by kernel_rfl, by kernel_rfl⟩
  · exact ⟨by kernel_rfl, by kernel_rfl⟩
  · exact ⟨by kernel_rfl, by kernel_rfl⟩
  · exact ⟨by kernel_rfl, by kernel_rfl⟩
  · exact ⟨by kernel_rfl, by kernel_rfl⟩
  · exact ⟨by kernel_rfl, by kernel_rfl⟩
  · exact ⟨by kernel_rfl, by kernel_rfl⟩
  · exact ⟨by kernel_rfl, by kernel_rfl⟩
  · exact ⟨by kernel_rfl, by kernel_rfl⟩
  · exact ⟨by kernel_rfl, by kernel_rfl⟩
  · exact ⟨by kernel_rfl, by kernel_rfl⟩
  · exact ⟨by kernel_rfl, by kernel_rfl⟩
theorem on_pb {k : Nat} (hk : k < 20) (t : T) : PT 120 .expr [] (chTk t (([.pc (.word [108, 101, 116]), .pc (.blank 32), .pc (.word [120]), .pc (.blank 32), .pc (.mark 61), .pc (.blank 32)] : List Ch) ++ onCall ++ ([.pc (.blank 32), .pc (.word [105, 110]), .pc (.blank 32)] : List Ch) ++ sumCh k)) = some (.letE 0 (callT 1 t) (sumT 0 (.var 0) k), []) ∧ chFin (([.pc (.word [108, 101, 116]), .pc (.blank 32), .pc (.word [120]), .pc (.blank 32), .pc (.mark 61), .pc (.blank 32)] : List Ch) ++ onCall ++ ([.pc (.blank 32), .pc (.word [105, 110]), .pc (.blank 32)] : List Ch) ++ sumCh k) = true := by
  have h : k = 0 ∨ k = 1 ∨ k = 2 ∨ k = 3 ∨ k = 4 ∨ k = 5 ∨ k = 6 ∨ k = 7 ∨ k = 8 ∨ k = 9 ∨ k = 10 ∨ k = 11 ∨ k = 12 ∨ k = 13 ∨ k = 14 ∨ k = 15 ∨ k = 16 ∨ k = 17 ∨ k = 18 ∨ k = 19 := by omega
  rcases h with rfl | rfl | rfl | rfl | rfl | rfl | rfl | rfl | rfl | rfl | rfl | rfl | rfl | rfl | rfl | rfl | rfl | rfl | rfl | rfl
  · exact ⟨by kernel_rfl, by kernel_rfl⟩
  · exact ⟨by kernel_rfl, by kernel_rfl⟩
  · exact ⟨by kernel_rfl, by kernel_rfl⟩
  · exact ⟨by kernel_rfl, by kernel_rfl⟩
  · exact ⟨by kernel_rfl, by kernel_rfl⟩
  · exact ⟨by kernel_rfl, by kernel_rfl⟩
  · exact ⟨by kernel_rfl, by kernel_rfl⟩
  · exact ⟨by kernel_rfl, by kernel_rfl⟩
  · exact ⟨by kernel_rfl, by kernel_rfl⟩
  · exact ⟨by kernel_rfl, by kernel_rfl⟩
  · exact ⟨by kernel_rfl, by kernel_rfl⟩
  · exact ⟨by kernel_rfl, by kernel_rfl⟩
  · exact ⟨by kernel_rfl, by kernel_rfl⟩
  · exact ⟨by kernel_rfl, by kernel_rfl⟩
  · exact ⟨by kernel_rfl, by kernel_rfl⟩
  · exact ⟨by kernel_rfl, by kernel_rfl⟩
  · exact ⟨by kernel_rfl, by kernel_rfl⟩
  · exact ⟨by kernel_rfl, by kernel_rfl⟩
  · exact ⟨by kernel_rfl, by kernel_rfl⟩
  · exact ⟨by kernel_rfl, by kernel_rfl⟩
theorem on_pc {k : Nat} (hk : k < 20) (t : T) : PT 120 .expr [] (chTk t (([.pc (.word [108, 101, 116]), .pc (.blank 32), .pc (.word [108]), .pc (.blank 32), .pc (.mark 61), .pc (.blank 32), .pc (.mark 40)] : List Ch) ++ onCall ++ ([.pc (.mark 41), .pc (.blank 32), .pc (.mark 58), .pc (.blank 32), .pc .nil, .pc (.blank 32), .pc (.word [105, 110]), .pc (.blank 32), .pc (.word [108, 101, 116]), .pc (.blank 32), .pc (.word [120]), .pc (.blank 32), .pc (.mark 61), .pc (.blank 32), .pc (.word [104, 101, 97, 100]), .pc (.blank 32), .pc (.word [108]), .pc (.blank 32), .pc (.word [105, 110]), .pc (.blank 32), .pc (.word [120]), .pc (.blank 32), .pc (.mark 45), .pc (.blank 32), .pc (.word [104, 101, 97, 100]), .pc (.blank 32), .pc (.word [108]), .pc (.blank 32), .pc (.mark 43), .pc (.blank 32)] : List Ch) ++ sumCh k)) = some (.letE 0 (.bin 58 (callT 1 t) .nil) (.letE 1 (.un 104 (.var 0)) (sumT 1 onceB k)), []) ∧ chFin (([.pc (.word [108, 101, 116]), .pc (.blank 32), .pc (.word [108]), .pc (.blank 32), .pc (.mark 61), .pc (.blank 32), .pc (.mark 40)] : List Ch) ++ onCall ++ ([.pc (.mark 41), .pc (.blank 32), .pc (.mark 58), .pc (.blank 32), .pc .nil, .pc (.blank 32), .pc (.word [105, 110]), .pc (.blank 32), .pc (.word [108, 101, 116]), .pc (.blank 32), .pc (.word [120]), .pc (.blank 32), .pc (.mark 61), .pc (.blank 32), .pc (.word [104, 101, 97, 100]), .pc (.blank 32), .pc (.word [108]), .pc (.blank 32), .pc (.word [105, 110]), .pc (.blank 32), .pc (.word [120]), .pc (.blank 32), .pc (.mark 45), .pc (.blank 32), .pc (.word [104, 101, 97, 100]), .pc (.blank 32), .pc (.word [108]), .pc (.blank 32), .pc (.mark 43), .pc (.blank 32)] : List Ch) ++ sumCh k) = true := by
  have h : k = 0 ∨ k = 1 ∨ k = 2 ∨ k = 3 ∨ k = 4 ∨ k = 5 ∨ k = 6 ∨ k = 7 ∨ k = 8 ∨ k = 9 ∨ k = 10 ∨ k = 11 ∨ k = 12 ∨ k = 13 ∨ k = 14 ∨ k = 15 ∨ k = 16 ∨ k = 17 ∨ k = 18 ∨ k = 19 := by omega
  rcases h with rfl | rfl | rfl | rfl | rfl | rfl | rfl | rfl | rfl | rfl | rfl | rfl | rfl | rfl | rfl | rfl | rfl | rfl | rfl | rfl
  · exact ⟨by kernel_rfl, by kernel_rfl⟩
  · exact ⟨by kernel_rfl, by kernel_rfl⟩
  · exact ⟨by kernel_rfl, by kernel_rfl⟩
  · exact ⟨by kernel_rfl, by kernel_rfl⟩
  · exact ⟨by kernel_rfl, by kernel_rfl⟩
  · exact ⟨by kernel_rfl, by kernel_rfl⟩
  · exact ⟨by kernel_rfl, by kernel_rfl⟩
  · exact ⟨by kernel_rfl, by kernel_rfl⟩
  · exact ⟨by kernel_rfl, by kernel_rfl⟩
  · exact ⟨by kernel_rfl, by kernel_rfl⟩
  · exact ⟨by kernel_rfl, by kernel_rfl⟩
  · exact ⟨by kernel_rfl, by kernel_rfl⟩
  · exact ⟨by kernel_rfl, by kernel_rfl⟩
  · exact ⟨by kernel_rfl, by kernel_rfl⟩
  · exact ⟨by kernel_rfl, by kernel_rfl⟩
  · exact ⟨by kernel_rfl, by kernel_rfl⟩
  · exact ⟨by kernel_rfl, by kernel_rfl⟩
  · exact ⟨by kernel_rfl, by kernel_rfl⟩
  · exact ⟨by kernel_rfl, by kernel_rfl⟩
  · exact ⟨by kernel_rfl, by kernel_rfl⟩
def callBy (s : ByteArray) : ByteArray := ⟨#[40, 92, 121, 46, 32, 92, 122, 46, 32, 121, 41, 32]⟩ ++ s ++ ⟨#[32, 48]⟩
section
variable {x : X} (hx : x.ok) (lx : x.txt.length ≤ 110) {k : Nat} (hk : k < 20)
include hx lx hk

theorem on_a : XSay ((⟨#[40, 92, 120, 46, 32]⟩ : ByteArray) ++ sumBy k ++ (⟨#[41, 32, 40]⟩ : ByteArray) ++ callBy ⟨x.txt.toArray⟩ ++ (⟨#[41]⟩ : ByteArray)) 3 (sdig (wsum x.n x.n k)) 3 := by
  have hs := sumCh_txt x k
  have hz := sumBy_size k
  obtain ⟨hp, hf⟩ := on_pa hk x.tree
  have hz' : (sumBy k).data.toList.length ≤ 39 := by
    have : (sumBy k).data.toList.length = (sumBy k).size := by simp
    omega
  exact ch_eval hx (n := 120) (L := 3) (k := 3) (([.pc (.mark 40), .pc (.mark 92), .pc (.word [120]), .pc (.mark 46), .pc (.blank 32)] : List Ch) ++ sumCh k ++ ([.pc (.mark 41), .pc (.blank 32), .pc (.mark 40)] : List Ch) ++ onCall ++ ([.pc (.mark 41)] : List Ch)) (by simp [chTxt_app, chTxt, Ch.txt, Pc.txt, hs, onCall, callBy]) (by simp only [chTxt_app, hs, List.length_append]; simp [chTxt, Ch.txt, Pc.txt, onCall]; simp at hz'; omega) hf hp (by decide) (nd_o1 hx k) (wsum_in (X.in64 x hx) k)
theorem on_b : XSay ((⟨#[108, 101, 116, 32, 120, 32, 61, 32]⟩ : ByteArray) ++ callBy ⟨x.txt.toArray⟩ ++ (⟨#[32, 105, 110, 32]⟩ : ByteArray) ++ sumBy k) 2 (sdig (wsum x.n x.n k)) 2 := by
  have hs := sumCh_txt x k
  have hz := sumBy_size k
  obtain ⟨hp, hf⟩ := on_pb hk x.tree
  have hz' : (sumBy k).data.toList.length ≤ 39 := by
    have : (sumBy k).data.toList.length = (sumBy k).size := by simp
    omega
  exact ch_eval hx (n := 120) (L := 2) (k := 2) (([.pc (.word [108, 101, 116]), .pc (.blank 32), .pc (.word [120]), .pc (.blank 32), .pc (.mark 61), .pc (.blank 32)] : List Ch) ++ onCall ++ ([.pc (.blank 32), .pc (.word [105, 110]), .pc (.blank 32)] : List Ch) ++ sumCh k) (by simp [chTxt, Ch.txt, Pc.txt, hs, onCall, callBy]) (by simp only [chTxt_app, hs, List.length_append]; simp [chTxt, Ch.txt, Pc.txt, onCall]; simp at hz'; omega) hf hp (by decide) (nd_o2 hx k) (wsum_in (X.in64 x hx) k)
theorem on_c : XSay ((⟨#[108, 101, 116, 32, 108, 32, 61, 32, 40]⟩ : ByteArray) ++ callBy ⟨x.txt.toArray⟩ ++ (⟨#[41, 32, 58, 32, 91, 93, 32, 105, 110, 32, 108, 101, 116, 32, 120, 32, 61, 32, 104, 101, 97, 100, 32, 108, 32, 105, 110, 32, 120, 32, 45, 32, 104, 101, 97, 100, 32, 108, 32, 43, 32]⟩ : ByteArray) ++ sumBy k) 2 (sdig (wsum x.n x.n k)) 2 := by
  have hs := sumCh_txt x k
  have hz := sumBy_size k
  obtain ⟨hp, hf⟩ := on_pc hk x.tree
  have hz' : (sumBy k).data.toList.length ≤ 39 := by
    have : (sumBy k).data.toList.length = (sumBy k).size := by simp
    omega
  exact ch_eval hx (n := 120) (L := 2) (k := 2) (([.pc (.word [108, 101, 116]), .pc (.blank 32), .pc (.word [108]), .pc (.blank 32), .pc (.mark 61), .pc (.blank 32), .pc (.mark 40)] : List Ch) ++ onCall ++ ([.pc (.mark 41), .pc (.blank 32), .pc (.mark 58), .pc (.blank 32), .pc .nil, .pc (.blank 32), .pc (.word [105, 110]), .pc (.blank 32), .pc (.word [108, 101, 116]), .pc (.blank 32), .pc (.word [120]), .pc (.blank 32), .pc (.mark 61), .pc (.blank 32), .pc (.word [104, 101, 97, 100]), .pc (.blank 32), .pc (.word [108]), .pc (.blank 32), .pc (.word [105, 110]), .pc (.blank 32), .pc (.word [120]), .pc (.blank 32), .pc (.mark 45), .pc (.blank 32), .pc (.word [104, 101, 97, 100]), .pc (.blank 32), .pc (.word [108]), .pc (.blank 32), .pc (.mark 43), .pc (.blank 32)] : List Ch) ++ sumCh k) (by simp [chTxt, Ch.txt, Pc.txt, hs, onCall, callBy]) (by simp only [chTxt_app, hs, List.length_append]; simp [chTxt, Ch.txt, Pc.txt, onCall]; simp at hz'; omega) hf hp (by decide) (nd_o3 hx k) (wsum_in (X.in64 x hx) k)
end
end Go.Proofs.YtjjlgjmebnkdjaaGreatDoor
