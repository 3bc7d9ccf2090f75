/-
  Renamed: the plain form of a text is its own, and is the same by as many steps.
-/
import Derived.Test.YtjjlgjmebnkdjaaGreatDoorWf02
import Derived.Test.YtjjlgjmebnkdjaaGreatDoorWf01
import Derived.Test.YtjjlgjmebnkdjaaGreatDoorWf04
namespace Go.Proofs.YtjjlgjmebnkdjaaGreatDoor
open Go Go.Proofs Go.RowKit Skein

theorem psh_ok {s : ByteArray} (hl : s.size ≤ 300) {t : T} {m : M} (hP : PM s (8 * s.size + 8) .expr (Skein.start s) = some (t, m)) (hf0 : finish m = (0, 0)) (w : World) (ht : Tab w) :
    Calls Tryz.prog 26 #[.string s] w fun e w' => e = .returned (.tuple #[.string (plain t), .int .i64 0]) ∧ Below w.heap.size w w' := by
  obtain ⟨hc, hz⟩ := whole_good hl hP hf0
  obtain ⟨T1, x1, f1, he, hs⟩ := spk_all t hc hz
  exact pshow_ok s w ht t he hs (fun w => by rw [← hf0]; exact pread s w hl _ t m hP)

theorem knownS : plain (.fn 0 (.var 0)) = ⟨#[40, 92, 118, 48, 46, 32, 118, 48, 41]⟩ := by
  have : dig 0 = ⟨#[48]⟩ := by unfold dig; rw [Lib.decDigits_one (by decide)]; rfl
  simp only [plain, this]; rfl
theorem knownS_ok (w : World) (ht : Tab w) : Calls Tryz.prog 26 #[.string ⟨#[92, 97, 46, 97]⟩] w fun e w' => e = .returned (.tuple #[.string ⟨#[40, 92, 118, 48, 46, 32, 118, 48, 41]⟩, .int .i64 0]) ∧ Below w.heap.size w w' := by
  obtain ⟨m, h1, h2⟩ := whole_of (s := ⟨#[92, 97, 46, 97]⟩) (l := [.mark 92, .word [97], .mark 46, .word [97]]) (n := 20) (t := .fn 0 (.var 0)) (by rfl) (by rfl) (by rfl)
  rw [← knownS]
  exact psh_ok (by decide) h1 h2 w ht

theorem rn_cases (s : ByteArray) (n : Nat) (hn : n ≤ 500) : ∃ e x p, (∀ w, Calls Tryz.prog 25 #[.string s] w fun r w' => r = .returned (.tuple #[.int .i64 e, .int .i64 x]) ∧ Below w.heap.size w w') ∧
    (∀ w, Tab w → Calls Tryz.prog 26 #[.string s] w fun r w' => r = .returned (.tuple #[.string p, .int .i64 e]) ∧ Below w.heap.size w w') ∧ p.size ≤ 9223372036854775807 ∧
    ((e ≠ 0 ∧ p = ⟨#[]⟩) ∨ (e = 0 ∧ (p.size ≤ 300 → ∃ a k z,
      (∀ w, Tab w → Calls Tryz.prog 26 #[.string p] w fun r w' => r = .returned (.tuple #[.string p, .int .i64 0]) ∧ Below w.heap.size w w') ∧
      (∀ w, Tab w → Calls Tryz.prog 20 #[.string s, .int .i64 n] w fun r w' => r = .returned (.agg #[.string a, .int .i64 k, .int .i64 z]) ∧ Below w.heap.size w w') ∧
      (∀ w, Tab w → Calls Tryz.prog 20 #[.string p, .int .i64 n] w fun r w' => r = .returned (.agg #[.string a, .int .i64 k, .int .i64 z]) ∧ Below w.heap.size w w')))) := by
  by_cases hl : s.size ≤ 300
  · obtain ⟨t, m, hP⟩ := PM_ends s
    have hC := fun w => pcheck_of s w t (finish m) fun w => pread s w hl _ t m hP
    by_cases hf : (finish m).1 = 0
    · have hf0 := finish_zero hf
      obtain ⟨htd, hsm, hdp⟩ := whole_tree hl hP hf0
      obtain ⟨hc, hz⟩ := whole_good hl hP hf0
      obtain ⟨m', h1, h2⟩ := plain_whole htd hc
      have hps := plain_size t hc
      refine ⟨(finish m).1, (finish m).2, plain t, hC, fun w ht => by rw [hf]; exact psh_ok hl hP hf0 w ht, by omega, .inr ⟨hf, fun hp => ?_⟩⟩
      obtain ⟨a, k, hR⟩ := runs_ex n t htd
      exact ⟨txtA a, k, errA a, fun w ht => psh_ok hp h1 h2 w ht, fun w ht => pev_ok hl hP hf0 hn hR w ht, fun w ht => pev_ok hp h1 h2 hn hR w ht⟩
    · exact ⟨(finish m).1, (finish m).2, ⟨#[]⟩, hC, fun w _ => pshow_err s w t (finish m) hf (fun w => pread s w hl _ t m hP), by decide, .inl ⟨hf, rfl⟩⟩
  · have hs : 300 < s.size := by omega
    exact ⟨1, 0, ⟨#[]⟩, fun w => pcheck_of s w .nil (1, 0) fun w => pread_long s w hs .nil, fun w _ => pshow_err s w .nil (1, 0) (by decide) (fun w => pread_long s w hs .nil), by decide, .inl ⟨by decide, rfl⟩⟩

set_option maxRecDepth 100000 in
set_option maxHeartbeats 8000000 in
theorem renamed_ok (s : ByteArray) (lim : Int) (hlim : Skein.Int64 lim) (w : World) (ht : Tab w) : Calls Tryz.prog 12 #[.string s, .int .i64 lim] w fun e w' => e = .returned (.bool true) ∧ Below w.heap.size w w' := by
  have HK : Hid (∀ w, Tab w → Calls Tryz.prog 26 #[.string ⟨#[92, 97, 46, 97]⟩] w fun e w' => e = .returned (.tuple #[.string ⟨#[40, 92, 118, 48, 46, 32, 118, 48, 41]⟩, .int .i64 0]) ∧ Below w.heap.size w w') := knownS_ok
  have HT : Hid (∀ w', Below w.heap.size w w' → Tab w') := fun w' hb => ht.belowB hb ht.lt
  have HP : Hid (∀ w, Calls Tryz.prog 24 #[.int .i64 lim, .int .i64 501] w fun e w' => e = .returned (.int .i64 (pickN lim 501)) ∧ w' = w) := fun w => pick_is lim hlim 501 (by decide) (by decide) w
  have hpk : pickN lim 501 ≤ 500 := by
    unfold pickN
    split <;> omega
  obtain ⟨e, x, p, hC, hS, hpz, hcase⟩ := rn_cases s _ hpk
  generalize pickN lim 501 = n at HP hpk hcase
  have HC : Hid (∀ w, Calls Tryz.prog 25 #[.string s] w fun r w' => r = .returned (.tuple #[.int .i64 e, .int .i64 x]) ∧ Below w.heap.size w w') := hC
  have HS : Hid (∀ w, Tab w → Calls Tryz.prog 26 #[.string s] w fun r w' => r = .returned (.tuple #[.string p, .int .i64 e]) ∧ Below w.heap.size w w') := hS
  have HCS : Hid (_ ∨ _) := hcase
  clear ht hlim hC hS hcase
  have q0 : ((⟨#[40, 92, 118, 48, 46, 32, 118, 48, 41]⟩ : ByteArray).toList == (⟨#[40, 92, 118, 48, 46, 32, 118, 48, 41]⟩ : ByteArray).toList) = true := by simp
  have q1 : ((⟨#[40, 92, 118, 48, 46, 32, 118, 48, 41]⟩ : ByteArray).toList != (⟨#[40, 92, 118, 48, 46, 32, 118, 48, 41]⟩ : ByteArray).toList) = false := by simp
  go_enter Tryz.func12, Tryz.ntmps12
  go_wp2_with fail
  refine (HK.out _ (HT.out _ (Below.refl _ _))).mono ?_
  rintro e0 w1 ⟨rfl, hB1⟩
  go_wp2_with fail
  refine (HS.out _ (HT.out _ hB1)).mono ?_
  rintro e0 w2 ⟨rfl, hb2⟩
  have hB2 := hB1.trans (hb2.mono hB1.size)
  clear hb2 hB1 q0 q1
  go_wp2_with fail
  refine (HC.out _).mono ?_
  rintro e0 w3 ⟨rfl, hb3⟩
  have hB3 := hB2.trans (hb3.mono hB2.size)
  clear hb3 hB2
  have q2 : ((⟨#[]⟩ : ByteArray).toList == (⟨#[]⟩ : ByteArray).toList) = true := by simp
  have q3 : ((⟨#[]⟩ : ByteArray).toList != (⟨#[]⟩ : ByteArray).toList) = false := by simp
  have q6 : (e == e) = true := by simp
  have q7 : (e != e) = false := by simp
  rcases HCS.out with ⟨c1, rfl⟩ | ⟨rfl, hrest⟩
  · have d1 : (e == 0) = false := by simpa using c1
    have d2 : (e != 0) = true := by simp [bne, d1]
    clear HCS c1
    go_wp2_with fail
    go_ret
    exact ⟨rfl, hB3⟩
  · clear HCS
    by_cases hp : p.size ≤ 300
    · obtain ⟨a, k, z, h1, h2, h3⟩ := hrest hp
      have H1 : Hid (∀ w, Tab w → _) := h1
      have H2 : Hid (∀ w, Tab w → _) := h2
      have H3 : Hid (∀ w, Tab w → _) := h3
      have dl : decide ((300 : Int) < (p.size : Int)) = false := by simp; omega
      clear h1 h2 h3 hrest
      go_wp2_with fail
      refine (H1.out _ (HT.out _ hB3)).mono ?_
      rintro e0 w4 ⟨rfl, hb4⟩
      have hB4 := hB3.trans (hb4.mono hB3.size)
      clear hb4 hB3
      go_wp2_with fail
      refine (HP.out _).mono ?_
      rintro e0 w5 ⟨rfl, rfl⟩
      go_wp2_with fail
      refine (H2.out _ (HT.out _ hB4)).mono ?_
      rintro e0 w6 ⟨rfl, hb6⟩
      have hC6 := hB4.trans (hb6.mono hB4.size)
      have hg6 := grown_alloc (grown_refl w6 none) (.cells #[.string a, .int .i64 k, .int .i64 z] 30 (0, 0))
      have xa6 := alloc_at w6 (.cells #[.string a, .int .i64 k, .int .i64 z] 30 (0, 0)) _ rfl
      have hB6 := hC6.grown hg6 hC6.size (by simp)
      clear hb6 hg6 hC6 hB4
      go_wp2_with fail
      refine (H3.out _ (HT.out _ hB6)).mono ?_
      rintro e0 w7 ⟨rfl, hb7⟩
      have xa7 := (hb7.block w6.heap.size (heap_lt xa6)).trans xa6
      have hC7 := hB6.trans (hb7.mono hB6.size)
      have hg7 := grown_alloc (grown_refl w7 none) (.cells #[.string a, .int .i64 k, .int .i64 z] 30 (0, 0))
      obtain ⟨a0, a1, a2⟩ := ans3 (keepB' xa7 hg7)
      obtain ⟨b0, b1, b2⟩ := ans3 (alloc_at w7 (.cells #[.string a, .int .i64 k, .int .i64 z] 30 (0, 0)) _ rfl)
      have hB7 := hC7.grown hg7 hC7.size (by simp)
      have r2 : (a.toList == a.toList) = true := by simp
      have r3 : (k == k) = true := by simp
      have r4 : (z == z) = true := by simp
      have r5 : (p.toList == p.toList) = true := by simp
      clear hb7 hg7 hC7 hB6 xa6 xa7
      go_wp2_with fail
      go_ret
      exact ⟨rfl, hB7⟩
    · have dl : decide ((300 : Int) < (p.size : Int)) = true := by simp; omega
      clear hrest
      go_wp2_with fail
      go_ret
      exact ⟨rfl, hB3⟩
end Go.Proofs.YtjjlgjmebnkdjaaGreatDoor
