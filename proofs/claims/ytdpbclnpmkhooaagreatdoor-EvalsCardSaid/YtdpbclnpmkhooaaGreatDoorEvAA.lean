/-
  Evals.
-/
import Derived.Test.YtdpbclnpmkhooaaGreatDoorEvZ
import Derived.Test.YtdpbclnpmkhooaaGreatDoorEvX2
namespace Go.Proofs.YtdpbclnpmkhooaaGreatDoor
open Go Go.Proofs Go.RowKit Skein

theorem finish_zero {m : M} (hf : (finish m).1 = 0) : finish m = (0, 0) := by
  unfold finish at hf ⊢
  split at hf
  · simp at hf
  · rename_i h1
    rw [if_neg h1]
    split at hf
    · simp at hf
    · rename_i h2
      rw [if_neg h2]
      split at hf
      · simp at hf
      · rename_i h3; rw [if_neg h3]

theorem evaled_ok (s : ByteArray) (lim : Int) (hN : NoSub s) (w : World) (ht : Tab w) : Calls Tryz.prog 12 #[.string s, .int .i64 lim] w fun e w' => e = .returned (.bool true) ∧ Below w.heap.size w w' := by
  by_cases hl : s.size ≤ 300
  · obtain ⟨t, m, hP⟩ := PM_ends s
    by_cases hf : (finish m).1 = 0
    · have hf0 := finish_zero hf
      obtain ⟨hc, hz⟩ := whole_good hl hP hf0
      have hok : Ok2 0 t := PM_ok2 s (noTok_of hN) _ _ _ _ hP (Inv.start s) trivial
      have htd : Tidy 0 t := tidy_of t 0 hc hok
      have hdp : dep t ≤ 1000 := by have := dep_le t; omega
      have hR : ∀ w, Calls Tryz.prog 25 #[.string s] w (RPost w t (0, 0)) := fun w => by rw [← hf0]; exact pread s w hl _ t m hP
      have hD : ∀ w, Calls Tryz.prog 21 #[.string s] w fun e w' => ∃ a, e = .returned (.tuple #[.pointer a, .int .i64 0, .int .i64 0]) ∧ NodeAt w.heap.size w' t (.pointer a) ∧ Below w.heap.size w w' := fun w => by
        refine (parse_ok s w hl _ t m hP).mono ?_
        rintro e w' ⟨v, he, hn, ⟨a, rfl⟩, hb⟩
        rw [hf0] at he hn
        exact ⟨a, he, hn rfl, hb⟩
      by_cases hlim : lim < 0 ∨ 500 < lim
      · exact evaled_of s lim w ht ⟨#[]⟩ 0 4 (fun w _ => peval_lim s lim w t hlim hR) (fun w => reval_lim s lim w hlim fun w => (hD w).mono fun e w' ⟨a, h1, _, h2⟩ => ⟨a, h1, h2⟩)
      · obtain ⟨L, rfl⟩ : ∃ L : Nat, lim = L := ⟨lim.toNat, by omega⟩
        have hL : L ≤ 500 := by omega
        obtain ⟨n, r, he, hro⟩ := ev_whole L t htd
        have hin := (ev_in L n _ _ _ he (by intro c h; cases h) (small_of t hc)).2
        have hnl := (ev_nl L n _ _ _ he (by intro c h; cases h) (nls_of t 0 htd)).2
        refine evaled_of s L w ht (txtOf r.1) r.2.steps (errOf r.1) (fun w ht => peval_ok s L w t hL _ _ _ ht hR fun w ht => preckE t htd hdp he hin w hL ht) (fun w => reval_ok s w t htd he hin hL (fun v hv => ?_) hD)
        rw [hv] at hnl
        cases v with
        | num k => exact .inl ⟨k, rfl⟩
        | fn y e => exact .inr ⟨y, e, rfl⟩
        | nil => exact hnl.elim
        | cons i j => exact hnl.elim
    · refine evaled_of s lim w ht ⟨#[]⟩ 0 (finish m).1 (fun w _ => peval_err s lim w t (finish m) hf fun w => pread s w hl _ t m hP) (fun w => reval_err s lim w (finish m).1 (finish m).2 hf fun w => ?_)
      refine (parse_ok s w hl _ t m hP).mono ?_
      rintro e w' ⟨v, he, -, ⟨a, rfl⟩, hb⟩
      exact ⟨a, he, hb⟩
  · have hs : 300 < s.size := by omega
    refine evaled_of s lim w ht ⟨#[]⟩ 0 1 (fun w _ => peval_err s lim w .nil (1, 0) (by decide) fun w => pread_long s w hs .nil) (fun w => reval_err s lim w 1 0 (by decide) fun w => ?_)
    refine (parse_long s w hs).mono ?_
    rintro e w' ⟨rfl, rfl⟩
    exact ⟨none, rfl, Below.refl _ _⟩

/-- A closed look whether a text speaks of lists. -/
def speaks (s : ByteArray) : Bool := (List.range s.size).any fun a => lw.any fun x => decide (a + x.size ≤ s.size) && eqb (s.extract a (a + x.size)) x
theorem noSub_of {s : ByteArray} (h : speaks s = false) : NoSub s := by
  intro a x hx hs e
  have hp := (lw_pos hx).1
  have h1 : ((List.range s.size).any fun a => lw.any fun x => decide (a + x.size ≤ s.size) && eqb (s.extract a (a + x.size)) x) = true := by
    rw [List.any_eq_true]
    refine ⟨a, List.mem_range.2 (by omega), ?_⟩
    rw [List.any_eq_true]
    refine ⟨x, hx, ?_⟩
    rw [Bool.and_eq_true]
    exact ⟨by simpa using hs, eqb_iff.2 e⟩
  unfold speaks at h
  rw [h1] at h
  cases h

def known5 : ByteArray := ⟨#[108, 101, 116, 32, 102, 32, 61, 32, 92, 110, 46, 32, 105, 102, 32, 110, 32, 116, 104, 101, 110, 32, 110, 32, 42, 32, 102, 32, 40, 110, 32, 45, 32, 49, 41, 32, 101, 108, 115, 101, 32, 49, 32, 105, 110, 32, 102, 32, 53]⟩
theorem known5_ok : speaks known5 = false := by decide +kernel

set_option maxRecDepth 100000 in
set_option maxHeartbeats 4000000 in
theorem evals_ok (s : ByteArray) (hs : s.size ≤ 9223372036854775807) (lim : Int) (w : World) (ht : Tab w) : Calls Tryz.prog 5 #[.string s, .int .i64 lim] w fun e w' => e = .returned (.bool true) ∧ Below w.heap.size w w' := by
  have HK : Hid (Calls Tryz.prog 12 #[.string known5, .int .i64 6] w fun e w' => e = .returned (.bool true) ∧ Below w.heap.size w w') := evaled_ok known5 6 (noSub_of known5_ok) w ht
  have HT : Hid (Tab w) := ht
  have h3 := ht.lt
  clear ht
  go_enter Tryz.func5, Tryz.ntmps5
  go_wp2_with fail
  refine HK.out.mono ?_
  rintro e w1 ⟨rfl, hb1⟩
  have hT1 : Hid (Tab w1) := HT.out.below hb1 h3
  go_wp2_with fail
  refine (lists_ok s hs _).mono ?_
  rintro e w2 ⟨b, rfl, hb, hg2⟩
  have hB2 := hb1.grown hg2 hb1.size (by simp)
  have hT2 : Hid (Tab w2) := hT1.out.grown hg2
  cases b
  · have HE : Hid (Calls Tryz.prog 12 #[.string s, .int .i64 lim] w2 fun e w' => e = .returned (.bool true) ∧ Below w2.heap.size w2 w') := evaled_ok s lim (hb rfl) w2 hT2.out
    clear hb
    go_wp2_with fail
    refine HE.out.mono ?_
    rintro e w3 ⟨rfl, hb3⟩
    have hB3 := hB2.trans (hb3.mono hB2.size)
    go_wp2_with fail
    go_ret
    exact ⟨rfl, hB3⟩
  · clear hb
    go_wp2_with fail
    go_ret
    exact ⟨rfl, hB2⟩
end Go.Proofs.YtdpbclnpmkhooaaGreatDoor
