/-
  The document's Eval.
-/
import Derived.Test.YtdpbclnpmkhooaaGreatDoorRefV
import Derived.Test.YtdpbclnpmkhooaaGreatDoorEvV
namespace Go.Proofs.YtdpbclnpmkhooaaGreatDoor
open Go Go.Proofs Go.RowKit Skein

set_option maxRecDepth 100000 in
set_option maxHeartbeats 4000000 in
theorem reval_err (s : ByteArray) (lim : Int) (w : World) (f1 f2 : Int) (hf : f1 ≠ 0) (hD : ∀ w, Calls Tryz.prog 21 #[.string s] w fun e w' => ∃ a, e = .returned (.tuple #[.pointer a, .int .i64 f1, .int .i64 f2]) ∧ Below w.heap.size w w') :
    Calls Tryz.prog 23 #[.string s, .int .i64 lim] w fun e w' => e = .returned (answer ⟨#[]⟩ 0 f1) ∧ Below w.heap.size w w' := by
  have HD : Hid (∀ w, Calls Tryz.prog 21 #[.string s] w fun e w' => ∃ a, e = .returned (.tuple #[.pointer a, .int .i64 f1, .int .i64 f2]) ∧ Below w.heap.size w w') := hD
  have h0 : (f1 == 0) = false := by simpa using hf
  have h1 : (f1 != 0) = true := by simp [bne, h0]
  clear hD hf
  go_enter Tryz.func23, Tryz.ntmps23
  go_wp2_with fail
  refine (HD.out _).mono ?_
  rintro e w1 ⟨a, rfl, hb⟩
  have hk1 := (hb.block w.heap.size (by simp)).trans (alloc_at w (.cells #[.string ⟨#[]⟩, .int .i64 0, .int .i64 0] 30 (0, 0)) _ rfl)
  have hB1 : Below w.heap.size w w1 := ((Below.refl _ w).alloc (Nat.le_refl _) _).trans (hb.mono (by simp))
  obtain ⟨c0, c1, c2, cf, clt⟩ := ans_cells hk1
  go_wp2_with fail
  have hk2 := set3 hk1 (.string ⟨#[]⟩) (.int .i64 0) (.int .i64 f1)
  have hB2 := ((hB1.setCell (p := ⟨w.heap.size, 0, none⟩) (Nat.le_refl _) (.string ⟨#[]⟩)).setCell (p := ⟨w.heap.size, 1, none⟩) (Nat.le_refl _) (.int .i64 0)).setCell (p := ⟨w.heap.size, 2, none⟩) (Nat.le_refl _) (.int .i64 f1)
  exact fin3 (t := 4) Tryz.results23 rfl rfl hk2 ⟨rfl, hB2⟩

set_option maxRecDepth 100000 in
set_option maxHeartbeats 4000000 in
theorem reval_lim (s : ByteArray) (lim : Int) (w : World) (hl : lim < 0 ∨ 500 < lim) (hD : ∀ w, Calls Tryz.prog 21 #[.string s] w fun e w' => ∃ a, e = .returned (.tuple #[.pointer a, .int .i64 0, .int .i64 0]) ∧ Below w.heap.size w w') :
    Calls Tryz.prog 23 #[.string s, .int .i64 lim] w fun e w' => e = .returned (answer ⟨#[]⟩ 0 4) ∧ Below w.heap.size w w' := by
  have HD : Hid (∀ w, Calls Tryz.prog 21 #[.string s] w fun e w' => ∃ a, e = .returned (.tuple #[.pointer a, .int .i64 0, .int .i64 0]) ∧ Below w.heap.size w w') := hD
  clear hD
  have hl' : (decide (lim < 0) = true) ∨ (decide (lim < 0) = false ∧ decide (500 < lim) = true) := by
    by_cases h : lim < 0
    · exact .inl (by simpa using h)
    · exact .inr ⟨by simpa using h, by simp; omega⟩
  clear hl
  rcases hl' with l1 | ⟨l1, l2⟩
  all_goals
    go_enter Tryz.func23, Tryz.ntmps23
    go_wp2_with fail
    refine (HD.out _).mono ?_
    rintro e w1 ⟨a, rfl, hb⟩
    have hk1 := (hb.block w.heap.size (by simp)).trans (alloc_at w (.cells #[.string ⟨#[]⟩, .int .i64 0, .int .i64 0] 30 (0, 0)) _ rfl)
    have hB1 : Below w.heap.size w w1 := ((Below.refl _ w).alloc (Nat.le_refl _) _).trans (hb.mono (by simp))
    obtain ⟨c0, c1, c2, cf, clt⟩ := ans_cells hk1
    go_wp2_with fail
    have hk2 := set3 hk1 (.string ⟨#[]⟩) (.int .i64 0) (.int .i64 4)
    have hB2 := ((hB1.setCell (p := ⟨w.heap.size, 0, none⟩) (Nat.le_refl _) (.string ⟨#[]⟩)).setCell (p := ⟨w.heap.size, 1, none⟩) (Nat.le_refl _) (.int .i64 0)).setCell (p := ⟨w.heap.size, 2, none⟩) (Nat.le_refl _) (.int .i64 4)
    exact fin3 (t := 4) Tryz.results23 rfl rfl hk2 ⟨rfl, hB2⟩

set_option maxRecDepth 100000 in
set_option maxHeartbeats 8000000 in
theorem reval_ok (s : ByteArray) (w : World) (t : T) (ht : Tidy 0 t) {L n : Nat} {r : R × E} (he : ev L n (.need t []) ⟨[], 0⟩ = some r) (hin : RIn r.1) (hL : L ≤ 500)
    (hnl : ∀ v, r.1 = .ok v → (∃ k, v = .num k) ∨ ∃ y e, v = .fn y e)
    (hD : ∀ w, Calls Tryz.prog 21 #[.string s] w fun e w' => ∃ a, e = .returned (.tuple #[.pointer a, .int .i64 0, .int .i64 0]) ∧ NodeAt w.heap.size w' t (.pointer a) ∧ Below w.heap.size w w') :
    Calls Tryz.prog 23 #[.string s, .int .i64 L] w fun e w' => e = .returned (answer (txtOf r.1) r.2.steps (errOf r.1)) ∧ Below w.heap.size w w' := by
  have HD : Hid (∀ w, Calls Tryz.prog 21 #[.string s] w fun e w' => ∃ a, e = .returned (.tuple #[.pointer a, .int .i64 0, .int .i64 0]) ∧ NodeAt w.heap.size w' t (.pointer a) ∧ Below w.heap.size w w') := hD
  have HE : Hid (ev L n (.need t []) ⟨[], 0⟩ = some r) := he
  have HI : Hid (RIn r.1) := hin
  have HN : Hid (∀ v, r.1 = .ok v → (∃ k, v = .num k) ∨ ∃ y e, v = .fn y e) := hnl
  have HT : Hid (Tidy 0 t) := ht
  clear hD he hin hnl ht
  have l1 : decide ((L : Int) < 0) = false := by simp
  have l2 : decide ((500 : Int) < L) = false := by simp; omega
  go_enter Tryz.func23, Tryz.ntmps23
  go_wp2_with fail
  refine (HD.out _).mono ?_
  rintro e w1 ⟨a, rfl, hn, hb⟩
  have hk1 := (hb.block w.heap.size (by simp)).trans (alloc_at w (.cells #[.string ⟨#[]⟩, .int .i64 0, .int .i64 0] 30 (0, 0)) _ rfl)
  have hB1 : Below w.heap.size w w1 := ((Below.refl _ w).alloc (Nat.le_refl _) _).trans (hb.mono (by simp))
  have hsz : w.heap.size + 1 ≤ w1.heap.size := by have := hb.size; rw [alloc_size] at this; exact this
  have hg := grown_alloc (grown_refl w1 none) (.cells #[.int .i64 0, .int .i64 L, .int .i64 0] 64 (0, 0))
  have hwb : WB (w1.alloc (.cells #[.int .i64 0, .int .i64 L, .int .i64 0] 64 (0, 0))) w1.heap.size ((0 : Nat) : Int) L 0 := alloc_at w1 _ _ rfl
  rw [alloc_size] at hn hb
  have hf0 : Fr 85 64 (w.heap.size + 1) w1 (w1.alloc (.cells #[.int .i64 0, .int .i64 L, .int .i64 0] 64 (0, 0))) := Fr.grown hsz hg
  have hRE : RE (w.heap.size + 1) (w1.alloc (.cells #[.int .i64 0, .int .i64 L, .int .i64 0] 64 (0, 0))) [] w1.heap.size L ⟨[], 0⟩ := ⟨hwb, rfl, (fun i c a h => by simp at h), (fun i j a h => by simp at h), (fun a h => by cases h), hsz, hL⟩
  have HG : Hid (Calls Tryz.prog 31 #[ptr w1.heap.size, .pointer a, nilp] (w1.alloc (.cells #[.int .i64 0, .int .i64 L, .int .i64 0] 64 (0, 0))) _) := (cn_all n).1 L t [] _ r (w.heap.size + 1) _ [] w1.heap.size _ _ HE.out hRE HT.out (NodeAt.fr hf0 _ _ hn) rfl
  have hk2 := keepB' hk1 hg
  have hB2 := hB1.grown hg hB1.size (by simp)
  clear hn hRE hwb hb
  go_wp2_with fail
  refine HG.out.mono ?_
  intro e w3 hG
  have hk3 := hG.1.keep _ _ 30 (by decide) (by decide) hk2
  have hB3 := hB2.trans (hG.1.below.mono (by omega))
  rcases hr : r.1 with v | z
  · obtain ⟨A', k', n', a1, a2, a3, a4, rfl, hk, hA, h1, hv⟩ := hG.v hr
    have hg3 := grown_alloc (grown_refl w3 none) (.cells #[.int .u8 k', .int .i64 n', .pointer a1, .pointer a2, .pointer a3, .pointer a4] 68 (0, 0))
    have h2 := h1.grown hg3
    have hk4 := keepB' hk3 hg3
    have hB4 := hB3.grown hg3 hB3.size (by simp)
    have HTX : Hid (Calls Tryz.prog 32 #[ptr w1.heap.size, rv k' n' (.pointer a1) (.pointer a2) (.pointer a3) (.pointer a4)] (w3.alloc (.cells #[.int .u8 k', .int .i64 n', .pointer a1, .pointer a2, .pointer a3, .pointer a4] 68 (0, 0))) fun e w' => e = .returned (.string (textOf v)) ∧ World.grownBy (w3.alloc (.cells #[.int .u8 k', .int .i64 n', .pointer a1, .pointer a2, .pointer a3, .pointer a4] 68 (0, 0))) w' none) := by
      have hI := HI.out
      rw [hr] at hI
      rcases HN.out v hr with ⟨k, rfl⟩ | ⟨y, e, rfl⟩
      · simp only [VR, rv, Value.agg.injEq] at hv
        simp at hv
        obtain ⟨rfl, rfl, rfl, rfl, rfl, rfl⟩ := hv
        exact rtext_num h2 n' hI
      · obtain ⟨_, p, q, hv, _⟩ := hv
        simp only [rv, Value.agg.injEq] at hv
        simp at hv
        obtain ⟨rfl, rfl, rfl, rfl, rfl, rfl⟩ := hv
        exact rtext_fn h2 _ a1 a2
    clear hv h1 hG hk
    go_wp2_with fail
    refine HTX.out.mono ?_
    rintro e w5 ⟨rfl, hg5⟩
    have h6 := h2.grown hg5
    have hk6 := keepB' hk4 hg5
    have hB6 := hB4.grown hg5 hB4.size (by simp)
    obtain ⟨c0, c1, c2, cf, clt⟩ := ans_cells hk6
    obtain ⟨e0, e1, e2, ef, elt⟩ := h6.walk.cells
    have hk7 := set3 hk6 (.string (textOf v)) (.int .i64 r.2.steps) (.int .i64 0)
    have hB7 := ((hB6.setCell (p := ⟨w.heap.size, 0, none⟩) (Nat.le_refl _) (.string (textOf v))).setCell (p := ⟨w.heap.size, 1, none⟩) (Nat.le_refl _) (.int .i64 r.2.steps)).setCell (p := ⟨w.heap.size, 2, none⟩) (Nat.le_refl _) (.int .i64 0)
    clear h2 h6 hk6 hk4 hB4 hB6
    go_wp2_with fail
    go_region
    all_goals
      go_wp2_with fail
      exact fin3 (t := 4) Tryz.results23 rfl rfl hk7 ⟨by rw [hr]; rfl, belowSame hB7 rfl rfl rfl rfl⟩
  · obtain ⟨k', n', a1, a2, a3, a4, rfl, hk, h1⟩ := hG.x hr
    have hg3 := grown_alloc (grown_refl w3 none) (.cells #[.int .u8 k', .int .i64 n', .pointer a1, .pointer a2, .pointer a3, .pointer a4] 68 (0, 0))
    have h2 := h1.grown hg3
    have hk4 := keepB' hk3 hg3
    have hB4 := hB3.grown hg3 hB3.size (by simp)
    clear h1 hG hk
    go_wp2_with fail
    refine (rtext_err h2 k' n' a1 a2 a3 a4).mono ?_
    rintro e w5 ⟨rfl, hg5⟩
    have h6 := h2.grown hg5
    have hk6 := keepB' hk4 hg5
    have hB6 := hB4.grown hg5 hB4.size (by simp)
    obtain ⟨c0, c1, c2, cf, clt⟩ := ans_cells hk6
    obtain ⟨e0, e1, e2, ef, elt⟩ := h6.walk.cells
    have hz0 : (z == 0) = false := by simpa using h6.ne
    have hz1 : (z != 0) = true := by simp [bne, hz0]
    have hk7 := set3 hk6 (.string ⟨#[]⟩) (.int .i64 r.2.steps) (.int .i64 z)
    have hB7 := ((hB6.setCell (p := ⟨w.heap.size, 0, none⟩) (Nat.le_refl _) (.string ⟨#[]⟩)).setCell (p := ⟨w.heap.size, 1, none⟩) (Nat.le_refl _) (.int .i64 r.2.steps)).setCell (p := ⟨w.heap.size, 2, none⟩) (Nat.le_refl _) (.int .i64 z)
    clear h2 h6 hk6 hk4 hB4 hB6
    go_wp2_with fail
    go_region
    all_goals
      go_wp2_with fail
      exact fin3 (t := 4) Tryz.results23 rfl rfl hk7 ⟨by rw [hr]; rfl, belowSame hB7 rfl rfl rfl rfl⟩
end Go.Proofs.YtdpbclnpmkhooaaGreatDoor
