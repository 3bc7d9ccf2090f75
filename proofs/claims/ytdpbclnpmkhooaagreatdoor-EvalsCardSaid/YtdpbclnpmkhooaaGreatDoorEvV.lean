/-
  The program's Eval.
-/
import Derived.Test.YtdpbclnpmkhooaaGreatDoorEvU
namespace Go.Proofs.YtdpbclnpmkhooaaGreatDoor
open Go Go.Proofs Go.RowKit Skein

theorem fin3 {f : Func} {R : Ending → World → Prop} {t : Nat} {a : Act} {W : World} {k : Nat} {x0 x1 x2 : Value} (hf : f.results = #[.cell t 30]) (ht : a.tmps[t]?.getD undef = .pointer (some ⟨k, 0, none⟩)) (hd : a.defers = []) (hk : W.heap[k]? = some (.cells #[x0, x1, x2] 30 (0, 0)))
    (hR : R (.returned (.agg #[x0, x1, x2])) W) : bodyPost Tryz.prog f R .ret a W := by
  obtain ⟨y0, y1, y2, yf, ylt⟩ := ans_cells hk
  refine bodyPost_ret (v := .agg #[x0, x1, x2]) ?_ hd hR
  simp [results, hf, go_sem, ht, y0, y1, y2]

set_option maxRecDepth 100000 in
set_option maxHeartbeats 4000000 in
theorem peval_err (s : ByteArray) (lim : Int) (w : World) (t : T) (f : Int × Int) (hf : f.1 ≠ 0) (hR : ∀ w, Calls Tryz.prog 25 #[.string s] w (RPost w t f)) :
    Calls Tryz.prog 15 #[.string s, .int .i64 lim] w fun e w' => e = .returned (answer ⟨#[]⟩ 0 f.1) ∧ Below w.heap.size w w' := by
  have HR : Hid (∀ w, Calls Tryz.prog 25 #[.string s] w (RPost w t f)) := hR
  have h0 : (f.1 == 0) = false := by simpa using hf
  have h1 : (f.1 != 0) = true := by simp [bne, h0]
  obtain ⟨f1, f2⟩ := f
  simp only at h0 h1 hf ⊢
  clear hR hf
  go_enter Tryz.func15, Tryz.ntmps15
  go_wp2_with fail
  refine (HR.out _).mono ?_
  rintro e w1 ⟨v, rfl, -, hv, hb⟩
  have hk1 := (hb.block w.heap.size (by simp)).trans (alloc_at w (.cells #[.string ⟨#[]⟩, .int .i64 0, .int .i64 0] 30 (0, 0)) _ rfl)
  have hB1 : Below w.heap.size w w1 := ((Below.refl _ w).alloc (Nat.le_refl _) _).trans (hb.mono (by simp))
  obtain ⟨c0, c1, c2, cf, clt⟩ := ans_cells hk1
  simp only
  rcases hv with rfl | ⟨T1, x1, rfl⟩
  all_goals
    go_wp2_with fail
    have hk2 := set3 hk1 (.string ⟨#[]⟩) (.int .i64 0) (.int .i64 f1)
    have hB2 := ((hB1.setCell (p := ⟨w.heap.size, 0, none⟩) (Nat.le_refl _) (.string ⟨#[]⟩)).setCell (p := ⟨w.heap.size, 1, none⟩) (Nat.le_refl _) (.int .i64 0)).setCell (p := ⟨w.heap.size, 2, none⟩) (Nat.le_refl _) (.int .i64 f1)
    have hg := grown_alloc (grown_refl (((w1.setCell ⟨w.heap.size, 0, none⟩ (.string ⟨#[]⟩)).setCell ⟨w.heap.size, 1, none⟩ (.int .i64 0)).setCell ⟨w.heap.size, 2, none⟩ (.int .i64 f1)) none) (.cells #[.int .i64 f1, .int .i64 f2] 49 (0, 0))
    exact fin3 (t := 4) Tryz.results15 rfl rfl (keepB' hk2 hg) ⟨rfl, hB2.grown hg hB2.size (by simp)⟩

set_option maxRecDepth 100000 in
set_option maxHeartbeats 4000000 in
theorem peval_lim (s : ByteArray) (lim : Int) (w : World) (t : T) (hl : lim < 0 ∨ 500 < lim) (hR : ∀ w, Calls Tryz.prog 25 #[.string s] w (RPost w t (0, 0))) :
    Calls Tryz.prog 15 #[.string s, .int .i64 lim] w fun e w' => e = .returned (answer ⟨#[]⟩ 0 4) ∧ Below w.heap.size w w' := by
  have HR : Hid (∀ w, Calls Tryz.prog 25 #[.string s] w (RPost w t (0, 0))) := hR
  clear hR
  have hl' : (decide (lim < 0) = true) ∨ (decide (lim < 0) = false ∧ decide (500 < lim) = true) := by
    by_cases h : lim < 0
    · exact .inl (by simpa using h)
    · exact .inr ⟨by simpa using h, by simp; omega⟩
  clear hl
  rcases hl' with l1 | ⟨l1, l2⟩
  all_goals
    go_enter Tryz.func15, Tryz.ntmps15
    go_wp2_with fail
    refine (HR.out _).mono ?_
    rintro e w1 ⟨v, rfl, -, hv, hb⟩
    have hk1 := (hb.block w.heap.size (by simp)).trans (alloc_at w (.cells #[.string ⟨#[]⟩, .int .i64 0, .int .i64 0] 30 (0, 0)) _ rfl)
    have hB1 : Below w.heap.size w w1 := ((Below.refl _ w).alloc (Nat.le_refl _) _).trans (hb.mono (by simp))
    obtain ⟨c0, c1, c2, cf, clt⟩ := ans_cells hk1
    simp only
    rcases hv with rfl | ⟨T1, x1, rfl⟩
    all_goals
      go_wp2_with fail
      have hk2 := set3 hk1 (.string ⟨#[]⟩) (.int .i64 0) (.int .i64 4)
      have hB2 := ((hB1.setCell (p := ⟨w.heap.size, 0, none⟩) (Nat.le_refl _) (.string ⟨#[]⟩)).setCell (p := ⟨w.heap.size, 1, none⟩) (Nat.le_refl _) (.int .i64 0)).setCell (p := ⟨w.heap.size, 2, none⟩) (Nat.le_refl _) (.int .i64 4)
      have hg := grown_alloc (grown_refl (((w1.setCell ⟨w.heap.size, 0, none⟩ (.string ⟨#[]⟩)).setCell ⟨w.heap.size, 1, none⟩ (.int .i64 0)).setCell ⟨w.heap.size, 2, none⟩ (.int .i64 4)) none) (.cells #[.int .i64 0, .int .i64 0] 49 (0, 0))
      exact fin3 (t := 4) Tryz.results15 rfl rfl (keepB' hk2 hg) ⟨rfl, hB2.grown hg hB2.size (by simp)⟩

set_option maxRecDepth 100000 in
set_option maxHeartbeats 4000000 in
theorem peval_ok (s : ByteArray) (L : Nat) (w : World) (t : T) (hL : L ≤ 500) (a : ByteArray) (n z : Int) (ht : Tab w) (hR : ∀ w, Calls Tryz.prog 25 #[.string s] w (RPost w t (0, 0))) (hE : ∀ w, Tab w → Calls Tryz.prog 26 #[pv t, .int .i64 L] w fun e w' => e = .returned (answer a n z) ∧ Below w.heap.size w w') :
    Calls Tryz.prog 15 #[.string s, .int .i64 L] w fun e w' => e = .returned (answer a n z) ∧ Below w.heap.size w w' := by
  have HR : Hid (∀ w, Calls Tryz.prog 25 #[.string s] w (RPost w t (0, 0))) := hR
  obtain ⟨T1, x1, e1⟩ := pv_iface t
  have HE : Hid (∀ w, Tab w → Calls Tryz.prog 26 #[.iface T1 x1, .int .i64 L] w fun e w' => e = .returned (.agg #[.string a, .int .i64 n, .int .i64 z]) ∧ Below w.heap.size w w') := fun w h => e1 ▸ hE w h
  have E1 : Hid (pv t = .iface T1 x1) := e1
  have HT : Hid (Tab w) := ht
  have h3 := ht.lt
  clear hR hE e1 ht
  have l1 : decide ((L : Int) < 0) = false := by simp
  have l2 : decide ((500 : Int) < L) = false := by simp; omega
  go_enter Tryz.func15, Tryz.ntmps15
  go_wp2_with fail
  refine (HR.out _).mono ?_
  rintro e w1 ⟨v, rfl, hv0, hv, hb⟩
  have hv1 := hv0 rfl
  rw [E1.out] at hv1
  subst hv1
  have hk1 := (hb.block w.heap.size (by simp)).trans (alloc_at w (.cells #[.string ⟨#[]⟩, .int .i64 0, .int .i64 0] 30 (0, 0)) _ rfl)
  have hB1 : Below w.heap.size w w1 := ((Below.refl _ w).alloc (Nat.le_refl _) _).trans (hb.mono (by simp))
  have hg := grown_alloc (grown_refl w1 none) (.cells #[.int .i64 0, .int .i64 0] 49 (0, 0))
  have hB2 := hB1.grown hg hB1.size (by simp)
  have hk2 := keepB' hk1 hg
  clear hv0 hv hb
  simp only
  go_wp2_with fail
  refine (HE.out _ (HT.out.below hB2 h3)).mono ?_
  rintro e w2 ⟨rfl, hb2⟩
  have hk3 := (hb2.block w.heap.size (heap_lt hk2)).trans hk2
  have hB3 := hB2.trans (hb2.mono hB2.size)
  obtain ⟨c0, c1, c2, cf, clt⟩ := ans_cells hk3
  go_wp2_with fail
  have hk4 := set3 hk3 (.string a) (.int .i64 n) (.int .i64 z)
  have hB4 := ((hB3.setCell (p := ⟨w.heap.size, 0, none⟩) (Nat.le_refl _) (.string a)).setCell (p := ⟨w.heap.size, 1, none⟩) (Nat.le_refl _) (.int .i64 n)).setCell (p := ⟨w.heap.size, 2, none⟩) (Nat.le_refl _) (.int .i64 z)
  exact fin3 (t := 4) Tryz.results15 rfl rfl hk4 ⟨rfl, hB4⟩
end Go.Proofs.YtdpbclnpmkhooaaGreatDoor
