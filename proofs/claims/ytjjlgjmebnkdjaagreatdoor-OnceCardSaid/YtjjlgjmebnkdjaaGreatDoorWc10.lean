/-
  The program makes closures of a tree: if.
  The program makes closures of a tree: whatever it is (nothing of lists).
  The program makes closures of a tree: lists.
  The program makes closures of a tree: every tree.
-/
import Derived.Test.YtjjlgjmebnkdjaaGreatDoorWc09
import Derived.Test.YtjjlgjmebnkdjaaGreatDoorWc00
namespace Go.Proofs.YtjjlgjmebnkdjaaGreatDoor
open Go Go.Proofs Go.RowKit Skein

set_option maxRecDepth 100000 in
set_option maxHeartbeats 64000000 in
theorem mite (x y t : T) (ix : CM x) (iy : CM y) (it : CM t) (st A A2 : Nat) (w : World) (hA : TB w A A2) : Calls Tryz.prog 107 #[mk st A A2, .agg #[pv x, pv y, pv t]] w (Made st (.ite x y t) w) := by
  have hmf := mf_ok
  obtain ⟨T1, x1, e1⟩ := pv_iface x
  obtain ⟨T2, x2, e2⟩ := pv_iface y
  obtain ⟨T3, x3, e3⟩ := pv_iface t
  have HX : Hid (∀ wd, TB wd A A2 → Calls Tryz.prog 67 #[mk st A A2, .iface T1 x1] wd (Made st x wd)) := fun wd h => e1 ▸ ix st A A2 wd h
  have HY : Hid (∀ wd, TB wd A A2 → Calls Tryz.prog 67 #[mk st A A2, .iface T2 x2] wd (Made st y wd)) := fun wd h => e2 ▸ iy st A A2 wd h
  have HT : Hid (∀ wd, TB wd A A2 → Calls Tryz.prog 67 #[mk st A A2, .iface T3 x3] wd (Made st t wd)) := fun wd h => e3 ▸ it st A A2 wd h
  have hg0 := grown_alloc (grown_alloc (grown_refl w none) (.cells #[ptr st, .slice (some ⟨A, 0, none⟩) 5 5, .slice (some ⟨A2, 0, none⟩) 3 3] 114 (0, 0))) (.cells #[.iface T1 x1, .iface T2 x2, .iface T3 x3] 164 (0, 0))
  have hb1 := keepB' (alloc_at w (.cells #[ptr st, .slice (some ⟨A, 0, none⟩) 5 5, .slice (some ⟨A2, 0, none⟩) 3 3] 114 (0, 0)) _ rfl) (grown_alloc (grown_refl _ none) (.cells #[.iface T1 x1, .iface T2 x2, .iface T3 x3] 164 (0, 0)))
  have hb2 := alloc_at (w.alloc (.cells #[ptr st, .slice (some ⟨A, 0, none⟩) 5 5, .slice (some ⟨A2, 0, none⟩) 3 3] 114 (0, 0))) (.cells #[.iface T1 x1, .iface T2 x2, .iface T3 x3] 164 (0, 0)) (w.heap.size + 1) (by rw [alloc_size])
  have hA1 := TB.keep hA hg0
  rw [e1, e2, e3]
  clear e1 e2 e3 hA
  go_enter Tryz.func107, Tryz.ntmps107
  go_wp2_with fail
  generalize hW : (w.alloc (.cells #[ptr st, .slice (some ⟨A, 0, none⟩) 5 5, .slice (some ⟨A2, 0, none⟩) 3 3] 114 (0, 0))).alloc (.cells #[.iface T1 x1, .iface T2 x2, .iface T3 x3] 164 (0, 0)) = W at hg0 hb1 hb2 hA1 ⊢
  clear hW
  have HS : Hid (∀ wd, World.grownBy W wd none → wd.cell? ⟨w.heap.size, 0, none⟩ = some (ptr st) ∧ wd.cell? ⟨w.heap.size, 1, none⟩ = some (.slice (some ⟨A, 0, none⟩) 5 5) ∧ wd.cell? ⟨w.heap.size, 2, none⟩ = some (.slice (some ⟨A2, 0, none⟩) 3 3) ∧ wd.cell? ⟨w.heap.size + 1, 0, none⟩ = some (.iface T1 x1) ∧ wd.cell? ⟨w.heap.size + 1, 1, none⟩ = some (.iface T2 x2) ∧ wd.cell? ⟨w.heap.size + 1, 2, none⟩ = some (.iface T3 x3)) := fun wd hg => by
    have b1 := keepB' hb1 hg
    have b2 := keepB' hb2 hg
    refine ⟨?_, ?_, ?_, ?_, ?_, ?_⟩ <;> simp [World.cell?, b1, b2]
  have hgd : World.grownBy W W.drew none := grown_same (grown_refl _ _) rfl rfl rfl rfl
  refine wp_region_held_drew (S := fun wd => wd.cell? ⟨w.heap.size, 0, none⟩ = some (ptr st) ∧ wd.cell? ⟨w.heap.size, 1, none⟩ = some (.slice (some ⟨A, 0, none⟩) 5 5) ∧ wd.cell? ⟨w.heap.size, 2, none⟩ = some (.slice (some ⟨A2, 0, none⟩) 3 3) ∧ wd.cell? ⟨w.heap.size + 1, 0, none⟩ = some (.iface T1 x1) ∧ wd.cell? ⟨w.heap.size + 1, 1, none⟩ = some (.iface T2 x2) ∧ wd.cell? ⟨w.heap.size + 1, 2, none⟩ = some (.iface T3 x3)) (by kernel_rfl) (HS.out _ hgd) (fun hHeld => ?_)
  refine wpAnyH_take (i := 0) (v := mk st A A2) rfl (by kernel_rfl) (by kernel_rfl) (by kernel_rfl) (fun _ _ _ h => h) (Or.inl ⟨by rfl, fun wd hSw => ?_⟩) hHeld ?_
  · obtain ⟨s1, s2, sx, s3, s4, s5⟩ := hSw; go_simp
  refine wpAnyH_take (i := 1) (v := ptr (w.heap.size + 1)) rfl (by kernel_rfl) (by kernel_rfl) (by kernel_rfl) (fun _ _ _ h => h) (Or.inl ⟨by rfl, fun wd hSw => ?_⟩) hHeld ?_
  · obtain ⟨s1, s2, sx, s3, s4, s5⟩ := hSw; go_simp
  refine wpAnyH_take (i := 2) (v := .iface T1 x1) rfl (by kernel_rfl) (by kernel_rfl) (by kernel_rfl) (fun _ _ _ h => h) (Or.inl ⟨by rfl, fun wd hSw => ?_⟩) hHeld ?_
  · obtain ⟨s1, s2, sx, s3, s4, s5⟩ := hSw; go_simp
  refine wpAnyH_take (i := 4) (v := mk st A A2) rfl (by kernel_rfl) (by kernel_rfl) (by kernel_rfl) (fun _ _ _ h => h) (Or.inl ⟨by rfl, fun wd hSw => ?_⟩) hHeld ?_
  · obtain ⟨s1, s2, sx, s3, s4, s5⟩ := hSw; go_simp
  refine wpAnyH_take (i := 5) (v := .pointer (some ⟨w.heap.size + 1, 1, none⟩)) rfl (by kernel_rfl) (by kernel_rfl) (by kernel_rfl) (fun _ _ _ h => h) (Or.inl ⟨by rfl, fun wd hSw => ?_⟩) hHeld ?_
  · obtain ⟨s1, s2, sx, s3, s4, s5⟩ := hSw; go_simp
  refine wpAnyH_take (i := 6) (v := .iface T2 x2) rfl (by kernel_rfl) (by kernel_rfl) (by kernel_rfl) (fun _ _ _ h => h) (Or.inl ⟨by rfl, fun wd hSw => ?_⟩) hHeld ?_
  · obtain ⟨s1, s2, sx, s3, s4, s5⟩ := hSw; go_simp
  refine wpAnyH_take (i := 8) (v := mk st A A2) rfl (by kernel_rfl) (by kernel_rfl) (by kernel_rfl) (fun _ _ _ h => h) (Or.inl ⟨by rfl, fun wd hSw => ?_⟩) hHeld ?_
  · obtain ⟨s1, s2, sx, s3, s4, s5⟩ := hSw; go_simp
  refine wpAnyH_take (i := 9) (v := .pointer (some ⟨w.heap.size + 1, 2, none⟩)) rfl (by kernel_rfl) (by kernel_rfl) (by kernel_rfl) (fun _ _ _ h => h) (Or.inl ⟨by rfl, fun wd hSw => ?_⟩) hHeld ?_
  · obtain ⟨s1, s2, sx, s3, s4, s5⟩ := hSw; go_simp
  refine wpAnyH_take (i := 10) (v := .iface T3 x3) rfl (by kernel_rfl) (by kernel_rfl) (by kernel_rfl) (fun _ _ _ h => h) (Or.inl ⟨by rfl, fun wd hSw => ?_⟩) hHeld ?_
  · obtain ⟨s1, s2, sx, s3, s4, s5⟩ := hSw; go_simp
  refine three_calls (W0 := W) (st := st) (x := x) (y := y) (t := t) (fun v1 v2 v3 p1 p2 p3 => #[mk st A A2, .agg #[.iface T1 x1, .iface T2 x2, .iface T3 x3], ptr w.heap.size, ptr (w.heap.size + 1), .nilFunc, p1, p2, p3, mk st A A2, ptr (w.heap.size + 1), .iface T1 x1, v1, mk st A A2, .pointer (some ⟨w.heap.size + 1, 1, none⟩), .iface T2 x2, v2, mk st A A2, .pointer (some ⟨w.heap.size + 1, 2, none⟩), .iface T3 x3, v3, undef]) ?_ HS.out ?_ ?_ ?_ ?_ ?_ ?_ ?_ ?_ ?_ ?_ 9 false false false false false false false false false undef undef undef undef undef undef _ rfl ⟨hgd, .inr ⟨rfl, rfl⟩, .inr ⟨rfl, rfl⟩, .inr ⟨rfl, rfl⟩, .inr ⟨rfl, rfl⟩, .inr ⟨rfl, rfl⟩, .inr ⟨rfl, rfl⟩, by simp, by simp, by simp, by simp, by simp, by simp, by simp, by simp⟩
  · intro c1 c2 c3 a1 a2 a3 s1 s2 s3 o1 o2 o3 o4 o5
    cases c1 <;> cases c2 <;> cases c3 <;> cases a1 <;> cases a2 <;> cases a3 <;> cases s1 <;> cases s2 <;> cases s3 <;> first | (exact absurd (o1 rfl) (by decide)) | (exact absurd (o2 rfl) (by decide)) | (exact absurd (o3 rfl) (by decide)) | (exact absurd (o4 rfl) (by decide)) | (exact absurd (o5 rfl) (by decide)) | kernel_rfl
  · intro p1 p2 p3 wd K hg hK
    refine wpOp_step rfl (fun K' hK' => ?_)
    go_simp
    refine (HX.out _ (TB.keep hA1 hg)).mono ?_
    rintro e w' ⟨f, c, rfl, hg', hc⟩
    exact hK' _ _ (hK f c w' hg' hc)
  · intro v1 p1 p2 p3 wd K hg hK
    refine wpOp_step rfl (fun K' hK' => ?_)
    go_simp
    refine (HY.out _ (TB.keep hA1 hg)).mono ?_
    rintro e w' ⟨f, c, rfl, hg', hc⟩
    exact hK' _ _ (hK f c w' hg' hc)
  · intro v1 v2 p1 p2 p3 wd K hg hK
    refine wpOp_step rfl (fun K' hK' => ?_)
    go_simp
    refine (HT.out _ (TB.keep hA1 hg)).mono ?_
    rintro e w' ⟨f, c, rfl, hg', hc⟩
    exact hK' _ _ (hK f c w' hg' hc)
  · intro v1 v2 v3 p q wd K hK
    refine wpOp_step rfl (fun K' hK' => ?_)
    go_simp
    exact hK' _ _ hK
  · intro v1 v2 v3 p q wd K hK
    refine wpOp_step rfl (fun K' hK' => ?_)
    go_simp
    exact hK' _ _ hK
  · intro v1 v2 v3 p q wd K hK
    refine wpOp_step rfl (fun K' hK' => ?_)
    go_simp
    exact hK' _ _ hK
  · intro f c k u1 u2 p q wd z K hk hK
    obtain ⟨k0, kf⟩ := one_cell hk
    refine wpOp_step rfl (fun K' hK' => ?_)
    go_simp
    exact hK' _ _ hK
  · intro f c k u1 u2 p q wd z K hk hK
    obtain ⟨k0, kf⟩ := one_cell hk
    refine wpOp_step rfl (fun K' hK' => ?_)
    go_simp
    exact hK' _ _ hK
  · intro f c k u1 u2 p q wd z K hk hK
    obtain ⟨k0, kf⟩ := one_cell hk
    refine wpOp_step rfl (fun K' hK' => ?_)
    go_simp
    exact hK' _ _ hK
  · intro f1 d1 f2 d2 f3 d3 k1 k2 k3 wd hg h1 h2 h3 h4 h5 h6
    have HF : Hid (Made st (.ite x y t) w (.returned (fnv 137 #[ptr k1, ptr k2, ptr k3])) wd) := ⟨137, _, rfl, grown_trans hg0 hg, rfl, k1, k2, k3, f1, d1, f2, d2, f3, d3, rfl, h1, h2, h3, h4, h5, h6⟩
    clear h1 h2 h3 h4 h5 h6
    go_wp2_with fail
    go_ret
    exact HF.out

end Go.Proofs.YtjjlgjmebnkdjaaGreatDoor

namespace Go.Proofs.YtjjlgjmebnkdjaaGreatDoor
open Go Go.Proofs Go.RowKit Skein

set_option maxRecDepth 100000 in
set_option maxHeartbeats 4000000 in
theorem cm_var (n : Nat) : CM (.var n) := by
  intro st A A2 w hA
  have ta0 : ∀ (w : World), (Instr.typeAssert (.iface 152 (.agg #[.int .i64 n])) 51 149 true).run Tryz.prog w = .ok (.tuple #[.agg #[.int .i64 0], .bool false]) w := fun _ => by kernel_rfl
  have ta1 : ∀ (w : World), (Instr.typeAssert (.iface 152 (.agg #[.int .i64 n])) 51 152 true).run Tryz.prog w = .ok (.tuple #[.agg #[.int .i64 n], .bool true]) w := fun _ => by kernel_rfl
  have hg := grown_alloc (grown_alloc (grown_refl w none) (.cells #[ptr st, .slice (some ⟨A, 0, none⟩) 5 5, .slice (some ⟨A2, 0, none⟩) 3 3] 114 (0, 0))) (.cells #[.int .i64 n] 152 (0, 0))
  have HC : Hid (Calls Tryz.prog 103 #[mk st A A2, .agg #[.int .i64 n]] ((w.alloc (.cells #[ptr st, .slice (some ⟨A, 0, none⟩) 5 5, .slice (some ⟨A2, 0, none⟩) 3 3] 114 (0, 0))).alloc (.cells #[.int .i64 n] 152 (0, 0))) (Made st (.var n) ((w.alloc (.cells #[ptr st, .slice (some ⟨A, 0, none⟩) 5 5, .slice (some ⟨A2, 0, none⟩) 3 3] 114 (0, 0))).alloc (.cells #[.int .i64 n] 152 (0, 0))))) := by
    exact mvar n st A A2 _
  show Calls Tryz.prog 67 #[mk st A A2, .iface 152 (.agg #[.int .i64 n])] w _
  go_enter Tryz.func67, Tryz.ntmps67
  go_wp2_with fail
  refine HC.out.mono ?_
  rintro e w1 ⟨f, c, rfl, hg1, hc1⟩
  go_wp2_with fail
  go_ret
  exact ⟨f, c, rfl, grown_trans hg hg1, hc1⟩

set_option maxRecDepth 100000 in
set_option maxHeartbeats 4000000 in
theorem cm_fn (m : Nat) (x : T) (ix : CM x) : CM (.fn m x) := by
  intro st A A2 w hA
  obtain ⟨T1, x1, e1⟩ := pv_iface x
  have ta0 : ∀ (w : World), (Instr.typeAssert (.iface 155 (.agg #[.int .i64 m, .iface T1 x1])) 51 149 true).run Tryz.prog w = .ok (.tuple #[.agg #[.int .i64 0], .bool false]) w := fun _ => by kernel_rfl
  have ta1 : ∀ (w : World), (Instr.typeAssert (.iface 155 (.agg #[.int .i64 m, .iface T1 x1])) 51 152 true).run Tryz.prog w = .ok (.tuple #[.agg #[.int .i64 0], .bool false]) w := fun _ => by kernel_rfl
  have ta2 : ∀ (w : World), (Instr.typeAssert (.iface 155 (.agg #[.int .i64 m, .iface T1 x1])) 51 155 true).run Tryz.prog w = .ok (.tuple #[.agg #[.int .i64 m, .iface T1 x1], .bool true]) w := fun _ => by kernel_rfl
  have hg := grown_alloc (grown_alloc (grown_refl w none) (.cells #[ptr st, .slice (some ⟨A, 0, none⟩) 5 5, .slice (some ⟨A2, 0, none⟩) 3 3] 114 (0, 0))) (.cells #[.int .i64 m, .iface T1 x1] 155 (0, 0))
  have HC : Hid (Calls Tryz.prog 104 #[mk st A A2, .agg #[.int .i64 m, .iface T1 x1]] ((w.alloc (.cells #[ptr st, .slice (some ⟨A, 0, none⟩) 5 5, .slice (some ⟨A2, 0, none⟩) 3 3] 114 (0, 0))).alloc (.cells #[.int .i64 m, .iface T1 x1] 155 (0, 0))) (Made st (.fn m x) ((w.alloc (.cells #[ptr st, .slice (some ⟨A, 0, none⟩) 5 5, .slice (some ⟨A2, 0, none⟩) 3 3] 114 (0, 0))).alloc (.cells #[.int .i64 m, .iface T1 x1] 155 (0, 0))))) := by
    have h := (mfn m x ix st A A2 _ (TB.keep hA hg))
    rw [e1] at h
    exact h
  show Calls Tryz.prog 67 #[mk st A A2, .iface 155 (.agg #[.int .i64 m, pv x])] w _
  rw [e1]
  clear e1
  go_enter Tryz.func67, Tryz.ntmps67
  go_wp2_with fail
  refine HC.out.mono ?_
  rintro e w1 ⟨f, c, rfl, hg1, hc1⟩
  go_wp2_with fail
  go_ret
  exact ⟨f, c, rfl, grown_trans hg hg1, hc1⟩

set_option maxRecDepth 100000 in
set_option maxHeartbeats 4000000 in
theorem cm_app (x y : T) (ix : CM x) (iy : CM y) : CM (.app x y) := by
  intro st A A2 w hA
  obtain ⟨T1, x1, e1⟩ := pv_iface x
  obtain ⟨T2, x2, e2⟩ := pv_iface y
  have ta0 : ∀ (w : World), (Instr.typeAssert (.iface 158 (.agg #[.iface T1 x1, .iface T2 x2])) 51 149 true).run Tryz.prog w = .ok (.tuple #[.agg #[.int .i64 0], .bool false]) w := fun _ => by kernel_rfl
  have ta1 : ∀ (w : World), (Instr.typeAssert (.iface 158 (.agg #[.iface T1 x1, .iface T2 x2])) 51 152 true).run Tryz.prog w = .ok (.tuple #[.agg #[.int .i64 0], .bool false]) w := fun _ => by kernel_rfl
  have ta2 : ∀ (w : World), (Instr.typeAssert (.iface 158 (.agg #[.iface T1 x1, .iface T2 x2])) 51 155 true).run Tryz.prog w = .ok (.tuple #[.agg #[.int .i64 0, .nilIface], .bool false]) w := fun _ => by kernel_rfl
  have ta3 : ∀ (w : World), (Instr.typeAssert (.iface 158 (.agg #[.iface T1 x1, .iface T2 x2])) 51 158 true).run Tryz.prog w = .ok (.tuple #[.agg #[.iface T1 x1, .iface T2 x2], .bool true]) w := fun _ => by kernel_rfl
  have hg := grown_alloc (grown_alloc (grown_refl w none) (.cells #[ptr st, .slice (some ⟨A, 0, none⟩) 5 5, .slice (some ⟨A2, 0, none⟩) 3 3] 114 (0, 0))) (.cells #[.iface T1 x1, .iface T2 x2] 158 (0, 0))
  have HC : Hid (Calls Tryz.prog 105 #[mk st A A2, .agg #[.iface T1 x1, .iface T2 x2]] ((w.alloc (.cells #[ptr st, .slice (some ⟨A, 0, none⟩) 5 5, .slice (some ⟨A2, 0, none⟩) 3 3] 114 (0, 0))).alloc (.cells #[.iface T1 x1, .iface T2 x2] 158 (0, 0))) (Made st (.app x y) ((w.alloc (.cells #[ptr st, .slice (some ⟨A, 0, none⟩) 5 5, .slice (some ⟨A2, 0, none⟩) 3 3] 114 (0, 0))).alloc (.cells #[.iface T1 x1, .iface T2 x2] 158 (0, 0))))) := by
    have h := (muse x y ix iy st A A2 _ (TB.keep hA hg))
    rw [e1, e2] at h
    exact h
  show Calls Tryz.prog 67 #[mk st A A2, .iface 158 (.agg #[pv x, pv y])] w _
  rw [e1, e2]
  clear e1 e2
  go_enter Tryz.func67, Tryz.ntmps67
  go_wp2_with fail
  refine HC.out.mono ?_
  rintro e w1 ⟨f, c, rfl, hg1, hc1⟩
  go_wp2_with fail
  go_ret
  exact ⟨f, c, rfl, grown_trans hg hg1, hc1⟩

set_option maxRecDepth 100000 in
set_option maxHeartbeats 4000000 in
theorem cm_letE (m : Nat) (x y : T) (ix : CM x) (iy : CM y) : CM (.letE m x y) := by
  intro st A A2 w hA
  obtain ⟨T1, x1, e1⟩ := pv_iface x
  obtain ⟨T2, x2, e2⟩ := pv_iface y
  have ta0 : ∀ (w : World), (Instr.typeAssert (.iface 161 (.agg #[.int .i64 m, .iface T1 x1, .iface T2 x2])) 51 149 true).run Tryz.prog w = .ok (.tuple #[.agg #[.int .i64 0], .bool false]) w := fun _ => by kernel_rfl
  have ta1 : ∀ (w : World), (Instr.typeAssert (.iface 161 (.agg #[.int .i64 m, .iface T1 x1, .iface T2 x2])) 51 152 true).run Tryz.prog w = .ok (.tuple #[.agg #[.int .i64 0], .bool false]) w := fun _ => by kernel_rfl
  have ta2 : ∀ (w : World), (Instr.typeAssert (.iface 161 (.agg #[.int .i64 m, .iface T1 x1, .iface T2 x2])) 51 155 true).run Tryz.prog w = .ok (.tuple #[.agg #[.int .i64 0, .nilIface], .bool false]) w := fun _ => by kernel_rfl
  have ta3 : ∀ (w : World), (Instr.typeAssert (.iface 161 (.agg #[.int .i64 m, .iface T1 x1, .iface T2 x2])) 51 158 true).run Tryz.prog w = .ok (.tuple #[.agg #[.nilIface, .nilIface], .bool false]) w := fun _ => by kernel_rfl
  have ta4 : ∀ (w : World), (Instr.typeAssert (.iface 161 (.agg #[.int .i64 m, .iface T1 x1, .iface T2 x2])) 51 161 true).run Tryz.prog w = .ok (.tuple #[.agg #[.int .i64 m, .iface T1 x1, .iface T2 x2], .bool true]) w := fun _ => by kernel_rfl
  have hg := grown_alloc (grown_alloc (grown_refl w none) (.cells #[ptr st, .slice (some ⟨A, 0, none⟩) 5 5, .slice (some ⟨A2, 0, none⟩) 3 3] 114 (0, 0))) (.cells #[.int .i64 m, .iface T1 x1, .iface T2 x2] 161 (0, 0))
  have HC : Hid (Calls Tryz.prog 106 #[mk st A A2, .agg #[.int .i64 m, .iface T1 x1, .iface T2 x2]] ((w.alloc (.cells #[ptr st, .slice (some ⟨A, 0, none⟩) 5 5, .slice (some ⟨A2, 0, none⟩) 3 3] 114 (0, 0))).alloc (.cells #[.int .i64 m, .iface T1 x1, .iface T2 x2] 161 (0, 0))) (Made st (.letE m x y) ((w.alloc (.cells #[ptr st, .slice (some ⟨A, 0, none⟩) 5 5, .slice (some ⟨A2, 0, none⟩) 3 3] 114 (0, 0))).alloc (.cells #[.int .i64 m, .iface T1 x1, .iface T2 x2] 161 (0, 0))))) := by
    have h := (mlet m x y ix iy st A A2 _ (TB.keep hA hg))
    rw [e1, e2] at h
    exact h
  show Calls Tryz.prog 67 #[mk st A A2, .iface 161 (.agg #[.int .i64 m, pv x, pv y])] w _
  rw [e1, e2]
  clear e1 e2
  go_enter Tryz.func67, Tryz.ntmps67
  go_wp2_with fail
  refine HC.out.mono ?_
  rintro e w1 ⟨f, c, rfl, hg1, hc1⟩
  go_wp2_with fail
  go_ret
  exact ⟨f, c, rfl, grown_trans hg hg1, hc1⟩

set_option maxRecDepth 100000 in
set_option maxHeartbeats 4000000 in
theorem cm_ite (x y t : T) (ix : CM x) (iy : CM y) (it : CM t) : CM (.ite x y t) := by
  intro st A A2 w hA
  obtain ⟨T1, x1, e1⟩ := pv_iface x
  obtain ⟨T2, x2, e2⟩ := pv_iface y
  obtain ⟨T3, x3, e3⟩ := pv_iface t
  have ta0 : ∀ (w : World), (Instr.typeAssert (.iface 164 (.agg #[.iface T1 x1, .iface T2 x2, .iface T3 x3])) 51 149 true).run Tryz.prog w = .ok (.tuple #[.agg #[.int .i64 0], .bool false]) w := fun _ => by kernel_rfl
  have ta1 : ∀ (w : World), (Instr.typeAssert (.iface 164 (.agg #[.iface T1 x1, .iface T2 x2, .iface T3 x3])) 51 152 true).run Tryz.prog w = .ok (.tuple #[.agg #[.int .i64 0], .bool false]) w := fun _ => by kernel_rfl
  have ta2 : ∀ (w : World), (Instr.typeAssert (.iface 164 (.agg #[.iface T1 x1, .iface T2 x2, .iface T3 x3])) 51 155 true).run Tryz.prog w = .ok (.tuple #[.agg #[.int .i64 0, .nilIface], .bool false]) w := fun _ => by kernel_rfl
  have ta3 : ∀ (w : World), (Instr.typeAssert (.iface 164 (.agg #[.iface T1 x1, .iface T2 x2, .iface T3 x3])) 51 158 true).run Tryz.prog w = .ok (.tuple #[.agg #[.nilIface, .nilIface], .bool false]) w := fun _ => by kernel_rfl
  have ta4 : ∀ (w : World), (Instr.typeAssert (.iface 164 (.agg #[.iface T1 x1, .iface T2 x2, .iface T3 x3])) 51 161 true).run Tryz.prog w = .ok (.tuple #[.agg #[.int .i64 0, .nilIface, .nilIface], .bool false]) w := fun _ => by kernel_rfl
  have ta5 : ∀ (w : World), (Instr.typeAssert (.iface 164 (.agg #[.iface T1 x1, .iface T2 x2, .iface T3 x3])) 51 164 true).run Tryz.prog w = .ok (.tuple #[.agg #[.iface T1 x1, .iface T2 x2, .iface T3 x3], .bool true]) w := fun _ => by kernel_rfl
  have hg := grown_alloc (grown_alloc (grown_refl w none) (.cells #[ptr st, .slice (some ⟨A, 0, none⟩) 5 5, .slice (some ⟨A2, 0, none⟩) 3 3] 114 (0, 0))) (.cells #[.iface T1 x1, .iface T2 x2, .iface T3 x3] 164 (0, 0))
  have HC : Hid (Calls Tryz.prog 107 #[mk st A A2, .agg #[.iface T1 x1, .iface T2 x2, .iface T3 x3]] ((w.alloc (.cells #[ptr st, .slice (some ⟨A, 0, none⟩) 5 5, .slice (some ⟨A2, 0, none⟩) 3 3] 114 (0, 0))).alloc (.cells #[.iface T1 x1, .iface T2 x2, .iface T3 x3] 164 (0, 0))) (Made st (.ite x y t) ((w.alloc (.cells #[ptr st, .slice (some ⟨A, 0, none⟩) 5 5, .slice (some ⟨A2, 0, none⟩) 3 3] 114 (0, 0))).alloc (.cells #[.iface T1 x1, .iface T2 x2, .iface T3 x3] 164 (0, 0))))) := by
    have h := (mite x y t ix iy it st A A2 _ (TB.keep hA hg))
    rw [e1, e2, e3] at h
    exact h
  show Calls Tryz.prog 67 #[mk st A A2, .iface 164 (.agg #[pv x, pv y, pv t])] w _
  rw [e1, e2, e3]
  clear e1 e2 e3
  go_enter Tryz.func67, Tryz.ntmps67
  go_wp2_with fail
  refine HC.out.mono ?_
  rintro e w1 ⟨f, c, rfl, hg1, hc1⟩
  go_wp2_with fail
  go_ret
  exact ⟨f, c, rfl, grown_trans hg hg1, hc1⟩

set_option maxRecDepth 100000 in
set_option maxHeartbeats 4000000 in
theorem cm_bin (op : UInt8) (hop : Sign5 op) (x y : T) (ix : CM x) (iy : CM y) : CM (.bin op x y) := by
  intro st A A2 w hA
  obtain ⟨T1, x1, e1⟩ := pv_iface x
  obtain ⟨T2, x2, e2⟩ := pv_iface y
  have ta0 : ∀ (w : World), (Instr.typeAssert (.iface 167 (.agg #[.string ⟨#[op]⟩, .iface T1 x1, .iface T2 x2])) 51 149 true).run Tryz.prog w = .ok (.tuple #[.agg #[.int .i64 0], .bool false]) w := fun _ => by kernel_rfl
  have ta1 : ∀ (w : World), (Instr.typeAssert (.iface 167 (.agg #[.string ⟨#[op]⟩, .iface T1 x1, .iface T2 x2])) 51 152 true).run Tryz.prog w = .ok (.tuple #[.agg #[.int .i64 0], .bool false]) w := fun _ => by kernel_rfl
  have ta2 : ∀ (w : World), (Instr.typeAssert (.iface 167 (.agg #[.string ⟨#[op]⟩, .iface T1 x1, .iface T2 x2])) 51 155 true).run Tryz.prog w = .ok (.tuple #[.agg #[.int .i64 0, .nilIface], .bool false]) w := fun _ => by kernel_rfl
  have ta3 : ∀ (w : World), (Instr.typeAssert (.iface 167 (.agg #[.string ⟨#[op]⟩, .iface T1 x1, .iface T2 x2])) 51 158 true).run Tryz.prog w = .ok (.tuple #[.agg #[.nilIface, .nilIface], .bool false]) w := fun _ => by kernel_rfl
  have ta4 : ∀ (w : World), (Instr.typeAssert (.iface 167 (.agg #[.string ⟨#[op]⟩, .iface T1 x1, .iface T2 x2])) 51 161 true).run Tryz.prog w = .ok (.tuple #[.agg #[.int .i64 0, .nilIface, .nilIface], .bool false]) w := fun _ => by kernel_rfl
  have ta5 : ∀ (w : World), (Instr.typeAssert (.iface 167 (.agg #[.string ⟨#[op]⟩, .iface T1 x1, .iface T2 x2])) 51 164 true).run Tryz.prog w = .ok (.tuple #[.agg #[.nilIface, .nilIface, .nilIface], .bool false]) w := fun _ => by kernel_rfl
  have ta6 : ∀ (w : World), (Instr.typeAssert (.iface 167 (.agg #[.string ⟨#[op]⟩, .iface T1 x1, .iface T2 x2])) 51 167 true).run Tryz.prog w = .ok (.tuple #[.agg #[.string ⟨#[op]⟩, .iface T1 x1, .iface T2 x2], .bool true]) w := fun _ => by kernel_rfl
  have hg := grown_alloc (grown_alloc (grown_refl w none) (.cells #[ptr st, .slice (some ⟨A, 0, none⟩) 5 5, .slice (some ⟨A2, 0, none⟩) 3 3] 114 (0, 0))) (.cells #[.string ⟨#[op]⟩, .iface T1 x1, .iface T2 x2] 167 (0, 0))
  have HC : Hid (Calls Tryz.prog 108 #[mk st A A2, .agg #[.string ⟨#[op]⟩, .iface T1 x1, .iface T2 x2]] ((w.alloc (.cells #[ptr st, .slice (some ⟨A, 0, none⟩) 5 5, .slice (some ⟨A2, 0, none⟩) 3 3] 114 (0, 0))).alloc (.cells #[.string ⟨#[op]⟩, .iface T1 x1, .iface T2 x2] 167 (0, 0))) (Made st (.bin op x y) ((w.alloc (.cells #[ptr st, .slice (some ⟨A, 0, none⟩) 5 5, .slice (some ⟨A2, 0, none⟩) 3 3] 114 (0, 0))).alloc (.cells #[.string ⟨#[op]⟩, .iface T1 x1, .iface T2 x2] 167 (0, 0))))) := by
    have h := (mreck op hop x y ix iy st A A2 _ (TB.keep hA hg))
    rw [e1, e2] at h
    exact h
  have hpv : pv (.bin op x y) = .iface 167 (.agg #[.string ⟨#[op]⟩, pv x, pv y]) := by
    have ho : (op == 58) = false := by rcases hop with rfl | rfl | rfl | rfl | rfl <;> rfl
    simp [pv, ho]
  rw [hpv, e1, e2]
  clear hpv
  clear e1 e2
  go_enter Tryz.func67, Tryz.ntmps67
  go_wp2_with fail
  refine HC.out.mono ?_
  rintro e w1 ⟨f, c, rfl, hg1, hc1⟩
  go_wp2_with fail
  go_ret
  exact ⟨f, c, rfl, grown_trans hg hg1, hc1⟩

end Go.Proofs.YtjjlgjmebnkdjaaGreatDoor

namespace Go.Proofs.YtjjlgjmebnkdjaaGreatDoor
open Go Go.Proofs Go.RowKit Skein

set_option maxRecDepth 100000 in
set_option maxHeartbeats 2000000 in
theorem mempty (st A A2 : Nat) (w : World) : Calls Tryz.prog 109 #[mk st A A2] w (Made st .nil w) := by
  have hmf := mf_ok
  go_enter Tryz.func109, Tryz.ntmps109
  go_wp2_with fail
  go_ret
  exact ⟨141, #[], rfl, grown_alloc (grown_refl _ _) _, rfl, rfl⟩

set_option maxRecDepth 100000 in
set_option maxHeartbeats 64000000 in
theorem mlist (x y : T) (ix : CM x) (iy : CM y) (st A A2 : Nat) (w : World) (hA : TB w A A2) : Calls Tryz.prog 110 #[mk st A A2, .agg #[pv x, pv y]] w (Made st (.bin 58 x y) w) := by
  have hmf := mf_ok
  obtain ⟨T1, x1, e1⟩ := pv_iface x
  obtain ⟨T2, x2, e2⟩ := pv_iface y
  have HX : Hid (∀ wd, TB wd A A2 → Calls Tryz.prog 67 #[mk st A A2, .iface T1 x1] wd (Made st x wd)) := fun wd h => e1 ▸ ix st A A2 wd h
  have HY : Hid (∀ wd, TB wd A A2 → Calls Tryz.prog 67 #[mk st A A2, .iface T2 x2] wd (Made st y wd)) := fun wd h => e2 ▸ iy st A A2 wd h
  have hg0 := grown_alloc (grown_alloc (grown_refl w none) (.cells #[ptr st, .slice (some ⟨A, 0, none⟩) 5 5, .slice (some ⟨A2, 0, none⟩) 3 3] 114 (0, 0))) (.cells #[.iface T1 x1, .iface T2 x2] 173 (0, 0))
  have hb1 := keepB' (alloc_at w (.cells #[ptr st, .slice (some ⟨A, 0, none⟩) 5 5, .slice (some ⟨A2, 0, none⟩) 3 3] 114 (0, 0)) _ rfl) (grown_alloc (grown_refl _ none) (.cells #[.iface T1 x1, .iface T2 x2] 173 (0, 0)))
  have hb2 := alloc_at (w.alloc (.cells #[ptr st, .slice (some ⟨A, 0, none⟩) 5 5, .slice (some ⟨A2, 0, none⟩) 3 3] 114 (0, 0))) (.cells #[.iface T1 x1, .iface T2 x2] 173 (0, 0)) (w.heap.size + 1) (by rw [alloc_size])
  have hA1 := TB.keep hA hg0
  rw [e1, e2]
  clear e1 e2 hA
  go_enter Tryz.func110, Tryz.ntmps110
  go_wp2_with fail
  generalize hW : (w.alloc (.cells #[ptr st, .slice (some ⟨A, 0, none⟩) 5 5, .slice (some ⟨A2, 0, none⟩) 3 3] 114 (0, 0))).alloc (.cells #[.iface T1 x1, .iface T2 x2] 173 (0, 0)) = W at hg0 hb1 hb2 hA1 ⊢
  clear hW
  have HS : Hid (∀ wd, World.grownBy W wd none → wd.cell? ⟨w.heap.size, 0, none⟩ = some (ptr st) ∧ wd.cell? ⟨w.heap.size, 1, none⟩ = some (.slice (some ⟨A, 0, none⟩) 5 5) ∧ wd.cell? ⟨w.heap.size, 2, none⟩ = some (.slice (some ⟨A2, 0, none⟩) 3 3) ∧ wd.cell? ⟨w.heap.size + 1, 0, none⟩ = some (.iface T1 x1) ∧ wd.cell? ⟨w.heap.size + 1, 1, none⟩ = some (.iface T2 x2)) := fun wd hg => by
    have b1 := keepB' hb1 hg
    have b2 := keepB' hb2 hg
    refine ⟨?_, ?_, ?_, ?_, ?_⟩ <;> simp [World.cell?, b1, b2]
  have hgd : World.grownBy W W.drew none := grown_same (grown_refl _ _) rfl rfl rfl rfl
  refine wp_region_held_drew (S := fun wd => wd.cell? ⟨w.heap.size, 0, none⟩ = some (ptr st) ∧ wd.cell? ⟨w.heap.size, 1, none⟩ = some (.slice (some ⟨A, 0, none⟩) 5 5) ∧ wd.cell? ⟨w.heap.size, 2, none⟩ = some (.slice (some ⟨A2, 0, none⟩) 3 3) ∧ wd.cell? ⟨w.heap.size + 1, 0, none⟩ = some (.iface T1 x1) ∧ wd.cell? ⟨w.heap.size + 1, 1, none⟩ = some (.iface T2 x2)) (by kernel_rfl) (HS.out _ hgd) (fun hHeld => ?_)
  refine wpAnyH_take (i := 0) (v := mk st A A2) rfl (by kernel_rfl) (by kernel_rfl) (by kernel_rfl) (fun _ _ _ h => h) (Or.inl ⟨by rfl, fun wd hSw => ?_⟩) hHeld ?_
  · obtain ⟨s1, s2, sx, s3, s4⟩ := hSw; go_simp
  refine wpAnyH_take (i := 1) (v := ptr (w.heap.size + 1)) rfl (by kernel_rfl) (by kernel_rfl) (by kernel_rfl) (fun _ _ _ h => h) (Or.inl ⟨by rfl, fun wd hSw => ?_⟩) hHeld ?_
  · obtain ⟨s1, s2, sx, s3, s4⟩ := hSw; go_simp
  refine wpAnyH_take (i := 2) (v := .iface T1 x1) rfl (by kernel_rfl) (by kernel_rfl) (by kernel_rfl) (fun _ _ _ h => h) (Or.inl ⟨by rfl, fun wd hSw => ?_⟩) hHeld ?_
  · obtain ⟨s1, s2, sx, s3, s4⟩ := hSw; go_simp
  refine wpAnyH_take (i := 4) (v := mk st A A2) rfl (by kernel_rfl) (by kernel_rfl) (by kernel_rfl) (fun _ _ _ h => h) (Or.inl ⟨by rfl, fun wd hSw => ?_⟩) hHeld ?_
  · obtain ⟨s1, s2, sx, s3, s4⟩ := hSw; go_simp
  refine wpAnyH_take (i := 5) (v := .pointer (some ⟨w.heap.size + 1, 1, none⟩)) rfl (by kernel_rfl) (by kernel_rfl) (by kernel_rfl) (fun _ _ _ h => h) (Or.inl ⟨by rfl, fun wd hSw => ?_⟩) hHeld ?_
  · obtain ⟨s1, s2, sx, s3, s4⟩ := hSw; go_simp
  refine wpAnyH_take (i := 6) (v := .iface T2 x2) rfl (by kernel_rfl) (by kernel_rfl) (by kernel_rfl) (fun _ _ _ h => h) (Or.inl ⟨by rfl, fun wd hSw => ?_⟩) hHeld ?_
  · obtain ⟨s1, s2, sx, s3, s4⟩ := hSw; go_simp
  refine two_calls_g (W0 := W) (t1 := 118) (t2 := 118) (K1 := Kept.code st x) (K2 := Kept.code st y) (fun v1 v2 p q => #[mk st A A2, .agg #[.iface T1 x1, .iface T2 x2], ptr w.heap.size, ptr (w.heap.size + 1), .nilFunc, p, q, mk st A A2, ptr (w.heap.size + 1), .iface T1 x1, v1, mk st A A2, .pointer (some ⟨w.heap.size + 1, 1, none⟩), .iface T2 x2, v2, undef]) ?_ HS.out ?_ ?_ ?_ ?_ ?_ ?_ ?_ 6 false false false false false false undef undef undef undef _ rfl ⟨hgd, .inr ⟨rfl, rfl⟩, .inr ⟨rfl, rfl⟩, .inr ⟨rfl, rfl⟩, .inr ⟨rfl, rfl⟩, by simp, by simp, by simp, by simp⟩
  · intro c1 c2 a5 a6 s1 s2 o1 o2 o3
    cases c1 <;> cases c2 <;> cases a5 <;> cases a6 <;> cases s1 <;> cases s2 <;> first | (exact absurd (o1 rfl) (by decide)) | (exact absurd (o2 rfl) (by decide)) | (exact absurd (o3 rfl) (by decide)) | kernel_rfl
  · intro p q wd K hg hK
    refine wpOp_step rfl (fun K' hK' => ?_)
    go_simp
    refine (HX.out _ (TB.keep hA1 hg)).mono ?_
    rintro e w' ⟨f, c, rfl, hg', hc⟩
    exact hK' _ _ (hK f c w' hg' hc)
  · intro v1 p q wd K hg hK
    refine wpOp_step rfl (fun K' hK' => ?_)
    go_simp
    refine (HY.out _ (TB.keep hA1 hg)).mono ?_
    rintro e w' ⟨f, c, rfl, hg', hc⟩
    exact hK' _ _ (hK f c w' hg' hc)
  · intro v1 v2 q wd K hK
    refine wpOp_step rfl (fun K' hK' => ?_)
    go_simp
    exact hK' _ _ hK
  · intro v1 v2 p wd K hK
    refine wpOp_step rfl (fun K' hK' => ?_)
    go_simp
    exact hK' _ _ hK
  · intro f c v2 k q wd z K hk hK
    obtain ⟨k0, kf⟩ := one_cell hk
    refine wpOp_step rfl (fun K' hK' => ?_)
    go_simp
    exact hK' _ _ hK
  · intro v1 f c p k wd z K hk hK
    obtain ⟨k0, kf⟩ := one_cell hk
    refine wpOp_step rfl (fun K' hK' => ?_)
    go_simp
    exact hK' _ _ hK
  · intro f1 d1 f2 d2 k m wd hg h1 h2 h3 h4
    have HF : Hid (Made st (.bin 58 x y) w (.returned (fnv 142 #[ptr k, ptr m])) wd) := ⟨142, _, rfl, grown_trans hg0 hg, .inl ⟨rfl, rfl, k, m, f1, d1, f2, d2, rfl, h1, h2, h3, h4⟩⟩
    clear h1 h2 h3 h4
    go_wp2_with fail
    go_ret
    exact HF.out

set_option maxRecDepth 100000 in
set_option maxHeartbeats 64000000 in
theorem mpart (op : UInt8) (hop : Word3 op) (x : T) (ix : CM x) (st A A2 : Nat) (w : World) (hA : TB w A A2) : Calls Tryz.prog 111 #[mk st A A2, .agg #[.string (wrdOf op), pv x]] w (Made st (.un op x) w) := by
  have hmf := mf_ok
  obtain ⟨T2, x2, e2⟩ := pv_iface x
  have HX : Hid (∀ wd, TB wd A A2 → Calls Tryz.prog 143 #[mk st A A2, .string (wrdOf op)] wd fun e w' => e = .returned (fnv (askOf op) #[]) ∧ World.grownBy wd w' none) := fun wd h => ask_of op hop st A A2 wd h.2
  have HY : Hid (∀ wd, TB wd A A2 → Calls Tryz.prog 67 #[mk st A A2, .iface T2 x2] wd (Made st x wd)) := fun wd h => e2 ▸ ix st A A2 wd h
  have hg0 := grown_alloc (grown_alloc (grown_refl w none) (.cells #[ptr st, .slice (some ⟨A, 0, none⟩) 5 5, .slice (some ⟨A2, 0, none⟩) 3 3] 114 (0, 0))) (.cells #[.string (wrdOf op), .iface T2 x2] 176 (0, 0))
  have hb1 := keepB' (alloc_at w (.cells #[ptr st, .slice (some ⟨A, 0, none⟩) 5 5, .slice (some ⟨A2, 0, none⟩) 3 3] 114 (0, 0)) _ rfl) (grown_alloc (grown_refl _ none) (.cells #[.string (wrdOf op), .iface T2 x2] 176 (0, 0)))
  have hb2 := alloc_at (w.alloc (.cells #[ptr st, .slice (some ⟨A, 0, none⟩) 5 5, .slice (some ⟨A2, 0, none⟩) 3 3] 114 (0, 0))) (.cells #[.string (wrdOf op), .iface T2 x2] 176 (0, 0)) (w.heap.size + 1) (by rw [alloc_size])
  have hA1 := TB.keep hA hg0
  rw [e2]
  clear e2 hA
  generalize hwo : wrdOf op = ws at HX hg0 hb1 hb2 hA1 ⊢
  clear hwo
  go_enter Tryz.func111, Tryz.ntmps111
  go_wp2_with fail
  generalize hW : (w.alloc (.cells #[ptr st, .slice (some ⟨A, 0, none⟩) 5 5, .slice (some ⟨A2, 0, none⟩) 3 3] 114 (0, 0))).alloc (.cells #[.string ws, .iface T2 x2] 176 (0, 0)) = W at hg0 hb1 hb2 hA1 ⊢
  clear hW
  have HS : Hid (∀ wd, World.grownBy W wd none → wd.cell? ⟨w.heap.size, 0, none⟩ = some (ptr st) ∧ wd.cell? ⟨w.heap.size, 1, none⟩ = some (.slice (some ⟨A, 0, none⟩) 5 5) ∧ wd.cell? ⟨w.heap.size, 2, none⟩ = some (.slice (some ⟨A2, 0, none⟩) 3 3) ∧ wd.cell? ⟨w.heap.size + 1, 0, none⟩ = some (.string ws) ∧ wd.cell? ⟨w.heap.size + 1, 1, none⟩ = some (.iface T2 x2)) := fun wd hg => by
    have b1 := keepB' hb1 hg
    have b2 := keepB' hb2 hg
    refine ⟨?_, ?_, ?_, ?_, ?_⟩ <;> simp [World.cell?, b1, b2]
  have hgd : World.grownBy W W.drew none := grown_same (grown_refl _ _) rfl rfl rfl rfl
  refine wp_region_held_drew (S := fun wd => wd.cell? ⟨w.heap.size, 0, none⟩ = some (ptr st) ∧ wd.cell? ⟨w.heap.size, 1, none⟩ = some (.slice (some ⟨A, 0, none⟩) 5 5) ∧ wd.cell? ⟨w.heap.size, 2, none⟩ = some (.slice (some ⟨A2, 0, none⟩) 3 3) ∧ wd.cell? ⟨w.heap.size + 1, 0, none⟩ = some (.string ws) ∧ wd.cell? ⟨w.heap.size + 1, 1, none⟩ = some (.iface T2 x2)) (by kernel_rfl) (HS.out _ hgd) (fun hHeld => ?_)
  refine wpAnyH_take (i := 0) (v := mk st A A2) rfl (by kernel_rfl) (by kernel_rfl) (by kernel_rfl) (fun _ _ _ h => h) (Or.inl ⟨by rfl, fun wd hSw => ?_⟩) hHeld ?_
  · obtain ⟨s1, s2, sx, s3, s4⟩ := hSw; go_simp
  refine wpAnyH_take (i := 1) (v := ptr (w.heap.size + 1)) rfl (by kernel_rfl) (by kernel_rfl) (by kernel_rfl) (fun _ _ _ h => h) (Or.inl ⟨by rfl, fun wd hSw => ?_⟩) hHeld ?_
  · obtain ⟨s1, s2, sx, s3, s4⟩ := hSw; go_simp
  refine wpAnyH_take (i := 2) (v := .string ws) rfl (by kernel_rfl) (by kernel_rfl) (by kernel_rfl) (fun _ _ _ h => h) (Or.inl ⟨by rfl, fun wd hSw => ?_⟩) hHeld ?_
  · obtain ⟨s1, s2, sx, s3, s4⟩ := hSw; go_simp
  refine wpAnyH_take (i := 4) (v := mk st A A2) rfl (by kernel_rfl) (by kernel_rfl) (by kernel_rfl) (fun _ _ _ h => h) (Or.inl ⟨by rfl, fun wd hSw => ?_⟩) hHeld ?_
  · obtain ⟨s1, s2, sx, s3, s4⟩ := hSw; go_simp
  refine wpAnyH_take (i := 5) (v := .pointer (some ⟨w.heap.size + 1, 1, none⟩)) rfl (by kernel_rfl) (by kernel_rfl) (by kernel_rfl) (fun _ _ _ h => h) (Or.inl ⟨by rfl, fun wd hSw => ?_⟩) hHeld ?_
  · obtain ⟨s1, s2, sx, s3, s4⟩ := hSw; go_simp
  refine wpAnyH_take (i := 6) (v := .iface T2 x2) rfl (by kernel_rfl) (by kernel_rfl) (by kernel_rfl) (fun _ _ _ h => h) (Or.inl ⟨by rfl, fun wd hSw => ?_⟩) hHeld ?_
  · obtain ⟨s1, s2, sx, s3, s4⟩ := hSw; go_simp
  refine two_calls_g (W0 := W) (t1 := 144) (t2 := 118) (P1 := fun _ f c => f = askOf op ∧ c = #[]) (K1 := ⟨fun h _ => h, fun _ h _ => h⟩) (K2 := Kept.code st x) (fun v1 v2 p q => #[mk st A A2, .agg #[.string ws, .iface T2 x2], ptr w.heap.size, ptr (w.heap.size + 1), .nilFunc, p, q, mk st A A2, ptr (w.heap.size + 1), .string ws, v1, mk st A A2, .pointer (some ⟨w.heap.size + 1, 1, none⟩), .iface T2 x2, v2, undef]) ?_ HS.out ?_ ?_ ?_ ?_ ?_ ?_ ?_ 6 false false false false false false undef undef undef undef _ rfl ⟨hgd, .inr ⟨rfl, rfl⟩, .inr ⟨rfl, rfl⟩, .inr ⟨rfl, rfl⟩, .inr ⟨rfl, rfl⟩, by simp, by simp, by simp, by simp⟩
  · intro c1 c2 a5 a6 s1 s2 o1 o2 o3
    cases c1 <;> cases c2 <;> cases a5 <;> cases a6 <;> cases s1 <;> cases s2 <;> first | (exact absurd (o1 rfl) (by decide)) | (exact absurd (o2 rfl) (by decide)) | (exact absurd (o3 rfl) (by decide)) | kernel_rfl
  · intro p q wd K hg hK
    refine wpOp_step rfl (fun K' hK' => ?_)
    go_simp
    refine (HX.out _ (TB.keep hA1 hg)).mono ?_
    rintro e w' ⟨rfl, hg'⟩
    exact hK' _ _ (hK _ _ w' hg' ⟨rfl, rfl⟩)
  · intro v1 p q wd K hg hK
    refine wpOp_step rfl (fun K' hK' => ?_)
    go_simp
    refine (HY.out _ (TB.keep hA1 hg)).mono ?_
    rintro e w' ⟨f, c, rfl, hg', hc⟩
    exact hK' _ _ (hK f c w' hg' hc)
  · intro v1 v2 q wd K hK
    refine wpOp_step rfl (fun K' hK' => ?_)
    go_simp
    exact hK' _ _ hK
  · intro v1 v2 p wd K hK
    refine wpOp_step rfl (fun K' hK' => ?_)
    go_simp
    exact hK' _ _ hK
  · intro f c v2 k q wd z K hk hK
    obtain ⟨k0, kf⟩ := one_cell hk
    refine wpOp_step rfl (fun K' hK' => ?_)
    go_simp
    exact hK' _ _ hK
  · intro v1 f c p k wd z K hk hK
    obtain ⟨k0, kf⟩ := one_cell hk
    refine wpOp_step rfl (fun K' hK' => ?_)
    go_simp
    exact hK' _ _ hK
  · intro f1 d1 f2 d2 k m wd hg h1 h2 h3 h4
    obtain ⟨rfl, rfl⟩ := h3
    have HF : Hid (Made st (.un op x) w (.returned (fnv 144 #[ptr k, ptr m])) wd) := ⟨144, _, rfl, grown_trans hg0 hg, hop, rfl, k, m, f2, d2, rfl, h1, h2, h4⟩
    clear h1 h2 h4
    go_wp2_with fail
    go_ret
    exact HF.out
end Go.Proofs.YtjjlgjmebnkdjaaGreatDoor

namespace Go.Proofs.YtjjlgjmebnkdjaaGreatDoor
open Go Go.Proofs Go.RowKit Skein

set_option maxRecDepth 100000 in
set_option maxHeartbeats 4000000 in
theorem cm_nil : CM .nil := by
  intro st A A2 w hA
  have ta0 : ∀ (w : World), (Instr.typeAssert (.iface 170 (.agg #[])) 51 149 true).run Tryz.prog w = .ok (.tuple #[.agg #[.int .i64 0], .bool false]) w := fun _ => by kernel_rfl
  have ta1 : ∀ (w : World), (Instr.typeAssert (.iface 170 (.agg #[])) 51 152 true).run Tryz.prog w = .ok (.tuple #[.agg #[.int .i64 0], .bool false]) w := fun _ => by kernel_rfl
  have ta2 : ∀ (w : World), (Instr.typeAssert (.iface 170 (.agg #[])) 51 155 true).run Tryz.prog w = .ok (.tuple #[.agg #[.int .i64 0, .nilIface], .bool false]) w := fun _ => by kernel_rfl
  have ta3 : ∀ (w : World), (Instr.typeAssert (.iface 170 (.agg #[])) 51 158 true).run Tryz.prog w = .ok (.tuple #[.agg #[.nilIface, .nilIface], .bool false]) w := fun _ => by kernel_rfl
  have ta4 : ∀ (w : World), (Instr.typeAssert (.iface 170 (.agg #[])) 51 161 true).run Tryz.prog w = .ok (.tuple #[.agg #[.int .i64 0, .nilIface, .nilIface], .bool false]) w := fun _ => by kernel_rfl
  have ta5 : ∀ (w : World), (Instr.typeAssert (.iface 170 (.agg #[])) 51 164 true).run Tryz.prog w = .ok (.tuple #[.agg #[.nilIface, .nilIface, .nilIface], .bool false]) w := fun _ => by kernel_rfl
  have ta6 : ∀ (w : World), (Instr.typeAssert (.iface 170 (.agg #[])) 51 167 true).run Tryz.prog w = .ok (.tuple #[.agg #[.string ⟨#[]⟩, .nilIface, .nilIface], .bool false]) w := fun _ => by kernel_rfl
  have ta7 : ∀ (w : World), (Instr.typeAssert (.iface 170 (.agg #[])) 51 170 true).run Tryz.prog w = .ok (.tuple #[.agg #[], .bool true]) w := fun _ => by kernel_rfl
  show Calls Tryz.prog 67 #[mk st A A2, .iface 170 (.agg #[])] w _
  go_enter Tryz.func67, Tryz.ntmps67
  go_wp2_with fail
  refine (mempty st A A2 _).mono ?_
  rintro e w1 ⟨f, c, rfl, hg1, hc1⟩
  go_wp2_with fail
  go_ret
  exact ⟨f, c, rfl, grown_trans (by first | exact grown_alloc (grown_refl _ _) _ | exact grown_alloc (grown_alloc (grown_refl _ _) _) _) hg1, hc1⟩

set_option maxRecDepth 100000 in
set_option maxHeartbeats 4000000 in
theorem cm_cons (x y : T) (ix : CM x) (iy : CM y) : CM (.bin 58 x y) := by
  intro st A A2 w hA
  obtain ⟨T1, x1, e1⟩ := pv_iface x
  obtain ⟨T2, x2, e2⟩ := pv_iface y
  have ta0 : ∀ (w : World), (Instr.typeAssert (.iface 173 (.agg #[.iface T1 x1, .iface T2 x2])) 51 149 true).run Tryz.prog w = .ok (.tuple #[.agg #[.int .i64 0], .bool false]) w := fun _ => by kernel_rfl
  have ta1 : ∀ (w : World), (Instr.typeAssert (.iface 173 (.agg #[.iface T1 x1, .iface T2 x2])) 51 152 true).run Tryz.prog w = .ok (.tuple #[.agg #[.int .i64 0], .bool false]) w := fun _ => by kernel_rfl
  have ta2 : ∀ (w : World), (Instr.typeAssert (.iface 173 (.agg #[.iface T1 x1, .iface T2 x2])) 51 155 true).run Tryz.prog w = .ok (.tuple #[.agg #[.int .i64 0, .nilIface], .bool false]) w := fun _ => by kernel_rfl
  have ta3 : ∀ (w : World), (Instr.typeAssert (.iface 173 (.agg #[.iface T1 x1, .iface T2 x2])) 51 158 true).run Tryz.prog w = .ok (.tuple #[.agg #[.nilIface, .nilIface], .bool false]) w := fun _ => by kernel_rfl
  have ta4 : ∀ (w : World), (Instr.typeAssert (.iface 173 (.agg #[.iface T1 x1, .iface T2 x2])) 51 161 true).run Tryz.prog w = .ok (.tuple #[.agg #[.int .i64 0, .nilIface, .nilIface], .bool false]) w := fun _ => by kernel_rfl
  have ta5 : ∀ (w : World), (Instr.typeAssert (.iface 173 (.agg #[.iface T1 x1, .iface T2 x2])) 51 164 true).run Tryz.prog w = .ok (.tuple #[.agg #[.nilIface, .nilIface, .nilIface], .bool false]) w := fun _ => by kernel_rfl
  have ta6 : ∀ (w : World), (Instr.typeAssert (.iface 173 (.agg #[.iface T1 x1, .iface T2 x2])) 51 167 true).run Tryz.prog w = .ok (.tuple #[.agg #[.string ⟨#[]⟩, .nilIface, .nilIface], .bool false]) w := fun _ => by kernel_rfl
  have ta7 : ∀ (w : World), (Instr.typeAssert (.iface 173 (.agg #[.iface T1 x1, .iface T2 x2])) 51 170 true).run Tryz.prog w = .ok (.tuple #[.agg #[], .bool false]) w := fun _ => by kernel_rfl
  have ta8 : ∀ (w : World), (Instr.typeAssert (.iface 173 (.agg #[.iface T1 x1, .iface T2 x2])) 51 173 true).run Tryz.prog w = .ok (.tuple #[.agg #[.iface T1 x1, .iface T2 x2], .bool true]) w := fun _ => by kernel_rfl
  have hg := grown_alloc (grown_alloc (grown_refl w none) (.cells #[ptr st, .slice (some ⟨A, 0, none⟩) 5 5, .slice (some ⟨A2, 0, none⟩) 3 3] 114 (0, 0))) (.cells #[.iface T1 x1, .iface T2 x2] 173 (0, 0))
  have HC : Hid (Calls Tryz.prog 110 #[mk st A A2, .agg #[.iface T1 x1, .iface T2 x2]] ((w.alloc (.cells #[ptr st, .slice (some ⟨A, 0, none⟩) 5 5, .slice (some ⟨A2, 0, none⟩) 3 3] 114 (0, 0))).alloc (.cells #[.iface T1 x1, .iface T2 x2] 173 (0, 0))) (Made st (.bin 58 x y) ((w.alloc (.cells #[ptr st, .slice (some ⟨A, 0, none⟩) 5 5, .slice (some ⟨A2, 0, none⟩) 3 3] 114 (0, 0))).alloc (.cells #[.iface T1 x1, .iface T2 x2] 173 (0, 0))))) := by
    have h := (mlist x y ix iy st A A2 _ (TB.keep hA hg))
    rw [e1, e2] at h
    exact h
  show Calls Tryz.prog 67 #[mk st A A2, .iface 173 (.agg #[pv x, pv y])] w _
  rw [e1, e2]
  clear e1 e2
  go_enter Tryz.func67, Tryz.ntmps67
  go_wp2_with fail
  refine HC.out.mono ?_
  rintro e w1 ⟨f, c, rfl, hg1, hc1⟩
  go_wp2_with fail
  go_ret
  exact ⟨f, c, rfl, grown_trans hg hg1, hc1⟩

set_option maxRecDepth 100000 in
set_option maxHeartbeats 4000000 in
theorem cm_un (op : UInt8) (hop : Word3 op) (x : T) (ix : CM x) : CM (.un op x) := by
  intro st A A2 w hA
  obtain ⟨T1, x1, e1⟩ := pv_iface x
  have ta0 : ∀ (w : World), (Instr.typeAssert (.iface 176 (.agg #[.string (wrdOf op), .iface T1 x1])) 51 149 true).run Tryz.prog w = .ok (.tuple #[.agg #[.int .i64 0], .bool false]) w := fun _ => by kernel_rfl
  have ta1 : ∀ (w : World), (Instr.typeAssert (.iface 176 (.agg #[.string (wrdOf op), .iface T1 x1])) 51 152 true).run Tryz.prog w = .ok (.tuple #[.agg #[.int .i64 0], .bool false]) w := fun _ => by kernel_rfl
  have ta2 : ∀ (w : World), (Instr.typeAssert (.iface 176 (.agg #[.string (wrdOf op), .iface T1 x1])) 51 155 true).run Tryz.prog w = .ok (.tuple #[.agg #[.int .i64 0, .nilIface], .bool false]) w := fun _ => by kernel_rfl
  have ta3 : ∀ (w : World), (Instr.typeAssert (.iface 176 (.agg #[.string (wrdOf op), .iface T1 x1])) 51 158 true).run Tryz.prog w = .ok (.tuple #[.agg #[.nilIface, .nilIface], .bool false]) w := fun _ => by kernel_rfl
  have ta4 : ∀ (w : World), (Instr.typeAssert (.iface 176 (.agg #[.string (wrdOf op), .iface T1 x1])) 51 161 true).run Tryz.prog w = .ok (.tuple #[.agg #[.int .i64 0, .nilIface, .nilIface], .bool false]) w := fun _ => by kernel_rfl
  have ta5 : ∀ (w : World), (Instr.typeAssert (.iface 176 (.agg #[.string (wrdOf op), .iface T1 x1])) 51 164 true).run Tryz.prog w = .ok (.tuple #[.agg #[.nilIface, .nilIface, .nilIface], .bool false]) w := fun _ => by kernel_rfl
  have ta6 : ∀ (w : World), (Instr.typeAssert (.iface 176 (.agg #[.string (wrdOf op), .iface T1 x1])) 51 167 true).run Tryz.prog w = .ok (.tuple #[.agg #[.string ⟨#[]⟩, .nilIface, .nilIface], .bool false]) w := fun _ => by kernel_rfl
  have ta7 : ∀ (w : World), (Instr.typeAssert (.iface 176 (.agg #[.string (wrdOf op), .iface T1 x1])) 51 170 true).run Tryz.prog w = .ok (.tuple #[.agg #[], .bool false]) w := fun _ => by kernel_rfl
  have ta8 : ∀ (w : World), (Instr.typeAssert (.iface 176 (.agg #[.string (wrdOf op), .iface T1 x1])) 51 173 true).run Tryz.prog w = .ok (.tuple #[.agg #[.nilIface, .nilIface], .bool false]) w := fun _ => by kernel_rfl
  have ta9 : ∀ (w : World), (Instr.typeAssert (.iface 176 (.agg #[.string (wrdOf op), .iface T1 x1])) 51 176 true).run Tryz.prog w = .ok (.tuple #[.agg #[.string (wrdOf op), .iface T1 x1], .bool true]) w := fun _ => by kernel_rfl
  have hg := grown_alloc (grown_alloc (grown_refl w none) (.cells #[ptr st, .slice (some ⟨A, 0, none⟩) 5 5, .slice (some ⟨A2, 0, none⟩) 3 3] 114 (0, 0))) (.cells #[.string (wrdOf op), .iface T1 x1] 176 (0, 0))
  have HC : Hid (Calls Tryz.prog 111 #[mk st A A2, .agg #[.string (wrdOf op), .iface T1 x1]] ((w.alloc (.cells #[ptr st, .slice (some ⟨A, 0, none⟩) 5 5, .slice (some ⟨A2, 0, none⟩) 3 3] 114 (0, 0))).alloc (.cells #[.string (wrdOf op), .iface T1 x1] 176 (0, 0))) (Made st (.un op x) ((w.alloc (.cells #[ptr st, .slice (some ⟨A, 0, none⟩) 5 5, .slice (some ⟨A2, 0, none⟩) 3 3] 114 (0, 0))).alloc (.cells #[.string (wrdOf op), .iface T1 x1] 176 (0, 0))))) := by
    have h := (mpart op hop x ix st A A2 _ (TB.keep hA hg))
    rw [e1] at h
    exact h
  show Calls Tryz.prog 67 #[mk st A A2, .iface 176 (.agg #[.string (wrdOf op), pv x])] w _
  rw [e1]
  clear e1
  generalize wrdOf op = ws at ta0 ta1 ta2 ta3 ta4 ta5 ta6 ta7 ta8 ta9 hg HC ⊢
  go_enter Tryz.func67, Tryz.ntmps67
  go_wp2_with fail
  refine HC.out.mono ?_
  rintro e w1 ⟨f, c, rfl, hg1, hc1⟩
  go_wp2_with fail
  go_ret
  exact ⟨f, c, rfl, grown_trans hg hg1, hc1⟩

theorem cm_all : ∀ (x : T) (d : Nat), Tidy d x → CM x := by
  intro x
  induction x with
  | num n => exact fun _ _ => cm_num n
  | var n => exact fun _ _ => cm_var n
  | fn m a ia => exact fun d h => cm_fn m a (ia _ h.2)
  | app a b ia ib => exact fun d h => cm_app a b (ia _ h.1) (ib _ h.2)
  | letE m a b ia ib => exact fun d h => cm_letE m a b (ia _ h.2.1) (ib _ h.2.2)
  | ite a b c ia ib ic => exact fun d h => cm_ite a b c (ia _ h.1) (ib _ h.2.1) (ic _ h.2.2)
  | bin op a b ia ib =>
    intro d h
    rcases h.1 with rfl | h1
    · exact cm_cons a b (ia _ h.2.1) (ib _ h.2.2)
    · exact cm_bin op h1 a b (ia _ h.2.1) (ib _ h.2.2)
  | junk => exact fun _ h => h.elim
  | free => exact fun _ h => h.elim
  | nil => exact fun _ _ => cm_nil
  | un op a ia => exact fun d h => cm_un op h.1 a (ia _ h.2)
end Go.Proofs.YtjjlgjmebnkdjaaGreatDoor
