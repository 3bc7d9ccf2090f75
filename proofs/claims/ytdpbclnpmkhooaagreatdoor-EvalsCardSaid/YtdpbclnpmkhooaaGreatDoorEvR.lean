/-
  The program makes closures of a tree: if.
-/
import Derived.Test.YtdpbclnpmkhooaaGreatDoorEvO
import Derived.Test.YtdpbclnpmkhooaaGreatDoorEvP
namespace Go.Proofs.YtdpbclnpmkhooaaGreatDoor
open Go Go.Proofs Go.RowKit Skein

set_option maxRecDepth 100000 in
set_option maxHeartbeats 64000000 in
theorem mite (x y t : T) (ix : CM x) (iy : CM y) (it : CM t) (st A : Nat) (w : World) (hA : w.heap[A]? = some (.cells sgCells 130 (0, 0))) : Calls Tryz.prog 94 #[mk st A, .agg #[pv x, pv y, pv t]] w (Made st (.ite x y t) w) := by
  have hmf := mf_ok
  obtain ⟨T1, x1, e1⟩ := pv_iface x
  obtain ⟨T2, x2, e2⟩ := pv_iface y
  obtain ⟨T3, x3, e3⟩ := pv_iface t
  have HX : Hid (∀ wd, wd.heap[A]? = some (.cells sgCells 130 (0, 0)) → Calls Tryz.prog 60 #[mk st A, .iface T1 x1] wd (Made st x wd)) := fun wd h => e1 ▸ ix st A wd h
  have HY : Hid (∀ wd, wd.heap[A]? = some (.cells sgCells 130 (0, 0)) → Calls Tryz.prog 60 #[mk st A, .iface T2 x2] wd (Made st y wd)) := fun wd h => e2 ▸ iy st A wd h
  have HT : Hid (∀ wd, wd.heap[A]? = some (.cells sgCells 130 (0, 0)) → Calls Tryz.prog 60 #[mk st A, .iface T3 x3] wd (Made st t wd)) := fun wd h => e3 ▸ it st A wd h
  have hg0 := grown_alloc (grown_alloc (grown_refl w none) (.cells #[ptr st, .slice (some ⟨A, 0, none⟩) 5 5] 108 (0, 0))) (.cells #[.iface T1 x1, .iface T2 x2, .iface T3 x3] 148 (0, 0))
  have hb1 := keepB' (alloc_at w (.cells #[ptr st, .slice (some ⟨A, 0, none⟩) 5 5] 108 (0, 0)) _ rfl) (grown_alloc (grown_refl _ none) (.cells #[.iface T1 x1, .iface T2 x2, .iface T3 x3] 148 (0, 0)))
  have hb2 := alloc_at (w.alloc (.cells #[ptr st, .slice (some ⟨A, 0, none⟩) 5 5] 108 (0, 0))) (.cells #[.iface T1 x1, .iface T2 x2, .iface T3 x3] 148 (0, 0)) (w.heap.size + 1) (by rw [alloc_size])
  have hA1 := keepB' hA hg0
  rw [e1, e2, e3]
  clear e1 e2 e3 hA
  go_enter Tryz.func94, Tryz.ntmps94
  go_wp2_with fail
  generalize hW : (w.alloc (.cells #[ptr st, .slice (some ⟨A, 0, none⟩) 5 5] 108 (0, 0))).alloc (.cells #[.iface T1 x1, .iface T2 x2, .iface T3 x3] 148 (0, 0)) = W at hg0 hb1 hb2 hA1 ⊢
  clear hW
  have HS : Hid (∀ wd, World.grownBy W wd none → wd.cell? ⟨w.heap.size, 0, none⟩ = some (ptr st) ∧ wd.cell? ⟨w.heap.size, 1, none⟩ = some (.slice (some ⟨A, 0, none⟩) 5 5) ∧ wd.cell? ⟨w.heap.size + 1, 0, none⟩ = some (.iface T1 x1) ∧ wd.cell? ⟨w.heap.size + 1, 1, none⟩ = some (.iface T2 x2) ∧ wd.cell? ⟨w.heap.size + 1, 2, none⟩ = some (.iface T3 x3)) := fun wd hg => by
    have b1 := keepB' hb1 hg
    have b2 := keepB' hb2 hg
    refine ⟨?_, ?_, ?_, ?_, ?_⟩ <;> simp [World.cell?, b1, b2]
  have hgd : World.grownBy W W.drew none := grown_same (grown_refl _ _) rfl rfl rfl rfl
  refine wp_region_held_drew (S := fun wd => wd.cell? ⟨w.heap.size, 0, none⟩ = some (ptr st) ∧ wd.cell? ⟨w.heap.size, 1, none⟩ = some (.slice (some ⟨A, 0, none⟩) 5 5) ∧ wd.cell? ⟨w.heap.size + 1, 0, none⟩ = some (.iface T1 x1) ∧ wd.cell? ⟨w.heap.size + 1, 1, none⟩ = some (.iface T2 x2) ∧ wd.cell? ⟨w.heap.size + 1, 2, none⟩ = some (.iface T3 x3)) (by kernel_rfl) (HS.out _ hgd) (fun hHeld => ?_)
  refine wpAnyH_take (i := 0) (v := mk st A) rfl (by kernel_rfl) (by kernel_rfl) (by kernel_rfl) (fun _ _ _ h => h) (Or.inl ⟨by rfl, fun wd hSw => ?_⟩) hHeld ?_
  · obtain ⟨s1, s2, s3, s4, s5⟩ := hSw; go_simp
  refine wpAnyH_take (i := 1) (v := ptr (w.heap.size + 1)) rfl (by kernel_rfl) (by kernel_rfl) (by kernel_rfl) (fun _ _ _ h => h) (Or.inl ⟨by rfl, fun wd hSw => ?_⟩) hHeld ?_
  · obtain ⟨s1, s2, s3, s4, s5⟩ := hSw; go_simp
  refine wpAnyH_take (i := 2) (v := .iface T1 x1) rfl (by kernel_rfl) (by kernel_rfl) (by kernel_rfl) (fun _ _ _ h => h) (Or.inl ⟨by rfl, fun wd hSw => ?_⟩) hHeld ?_
  · obtain ⟨s1, s2, s3, s4, s5⟩ := hSw; go_simp
  refine wpAnyH_take (i := 4) (v := mk st A) rfl (by kernel_rfl) (by kernel_rfl) (by kernel_rfl) (fun _ _ _ h => h) (Or.inl ⟨by rfl, fun wd hSw => ?_⟩) hHeld ?_
  · obtain ⟨s1, s2, s3, s4, s5⟩ := hSw; go_simp
  refine wpAnyH_take (i := 5) (v := .pointer (some ⟨w.heap.size + 1, 1, none⟩)) rfl (by kernel_rfl) (by kernel_rfl) (by kernel_rfl) (fun _ _ _ h => h) (Or.inl ⟨by rfl, fun wd hSw => ?_⟩) hHeld ?_
  · obtain ⟨s1, s2, s3, s4, s5⟩ := hSw; go_simp
  refine wpAnyH_take (i := 6) (v := .iface T2 x2) rfl (by kernel_rfl) (by kernel_rfl) (by kernel_rfl) (fun _ _ _ h => h) (Or.inl ⟨by rfl, fun wd hSw => ?_⟩) hHeld ?_
  · obtain ⟨s1, s2, s3, s4, s5⟩ := hSw; go_simp
  refine wpAnyH_take (i := 8) (v := mk st A) rfl (by kernel_rfl) (by kernel_rfl) (by kernel_rfl) (fun _ _ _ h => h) (Or.inl ⟨by rfl, fun wd hSw => ?_⟩) hHeld ?_
  · obtain ⟨s1, s2, s3, s4, s5⟩ := hSw; go_simp
  refine wpAnyH_take (i := 9) (v := .pointer (some ⟨w.heap.size + 1, 2, none⟩)) rfl (by kernel_rfl) (by kernel_rfl) (by kernel_rfl) (fun _ _ _ h => h) (Or.inl ⟨by rfl, fun wd hSw => ?_⟩) hHeld ?_
  · obtain ⟨s1, s2, s3, s4, s5⟩ := hSw; go_simp
  refine wpAnyH_take (i := 10) (v := .iface T3 x3) rfl (by kernel_rfl) (by kernel_rfl) (by kernel_rfl) (fun _ _ _ h => h) (Or.inl ⟨by rfl, fun wd hSw => ?_⟩) hHeld ?_
  · obtain ⟨s1, s2, s3, s4, s5⟩ := hSw; go_simp
  refine three_calls (W0 := W) (st := st) (x := x) (y := y) (t := t) (fun v1 v2 v3 p1 p2 p3 => #[mk st A, .agg #[.iface T1 x1, .iface T2 x2, .iface T3 x3], ptr w.heap.size, ptr (w.heap.size + 1), .nilFunc, p1, p2, p3, mk st A, ptr (w.heap.size + 1), .iface T1 x1, v1, mk st A, .pointer (some ⟨w.heap.size + 1, 1, none⟩), .iface T2 x2, v2, mk st A, .pointer (some ⟨w.heap.size + 1, 2, none⟩), .iface T3 x3, v3, undef]) ?_ HS.out ?_ ?_ ?_ ?_ ?_ ?_ ?_ ?_ ?_ ?_ 9 false false false false false false false false false undef undef undef undef undef undef _ rfl ⟨hgd, .inr ⟨rfl, rfl⟩, .inr ⟨rfl, rfl⟩, .inr ⟨rfl, rfl⟩, .inr ⟨rfl, rfl⟩, .inr ⟨rfl, rfl⟩, .inr ⟨rfl, rfl⟩, by simp, by simp, by simp, by simp, by simp, by simp, by simp, by simp⟩
  · intro c1 c2 c3 a1 a2 a3 s1 s2 s3 o1 o2 o3 o4 o5
    cases c1 <;> cases c2 <;> cases c3 <;> cases a1 <;> cases a2 <;> cases a3 <;> cases s1 <;> cases s2 <;> cases s3 <;> first | (exact absurd (o1 rfl) (by decide)) | (exact absurd (o2 rfl) (by decide)) | (exact absurd (o3 rfl) (by decide)) | (exact absurd (o4 rfl) (by decide)) | (exact absurd (o5 rfl) (by decide)) | kernel_rfl
  · intro p1 p2 p3 wd K hg hK
    refine wpOp_step rfl (fun K' hK' => ?_)
    go_simp
    refine (HX.out _ (keepB' hA1 hg)).mono ?_
    rintro e w' ⟨f, c, rfl, hg', hc⟩
    exact hK' _ _ (hK f c w' hg' hc)
  · intro v1 p1 p2 p3 wd K hg hK
    refine wpOp_step rfl (fun K' hK' => ?_)
    go_simp
    refine (HY.out _ (keepB' hA1 hg)).mono ?_
    rintro e w' ⟨f, c, rfl, hg', hc⟩
    exact hK' _ _ (hK f c w' hg' hc)
  · intro v1 v2 p1 p2 p3 wd K hg hK
    refine wpOp_step rfl (fun K' hK' => ?_)
    go_simp
    refine (HT.out _ (keepB' hA1 hg)).mono ?_
    rintro e w' ⟨f, c, rfl, hg', hc⟩
    exact hK' _ _ (hK f c w' hg' hc)
  · intro v1 v2 v3 p q wd K hK
    refine wpOp_step rfl (fun K' hK' => ?_)
    go_simp
    exact hK' _ _ hK
  · intro v1 v2 v3 p q wd K hK
    refine wpOp_step rfl (fun K' hK' => ?_)
    go_simp
    exact hK' _ _ hK
  · intro v1 v2 v3 p q wd K hK
    refine wpOp_step rfl (fun K' hK' => ?_)
    go_simp
    exact hK' _ _ hK
  · intro f c k u1 u2 p q wd z K hk hK
    obtain ⟨k0, kf⟩ := one_cell hk
    refine wpOp_step rfl (fun K' hK' => ?_)
    go_simp
    exact hK' _ _ hK
  · intro f c k u1 u2 p q wd z K hk hK
    obtain ⟨k0, kf⟩ := one_cell hk
    refine wpOp_step rfl (fun K' hK' => ?_)
    go_simp
    exact hK' _ _ hK
  · intro f c k u1 u2 p q wd z K hk hK
    obtain ⟨k0, kf⟩ := one_cell hk
    refine wpOp_step rfl (fun K' hK' => ?_)
    go_simp
    exact hK' _ _ hK
  · intro f1 d1 f2 d2 f3 d3 k1 k2 k3 wd hg h1 h2 h3 h4 h5 h6
    have HF : Hid (Made st (.ite x y t) w (.returned (fnv 123 #[ptr k1, ptr k2, ptr k3])) wd) := ⟨123, _, rfl, grown_trans hg0 hg, rfl, k1, k2, k3, f1, d1, f2, d2, f3, d3, rfl, h1, h2, h3, h4, h5, h6⟩
    clear h1 h2 h3 h4 h5 h6
    go_wp2_with fail
    go_ret
    exact HF.out

end Go.Proofs.YtdpbclnpmkhooaaGreatDoor
