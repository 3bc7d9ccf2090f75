/-
  The program makes closures of a tree: let, a sign.
-/
import Derived.Test.YtdpbclnpmkhooaaGreatDoorEvO
namespace Go.Proofs.YtdpbclnpmkhooaaGreatDoor
open Go Go.Proofs Go.RowKit Skein

set_option maxRecDepth 100000 in
set_option maxHeartbeats 64000000 in
theorem mlet (m : Nat) (x y : T) (ix : CM x) (iy : CM y) (st A : Nat) (w : World) (hA : w.heap[A]? = some (.cells sgCells 130 (0, 0))) : Calls Tryz.prog 93 #[mk st A, .agg #[.int .i64 m, pv x, pv y]] w (Made st (.letE m x y) w) := by
  have hmf := mf_ok
  obtain ⟨T1, x1, e1⟩ := pv_iface x
  obtain ⟨T2, x2, e2⟩ := pv_iface y
  have HX : Hid (∀ wd, wd.heap[A]? = some (.cells sgCells 130 (0, 0)) → Calls Tryz.prog 60 #[mk st A, .iface T1 x1] wd (Made st x wd)) := fun wd h => e1 ▸ ix st A wd h
  have HY : Hid (∀ wd, wd.heap[A]? = some (.cells sgCells 130 (0, 0)) → Calls Tryz.prog 60 #[mk st A, .iface T2 x2] wd (Made st y wd)) := fun wd h => e2 ▸ iy st A wd h
  have hg0 := grown_alloc (grown_alloc (grown_refl w none) (.cells #[ptr st, .slice (some ⟨A, 0, none⟩) 5 5] 108 (0, 0))) (.cells #[.int .i64 m, .iface T1 x1, .iface T2 x2] 145 (0, 0))
  have hb1 := keepB' (alloc_at w (.cells #[ptr st, .slice (some ⟨A, 0, none⟩) 5 5] 108 (0, 0)) _ rfl) (grown_alloc (grown_refl _ none) (.cells #[.int .i64 m, .iface T1 x1, .iface T2 x2] 145 (0, 0)))
  have hb2 := alloc_at (w.alloc (.cells #[ptr st, .slice (some ⟨A, 0, none⟩) 5 5] 108 (0, 0))) (.cells #[.int .i64 m, .iface T1 x1, .iface T2 x2] 145 (0, 0)) (w.heap.size + 1) (by rw [alloc_size])
  have hA1 := keepB' hA hg0
  rw [e1, e2]
  clear e1 e2 hA
  go_enter Tryz.func93, Tryz.ntmps93
  go_wp2_with fail
  generalize hW : (w.alloc (.cells #[ptr st, .slice (some ⟨A, 0, none⟩) 5 5] 108 (0, 0))).alloc (.cells #[.int .i64 m, .iface T1 x1, .iface T2 x2] 145 (0, 0)) = W at hg0 hb1 hb2 hA1 ⊢
  clear hW
  have HS : Hid (∀ wd, World.grownBy W wd none → wd.cell? ⟨w.heap.size, 0, none⟩ = some (ptr st) ∧ wd.cell? ⟨w.heap.size, 1, none⟩ = some (.slice (some ⟨A, 0, none⟩) 5 5) ∧ wd.cell? ⟨w.heap.size + 1, 1, none⟩ = some (.iface T1 x1) ∧ wd.cell? ⟨w.heap.size + 1, 2, none⟩ = some (.iface T2 x2)) := fun wd hg => by
    have b1 := keepB' hb1 hg
    have b2 := keepB' hb2 hg
    refine ⟨?_, ?_, ?_, ?_⟩ <;> simp [World.cell?, b1, b2]
  have hgd : World.grownBy W W.drew none := grown_same (grown_refl _ _) rfl rfl rfl rfl
  refine wp_region_held_drew (S := fun wd => wd.cell? ⟨w.heap.size, 0, none⟩ = some (ptr st) ∧ wd.cell? ⟨w.heap.size, 1, none⟩ = some (.slice (some ⟨A, 0, none⟩) 5 5) ∧ wd.cell? ⟨w.heap.size + 1, 1, none⟩ = some (.iface T1 x1) ∧ wd.cell? ⟨w.heap.size + 1, 2, none⟩ = some (.iface T2 x2)) (by kernel_rfl) (HS.out _ hgd) (fun hHeld => ?_)
  refine wpAnyH_take (i := 0) (v := mk st A) rfl (by kernel_rfl) (by kernel_rfl) (by kernel_rfl) (fun _ _ _ h => h) (Or.inl ⟨by rfl, fun wd hSw => ?_⟩) hHeld ?_
  · obtain ⟨s1, s2, s3, s4⟩ := hSw; go_simp
  refine wpAnyH_take (i := 1) (v := .pointer (some ⟨w.heap.size + 1, 1, none⟩)) rfl (by kernel_rfl) (by kernel_rfl) (by kernel_rfl) (fun _ _ _ h => h) (Or.inl ⟨by rfl, fun wd hSw => ?_⟩) hHeld ?_
  · obtain ⟨s1, s2, s3, s4⟩ := hSw; go_simp
  refine wpAnyH_take (i := 2) (v := .iface T1 x1) rfl (by kernel_rfl) (by kernel_rfl) (by kernel_rfl) (fun _ _ _ h => h) (Or.inl ⟨by rfl, fun wd hSw => ?_⟩) hHeld ?_
  · obtain ⟨s1, s2, s3, s4⟩ := hSw; go_simp
  refine wpAnyH_take (i := 4) (v := mk st A) rfl (by kernel_rfl) (by kernel_rfl) (by kernel_rfl) (fun _ _ _ h => h) (Or.inl ⟨by rfl, fun wd hSw => ?_⟩) hHeld ?_
  · obtain ⟨s1, s2, s3, s4⟩ := hSw; go_simp
  refine wpAnyH_take (i := 5) (v := .pointer (some ⟨w.heap.size + 1, 2, none⟩)) rfl (by kernel_rfl) (by kernel_rfl) (by kernel_rfl) (fun _ _ _ h => h) (Or.inl ⟨by rfl, fun wd hSw => ?_⟩) hHeld ?_
  · obtain ⟨s1, s2, s3, s4⟩ := hSw; go_simp
  refine wpAnyH_take (i := 6) (v := .iface T2 x2) rfl (by kernel_rfl) (by kernel_rfl) (by kernel_rfl) (fun _ _ _ h => h) (Or.inl ⟨by rfl, fun wd hSw => ?_⟩) hHeld ?_
  · obtain ⟨s1, s2, s3, s4⟩ := hSw; go_simp
  refine two_calls (W0 := W) (st := st) (x := x) (y := y) (fun v1 v2 p q => #[mk st A, .agg #[.int .i64 m, .iface T1 x1, .iface T2 x2], ptr w.heap.size, ptr (w.heap.size + 1), .nilFunc, p, q, mk st A, .pointer (some ⟨w.heap.size + 1, 1, none⟩), .iface T1 x1, v1, mk st A, .pointer (some ⟨w.heap.size + 1, 2, none⟩), .iface T2 x2, v2, undef]) ?_ HS.out ?_ ?_ ?_ ?_ ?_ ?_ ?_ 6 false false false false false false undef undef undef undef _ rfl ⟨hgd, .inr ⟨rfl, rfl⟩, .inr ⟨rfl, rfl⟩, .inr ⟨rfl, rfl⟩, .inr ⟨rfl, rfl⟩, by simp, by simp, by simp, by simp⟩
  · intro c1 c2 a5 a6 s1 s2 o1 o2 o3
    cases c1 <;> cases c2 <;> cases a5 <;> cases a6 <;> cases s1 <;> cases s2 <;> first | (exact absurd (o1 rfl) (by decide)) | (exact absurd (o2 rfl) (by decide)) | (exact absurd (o3 rfl) (by decide)) | kernel_rfl
  · intro p q wd K hg hK
    refine wpOp_step rfl (fun K' hK' => ?_)
    go_simp
    refine (HX.out _ (keepB' hA1 hg)).mono ?_
    rintro e w' ⟨f, c, rfl, hg', hc⟩
    exact hK' _ _ (hK f c w' hg' hc)
  · intro v1 p q wd K hg hK
    refine wpOp_step rfl (fun K' hK' => ?_)
    go_simp
    refine (HY.out _ (keepB' hA1 hg)).mono ?_
    rintro e w' ⟨f, c, rfl, hg', hc⟩
    exact hK' _ _ (hK f c w' hg' hc)
  · intro v1 v2 q wd K hK
    refine wpOp_step rfl (fun K' hK' => ?_)
    go_simp
    exact hK' _ _ hK
  · intro v1 v2 p wd K hK
    refine wpOp_step rfl (fun K' hK' => ?_)
    go_simp
    exact hK' _ _ hK
  · intro f c v2 k q wd z K hk hK
    obtain ⟨k0, kf⟩ := one_cell hk
    refine wpOp_step rfl (fun K' hK' => ?_)
    go_simp
    exact hK' _ _ hK
  · intro v1 f c p k wd z K hk hK
    obtain ⟨k0, kf⟩ := one_cell hk
    refine wpOp_step rfl (fun K' hK' => ?_)
    go_simp
    exact hK' _ _ hK
  · intro f1 d1 f2 d2 k m' wd hg h1 h2 h3 h4
    have HF : Hid (Made st (.letE m x y) w (.returned (fnv 122 #[ptr k, ptr m'])) wd) := ⟨122, _, rfl, grown_trans hg0 hg, rfl, k, m', f1, d1, f2, d2, rfl, h1, h2, h3, h4⟩
    clear h1 h2 h3 h4
    go_wp2_with fail
    go_ret
    exact HF.out
set_option maxRecDepth 100000 in
set_option maxHeartbeats 64000000 in
theorem mreck (op : UInt8) (hop : Sign5 op) (x y : T) (ix : CM x) (iy : CM y) (st A : Nat) (w : World) (hA : w.heap[A]? = some (.cells sgCells 130 (0, 0))) : Calls Tryz.prog 95 #[mk st A, .agg #[.string ⟨#[op]⟩, pv x, pv y]] w (Made st (.bin op x y) w) := by
  have hmf := mf_ok
  obtain ⟨T1, x1, e1⟩ := pv_iface x
  obtain ⟨T2, x2, e2⟩ := pv_iface y
  have HX : Hid (∀ wd, wd.heap[A]? = some (.cells sgCells 130 (0, 0)) → Calls Tryz.prog 60 #[mk st A, .iface T1 x1] wd (Made st x wd)) := fun wd h => e1 ▸ ix st A wd h
  have HY : Hid (∀ wd, wd.heap[A]? = some (.cells sgCells 130 (0, 0)) → Calls Tryz.prog 60 #[mk st A, .iface T2 x2] wd (Made st y wd)) := fun wd h => e2 ▸ iy st A wd h
  have hg0 := grown_alloc (grown_alloc (grown_refl w none) (.cells #[ptr st, .slice (some ⟨A, 0, none⟩) 5 5] 108 (0, 0))) (.cells #[.string ⟨#[op]⟩, .iface T1 x1, .iface T2 x2] 151 (0, 0))
  have hb1 := keepB' (alloc_at w (.cells #[ptr st, .slice (some ⟨A, 0, none⟩) 5 5] 108 (0, 0)) _ rfl) (grown_alloc (grown_refl _ none) (.cells #[.string ⟨#[op]⟩, .iface T1 x1, .iface T2 x2] 151 (0, 0)))
  have hb2 := alloc_at (w.alloc (.cells #[ptr st, .slice (some ⟨A, 0, none⟩) 5 5] 108 (0, 0))) (.cells #[.string ⟨#[op]⟩, .iface T1 x1, .iface T2 x2] 151 (0, 0)) (w.heap.size + 1) (by rw [alloc_size])
  have hA1 := keepB' hA hg0
  rw [e1, e2]
  clear e1 e2 hA
  go_enter Tryz.func95, Tryz.ntmps95
  have HK : Hid (Calls Tryz.prog 125 #[mk st A, .string ⟨#[op]⟩] _ _) := work_of op hop st A _ hA1
  go_wp2_with fail
  refine HK.out.mono ?_
  rintro e w1 ⟨rfl, hg1⟩
  have hg2 := grown_alloc (grown_refl w1 none) (.cells #[fnv (workOf op) #[]] 128 (0, 0))
  have hb3 := alloc_at w1 (.cells #[fnv (workOf op) #[]] 128 (0, 0)) _ rfl
  have hg0 := grown_trans (grown_trans hg0 hg1) hg2
  have hb1 := keepB' (keepB' hb1 hg1) hg2
  have hb2 := keepB' (keepB' hb2 hg1) hg2
  have hA1 := keepB' (keepB' hA1 hg1) hg2
  go_wp2_with fail
  generalize hW : w1.alloc (.cells #[fnv (workOf op) #[]] 128 (0, 0)) = W at hg0 hb1 hb2 hb3 hA1 ⊢
  generalize w1.heap.size = kw at hb3 ⊢
  clear hW hg1 hg2
  have HS : Hid (∀ wd, World.grownBy W wd none → wd.cell? ⟨w.heap.size, 0, none⟩ = some (ptr st) ∧ wd.cell? ⟨w.heap.size, 1, none⟩ = some (.slice (some ⟨A, 0, none⟩) 5 5) ∧ wd.cell? ⟨w.heap.size + 1, 1, none⟩ = some (.iface T1 x1) ∧ wd.cell? ⟨w.heap.size + 1, 2, none⟩ = some (.iface T2 x2)) := fun wd hg => by
    have b1 := keepB' hb1 hg
    have b2 := keepB' hb2 hg
    refine ⟨?_, ?_, ?_, ?_⟩ <;> simp [World.cell?, b1, b2]
  have hgd : World.grownBy W W.drew none := grown_same (grown_refl _ _) rfl rfl rfl rfl
  refine wp_region_held_drew (S := fun wd => wd.cell? ⟨w.heap.size, 0, none⟩ = some (ptr st) ∧ wd.cell? ⟨w.heap.size, 1, none⟩ = some (.slice (some ⟨A, 0, none⟩) 5 5) ∧ wd.cell? ⟨w.heap.size + 1, 1, none⟩ = some (.iface T1 x1) ∧ wd.cell? ⟨w.heap.size + 1, 2, none⟩ = some (.iface T2 x2)) (by kernel_rfl) (HS.out _ hgd) (fun hHeld => ?_)
  refine wpAnyH_take (i := 0) (v := mk st A) rfl (by kernel_rfl) (by kernel_rfl) (by kernel_rfl) (fun _ _ _ h => h) (Or.inl ⟨by rfl, fun wd hSw => ?_⟩) hHeld ?_
  · obtain ⟨s1, s2, s3, s4⟩ := hSw; go_simp
  refine wpAnyH_take (i := 1) (v := .pointer (some ⟨w.heap.size + 1, 1, none⟩)) rfl (by kernel_rfl) (by kernel_rfl) (by kernel_rfl) (fun _ _ _ h => h) (Or.inl ⟨by rfl, fun wd hSw => ?_⟩) hHeld ?_
  · obtain ⟨s1, s2, s3, s4⟩ := hSw; go_simp
  refine wpAnyH_take (i := 2) (v := .iface T1 x1) rfl (by kernel_rfl) (by kernel_rfl) (by kernel_rfl) (fun _ _ _ h => h) (Or.inl ⟨by rfl, fun wd hSw => ?_⟩) hHeld ?_
  · obtain ⟨s1, s2, s3, s4⟩ := hSw; go_simp
  refine wpAnyH_take (i := 4) (v := mk st A) rfl (by kernel_rfl) (by kernel_rfl) (by kernel_rfl) (fun _ _ _ h => h) (Or.inl ⟨by rfl, fun wd hSw => ?_⟩) hHeld ?_
  · obtain ⟨s1, s2, s3, s4⟩ := hSw; go_simp
  refine wpAnyH_take (i := 5) (v := .pointer (some ⟨w.heap.size + 1, 2, none⟩)) rfl (by kernel_rfl) (by kernel_rfl) (by kernel_rfl) (fun _ _ _ h => h) (Or.inl ⟨by rfl, fun wd hSw => ?_⟩) hHeld ?_
  · obtain ⟨s1, s2, s3, s4⟩ := hSw; go_simp
  refine wpAnyH_take (i := 6) (v := .iface T2 x2) rfl (by kernel_rfl) (by kernel_rfl) (by kernel_rfl) (fun _ _ _ h => h) (Or.inl ⟨by rfl, fun wd hSw => ?_⟩) hHeld ?_
  · obtain ⟨s1, s2, s3, s4⟩ := hSw; go_simp
  refine two_calls (W0 := W) (st := st) (x := x) (y := y) (fun v1 v2 p q => #[mk st A, .agg #[.string ⟨#[op]⟩, .iface T1 x1, .iface T2 x2], ptr w.heap.size, ptr (w.heap.size + 1), .nilFunc, ptr kw, p, q, mk st A, ptr (w.heap.size + 1), .string ⟨#[op]⟩, fnv (workOf op) #[], mk st A, .pointer (some ⟨w.heap.size + 1, 1, none⟩), .iface T1 x1, v1, mk st A, .pointer (some ⟨w.heap.size + 1, 2, none⟩), .iface T2 x2, v2, undef]) ?_ HS.out ?_ ?_ ?_ ?_ ?_ ?_ ?_ 6 false false false false false false undef undef undef undef _ rfl ⟨hgd, .inr ⟨rfl, rfl⟩, .inr ⟨rfl, rfl⟩, .inr ⟨rfl, rfl⟩, .inr ⟨rfl, rfl⟩, by simp, by simp, by simp, by simp⟩
  · intro c1 c2 a5 a6 s1 s2 o1 o2 o3
    cases c1 <;> cases c2 <;> cases a5 <;> cases a6 <;> cases s1 <;> cases s2 <;> first | (exact absurd (o1 rfl) (by decide)) | (exact absurd (o2 rfl) (by decide)) | (exact absurd (o3 rfl) (by decide)) | kernel_rfl
  · intro p q wd K hg hK
    refine wpOp_step rfl (fun K' hK' => ?_)
    go_simp
    refine (HX.out _ (keepB' hA1 hg)).mono ?_
    rintro e w' ⟨f, c, rfl, hg', hc⟩
    exact hK' _ _ (hK f c w' hg' hc)
  · intro v1 p q wd K hg hK
    refine wpOp_step rfl (fun K' hK' => ?_)
    go_simp
    refine (HY.out _ (keepB' hA1 hg)).mono ?_
    rintro e w' ⟨f, c, rfl, hg', hc⟩
    exact hK' _ _ (hK f c w' hg' hc)
  · intro v1 v2 q wd K hK
    refine wpOp_step rfl (fun K' hK' => ?_)
    go_simp
    exact hK' _ _ hK
  · intro v1 v2 p wd K hK
    refine wpOp_step rfl (fun K' hK' => ?_)
    go_simp
    exact hK' _ _ hK
  · intro f c v2 k q wd z K hk hK
    obtain ⟨k0, kf⟩ := one_cell hk
    refine wpOp_step rfl (fun K' hK' => ?_)
    go_simp
    exact hK' _ _ hK
  · intro v1 f c p k wd z K hk hK
    obtain ⟨k0, kf⟩ := one_cell hk
    refine wpOp_step rfl (fun K' hK' => ?_)
    go_simp
    exact hK' _ _ hK
  · intro f1 d1 f2 d2 k m wd hg h1 h2 h3 h4
    have hmk := keepB' hb3 hg
    have HF : Hid (Made st (.bin op x y) w (.returned (fnv 126 #[ptr k, ptr m, ptr kw])) wd) := ⟨126, _, rfl, grown_trans hg0 hg, hop, rfl, k, m, kw, f1, d1, f2, d2, rfl, h1, h2, hmk, h3, h4⟩
    clear h1 h2 h3 h4 hmk
    go_wp2_with fail
    go_ret
    exact HF.out
end Go.Proofs.YtdpbclnpmkhooaaGreatDoor
