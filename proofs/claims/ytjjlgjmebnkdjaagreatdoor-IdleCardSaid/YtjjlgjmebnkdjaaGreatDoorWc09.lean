/-
  The plain model of a value as text: it ends (for stage 3).
  The program makes closures of a tree: the use of a function.
  The program makes closures of a tree: let, a sign.
  A region that makes closures of three parts, in whatever order its cells are made: one proof for all orders.
-/
import Derived.Test.YtjjlgjmebnkdjaaGreatDoorWc07
import Derived.Test.YtjjlgjmebnkdjaaGreatDoorWc06
namespace Skein
open Go

theorem sz_two (x : T) : 2 ≤ sz x := by
  induction x with
  | letE n a b _ _ => simp only [sz]; omega
  | fn n a ia => simp only [sz]; omega
  | ite a b c _ _ _ => have := sz_pos a; have := sz_pos b; simp only [sz]; omega
  | app a b _ _ => simp only [sz]; omega
  | un op a _ => simp only [sz]; omega
  | bin op a b _ _ => simp only [sz]; omega
  | _ => simp [sz]

def TOk (B N : Nat) : TJ → Prop
  | .val v => VOk B N v
  | .parts _ i j => i < N ∧ j < N
def tcost : TJ → Nat
  | .val _ => 3
  | .parts _ _ _ => 2

structure TEnds (L B : Nat) (num : Int → ByteArray) (fnT : ByteArray) (n : Nat) (j : TJ) (S : E) (r : Except Int ByteArray × E) : Prop where
  run : tell L num fnT n j S = some r
  pot : Skein.pot L B r.2 ≤ Skein.pot L B S
  ok : HOk B r.2
  len : S.heap.length ≤ r.2.heap.length

theorem pot_step (L B : Nat) (S : E) (h : ¬ L ≤ S.steps) : Skein.pot L B ⟨S.heap, S.steps + 1⟩ + (B + 1) = Skein.pot L B S := by
  have hd : (L - S.steps) * (B + 1) = (L - (S.steps + 1)) * (B + 1) + (B + 1) := by
    rw [← Nat.succ_mul]; congr 1; omega
  simp only [Skein.pot, hd]; omega

theorem tell_ends (L B : Nat) (num : Int → ByteArray) (fnT : ByteArray) (hB : 2 ≤ B) : ∀ (n : Nat) (j : TJ) (S : E), HOk B S → TOk B S.heap.length j → Skein.pot L B S + tcost j < n → ∃ r, TEnds L B num fnT n j S r := by
  intro n
  induction n with
  | zero => intro j S _ _ h; omega
  | succ n ih =>
    intro j S hS hj hn
    cases j with
    | val v =>
      cases v with
      | num k => exact ⟨(.ok (num k), S), by simp only [tell], Nat.le_refl _, hS, Nat.le_refl _⟩
      | fn b e => exact ⟨(.ok fnT, S), by simp only [tell], Nat.le_refl _, hS, Nat.le_refl _⟩
      | nil => exact ⟨(.ok ⟨#[91, 93]⟩, S), by simp only [tell], Nat.le_refl _, hS, Nat.le_refl _⟩
      | cons a b =>
        obtain ⟨r, h1⟩ := ih (.parts ⟨#[91]⟩ a b) S hS hj (by simp only [tcost] at hn ⊢; omega)
        exact ⟨r, by simp only [tell]; exact h1.run, h1.pot, h1.ok, h1.len⟩
    | parts acc i j =>
      simp only [tcost] at hn
      by_cases hl : L ≤ S.steps
      · exact ⟨(.error 8, S), by simp only [tell, if_pos hl], Nat.le_refl _, hS, Nat.le_refl _⟩
      · have hp := pot_step L B S hl
        obtain ⟨r1, h1⟩ := ev_ends L B n (.force i) ⟨S.heap, S.steps + 1⟩ (by exact hS) (by exact hj.1) (by simp only [cost]; omega)
        have hp1 := h1.pot
        simp only [cost] at hp1
        have hl1 := h1.len
        simp only at hl1
        rcases hr : r1.1 with v | z
        · have hv := h1.val
          rw [hr] at hv
          obtain ⟨t, h2⟩ := ih (.val v) r1.2 h1.ok hv (by simp only [tcost]; omega)
          have hp2 := h2.pot
          rcases ht : t.1 with z | s
          · exact ⟨(.error z, t.2), by simp only [tell, if_neg hl, h1.run, Option.bind_some, hr, h2.run, ht], by show Skein.pot L B t.2 ≤ _; omega, h2.ok, Nat.le_trans hl1 h2.len⟩
          · obtain ⟨q, h3⟩ := ev_ends L B n (.force j) t.2 h2.ok (by have := h2.len; have := hj.2; show j < _; omega) (by simp only [cost]; omega)
            have hp3 := h3.pot
            simp only [cost] at hp3
            have hl3 := Nat.le_trans (Nat.le_trans hl1 h2.len) h3.len
            rcases hq : q.1 with v2 | z
            · have hv2 := h3.val
              rw [hq] at hv2
              cases v2 with
              | nil => exact ⟨(.ok (acc ++ s ++ ⟨#[93]⟩), q.2), by simp only [tell, if_neg hl, h1.run, Option.bind_some, hr, h2.run, ht, h3.run, hq], by show Skein.pot L B q.2 ≤ _; omega, h3.ok, hl3⟩
              | cons i' j' =>
                obtain ⟨r, h4⟩ := ih (.parts (acc ++ s ++ ⟨#[44, 32]⟩) i' j') q.2 h3.ok hv2 (by simp only [tcost]; omega)
                have hp4 := h4.pot
                exact ⟨r, by simp only [tell, if_neg hl, h1.run, Option.bind_some, hr, h2.run, ht, h3.run, hq]; exact h4.run, by omega, h4.ok, Nat.le_trans hl3 h4.len⟩
              | num k => exact ⟨(.error 5, q.2), by simp only [tell, if_neg hl, h1.run, Option.bind_some, hr, h2.run, ht, h3.run, hq], by show Skein.pot L B q.2 ≤ _; omega, h3.ok, hl3⟩
              | fn b e => exact ⟨(.error 5, q.2), by simp only [tell, if_neg hl, h1.run, Option.bind_some, hr, h2.run, ht, h3.run, hq], by show Skein.pot L B q.2 ≤ _; omega, h3.ok, hl3⟩
            · exact ⟨(.error z, q.2), by simp only [tell, if_neg hl, h1.run, Option.bind_some, hr, h2.run, ht, h3.run, hq], by show Skein.pot L B q.2 ≤ _; omega, h3.ok, hl3⟩
        · exact ⟨(.error z, r1.2), by simp only [tell, if_neg hl, h1.run, Option.bind_some, hr], by show Skein.pot L B r1.2 ≤ _; omega, h1.ok, hl1⟩
end Skein

namespace Go.Proofs.YtjjlgjmebnkdjaaGreatDoor
open Go Go.Proofs Go.RowKit Skein

theorem one_cell {w : World} {k T : Nat} {z : Value} (h : w.heap[k]? = some (.cells #[z] T (0, 0))) : w.cell? ⟨k, 0, none⟩ = some z ∧ ∀ o, w.frozen? ⟨k, o, none⟩ = false := by
  refine ⟨?_, fun o => ?_⟩ <;> simp [World.cell?, World.frozen?, h]

set_option maxRecDepth 100000 in
set_option maxHeartbeats 64000000 in
theorem muse (x y : T) (ix : CM x) (iy : CM y) (st A A2 : Nat) (w : World) (hA : TB w A A2) : Calls Tryz.prog 105 #[mk st A A2, .agg #[pv x, pv y]] w (Made st (.app x y) w) := by
  have hmf := mf_ok
  obtain ⟨T1, x1, e1⟩ := pv_iface x
  obtain ⟨T2, x2, e2⟩ := pv_iface y
  have HX : Hid (∀ wd, TB wd A A2 → Calls Tryz.prog 67 #[mk st A A2, .iface T1 x1] wd (Made st x wd)) := fun wd h => e1 ▸ ix st A A2 wd h
  have HY : Hid (∀ wd, TB wd A A2 → Calls Tryz.prog 67 #[mk st A A2, .iface T2 x2] wd (Made st y wd)) := fun wd h => e2 ▸ iy st A A2 wd h
  have hg0 := grown_alloc (grown_alloc (grown_refl w none) (.cells #[ptr st, .slice (some ⟨A, 0, none⟩) 5 5, .slice (some ⟨A2, 0, none⟩) 3 3] 114 (0, 0))) (.cells #[.iface T1 x1, .iface T2 x2] 158 (0, 0))
  have hb1 := keepB' (alloc_at w (.cells #[ptr st, .slice (some ⟨A, 0, none⟩) 5 5, .slice (some ⟨A2, 0, none⟩) 3 3] 114 (0, 0)) _ rfl) (grown_alloc (grown_refl _ none) (.cells #[.iface T1 x1, .iface T2 x2] 158 (0, 0)))
  have hb2 := alloc_at (w.alloc (.cells #[ptr st, .slice (some ⟨A, 0, none⟩) 5 5, .slice (some ⟨A2, 0, none⟩) 3 3] 114 (0, 0))) (.cells #[.iface T1 x1, .iface T2 x2] 158 (0, 0)) (w.heap.size + 1) (by rw [alloc_size])
  have hA1 := TB.keep hA hg0
  rw [e1, e2]
  clear e1 e2 hA
  go_enter Tryz.func105, Tryz.ntmps105
  go_wp2_with fail
  generalize hW : (w.alloc (.cells #[ptr st, .slice (some ⟨A, 0, none⟩) 5 5, .slice (some ⟨A2, 0, none⟩) 3 3] 114 (0, 0))).alloc (.cells #[.iface T1 x1, .iface T2 x2] 158 (0, 0)) = W at hg0 hb1 hb2 hA1 ⊢
  clear hW
  have HS : Hid (∀ wd, World.grownBy W wd none → wd.cell? ⟨w.heap.size, 0, none⟩ = some (ptr st) ∧ wd.cell? ⟨w.heap.size, 1, none⟩ = some (.slice (some ⟨A, 0, none⟩) 5 5) ∧ wd.cell? ⟨w.heap.size, 2, none⟩ = some (.slice (some ⟨A2, 0, none⟩) 3 3) ∧ wd.cell? ⟨w.heap.size + 1, 0, none⟩ = some (.iface T1 x1) ∧ wd.cell? ⟨w.heap.size + 1, 1, none⟩ = some (.iface T2 x2)) := fun wd hg => by
    have b1 := keepB' hb1 hg
    have b2 := keepB' hb2 hg
    refine ⟨?_, ?_, ?_, ?_, ?_⟩ <;> simp [World.cell?, b1, b2]
  have hgd : World.grownBy W W.drew none := grown_same (grown_refl _ _) rfl rfl rfl rfl
  refine wp_region_held_drew (S := fun wd => wd.cell? ⟨w.heap.size, 0, none⟩ = some (ptr st) ∧ wd.cell? ⟨w.heap.size, 1, none⟩ = some (.slice (some ⟨A, 0, none⟩) 5 5) ∧ wd.cell? ⟨w.heap.size, 2, none⟩ = some (.slice (some ⟨A2, 0, none⟩) 3 3) ∧ wd.cell? ⟨w.heap.size + 1, 0, none⟩ = some (.iface T1 x1) ∧ wd.cell? ⟨w.heap.size + 1, 1, none⟩ = some (.iface T2 x2)) (by kernel_rfl) (HS.out _ hgd) (fun hHeld => ?_)
  refine wpAnyH_take (i := 0) (v := mk st A A2) rfl (by kernel_rfl) (by kernel_rfl) (by kernel_rfl) (fun _ _ _ h => h) (Or.inl ⟨by rfl, fun wd hSw => ?_⟩) hHeld ?_
  · obtain ⟨s1, s2, sx, s3, s4⟩ := hSw; go_simp
  refine wpAnyH_take (i := 1) (v := ptr (w.heap.size + 1)) rfl (by kernel_rfl) (by kernel_rfl) (by kernel_rfl) (fun _ _ _ h => h) (Or.inl ⟨by rfl, fun wd hSw => ?_⟩) hHeld ?_
  · obtain ⟨s1, s2, sx, s3, s4⟩ := hSw; go_simp
  refine wpAnyH_take (i := 2) (v := .iface T1 x1) rfl (by kernel_rfl) (by kernel_rfl) (by kernel_rfl) (fun _ _ _ h => h) (Or.inl ⟨by rfl, fun wd hSw => ?_⟩) hHeld ?_
  · obtain ⟨s1, s2, sx, s3, s4⟩ := hSw; go_simp
  refine wpAnyH_take (i := 4) (v := mk st A A2) rfl (by kernel_rfl) (by kernel_rfl) (by kernel_rfl) (fun _ _ _ h => h) (Or.inl ⟨by rfl, fun wd hSw => ?_⟩) hHeld ?_
  · obtain ⟨s1, s2, sx, s3, s4⟩ := hSw; go_simp
  refine wpAnyH_take (i := 5) (v := .pointer (some ⟨w.heap.size + 1, 1, none⟩)) rfl (by kernel_rfl) (by kernel_rfl) (by kernel_rfl) (fun _ _ _ h => h) (Or.inl ⟨by rfl, fun wd hSw => ?_⟩) hHeld ?_
  · obtain ⟨s1, s2, sx, s3, s4⟩ := hSw; go_simp
  refine wpAnyH_take (i := 6) (v := .iface T2 x2) rfl (by kernel_rfl) (by kernel_rfl) (by kernel_rfl) (fun _ _ _ h => h) (Or.inl ⟨by rfl, fun wd hSw => ?_⟩) hHeld ?_
  · obtain ⟨s1, s2, sx, s3, s4⟩ := hSw; go_simp
  refine two_calls_g (W0 := W) (t1 := 118) (t2 := 118) (K1 := Kept.code st x) (K2 := Kept.code st y) (fun v1 v2 p q => #[mk st A A2, .agg #[.iface T1 x1, .iface T2 x2], ptr w.heap.size, ptr (w.heap.size + 1), .nilFunc, p, q, mk st A A2, ptr (w.heap.size + 1), .iface T1 x1, v1, mk st A A2, .pointer (some ⟨w.heap.size + 1, 1, none⟩), .iface T2 x2, v2, undef]) ?_ HS.out ?_ ?_ ?_ ?_ ?_ ?_ ?_ 6 false false false false false false undef undef undef undef _ rfl ⟨hgd, .inr ⟨rfl, rfl⟩, .inr ⟨rfl, rfl⟩, .inr ⟨rfl, rfl⟩, .inr ⟨rfl, rfl⟩, by simp, by simp, by simp, by simp⟩
  · intro c1 c2 a5 a6 s1 s2 o1 o2 o3
    cases c1 <;> cases c2 <;> cases a5 <;> cases a6 <;> cases s1 <;> cases s2 <;> first | (exact absurd (o1 rfl) (by decide)) | (exact absurd (o2 rfl) (by decide)) | (exact absurd (o3 rfl) (by decide)) | kernel_rfl
  · intro p q wd K hg hK
    refine wpOp_step rfl (fun K' hK' => ?_)
    go_simp
    refine (HX.out _ (TB.keep hA1 hg)).mono ?_
    rintro e w' ⟨f, c, rfl, hg', hc⟩
    exact hK' _ _ (hK f c w' hg' hc)
  · intro v1 p q wd K hg hK
    refine wpOp_step rfl (fun K' hK' => ?_)
    go_simp
    refine (HY.out _ (TB.keep hA1 hg)).mono ?_
    rintro e w' ⟨f, c, rfl, hg', hc⟩
    exact hK' _ _ (hK f c w' hg' hc)
  · intro v1 v2 q wd K hK
    refine wpOp_step rfl (fun K' hK' => ?_)
    go_simp
    exact hK' _ _ hK
  · intro v1 v2 p wd K hK
    refine wpOp_step rfl (fun K' hK' => ?_)
    go_simp
    exact hK' _ _ hK
  · intro f c v2 k q wd z K hk hK
    obtain ⟨k0, kf⟩ := one_cell hk
    refine wpOp_step rfl (fun K' hK' => ?_)
    go_simp
    exact hK' _ _ hK
  · intro v1 f c p k wd z K hk hK
    obtain ⟨k0, kf⟩ := one_cell hk
    refine wpOp_step rfl (fun K' hK' => ?_)
    go_simp
    exact hK' _ _ hK
  · intro f1 d1 f2 d2 k m wd hg h1 h2 h3 h4
    have hmk := keepB' hb1 hg
    have HF : Hid (Made st (.app x y) w (.returned (fnv 133 #[ptr k, ptr w.heap.size, ptr m])) wd) := ⟨133, _, rfl, grown_trans hg0 hg, rfl, k, w.heap.size, m, f1, d1, f2, d2, _, _, rfl, h1, hmk, h2, h3, h4⟩
    clear h1 h2 h3 h4 hmk
    go_wp2_with fail
    go_ret
    exact HF.out
end Go.Proofs.YtjjlgjmebnkdjaaGreatDoor

namespace Go.Proofs.YtjjlgjmebnkdjaaGreatDoor
open Go Go.Proofs Go.RowKit Skein

set_option maxRecDepth 100000 in
set_option maxHeartbeats 64000000 in
theorem mlet (m : Nat) (x y : T) (ix : CM x) (iy : CM y) (st A A2 : Nat) (w : World) (hA : TB w A A2) : Calls Tryz.prog 106 #[mk st A A2, .agg #[.int .i64 m, pv x, pv y]] w (Made st (.letE m x y) w) := by
  have hmf := mf_ok
  obtain ⟨T1, x1, e1⟩ := pv_iface x
  obtain ⟨T2, x2, e2⟩ := pv_iface y
  have HX : Hid (∀ wd, TB wd A A2 → Calls Tryz.prog 67 #[mk st A A2, .iface T1 x1] wd (Made st x wd)) := fun wd h => e1 ▸ ix st A A2 wd h
  have HY : Hid (∀ wd, TB wd A A2 → Calls Tryz.prog 67 #[mk st A A2, .iface T2 x2] wd (Made st y wd)) := fun wd h => e2 ▸ iy st A A2 wd h
  have hg0 := grown_alloc (grown_alloc (grown_refl w none) (.cells #[ptr st, .slice (some ⟨A, 0, none⟩) 5 5, .slice (some ⟨A2, 0, none⟩) 3 3] 114 (0, 0))) (.cells #[.int .i64 m, .iface T1 x1, .iface T2 x2] 161 (0, 0))
  have hb1 := keepB' (alloc_at w (.cells #[ptr st, .slice (some ⟨A, 0, none⟩) 5 5, .slice (some ⟨A2, 0, none⟩) 3 3] 114 (0, 0)) _ rfl) (grown_alloc (grown_refl _ none) (.cells #[.int .i64 m, .iface T1 x1, .iface T2 x2] 161 (0, 0)))
  have hb2 := alloc_at (w.alloc (.cells #[ptr st, .slice (some ⟨A, 0, none⟩) 5 5, .slice (some ⟨A2, 0, none⟩) 3 3] 114 (0, 0))) (.cells #[.int .i64 m, .iface T1 x1, .iface T2 x2] 161 (0, 0)) (w.heap.size + 1) (by rw [alloc_size])
  have hA1 := TB.keep hA hg0
  rw [e1, e2]
  clear e1 e2 hA
  go_enter Tryz.func106, Tryz.ntmps106
  go_wp2_with fail
  generalize hW : (w.alloc (.cells #[ptr st, .slice (some ⟨A, 0, none⟩) 5 5, .slice (some ⟨A2, 0, none⟩) 3 3] 114 (0, 0))).alloc (.cells #[.int .i64 m, .iface T1 x1, .iface T2 x2] 161 (0, 0)) = W at hg0 hb1 hb2 hA1 ⊢
  clear hW
  have HS : Hid (∀ wd, World.grownBy W wd none → wd.cell? ⟨w.heap.size, 0, none⟩ = some (ptr st) ∧ wd.cell? ⟨w.heap.size, 1, none⟩ = some (.slice (some ⟨A, 0, none⟩) 5 5) ∧ wd.cell? ⟨w.heap.size, 2, none⟩ = some (.slice (some ⟨A2, 0, none⟩) 3 3) ∧ wd.cell? ⟨w.heap.size + 1, 1, none⟩ = some (.iface T1 x1) ∧ wd.cell? ⟨w.heap.size + 1, 2, none⟩ = some (.iface T2 x2)) := fun wd hg => by
    have b1 := keepB' hb1 hg
    have b2 := keepB' hb2 hg
    refine ⟨?_, ?_, ?_, ?_, ?_⟩ <;> simp [World.cell?, b1, b2]
  have hgd : World.grownBy W W.drew none := grown_same (grown_refl _ _) rfl rfl rfl rfl
  refine wp_region_held_drew (S := fun wd => wd.cell? ⟨w.heap.size, 0, none⟩ = some (ptr st) ∧ wd.cell? ⟨w.heap.size, 1, none⟩ = some (.slice (some ⟨A, 0, none⟩) 5 5) ∧ wd.cell? ⟨w.heap.size, 2, none⟩ = some (.slice (some ⟨A2, 0, none⟩) 3 3) ∧ wd.cell? ⟨w.heap.size + 1, 1, none⟩ = some (.iface T1 x1) ∧ wd.cell? ⟨w.heap.size + 1, 2, none⟩ = some (.iface T2 x2)) (by kernel_rfl) (HS.out _ hgd) (fun hHeld => ?_)
  refine wpAnyH_take (i := 0) (v := mk st A A2) rfl (by kernel_rfl) (by kernel_rfl) (by kernel_rfl) (fun _ _ _ h => h) (Or.inl ⟨by rfl, fun wd hSw => ?_⟩) hHeld ?_
  · obtain ⟨s1, s2, sx, s3, s4⟩ := hSw; go_simp
  refine wpAnyH_take (i := 1) (v := .pointer (some ⟨w.heap.size + 1, 1, none⟩)) rfl (by kernel_rfl) (by kernel_rfl) (by kernel_rfl) (fun _ _ _ h => h) (Or.inl ⟨by rfl, fun wd hSw => ?_⟩) hHeld ?_
  · obtain ⟨s1, s2, sx, s3, s4⟩ := hSw; go_simp
  refine wpAnyH_take (i := 2) (v := .iface T1 x1) rfl (by kernel_rfl) (by kernel_rfl) (by kernel_rfl) (fun _ _ _ h => h) (Or.inl ⟨by rfl, fun wd hSw => ?_⟩) hHeld ?_
  · obtain ⟨s1, s2, sx, s3, s4⟩ := hSw; go_simp
  refine wpAnyH_take (i := 4) (v := mk st A A2) rfl (by kernel_rfl) (by kernel_rfl) (by kernel_rfl) (fun _ _ _ h => h) (Or.inl ⟨by rfl, fun wd hSw => ?_⟩) hHeld ?_
  · obtain ⟨s1, s2, sx, s3, s4⟩ := hSw; go_simp
  refine wpAnyH_take (i := 5) (v := .pointer (some ⟨w.heap.size + 1, 2, none⟩)) rfl (by kernel_rfl) (by kernel_rfl) (by kernel_rfl) (fun _ _ _ h => h) (Or.inl ⟨by rfl, fun wd hSw => ?_⟩) hHeld ?_
  · obtain ⟨s1, s2, sx, s3, s4⟩ := hSw; go_simp
  refine wpAnyH_take (i := 6) (v := .iface T2 x2) rfl (by kernel_rfl) (by kernel_rfl) (by kernel_rfl) (fun _ _ _ h => h) (Or.inl ⟨by rfl, fun wd hSw => ?_⟩) hHeld ?_
  · obtain ⟨s1, s2, sx, s3, s4⟩ := hSw; go_simp
  refine two_calls_g (W0 := W) (t1 := 118) (t2 := 118) (K1 := Kept.code st x) (K2 := Kept.code st y) (fun v1 v2 p q => #[mk st A A2, .agg #[.int .i64 m, .iface T1 x1, .iface T2 x2], ptr w.heap.size, ptr (w.heap.size + 1), .nilFunc, p, q, mk st A A2, .pointer (some ⟨w.heap.size + 1, 1, none⟩), .iface T1 x1, v1, mk st A A2, .pointer (some ⟨w.heap.size + 1, 2, none⟩), .iface T2 x2, v2, undef]) ?_ HS.out ?_ ?_ ?_ ?_ ?_ ?_ ?_ 6 false false false false false false undef undef undef undef _ rfl ⟨hgd, .inr ⟨rfl, rfl⟩, .inr ⟨rfl, rfl⟩, .inr ⟨rfl, rfl⟩, .inr ⟨rfl, rfl⟩, by simp, by simp, by simp, by simp⟩
  · intro c1 c2 a5 a6 s1 s2 o1 o2 o3
    cases c1 <;> cases c2 <;> cases a5 <;> cases a6 <;> cases s1 <;> cases s2 <;> first | (exact absurd (o1 rfl) (by decide)) | (exact absurd (o2 rfl) (by decide)) | (exact absurd (o3 rfl) (by decide)) | kernel_rfl
  · intro p q wd K hg hK
    refine wpOp_step rfl (fun K' hK' => ?_)
    go_simp
    refine (HX.out _ (TB.keep hA1 hg)).mono ?_
    rintro e w' ⟨f, c, rfl, hg', hc⟩
    exact hK' _ _ (hK f c w' hg' hc)
  · intro v1 p q wd K hg hK
    refine wpOp_step rfl (fun K' hK' => ?_)
    go_simp
    refine (HY.out _ (TB.keep hA1 hg)).mono ?_
    rintro e w' ⟨f, c, rfl, hg', hc⟩
    exact hK' _ _ (hK f c w' hg' hc)
  · intro v1 v2 q wd K hK
    refine wpOp_step rfl (fun K' hK' => ?_)
    go_simp
    exact hK' _ _ hK
  · intro v1 v2 p wd K hK
    refine wpOp_step rfl (fun K' hK' => ?_)
    go_simp
    exact hK' _ _ hK
  · intro f c v2 k q wd z K hk hK
    obtain ⟨k0, kf⟩ := one_cell hk
    refine wpOp_step rfl (fun K' hK' => ?_)
    go_simp
    exact hK' _ _ hK
  · intro v1 f c p k wd z K hk hK
    obtain ⟨k0, kf⟩ := one_cell hk
    refine wpOp_step rfl (fun K' hK' => ?_)
    go_simp
    exact hK' _ _ hK
  · intro f1 d1 f2 d2 k m' wd hg h1 h2 h3 h4
    have HF : Hid (Made st (.letE m x y) w (.returned (fnv 136 #[ptr k, ptr m'])) wd) := ⟨136, _, rfl, grown_trans hg0 hg, rfl, k, m', f1, d1, f2, d2, rfl, h1, h2, h3, h4⟩
    clear h1 h2 h3 h4
    go_wp2_with fail
    go_ret
    exact HF.out
set_option maxRecDepth 100000 in
set_option maxHeartbeats 64000000 in
theorem mreck (op : UInt8) (hop : Sign5 op) (x y : T) (ix : CM x) (iy : CM y) (st A A2 : Nat) (w : World) (hA : TB w A A2) : Calls Tryz.prog 108 #[mk st A A2, .agg #[.string ⟨#[op]⟩, pv x, pv y]] w (Made st (.bin op x y) w) := by
  have hmf := mf_ok
  obtain ⟨T1, x1, e1⟩ := pv_iface x
  obtain ⟨T2, x2, e2⟩ := pv_iface y
  have HX : Hid (∀ wd, TB wd A A2 → Calls Tryz.prog 67 #[mk st A A2, .iface T1 x1] wd (Made st x wd)) := fun wd h => e1 ▸ ix st A A2 wd h
  have HY : Hid (∀ wd, TB wd A A2 → Calls Tryz.prog 67 #[mk st A A2, .iface T2 x2] wd (Made st y wd)) := fun wd h => e2 ▸ iy st A A2 wd h
  have hg0 := grown_alloc (grown_alloc (grown_refl w none) (.cells #[ptr st, .slice (some ⟨A, 0, none⟩) 5 5, .slice (some ⟨A2, 0, none⟩) 3 3] 114 (0, 0))) (.cells #[.string ⟨#[op]⟩, .iface T1 x1, .iface T2 x2] 167 (0, 0))
  have hb1 := keepB' (alloc_at w (.cells #[ptr st, .slice (some ⟨A, 0, none⟩) 5 5, .slice (some ⟨A2, 0, none⟩) 3 3] 114 (0, 0)) _ rfl) (grown_alloc (grown_refl _ none) (.cells #[.string ⟨#[op]⟩, .iface T1 x1, .iface T2 x2] 167 (0, 0)))
  have hb2 := alloc_at (w.alloc (.cells #[ptr st, .slice (some ⟨A, 0, none⟩) 5 5, .slice (some ⟨A2, 0, none⟩) 3 3] 114 (0, 0))) (.cells #[.string ⟨#[op]⟩, .iface T1 x1, .iface T2 x2] 167 (0, 0)) (w.heap.size + 1) (by rw [alloc_size])
  have hA1 := TB.keep hA hg0
  rw [e1, e2]
  clear e1 e2 hA
  go_enter Tryz.func108, Tryz.ntmps108
  have HK : Hid (Calls Tryz.prog 139 #[mk st A A2, .string ⟨#[op]⟩] _ _) := work_of op hop st A A2 _ hA1.1
  go_wp2_with fail
  refine HK.out.mono ?_
  rintro e w1 ⟨rfl, hg1⟩
  have hg2 := grown_alloc (grown_refl w1 none) (.cells #[fnv (workOf op) #[]] 135 (0, 0))
  have hb3 := alloc_at w1 (.cells #[fnv (workOf op) #[]] 135 (0, 0)) _ rfl
  have hg0 := grown_trans (grown_trans hg0 hg1) hg2
  have hb1 := keepB' (keepB' hb1 hg1) hg2
  have hb2 := keepB' (keepB' hb2 hg1) hg2
  have hA1 := TB.keep (TB.keep hA1 hg1) hg2
  go_wp2_with fail
  generalize hW : w1.alloc (.cells #[fnv (workOf op) #[]] 135 (0, 0)) = W at hg0 hb1 hb2 hb3 hA1 ⊢
  generalize w1.heap.size = kw at hb3 ⊢
  clear hW hg1 hg2
  have HS : Hid (∀ wd, World.grownBy W wd none → wd.cell? ⟨w.heap.size, 0, none⟩ = some (ptr st) ∧ wd.cell? ⟨w.heap.size, 1, none⟩ = some (.slice (some ⟨A, 0, none⟩) 5 5) ∧ wd.cell? ⟨w.heap.size, 2, none⟩ = some (.slice (some ⟨A2, 0, none⟩) 3 3) ∧ wd.cell? ⟨w.heap.size + 1, 1, none⟩ = some (.iface T1 x1) ∧ wd.cell? ⟨w.heap.size + 1, 2, none⟩ = some (.iface T2 x2)) := fun wd hg => by
    have b1 := keepB' hb1 hg
    have b2 := keepB' hb2 hg
    refine ⟨?_, ?_, ?_, ?_, ?_⟩ <;> simp [World.cell?, b1, b2]
  have hgd : World.grownBy W W.drew none := grown_same (grown_refl _ _) rfl rfl rfl rfl
  refine wp_region_held_drew (S := fun wd => wd.cell? ⟨w.heap.size, 0, none⟩ = some (ptr st) ∧ wd.cell? ⟨w.heap.size, 1, none⟩ = some (.slice (some ⟨A, 0, none⟩) 5 5) ∧ wd.cell? ⟨w.heap.size, 2, none⟩ = some (.slice (some ⟨A2, 0, none⟩) 3 3) ∧ wd.cell? ⟨w.heap.size + 1, 1, none⟩ = some (.iface T1 x1) ∧ wd.cell? ⟨w.heap.size + 1, 2, none⟩ = some (.iface T2 x2)) (by kernel_rfl) (HS.out _ hgd) (fun hHeld => ?_)
  refine wpAnyH_take (i := 0) (v := mk st A A2) rfl (by kernel_rfl) (by kernel_rfl) (by kernel_rfl) (fun _ _ _ h => h) (Or.inl ⟨by rfl, fun wd hSw => ?_⟩) hHeld ?_
  · obtain ⟨s1, s2, sx, s3, s4⟩ := hSw; go_simp
  refine wpAnyH_take (i := 1) (v := .pointer (some ⟨w.heap.size + 1, 1, none⟩)) rfl (by kernel_rfl) (by kernel_rfl) (by kernel_rfl) (fun _ _ _ h => h) (Or.inl ⟨by rfl, fun wd hSw => ?_⟩) hHeld ?_
  · obtain ⟨s1, s2, sx, s3, s4⟩ := hSw; go_simp
  refine wpAnyH_take (i := 2) (v := .iface T1 x1) rfl (by kernel_rfl) (by kernel_rfl) (by kernel_rfl) (fun _ _ _ h => h) (Or.inl ⟨by rfl, fun wd hSw => ?_⟩) hHeld ?_
  · obtain ⟨s1, s2, sx, s3, s4⟩ := hSw; go_simp
  refine wpAnyH_take (i := 4) (v := mk st A A2) rfl (by kernel_rfl) (by kernel_rfl) (by kernel_rfl) (fun _ _ _ h => h) (Or.inl ⟨by rfl, fun wd hSw => ?_⟩) hHeld ?_
  · obtain ⟨s1, s2, sx, s3, s4⟩ := hSw; go_simp
  refine wpAnyH_take (i := 5) (v := .pointer (some ⟨w.heap.size + 1, 2, none⟩)) rfl (by kernel_rfl) (by kernel_rfl) (by kernel_rfl) (fun _ _ _ h => h) (Or.inl ⟨by rfl, fun wd hSw => ?_⟩) hHeld ?_
  · obtain ⟨s1, s2, sx, s3, s4⟩ := hSw; go_simp
  refine wpAnyH_take (i := 6) (v := .iface T2 x2) rfl (by kernel_rfl) (by kernel_rfl) (by kernel_rfl) (fun _ _ _ h => h) (Or.inl ⟨by rfl, fun wd hSw => ?_⟩) hHeld ?_
  · obtain ⟨s1, s2, sx, s3, s4⟩ := hSw; go_simp
  refine two_calls_g (W0 := W) (t1 := 118) (t2 := 118) (K1 := Kept.code st x) (K2 := Kept.code st y) (fun v1 v2 p q => #[mk st A A2, .agg #[.string ⟨#[op]⟩, .iface T1 x1, .iface T2 x2], ptr w.heap.size, ptr (w.heap.size + 1), .nilFunc, ptr kw, p, q, mk st A A2, ptr (w.heap.size + 1), .string ⟨#[op]⟩, fnv (workOf op) #[], mk st A A2, .pointer (some ⟨w.heap.size + 1, 1, none⟩), .iface T1 x1, v1, mk st A A2, .pointer (some ⟨w.heap.size + 1, 2, none⟩), .iface T2 x2, v2, undef]) ?_ HS.out ?_ ?_ ?_ ?_ ?_ ?_ ?_ 6 false false false false false false undef undef undef undef _ rfl ⟨hgd, .inr ⟨rfl, rfl⟩, .inr ⟨rfl, rfl⟩, .inr ⟨rfl, rfl⟩, .inr ⟨rfl, rfl⟩, by simp, by simp, by simp, by simp⟩
  · intro c1 c2 a5 a6 s1 s2 o1 o2 o3
    cases c1 <;> cases c2 <;> cases a5 <;> cases a6 <;> cases s1 <;> cases s2 <;> first | (exact absurd (o1 rfl) (by decide)) | (exact absurd (o2 rfl) (by decide)) | (exact absurd (o3 rfl) (by decide)) | kernel_rfl
  · intro p q wd K hg hK
    refine wpOp_step rfl (fun K' hK' => ?_)
    go_simp
    refine (HX.out _ (TB.keep hA1 hg)).mono ?_
    rintro e w' ⟨f, c, rfl, hg', hc⟩
    exact hK' _ _ (hK f c w' hg' hc)
  · intro v1 p q wd K hg hK
    refine wpOp_step rfl (fun K' hK' => ?_)
    go_simp
    refine (HY.out _ (TB.keep hA1 hg)).mono ?_
    rintro e w' ⟨f, c, rfl, hg', hc⟩
    exact hK' _ _ (hK f c w' hg' hc)
  · intro v1 v2 q wd K hK
    refine wpOp_step rfl (fun K' hK' => ?_)
    go_simp
    exact hK' _ _ hK
  · intro v1 v2 p wd K hK
    refine wpOp_step rfl (fun K' hK' => ?_)
    go_simp
    exact hK' _ _ hK
  · intro f c v2 k q wd z K hk hK
    obtain ⟨k0, kf⟩ := one_cell hk
    refine wpOp_step rfl (fun K' hK' => ?_)
    go_simp
    exact hK' _ _ hK
  · intro v1 f c p k wd z K hk hK
    obtain ⟨k0, kf⟩ := one_cell hk
    refine wpOp_step rfl (fun K' hK' => ?_)
    go_simp
    exact hK' _ _ hK
  · intro f1 d1 f2 d2 k m wd hg h1 h2 h3 h4
    have hmk := keepB' hb3 hg
    have HF : Hid (Made st (.bin op x y) w (.returned (fnv 140 #[ptr k, ptr m, ptr kw])) wd) := ⟨140, _, rfl, grown_trans hg0 hg, .inr ⟨hop, rfl, k, m, kw, f1, d1, f2, d2, rfl, h1, h2, hmk, h3, h4⟩⟩
    clear h1 h2 h3 h4 hmk
    go_wp2_with fail
    go_ret
    exact HF.out
end Go.Proofs.YtjjlgjmebnkdjaaGreatDoor

namespace Go.Proofs.YtjjlgjmebnkdjaaGreatDoor
open Go Go.Proofs Go.RowKit Skein

abbrev lst3 (c1 c2 c3 a1 a2 a3 s1 s2 s3 : Bool) : Array Bool := #[true, true, true, c1, true, true, true, c2, true, true, true, c3, a1, a2, a3, s1, s2, s3]

structure Iv3 (W0 : World) (st : Nat) (x y t : T) (c1 c2 c3 a1 a2 a3 s1 s2 s3 : Bool) (v1 v2 v3 p1 p2 p3 : Value) (w : World) : Prop where
  grown : World.grownBy W0 w none
  kc1 : (c1 = true ∧ ∃ f c, v1 = fnv f c ∧ CodeAt st w x f c) ∨ (c1 = false ∧ v1 = undef)
  kc2 : (c2 = true ∧ ∃ f c, v2 = fnv f c ∧ CodeAt st w y f c) ∨ (c2 = false ∧ v2 = undef)
  kc3 : (c3 = true ∧ ∃ f c, v3 = fnv f c ∧ CodeAt st w t f c) ∨ (c3 = false ∧ v3 = undef)
  ka1 : (a1 = true ∧ ∃ k z, p1 = ptr k ∧ W0.heap.size ≤ k ∧ w.heap[k]? = some (.cells #[z] 118 (0, 0)) ∧ (s1 = true → z = v1) ∧ (s1 = false → z = .nilFunc)) ∨ (a1 = false ∧ p1 = undef)
  ka2 : (a2 = true ∧ ∃ k z, p2 = ptr k ∧ W0.heap.size ≤ k ∧ w.heap[k]? = some (.cells #[z] 118 (0, 0)) ∧ (s2 = true → z = v2) ∧ (s2 = false → z = .nilFunc)) ∨ (a2 = false ∧ p2 = undef)
  ka3 : (a3 = true ∧ ∃ k z, p3 = ptr k ∧ W0.heap.size ≤ k ∧ w.heap[k]? = some (.cells #[z] 118 (0, 0)) ∧ (s3 = true → z = v3) ∧ (s3 = false → z = .nilFunc)) ∨ (a3 = false ∧ p3 = undef)
  ne12 : a1 = true → a2 = true → p1 ≠ p2
  ne13 : a1 = true → a3 = true → p1 ≠ p3
  ne23 : a2 = true → a3 = true → p2 ≠ p3
  oc2 : c2 = true → c1 = true
  oc3 : c3 = true → c2 = true
  os1 : s1 = true → c3 = true ∧ a1 = true ∧ a2 = true ∧ a3 = true
  os2 : s2 = true → s1 = true
  os3 : s3 = true → s2 = true

theorem rs_ne3 : ∀ c1 c2 c3 a1 a2 a3 s1 s2 s3 : Bool, (c2 = true → c1 = true) → (c3 = true → c2 = true) → (s1 = true → c3 = true ∧ a1 = true ∧ a2 = true ∧ a3 = true) → (s2 = true → s1 = true) → (s3 = true → s2 = true) → ¬ (c1 = true ∧ c2 = true ∧ c3 = true ∧ a1 = true ∧ a2 = true ∧ a3 = true ∧ s1 = true ∧ s2 = true ∧ s3 = true) →
    (if c1 then [] else [3]) ++ (if c1 && !c2 then [7] else []) ++ (if c2 && !c3 then [11] else []) ++ (if a1 then [] else [12]) ++ (if a2 then [] else [13]) ++ (if a3 then [] else [14]) ++ (if c3 && a1 && a2 && a3 && !s1 then [15] else []) ++ (if s1 && !s2 then [16] else []) ++ (if s2 && !s3 then [17] else []) ≠ ([] : List Nat) := by
  intro c1 c2 c3 a1 a2 a3 s1 s2 s3
  cases c1 <;> cases c2 <;> cases c3 <;> cases a1 <;> cases a2 <;> cases a3 <;> cases s1 <;> cases s2 <;> cases s3 <;> simp

section
variable {P : Program} {md : Region.Mode} {ops : Array Oper} {Q : Exit → Act → World → Prop} {S : World → Prop}

set_option maxHeartbeats 4000000 in
theorem three_calls (mkT : Value → Value → Value → Value → Value → Value → Array Value) {W0 : World} {st : Nat} {x y t : T}
    (hready : ∀ c1 c2 c3 a1 a2 a3 s1 s2 s3 : Bool, (c2 = true → c1 = true) → (c3 = true → c2 = true) → (s1 = true → c3 = true ∧ a1 = true ∧ a2 = true ∧ a3 = true) → (s2 = true → s1 = true) → (s3 = true → s2 = true) → Region.ready md ops (lst3 c1 c2 c3 a1 a2 a3 s1 s2 s3) = (if c1 then [] else [3]) ++ (if c1 && !c2 then [7] else []) ++ (if c2 && !c3 then [11] else []) ++ (if a1 then [] else [12]) ++ (if a2 then [] else [13]) ++ (if a3 then [] else [14]) ++ (if c3 && a1 && a2 && a3 && !s1 then [15] else []) ++ (if s1 && !s2 then [16] else []) ++ (if s2 && !s3 then [17] else []))
    (hS : ∀ w, World.grownBy W0 w none → S w)
    (hc1 : ∀  p1 p2 p3 w (K : Act → World → Prop), World.grownBy W0 w none → (∀ f c w', World.grownBy w w' none → CodeAt st w' x f c → K (act (mkT (fnv f c) undef undef p1 p2 p3)) w') → wpOp P ops Q 3 K (act (mkT undef undef undef p1 p2 p3)) w)
    (hc2 : ∀ v1 p1 p2 p3 w (K : Act → World → Prop), World.grownBy W0 w none → (∀ f c w', World.grownBy w w' none → CodeAt st w' y f c → K (act (mkT v1 (fnv f c) undef p1 p2 p3)) w') → wpOp P ops Q 7 K (act (mkT v1 undef undef p1 p2 p3)) w)
    (hc3 : ∀ v1 v2 p1 p2 p3 w (K : Act → World → Prop), World.grownBy W0 w none → (∀ f c w', World.grownBy w w' none → CodeAt st w' t f c → K (act (mkT v1 v2 (fnv f c) p1 p2 p3)) w') → wpOp P ops Q 11 K (act (mkT v1 v2 undef p1 p2 p3)) w)
    (ha1 : ∀ v1 v2 v3 p2 p3 w (K : Act → World → Prop), K (act (mkT v1 v2 v3 (ptr w.heap.size) p2 p3)) (w.alloc (.cells #[.nilFunc] 118 (0, 0))) → wpOp P ops Q 12 K (act (mkT v1 v2 v3 undef p2 p3)) w)
    (ha2 : ∀ v1 v2 v3 p1 p3 w (K : Act → World → Prop), K (act (mkT v1 v2 v3 p1 (ptr w.heap.size) p3)) (w.alloc (.cells #[.nilFunc] 118 (0, 0))) → wpOp P ops Q 13 K (act (mkT v1 v2 v3 p1 undef p3)) w)
    (ha3 : ∀ v1 v2 v3 p1 p2 w (K : Act → World → Prop), K (act (mkT v1 v2 v3 p1 p2 (ptr w.heap.size))) (w.alloc (.cells #[.nilFunc] 118 (0, 0))) → wpOp P ops Q 14 K (act (mkT v1 v2 v3 p1 p2 undef)) w)
    (hs1 : ∀ f c k v2 v3 p2 p3 w z (K : Act → World → Prop), w.heap[k]? = some (.cells #[z] 118 (0, 0)) → K (act (mkT (fnv f c) v2 v3 (ptr k) p2 p3)) (w.setCell ⟨k, 0, none⟩ (fnv f c)) → wpOp P ops Q 15 K (act (mkT (fnv f c) v2 v3 (ptr k) p2 p3)) w)
    (hs2 : ∀ f c k v1 v3 p1 p3 w z (K : Act → World → Prop), w.heap[k]? = some (.cells #[z] 118 (0, 0)) → K (act (mkT v1 (fnv f c) v3 p1 (ptr k) p3)) (w.setCell ⟨k, 0, none⟩ (fnv f c)) → wpOp P ops Q 16 K (act (mkT v1 (fnv f c) v3 p1 (ptr k) p3)) w)
    (hs3 : ∀ f c k v1 v2 p1 p2 w z (K : Act → World → Prop), w.heap[k]? = some (.cells #[z] 118 (0, 0)) → K (act (mkT v1 v2 (fnv f c) p1 p2 (ptr k))) (w.setCell ⟨k, 0, none⟩ (fnv f c)) → wpOp P ops Q 17 K (act (mkT v1 v2 (fnv f c) p1 p2 (ptr k))) w)
    (hQ : ∀ f1 d1 f2 d2 f3 d3 k1 k2 k3 w, World.grownBy W0 w none → Is1 w k1 (fnv f1 d1) 118 → Is1 w k2 (fnv f2 d2) 118 → Is1 w k3 (fnv f3 d3) 118 → CodeAt st w x f1 d1 → CodeAt st w y f2 d2 → CodeAt st w t f3 d3 → Q .normal (act (mkT (fnv f1 d1) (fnv f2 d2) (fnv f3 d3) (ptr k1) (ptr k2) (ptr k3))) w) :
    ∀ (fuel : Nat) (c1 c2 c3 a1 a2 a3 s1 s2 s3 : Bool) (v1 v2 v3 p1 p2 p3 : Value) (w : World), fuel = cnt c1 + cnt c2 + cnt c3 + cnt a1 + cnt a2 + cnt a3 + cnt s1 + cnt s2 + cnt s3 → Iv3 W0 st x y t c1 c2 c3 a1 a2 a3 s1 s2 s3 v1 v2 v3 p1 p2 p3 w → wpAnyH P md ops Q S fuel (lst3 c1 c2 c3 a1 a2 a3 s1 s2 s3) (act (mkT v1 v2 v3 p1 p2 p3)) w := by
  intro fuel
  induction fuel with
  | zero =>
    intro c1 c2 c3 a1 a2 a3 s1 s2 s3 v1 v2 v3 p1 p2 p3 w hf h
    have : c1 = true ∧ c2 = true ∧ c3 = true ∧ a1 = true ∧ a2 = true ∧ a3 = true ∧ s1 = true ∧ s2 = true ∧ s3 = true := by
      cases c1 <;> cases c2 <;> cases c3 <;> cases a1 <;> cases a2 <;> cases a3 <;> cases s1 <;> cases s2 <;> cases s3 <;> simp [cnt] at hf ⊢
    obtain ⟨rfl, rfl, rfl, rfl, rfl, rfl, rfl, rfl, rfl⟩ := this
    refine wpAnyH_done (by rw [hready true true true true true true true true true (by simp) (by simp) (by simp) (by simp) (by simp)]; rfl) ?_ _
    obtain ⟨hg, h1, h2, h3, g1, g2, g3, n12, n13, n23, oc2, oc3, os1, os2, os3⟩ := h
    obtain ⟨f1, d1, rfl, q1⟩ := orl h1
    obtain ⟨f2, d2, rfl, q2⟩ := orl h2
    obtain ⟨f3, d3, rfl, q3⟩ := orl h3
    obtain ⟨k1, z1, rfl, _, r1, e1, _⟩ := orl g1
    obtain rfl := e1 rfl
    obtain ⟨k2, z2, rfl, _, r2, e2, _⟩ := orl g2
    obtain rfl := e2 rfl
    obtain ⟨k3, z3, rfl, _, r3, e3, _⟩ := orl g3
    obtain rfl := e3 rfl
    exact hQ f1 d1 f2 d2 f3 d3 k1 k2 k3 w hg r1 r2 r3 q1 q2 q3
  | succ n ih =>
    intro c1 c2 c3 a1 a2 a3 s1 s2 s3 v1 v2 v3 p1 p2 p3 w hf h
    have hr := hready c1 c2 c3 a1 a2 a3 s1 s2 s3 h.oc2 h.oc3 h.os1 h.os2 h.os3
    refine wpAnyH_all hr ?_ ?_
    · refine rs_ne3 c1 c2 c3 a1 a2 a3 s1 s2 s3 h.oc2 h.oc3 h.os1 h.os2 h.os3 fun hall => ?_
      obtain ⟨rfl, rfl, rfl, rfl, rfl, rfl, rfl, rfl, rfl⟩ := hall
      simp [cnt] at hf
    intro i hi
    simp only [List.mem_append] at hi
    rcases hi with (((((((hi | hi) | hi) | hi) | hi) | hi) | hi) | hi) | hi
    · -- part 1
      cases c1
      · obtain rfl : i = 3 := by simpa using hi
        have ec2 : c2 = false := bfalse h.oc2 rfl
        subst ec2
        have ec3 : c3 = false := bfalse h.oc3 rfl
        subst ec3
        have es1 : s1 = false := bfalse (fun hs => (h.os1 hs).1) rfl
        subst es1
        have es2 : s2 = false := bfalse h.os2 rfl
        subst es2
        have es3 : s3 = false := bfalse h.os3 rfl
        subst es3
        obtain ⟨hg, h1, h2, h3, g1, g2, g3, n12, n13, n23, oc2, oc3, os1, os2, os3⟩ := h
        obtain rfl : v1 = undef := orr h1
        obtain rfl : v2 = undef := orr h2
        obtain rfl : v3 = undef := orr h3
        refine hc1  p1 p2 p3 w _ hg fun f c w' hg' hc => ⟨hS _ (grown_trans hg hg'), ?_⟩
        refine ih true false false a1 a2 a3 false false false _ _ _ _ _ _ _ (by simp [cnt] at hf ⊢; omega) ⟨grown_trans hg hg', .inl ⟨rfl, f, c, rfl, hc⟩, .inr ⟨rfl, rfl⟩, .inr ⟨rfl, rfl⟩, ?_, ?_, ?_, n12, n13, n23, by simp, by simp, by simp, by simp, by simp⟩
        · rcases g1 with ⟨h, k, z, e, l, hk, hz⟩ | h
          · exact .inl ⟨h, k, z, e, l, keepB' hk hg', by simp, fun _ => hz.2 rfl⟩
          · exact .inr h
        · rcases g2 with ⟨h, k, z, e, l, hk, hz⟩ | h
          · exact .inl ⟨h, k, z, e, l, keepB' hk hg', by simp, fun _ => hz.2 rfl⟩
          · exact .inr h
        · rcases g3 with ⟨h, k, z, e, l, hk, hz⟩ | h
          · exact .inl ⟨h, k, z, e, l, keepB' hk hg', by simp, fun _ => hz.2 rfl⟩
          · exact .inr h
      · simp at hi
    · -- part 2
      cases c1
      · simp at hi
      cases c2
      · obtain rfl : i = 7 := by simpa using hi
        have ec3 : c3 = false := bfalse h.oc3 rfl
        subst ec3
        have es1 : s1 = false := bfalse (fun hs => (h.os1 hs).1) rfl
        subst es1
        have es2 : s2 = false := bfalse h.os2 rfl
        subst es2
        have es3 : s3 = false := bfalse h.os3 rfl
        subst es3
        obtain ⟨hg, h1, h2, h3, g1, g2, g3, n12, n13, n23, oc2, oc3, os1, os2, os3⟩ := h
        obtain ⟨f1, d1, rfl, q1⟩ := orl h1
        obtain rfl : v2 = undef := orr h2
        obtain rfl : v3 = undef := orr h3
        refine hc2 _ p1 p2 p3 w _ hg fun f c w' hg' hc => ⟨hS _ (grown_trans hg hg'), ?_⟩
        refine ih true true false a1 a2 a3 false false false _ _ _ _ _ _ _ (by simp [cnt] at hf ⊢; omega) ⟨grown_trans hg hg', .inl ⟨rfl, f1, d1, rfl, q1.grown hg'⟩, .inl ⟨rfl, f, c, rfl, hc⟩, .inr ⟨rfl, rfl⟩, ?_, ?_, ?_, n12, n13, n23, by simp, by simp, by simp, by simp, by simp⟩
        · rcases g1 with ⟨h, k, z, e, l, hk, hz⟩ | h
          · exact .inl ⟨h, k, z, e, l, keepB' hk hg', by simp, fun _ => hz.2 rfl⟩
          · exact .inr h
        · rcases g2 with ⟨h, k, z, e, l, hk, hz⟩ | h
          · exact .inl ⟨h, k, z, e, l, keepB' hk hg', by simp, fun _ => hz.2 rfl⟩
          · exact .inr h
        · rcases g3 with ⟨h, k, z, e, l, hk, hz⟩ | h
          · exact .inl ⟨h, k, z, e, l, keepB' hk hg', by simp, fun _ => hz.2 rfl⟩
          · exact .inr h
      · simp at hi
    · -- part 3
      cases c2
      · simp at hi
      cases c3
      · obtain rfl : i = 11 := by simpa using hi
        have es1 : s1 = false := bfalse (fun hs => (h.os1 hs).1) rfl
        subst es1
        have es2 : s2 = false := bfalse h.os2 rfl
        subst es2
        have es3 : s3 = false := bfalse h.os3 rfl
        subst es3
        obtain rfl : c1 = true := h.oc2 rfl
        obtain ⟨hg, h1, h2, h3, g1, g2, g3, n12, n13, n23, oc2, oc3, os1, os2, os3⟩ := h
        obtain ⟨f1, d1, rfl, q1⟩ := orl h1
        obtain ⟨f2, d2, rfl, q2⟩ := orl h2
        obtain rfl : v3 = undef := orr h3
        refine hc3 _ _ p1 p2 p3 w _ hg fun f c w' hg' hc => ⟨hS _ (grown_trans hg hg'), ?_⟩
        refine ih true true true a1 a2 a3 false false false _ _ _ _ _ _ _ (by simp [cnt] at hf ⊢; omega) ⟨grown_trans hg hg', .inl ⟨rfl, f1, d1, rfl, q1.grown hg'⟩, .inl ⟨rfl, f2, d2, rfl, q2.grown hg'⟩, .inl ⟨rfl, f, c, rfl, hc⟩, ?_, ?_, ?_, n12, n13, n23, by simp, by simp, by simp, by simp, by simp⟩
        · rcases g1 with ⟨h, k, z, e, l, hk, hz⟩ | h
          · exact .inl ⟨h, k, z, e, l, keepB' hk hg', by simp, fun _ => hz.2 rfl⟩
          · exact .inr h
        · rcases g2 with ⟨h, k, z, e, l, hk, hz⟩ | h
          · exact .inl ⟨h, k, z, e, l, keepB' hk hg', by simp, fun _ => hz.2 rfl⟩
          · exact .inr h
        · rcases g3 with ⟨h, k, z, e, l, hk, hz⟩ | h
          · exact .inl ⟨h, k, z, e, l, keepB' hk hg', by simp, fun _ => hz.2 rfl⟩
          · exact .inr h
      · simp at hi
    · -- cell 1
      cases a1
      · obtain rfl : i = 12 := by simpa using hi
        have es1 : s1 = false := bfalse (fun hs => (h.os1 hs).2.1) rfl
        subst es1
        have es2 : s2 = false := bfalse h.os2 rfl
        subst es2
        have es3 : s3 = false := bfalse h.os3 rfl
        subst es3
        obtain ⟨hg, h1, h2, h3, g1, g2, g3, n12, n13, n23, oc2, oc3, os1, os2, os3⟩ := h
        obtain rfl : p1 = undef := orr g1
        have hga := grown_alloc (grown_refl w none) (.cells #[.nilFunc] 118 (0, 0))
        refine ha1 v1 v2 v3 p2 p3 w _ ⟨hS _ (grown_trans hg hga), ?_⟩
        refine ih c1 c2 c3 true a2 a3 false false false _ _ _ _ _ _ _ (by simp [cnt] at hf ⊢; omega) ⟨grown_trans hg hga, ?_, ?_, ?_, .inl ⟨rfl, w.heap.size, .nilFunc, rfl, hg.size, alloc_at _ _ _ rfl, by simp, fun _ => rfl⟩, ?_, ?_, ?_, ?_, n23, oc2, oc3, by simp, by simp, by simp⟩
        · rcases h1 with ⟨h, f, c, e, k⟩ | h
          · exact .inl ⟨h, f, c, e, k.grown hga⟩
          · exact .inr h
        · rcases h2 with ⟨h, f, c, e, k⟩ | h
          · exact .inl ⟨h, f, c, e, k.grown hga⟩
          · exact .inr h
        · rcases h3 with ⟨h, f, c, e, k⟩ | h
          · exact .inl ⟨h, f, c, e, k.grown hga⟩
          · exact .inr h
        · rcases g2 with ⟨h, k, z, e, l, hk, hz⟩ | h
          · exact .inl ⟨h, k, z, e, l, keepB' hk hga, by simp, fun _ => hz.2 rfl⟩
          · exact .inr h
        · rcases g3 with ⟨h, k, z, e, l, hk, hz⟩ | h
          · exact .inl ⟨h, k, z, e, l, keepB' hk hga, by simp, fun _ => hz.2 rfl⟩
          · exact .inr h
        · intro _ h6
          rcases g2 with ⟨h, k, z, rfl, l, hk, hz⟩ | ⟨h, _⟩
          · have := heap_lt hk
            intro e
            simp at e
            try omega
          · rw [h6] at h; cases h
        · intro _ h6
          rcases g3 with ⟨h, k, z, rfl, l, hk, hz⟩ | ⟨h, _⟩
          · have := heap_lt hk
            intro e
            simp at e
            try omega
          · rw [h6] at h; cases h
      · simp at hi
    · -- cell 2
      cases a2
      · obtain rfl : i = 13 := by simpa using hi
        have es1 : s1 = false := bfalse (fun hs => (h.os1 hs).2.2.1) rfl
        subst es1
        have es2 : s2 = false := bfalse h.os2 rfl
        subst es2
        have es3 : s3 = false := bfalse h.os3 rfl
        subst es3
        obtain ⟨hg, h1, h2, h3, g1, g2, g3, n12, n13, n23, oc2, oc3, os1, os2, os3⟩ := h
        obtain rfl : p2 = undef := orr g2
        have hga := grown_alloc (grown_refl w none) (.cells #[.nilFunc] 118 (0, 0))
        refine ha2 v1 v2 v3 p1 p3 w _ ⟨hS _ (grown_trans hg hga), ?_⟩
        refine ih c1 c2 c3 a1 true a3 false false false _ _ _ _ _ _ _ (by simp [cnt] at hf ⊢; omega) ⟨grown_trans hg hga, ?_, ?_, ?_, ?_, .inl ⟨rfl, w.heap.size, .nilFunc, rfl, hg.size, alloc_at _ _ _ rfl, by simp, fun _ => rfl⟩, ?_, ?_, n13, ?_, oc2, oc3, by simp, by simp, by simp⟩
        · rcases h1 with ⟨h, f, c, e, k⟩ | h
          · exact .inl ⟨h, f, c, e, k.grown hga⟩
          · exact .inr h
        · rcases h2 with ⟨h, f, c, e, k⟩ | h
          · exact .inl ⟨h, f, c, e, k.grown hga⟩
          · exact .inr h
        · rcases h3 with ⟨h, f, c, e, k⟩ | h
          · exact .inl ⟨h, f, c, e, k.grown hga⟩
          · exact .inr h
        · rcases g1 with ⟨h, k, z, e, l, hk, hz⟩ | h
          · exact .inl ⟨h, k, z, e, l, keepB' hk hga, by simp, fun _ => hz.2 rfl⟩
          · exact .inr h
        · rcases g3 with ⟨h, k, z, e, l, hk, hz⟩ | h
          · exact .inl ⟨h, k, z, e, l, keepB' hk hga, by simp, fun _ => hz.2 rfl⟩
          · exact .inr h
        · intro h6 _
          rcases g1 with ⟨h, k, z, rfl, l, hk, hz⟩ | ⟨h, _⟩
          · have := heap_lt hk
            intro e
            simp at e
            try omega
          · rw [h6] at h; cases h
        · intro _ h6
          rcases g3 with ⟨h, k, z, rfl, l, hk, hz⟩ | ⟨h, _⟩
          · have := heap_lt hk
            intro e
            simp at e
            try omega
          · rw [h6] at h; cases h
      · simp at hi
    · -- cell 3
      cases a3
      · obtain rfl : i = 14 := by simpa using hi
        have es1 : s1 = false := bfalse (fun hs => (h.os1 hs).2.2.2) rfl
        subst es1
        have es2 : s2 = false := bfalse h.os2 rfl
        subst es2
        have es3 : s3 = false := bfalse h.os3 rfl
        subst es3
        obtain ⟨hg, h1, h2, h3, g1, g2, g3, n12, n13, n23, oc2, oc3, os1, os2, os3⟩ := h
        obtain rfl : p3 = undef := orr g3
        have hga := grown_alloc (grown_refl w none) (.cells #[.nilFunc] 118 (0, 0))
        refine ha3 v1 v2 v3 p1 p2 w _ ⟨hS _ (grown_trans hg hga), ?_⟩
        refine ih c1 c2 c3 a1 a2 true false false false _ _ _ _ _ _ _ (by simp [cnt] at hf ⊢; omega) ⟨grown_trans hg hga, ?_, ?_, ?_, ?_, ?_, .inl ⟨rfl, w.heap.size, .nilFunc, rfl, hg.size, alloc_at _ _ _ rfl, by simp, fun _ => rfl⟩, n12, ?_, ?_, oc2, oc3, by simp, by simp, by simp⟩
        · rcases h1 with ⟨h, f, c, e, k⟩ | h
          · exact .inl ⟨h, f, c, e, k.grown hga⟩
          · exact .inr h
        · rcases h2 with ⟨h, f, c, e, k⟩ | h
          · exact .inl ⟨h, f, c, e, k.grown hga⟩
          · exact .inr h
        · rcases h3 with ⟨h, f, c, e, k⟩ | h
          · exact .inl ⟨h, f, c, e, k.grown hga⟩
          · exact .inr h
        · rcases g1 with ⟨h, k, z, e, l, hk, hz⟩ | h
          · exact .inl ⟨h, k, z, e, l, keepB' hk hga, by simp, fun _ => hz.2 rfl⟩
          · exact .inr h
        · rcases g2 with ⟨h, k, z, e, l, hk, hz⟩ | h
          · exact .inl ⟨h, k, z, e, l, keepB' hk hga, by simp, fun _ => hz.2 rfl⟩
          · exact .inr h
        · intro h6 _
          rcases g1 with ⟨h, k, z, rfl, l, hk, hz⟩ | ⟨h, _⟩
          · have := heap_lt hk
            intro e
            simp at e
            try omega
          · rw [h6] at h; cases h
        · intro h6 _
          rcases g2 with ⟨h, k, z, rfl, l, hk, hz⟩ | ⟨h, _⟩
          · have := heap_lt hk
            intro e
            simp at e
            try omega
          · rw [h6] at h; cases h
      · simp at hi
    · -- store 1
      have hc : c3 = true ∧ a1 = true ∧ a2 = true ∧ a3 = true ∧ s1 = false := by cases c3 <;> cases a1 <;> cases a2 <;> cases a3 <;> cases s1 <;> simp at hi ⊢
      obtain ⟨rfl, rfl, rfl, rfl, rfl⟩ := hc
      obtain rfl : i = 15 := by simpa using hi
      have es2 : s2 = false := bfalse h.os2 rfl
      subst es2
      have es3 : s3 = false := bfalse h.os3 rfl
      subst es3
      obtain ⟨hg, h1, h2, h3, g1, g2, g3, n12, n13, n23, oc2, oc3, os1, os2, os3⟩ := h
      obtain rfl : c2 = true := oc3 rfl
      obtain rfl : c1 = true := oc2 rfl
      obtain ⟨f1, d1, rfl, q1⟩ := orl h1
      obtain ⟨f2, d2, rfl, q2⟩ := orl h2
      obtain ⟨f3, d3, rfl, q3⟩ := orl h3
      obtain ⟨k1, z1, rfl, l1, r1, e1, u1⟩ := orl g1
      obtain ⟨k2, z2, rfl, l2, r2, e2, u2⟩ := orl g2
      obtain ⟨k3, z3, rfl, l3, r3, e3, u3⟩ := orl g3
      obtain rfl := u1 rfl
      have hgs : World.grownBy W0 (w.setCell ⟨k1, 0, none⟩ (fnv f1 d1)) none := grown_setnew2 hg l1 0 _
      have hk2 : k2 ≠ k1 := fun e => n12 rfl rfl (by rw [e])
      have hk3 : k3 ≠ k1 := fun e => n13 rfl rfl (by rw [e])
      refine hs1 f1 d1 k1 _ _ _ _ w _ _ r1 ⟨hS _ hgs, ?_⟩
      refine ih true true true true true true true false false _ _ _ _ _ _ _ (by simp [cnt] at hf ⊢; omega) ⟨hgs, .inl ⟨rfl, f1, d1, rfl, q1.set r1 _⟩, .inl ⟨rfl, f2, d2, rfl, q2.set r1 _⟩, .inl ⟨rfl, f3, d3, rfl, q3.set r1 _⟩, .inl ⟨rfl, k1, fnv f1 d1, rfl, l1, ?_, fun _ => rfl, by simp⟩, .inl ⟨rfl, k2, z2, rfl, l2, ?_, e2, u2⟩, .inl ⟨rfl, k3, z3, rfl, l3, ?_, e3, u3⟩, n12, n13, n23, by simp, by simp, by simp, by simp, by simp⟩
      · rw [RB.set r1 0 _]; rfl
      · rw [Below.heap_setCell _ _ _ _ hk2]; exact r2
      · rw [Below.heap_setCell _ _ _ _ hk3]; exact r3
    · -- store 2
      have hc : s1 = true ∧ s2 = false := by cases s1 <;> cases s2 <;> simp at hi ⊢
      obtain ⟨rfl, rfl⟩ := hc
      obtain rfl : i = 16 := by simpa using hi
      have es3 : s3 = false := bfalse h.os3 rfl
      subst es3
      obtain ⟨hg, h1, h2, h3, g1, g2, g3, n12, n13, n23, oc2, oc3, os1, os2, os3⟩ := h
      obtain ⟨rfl, rfl, rfl, rfl⟩ := os1 rfl
      obtain rfl : c2 = true := oc3 rfl
      obtain rfl : c1 = true := oc2 rfl
      obtain ⟨f1, d1, rfl, q1⟩ := orl h1
      obtain ⟨f2, d2, rfl, q2⟩ := orl h2
      obtain ⟨f3, d3, rfl, q3⟩ := orl h3
      obtain ⟨k1, z1, rfl, l1, r1, e1, u1⟩ := orl g1
      obtain ⟨k2, z2, rfl, l2, r2, e2, u2⟩ := orl g2
      obtain ⟨k3, z3, rfl, l3, r3, e3, u3⟩ := orl g3
      obtain rfl := u2 rfl
      have hgs : World.grownBy W0 (w.setCell ⟨k2, 0, none⟩ (fnv f2 d2)) none := grown_setnew2 hg l2 0 _
      have hk1 : k1 ≠ k2 := fun e => n12 rfl rfl (by rw [e])
      have hk3 : k3 ≠ k2 := fun e => n23 rfl rfl (by rw [e])
      refine hs2 f2 d2 k2 _ _ _ _ w _ _ r2 ⟨hS _ hgs, ?_⟩
      refine ih true true true true true true true true false _ _ _ _ _ _ _ (by simp [cnt] at hf ⊢; omega) ⟨hgs, .inl ⟨rfl, f1, d1, rfl, q1.set r2 _⟩, .inl ⟨rfl, f2, d2, rfl, q2.set r2 _⟩, .inl ⟨rfl, f3, d3, rfl, q3.set r2 _⟩, .inl ⟨rfl, k1, z1, rfl, l1, ?_, e1, u1⟩, .inl ⟨rfl, k2, fnv f2 d2, rfl, l2, ?_, fun _ => rfl, by simp⟩, .inl ⟨rfl, k3, z3, rfl, l3, ?_, e3, u3⟩, n12, n13, n23, by simp, by simp, by simp, by simp, by simp⟩
      · rw [Below.heap_setCell _ _ _ _ hk1]; exact r1
      · rw [RB.set r2 0 _]; rfl
      · rw [Below.heap_setCell _ _ _ _ hk3]; exact r3
    · -- store 3
      have hc : s2 = true ∧ s3 = false := by cases s2 <;> cases s3 <;> simp at hi ⊢
      obtain ⟨rfl, rfl⟩ := hc
      obtain rfl : i = 17 := by simpa using hi
      obtain ⟨hg, h1, h2, h3, g1, g2, g3, n12, n13, n23, oc2, oc3, os1, os2, os3⟩ := h
      obtain rfl : s1 = true := os2 rfl
      obtain ⟨rfl, rfl, rfl, rfl⟩ := os1 rfl
      obtain rfl : c2 = true := oc3 rfl
      obtain rfl : c1 = true := oc2 rfl
      obtain ⟨f1, d1, rfl, q1⟩ := orl h1
      obtain ⟨f2, d2, rfl, q2⟩ := orl h2
      obtain ⟨f3, d3, rfl, q3⟩ := orl h3
      obtain ⟨k1, z1, rfl, l1, r1, e1, u1⟩ := orl g1
      obtain ⟨k2, z2, rfl, l2, r2, e2, u2⟩ := orl g2
      obtain ⟨k3, z3, rfl, l3, r3, e3, u3⟩ := orl g3
      obtain rfl := u3 rfl
      have hgs : World.grownBy W0 (w.setCell ⟨k3, 0, none⟩ (fnv f3 d3)) none := grown_setnew2 hg l3 0 _
      have hk1 : k1 ≠ k3 := fun e => n13 rfl rfl (by rw [e])
      have hk2 : k2 ≠ k3 := fun e => n23 rfl rfl (by rw [e])
      refine hs3 f3 d3 k3 _ _ _ _ w _ _ r3 ⟨hS _ hgs, ?_⟩
      refine ih true true true true true true true true true _ _ _ _ _ _ _ (by simp [cnt] at hf ⊢; omega) ⟨hgs, .inl ⟨rfl, f1, d1, rfl, q1.set r3 _⟩, .inl ⟨rfl, f2, d2, rfl, q2.set r3 _⟩, .inl ⟨rfl, f3, d3, rfl, q3.set r3 _⟩, .inl ⟨rfl, k1, z1, rfl, l1, ?_, e1, u1⟩, .inl ⟨rfl, k2, z2, rfl, l2, ?_, e2, u2⟩, .inl ⟨rfl, k3, fnv f3 d3, rfl, l3, ?_, fun _ => rfl, by simp⟩, n12, n13, n23, by simp, by simp, by simp, by simp, by simp⟩
      · rw [Below.heap_setCell _ _ _ _ hk1]; exact r1
      · rw [Below.heap_setCell _ _ _ _ hk2]; exact r2
      · rw [RB.set r3 0 _]; rfl
end
end Go.Proofs.YtjjlgjmebnkdjaaGreatDoor
