/-
  The program's plain form: let.
-/
import Derived.Test.YtjjlgjmebnkdjaaGreatDoorPlA
import Derived.Deep.RegionHeld
namespace Go.Proofs.YtjjlgjmebnkdjaaGreatDoor
open Go Go.Proofs Go.RowKit Skein

set_option maxRecDepth 100000 in
set_option maxHeartbeats 16000000 in
theorem pletP {T1 : TypeId} {x1 : Value} {f1 : Nat} {s1 : ByteArray} {T2 : TypeId} {x2 : Value} {f2 : Nat} {s2 : ByteArray}  {n : Int} {s0 : ByteArray} (h0 : ∀ w, Tab w → Calls Tryz.prog 222 #[.int .i64 n] w fun e w' => e = .returned (.string s0) ∧ w.grownBy w' none) (z0 : s0.size ≤ 36000) (h1 : Says T1 x1 f1 s1) (z1 : s1.size ≤ 36000) (h2 : Says T2 x2 f2 s2) (z2 : s2.size ≤ 36000) (w : World) (ht : Tab w) :
    Calls Tryz.prog 225 #[.agg #[.int .i64 n, .iface T1 x1, .iface T2 x2]] w fun e w' => e = .returned (.string (⟨#[40, 108, 101, 116, 32]⟩ ++ s0 ++ ⟨#[32, 61, 32]⟩ ++ s1 ++ ⟨#[32, 105, 110, 32]⟩ ++ s2 ++ ⟨#[41]⟩)) ∧ w.grownBy w' none := by
  have hm1 := h1.meth
  have he1 := h1.ent
  have hm2 := h2.meth
  have he2 := h2.ent
  have HT : Hid (Tab w) := ht
  have C1 : Hid (∀ w, Tab w → Calls Tryz.prog f1 #[x1] w fun e w' => e = .returned (.string s1) ∧ w.grownBy w' none) := h1.call
  have C2 : Hid (∀ w, Tab w → Calls Tryz.prog f2 #[x2] w fun e w' => e = .returned (.string s2) ∧ w.grownBy w' none) := h2.call
  have C0 : Hid (∀ w, Tab w → Calls Tryz.prog 222 #[.int .i64 n] w fun e w' => e = .returned (.string s0) ∧ w.grownBy w' none) := h0
  clear h1 h2 h0 ht
  go_enter Tryz.func225, Tryz.ntmps225
  go_wp2_with fail
  have hg0 : w.grownBy (w.alloc (.cells #[.int .i64 n, .iface T1 x1, .iface T2 x2] 161 (0, 0))) none := grown_alloc (grown_refl _ _) _
  have hb0 := alloc_at w (.cells #[.int .i64 n, .iface T1 x1, .iface T2 x2] 161 (0, 0)) w.heap.size rfl
  generalize w.alloc (.cells #[.int .i64 n, .iface T1 x1, .iface T2 x2] 161 (0, 0)) = W at hg0 hb0 ⊢
  have cW : Hid (∀ w1, W.grownBy w1 none → w1.cell? ⟨w.heap.size, 0, none⟩ = some (.int .i64 n) ∧ w1.cell? ⟨w.heap.size, 1, none⟩ = some (.iface T1 x1) ∧ w1.cell? ⟨w.heap.size, 2, none⟩ = some (.iface T2 x2)) := fun w1 hg => by
    have := boxed hb0 w1 hg
    refine ⟨?_, ?_, ?_⟩ <;> simp [World.cell?, this]
  obtain ⟨a0, a1, a2⟩ := cW.out W (grown_refl _ _)
  have D0 : Hid (∀ wd, W.grownBy wd none → Calls Tryz.prog 222 #[.int .i64 n] wd fun e w' => e = .returned (.string s0) ∧ wd.grownBy w' none) := fun wd hd => C0.out wd ((HT.out.grown hg0).grown hd)
  have D1 : Hid (∀ wd, W.grownBy wd none → Calls Tryz.prog f1 #[x1] wd fun e w' => e = .returned (.string s1) ∧ wd.grownBy w' none) := fun wd hd => C1.out wd ((HT.out.grown hg0).grown hd)
  have D2 : Hid (∀ wd, W.grownBy wd none → Calls Tryz.prog f2 #[x2] wd fun e w' => e = .returned (.string s2) ∧ wd.grownBy w' none) := fun wd hd => C2.out wd ((HT.out.grown hg0).grown hd)
  have hg0' : Hid (w.grownBy W none) := hg0
  clear hb0 hg0
  go_region_held (fun w1 => w1.cell? ⟨w.heap.size, 0, none⟩ = some (.int .i64 n) ∧ w1.cell? ⟨w.heap.size, 1, none⟩ = some (.iface T1 x1) ∧ w1.cell? ⟨w.heap.size, 2, none⟩ = some (.iface T2 x2)) (go_keep) (first
    | (go_at_call 222; refine (D0.out _ (by exact ⟨rfl, rfl, rfl, Nat.le_refl _, fun _ _ _ => rfl⟩)).mono ?_; rintro e v0 ⟨rfl, hg10⟩; have hr0 : W.grownBy v0 none := ⟨hg10.os, hg10.tape, hg10.output, hg10.size, hg10.block⟩; have hq0 : W.grownBy v0 none := hr0; obtain ⟨b0, b1, b2⟩ := cW.out v0 hq0)
    | (go_at_fn f1; refine (D1.out _ (by exact ⟨hq0.os, hq0.tape, hq0.output, hq0.size, hq0.block⟩)).mono ?_; rintro e v1 ⟨rfl, hg11⟩; have hr1 : v0.grownBy v1 none := ⟨hg11.os, hg11.tape, hg11.output, hg11.size, hg11.block⟩; have hq1 : W.grownBy v1 none := grown_trans hq0 hr1; obtain ⟨c0, c1, c2⟩ := cW.out v1 hq1)
    | (go_at_fn f2; refine (D2.out _ (by exact ⟨hq1.os, hq1.tape, hq1.output, hq1.size, hq1.block⟩)).mono ?_; rintro e v2 ⟨rfl, hg12⟩; have hr2 : v1.grownBy v2 none := ⟨hg12.os, hg12.tape, hg12.output, hg12.size, hg12.block⟩; have hq2 : W.grownBy v2 none := grown_trans hq1 hr2; obtain ⟨d0, d1, d2⟩ := cW.out v2 hq2))
  all_goals
    go_wp2_with fail
    go_ret
    exact ⟨rfl, grown_trans hg0'.out hq2⟩
end Go.Proofs.YtjjlgjmebnkdjaaGreatDoor
