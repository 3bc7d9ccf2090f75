/-
  The program's plain form: a list.
  The program's plain form: a use.
  The program's plain form: a function.
  The program's plain form: a part of a list.
  The program's plain form: let.
  The program's plain form: if.
  The program's plain form: a sign.
  The program's plain form, whatever the tree.
  Show, and the law on it.
-/
import Derived.Test.YtjjlgjmebnkdjaaGreatDoorWc06
import Derived.Deep.RegionHeld
import Derived.Test.YtjjlgjmebnkdjaaGreatDoorPrgU
import Derived.BigQuiet
namespace Go.Proofs.YtjjlgjmebnkdjaaGreatDoor
open Go Go.Proofs Go.RowKit Skein

set_option maxRecDepth 100000 in
set_option maxHeartbeats 4000000 in
theorem plistP {T1 T2 : TypeId} {x1 x2 : Value} {f1 f2 : Nat} {s1 s2 : ByteArray} (h1 : Says T1 x1 f1 s1) (h2 : Says T2 x2 f2 s2) (z1 : s1.size ≤ 36000) (z2 : s2.size ≤ 36000) (w : World) (ht : Tab w) :
    Calls Tryz.prog 229 #[.agg #[.iface T1 x1, .iface T2 x2]] w fun e w' => e = .returned (.string (⟨#[40]⟩ ++ s1 ++ ⟨#[32, 58, 32]⟩ ++ s2 ++ ⟨#[41]⟩)) ∧ w.grownBy w' none := by
  have hm1 := h1.meth
  have he1 := h1.ent
  have hm2 := h2.meth
  have he2 := h2.ent
  have HT : Hid (Tab w) := ht
  have C1 : Hid (∀ w, Tab w → Calls Tryz.prog f1 #[x1] w fun e w' => e = .returned (.string s1) ∧ w.grownBy w' none) := h1.call
  have C2 : Hid (∀ w, Tab w → Calls Tryz.prog f2 #[x2] w fun e w' => e = .returned (.string s2) ∧ w.grownBy w' none) := h2.call
  clear h1 h2 ht
  go_enter Tryz.func229, Tryz.ntmps229
  go_wp2_with fail
  have hg0 : w.grownBy (w.alloc (.cells #[.iface T1 x1, .iface T2 x2] 173 (0, 0))) none := grown_alloc (grown_refl _ _) _
  have hb0 := alloc_at w (.cells #[.iface T1 x1, .iface T2 x2] 173 (0, 0)) w.heap.size rfl
  generalize w.alloc (.cells #[.iface T1 x1, .iface T2 x2] 173 (0, 0)) = W at hg0 hb0 ⊢
  have cW : ∀ w1, W.grownBy w1 none → w1.cell? ⟨w.heap.size, 0, none⟩ = some (.iface T1 x1) ∧ w1.cell? ⟨w.heap.size, 1, none⟩ = some (.iface T2 x2) := fun w1 hg => by
    have := boxed hb0 w1 hg
    constructor <;> simp [World.cell?, this]
  obtain ⟨a0, a1⟩ := cW W (grown_refl _ _)
  have D1 : Hid (∀ wd, W.grownBy wd none → Calls Tryz.prog f1 #[x1] wd fun e w' => e = .returned (.string s1) ∧ wd.grownBy w' none) := fun wd hd => C1.out wd ((HT.out.grown hg0).grown hd)
  have D2 : Hid (∀ wd, W.grownBy wd none → Calls Tryz.prog f2 #[x2] wd fun e w' => e = .returned (.string s2) ∧ wd.grownBy w' none) := fun wd hd => C2.out wd ((HT.out.grown hg0).grown hd)
  go_region_with (first
    | (go_at_fn f1; refine (D1.out _ (by exact ⟨rfl, rfl, rfl, Nat.le_refl _, fun _ _ _ => rfl⟩)).mono ?_; rintro e w1 ⟨rfl, hg1⟩; have hg1' : W.grownBy w1 none := ⟨hg1.os, hg1.tape, hg1.output, hg1.size, hg1.block⟩; obtain ⟨b0, b1⟩ := cW w1 hg1'; have hg1'' := grown_trans hg0 hg1')
    | (go_at_fn f2; refine (D2.out _ (by exact ⟨hg1'.os, hg1'.tape, hg1'.output, hg1'.size, hg1'.block⟩)).mono ?_; rintro e w2 ⟨rfl, hg2⟩; have hg2' : w1.grownBy w2 none := ⟨hg2.os, hg2.tape, hg2.output, hg2.size, hg2.block⟩; have hg2'' := grown_trans hg1'' hg2'))
  all_goals
    go_wp2_with fail
    go_ret
    exact ⟨rfl, hg2''⟩
end Go.Proofs.YtjjlgjmebnkdjaaGreatDoor

namespace Go.Proofs.YtjjlgjmebnkdjaaGreatDoor
open Go Go.Proofs Go.RowKit Skein

set_option maxRecDepth 100000 in
set_option maxHeartbeats 16000000 in
theorem puseP {T1 : TypeId} {x1 : Value} {f1 : Nat} {s1 : ByteArray} {T2 : TypeId} {x2 : Value} {f2 : Nat} {s2 : ByteArray}  (h1 : Says T1 x1 f1 s1) (z1 : s1.size ≤ 36000) (h2 : Says T2 x2 f2 s2) (z2 : s2.size ≤ 36000) (w : World) (ht : Tab w) :
    Calls Tryz.prog 224 #[.agg #[.iface T1 x1, .iface T2 x2]] w fun e w' => e = .returned (.string (⟨#[40]⟩ ++ s1 ++ ⟨#[32]⟩ ++ s2 ++ ⟨#[41]⟩)) ∧ w.grownBy w' none := by
  have hm1 := h1.meth
  have he1 := h1.ent
  have hm2 := h2.meth
  have he2 := h2.ent
  have HT : Hid (Tab w) := ht
  have C1 : Hid (∀ w, Tab w → Calls Tryz.prog f1 #[x1] w fun e w' => e = .returned (.string s1) ∧ w.grownBy w' none) := h1.call
  have C2 : Hid (∀ w, Tab w → Calls Tryz.prog f2 #[x2] w fun e w' => e = .returned (.string s2) ∧ w.grownBy w' none) := h2.call
  clear h1 h2 ht
  go_enter Tryz.func224, Tryz.ntmps224
  go_wp2_with fail
  have hg0 : w.grownBy (w.alloc (.cells #[.iface T1 x1, .iface T2 x2] 158 (0, 0))) none := grown_alloc (grown_refl _ _) _
  have hb0 := alloc_at w (.cells #[.iface T1 x1, .iface T2 x2] 158 (0, 0)) w.heap.size rfl
  generalize w.alloc (.cells #[.iface T1 x1, .iface T2 x2] 158 (0, 0)) = W at hg0 hb0 ⊢
  have cW : ∀ w1, W.grownBy w1 none → w1.cell? ⟨w.heap.size, 0, none⟩ = some (.iface T1 x1) ∧ w1.cell? ⟨w.heap.size, 1, none⟩ = some (.iface T2 x2) := fun w1 hg => by
    have := boxed hb0 w1 hg
    refine ⟨?_, ?_⟩ <;> simp [World.cell?, this]
  obtain ⟨a0, a1⟩ := cW W (grown_refl _ _)
  have D1 : Hid (∀ wd, W.grownBy wd none → Calls Tryz.prog f1 #[x1] wd fun e w' => e = .returned (.string s1) ∧ wd.grownBy w' none) := fun wd hd => C1.out wd ((HT.out.grown hg0).grown hd)
  have D2 : Hid (∀ wd, W.grownBy wd none → Calls Tryz.prog f2 #[x2] wd fun e w' => e = .returned (.string s2) ∧ wd.grownBy w' none) := fun wd hd => C2.out wd ((HT.out.grown hg0).grown hd)
  go_region_with (first
    | (go_at_fn f1; refine (D1.out _ (by exact ⟨rfl, rfl, rfl, Nat.le_refl _, fun _ _ _ => rfl⟩)).mono ?_; rintro e v1 ⟨rfl, hg11⟩; have hr1 : W.grownBy v1 none := ⟨hg11.os, hg11.tape, hg11.output, hg11.size, hg11.block⟩; have hq1 : W.grownBy v1 none := hr1; obtain ⟨b0, b1⟩ := cW v1 hq1)
    | (go_at_fn f2; refine (D2.out _ (by exact ⟨hq1.os, hq1.tape, hq1.output, hq1.size, hq1.block⟩)).mono ?_; rintro e v2 ⟨rfl, hg12⟩; have hr2 : v1.grownBy v2 none := ⟨hg12.os, hg12.tape, hg12.output, hg12.size, hg12.block⟩; have hq2 : W.grownBy v2 none := grown_trans hq1 hr2; obtain ⟨c0, c1⟩ := cW v2 hq2))
  all_goals
    go_wp2_with fail
    go_ret
    exact ⟨rfl, grown_trans hg0 hq2⟩
end Go.Proofs.YtjjlgjmebnkdjaaGreatDoor

namespace Go.Proofs.YtjjlgjmebnkdjaaGreatDoor
open Go Go.Proofs Go.RowKit Skein

set_option maxRecDepth 100000 in
set_option maxHeartbeats 16000000 in
theorem pfnP {T1 : TypeId} {x1 : Value} {f1 : Nat} {s1 : ByteArray}  {n : Int} {s0 : ByteArray} (h0 : ∀ w, Tab w → Calls Tryz.prog 222 #[.int .i64 n] w fun e w' => e = .returned (.string s0) ∧ w.grownBy w' none) (z0 : s0.size ≤ 36000) (h1 : Says T1 x1 f1 s1) (z1 : s1.size ≤ 36000) (w : World) (ht : Tab w) :
    Calls Tryz.prog 223 #[.agg #[.int .i64 n, .iface T1 x1]] w fun e w' => e = .returned (.string (⟨#[40, 92]⟩ ++ s0 ++ ⟨#[46, 32]⟩ ++ s1 ++ ⟨#[41]⟩)) ∧ w.grownBy w' none := by
  have hm1 := h1.meth
  have he1 := h1.ent
  have HT : Hid (Tab w) := ht
  have C1 : Hid (∀ w, Tab w → Calls Tryz.prog f1 #[x1] w fun e w' => e = .returned (.string s1) ∧ w.grownBy w' none) := h1.call
  have C0 : Hid (∀ w, Tab w → Calls Tryz.prog 222 #[.int .i64 n] w fun e w' => e = .returned (.string s0) ∧ w.grownBy w' none) := h0
  clear h1 h0 ht
  go_enter Tryz.func223, Tryz.ntmps223
  go_wp2_with fail
  have hg0 : w.grownBy (w.alloc (.cells #[.int .i64 n, .iface T1 x1] 155 (0, 0))) none := grown_alloc (grown_refl _ _) _
  have hb0 := alloc_at w (.cells #[.int .i64 n, .iface T1 x1] 155 (0, 0)) w.heap.size rfl
  generalize w.alloc (.cells #[.int .i64 n, .iface T1 x1] 155 (0, 0)) = W at hg0 hb0 ⊢
  have cW : ∀ w1, W.grownBy w1 none → w1.cell? ⟨w.heap.size, 0, none⟩ = some (.int .i64 n) ∧ w1.cell? ⟨w.heap.size, 1, none⟩ = some (.iface T1 x1) := fun w1 hg => by
    have := boxed hb0 w1 hg
    refine ⟨?_, ?_⟩ <;> simp [World.cell?, this]
  obtain ⟨a0, a1⟩ := cW W (grown_refl _ _)
  have D0 : Hid (∀ wd, W.grownBy wd none → Calls Tryz.prog 222 #[.int .i64 n] wd fun e w' => e = .returned (.string s0) ∧ wd.grownBy w' none) := fun wd hd => C0.out wd ((HT.out.grown hg0).grown hd)
  have D1 : Hid (∀ wd, W.grownBy wd none → Calls Tryz.prog f1 #[x1] wd fun e w' => e = .returned (.string s1) ∧ wd.grownBy w' none) := fun wd hd => C1.out wd ((HT.out.grown hg0).grown hd)
  go_region_with (first
    | (go_at_call 222; refine (D0.out _ (by exact ⟨rfl, rfl, rfl, Nat.le_refl _, fun _ _ _ => rfl⟩)).mono ?_; rintro e v0 ⟨rfl, hg10⟩; have hr0 : W.grownBy v0 none := ⟨hg10.os, hg10.tape, hg10.output, hg10.size, hg10.block⟩; have hq0 : W.grownBy v0 none := hr0; obtain ⟨b0, b1⟩ := cW v0 hq0)
    | (go_at_fn f1; refine (D1.out _ (by exact ⟨hq0.os, hq0.tape, hq0.output, hq0.size, hq0.block⟩)).mono ?_; rintro e v1 ⟨rfl, hg11⟩; have hr1 : v0.grownBy v1 none := ⟨hg11.os, hg11.tape, hg11.output, hg11.size, hg11.block⟩; have hq1 : W.grownBy v1 none := grown_trans hq0 hr1; obtain ⟨c0, c1⟩ := cW v1 hq1))
  all_goals
    go_wp2_with fail
    go_ret
    exact ⟨rfl, grown_trans hg0 hq1⟩
end Go.Proofs.YtjjlgjmebnkdjaaGreatDoor

namespace Go.Proofs.YtjjlgjmebnkdjaaGreatDoor
open Go Go.Proofs Go.RowKit Skein

set_option maxRecDepth 100000 in
set_option maxHeartbeats 16000000 in
theorem ppartP {T1 : TypeId} {x1 : Value} {f1 : Nat} {s1 : ByteArray} {g : ByteArray} (zg : g.size ≤ 36000) (h1 : Says T1 x1 f1 s1) (z1 : s1.size ≤ 36000) (w : World) (ht : Tab w) :
    Calls Tryz.prog 230 #[.agg #[.string g, .iface T1 x1]] w fun e w' => e = .returned (.string (⟨#[40]⟩ ++ g ++ ⟨#[32]⟩ ++ s1 ++ ⟨#[41]⟩)) ∧ w.grownBy w' none := by
  have hm1 := h1.meth
  have he1 := h1.ent
  have HT : Hid (Tab w) := ht
  have C1 : Hid (∀ w, Tab w → Calls Tryz.prog f1 #[x1] w fun e w' => e = .returned (.string s1) ∧ w.grownBy w' none) := h1.call
  clear h1 ht
  go_enter Tryz.func230, Tryz.ntmps230
  go_wp2_with fail
  have hg0 : w.grownBy (w.alloc (.cells #[.string g, .iface T1 x1] 176 (0, 0))) none := grown_alloc (grown_refl _ _) _
  have hb0 := alloc_at w (.cells #[.string g, .iface T1 x1] 176 (0, 0)) w.heap.size rfl
  generalize w.alloc (.cells #[.string g, .iface T1 x1] 176 (0, 0)) = W at hg0 hb0 ⊢
  have cW : ∀ w1, W.grownBy w1 none → w1.cell? ⟨w.heap.size, 0, none⟩ = some (.string g) ∧ w1.cell? ⟨w.heap.size, 1, none⟩ = some (.iface T1 x1) := fun w1 hg => by
    have := boxed hb0 w1 hg
    refine ⟨?_, ?_⟩ <;> simp [World.cell?, this]
  obtain ⟨a0, a1⟩ := cW W (grown_refl _ _)
  have D1 : Hid (∀ wd, W.grownBy wd none → Calls Tryz.prog f1 #[x1] wd fun e w' => e = .returned (.string s1) ∧ wd.grownBy w' none) := fun wd hd => C1.out wd ((HT.out.grown hg0).grown hd)
  go_region_with (first
    | (go_at_fn f1; refine (D1.out _ (by exact ⟨rfl, rfl, rfl, Nat.le_refl _, fun _ _ _ => rfl⟩)).mono ?_; rintro e v1 ⟨rfl, hg11⟩; have hr1 : W.grownBy v1 none := ⟨hg11.os, hg11.tape, hg11.output, hg11.size, hg11.block⟩; have hq1 : W.grownBy v1 none := hr1; obtain ⟨b0, b1⟩ := cW v1 hq1))
  all_goals
    go_wp2_with fail
    go_ret
    exact ⟨rfl, grown_trans hg0 hq1⟩
end Go.Proofs.YtjjlgjmebnkdjaaGreatDoor

namespace Go.Proofs.YtjjlgjmebnkdjaaGreatDoor
open Go Go.Proofs Go.RowKit Skein

set_option maxRecDepth 100000 in
set_option maxHeartbeats 16000000 in
theorem pletP {T1 : TypeId} {x1 : Value} {f1 : Nat} {s1 : ByteArray} {T2 : TypeId} {x2 : Value} {f2 : Nat} {s2 : ByteArray}  {n : Int} {s0 : ByteArray} (h0 : ∀ w, Tab w → Calls Tryz.prog 222 #[.int .i64 n] w fun e w' => e = .returned (.string s0) ∧ w.grownBy w' none) (z0 : s0.size ≤ 36000) (h1 : Says T1 x1 f1 s1) (z1 : s1.size ≤ 36000) (h2 : Says T2 x2 f2 s2) (z2 : s2.size ≤ 36000) (w : World) (ht : Tab w) :
    Calls Tryz.prog 225 #[.agg #[.int .i64 n, .iface T1 x1, .iface T2 x2]] w fun e w' => e = .returned (.string (⟨#[40, 108, 101, 116, 32]⟩ ++ s0 ++ ⟨#[32, 61, 32]⟩ ++ s1 ++ ⟨#[32, 105, 110, 32]⟩ ++ s2 ++ ⟨#[41]⟩)) ∧ w.grownBy w' none := by
  have hm1 := h1.meth
  have he1 := h1.ent
  have hm2 := h2.meth
  have he2 := h2.ent
  have HT : Hid (Tab w) := ht
  have C1 : Hid (∀ w, Tab w → Calls Tryz.prog f1 #[x1] w fun e w' => e = .returned (.string s1) ∧ w.grownBy w' none) := h1.call
  have C2 : Hid (∀ w, Tab w → Calls Tryz.prog f2 #[x2] w fun e w' => e = .returned (.string s2) ∧ w.grownBy w' none) := h2.call
  have C0 : Hid (∀ w, Tab w → Calls Tryz.prog 222 #[.int .i64 n] w fun e w' => e = .returned (.string s0) ∧ w.grownBy w' none) := h0
  clear h1 h2 h0 ht
  go_enter Tryz.func225, Tryz.ntmps225
  go_wp2_with fail
  have hg0 : w.grownBy (w.alloc (.cells #[.int .i64 n, .iface T1 x1, .iface T2 x2] 161 (0, 0))) none := grown_alloc (grown_refl _ _) _
  have hb0 := alloc_at w (.cells #[.int .i64 n, .iface T1 x1, .iface T2 x2] 161 (0, 0)) w.heap.size rfl
  generalize w.alloc (.cells #[.int .i64 n, .iface T1 x1, .iface T2 x2] 161 (0, 0)) = W at hg0 hb0 ⊢
  have cW : Hid (∀ w1, W.grownBy w1 none → w1.cell? ⟨w.heap.size, 0, none⟩ = some (.int .i64 n) ∧ w1.cell? ⟨w.heap.size, 1, none⟩ = some (.iface T1 x1) ∧ w1.cell? ⟨w.heap.size, 2, none⟩ = some (.iface T2 x2)) := fun w1 hg => by
    have := boxed hb0 w1 hg
    refine ⟨?_, ?_, ?_⟩ <;> simp [World.cell?, this]
  obtain ⟨a0, a1, a2⟩ := cW.out W (grown_refl _ _)
  have D0 : Hid (∀ wd, W.grownBy wd none → Calls Tryz.prog 222 #[.int .i64 n] wd fun e w' => e = .returned (.string s0) ∧ wd.grownBy w' none) := fun wd hd => C0.out wd ((HT.out.grown hg0).grown hd)
  have D1 : Hid (∀ wd, W.grownBy wd none → Calls Tryz.prog f1 #[x1] wd fun e w' => e = .returned (.string s1) ∧ wd.grownBy w' none) := fun wd hd => C1.out wd ((HT.out.grown hg0).grown hd)
  have D2 : Hid (∀ wd, W.grownBy wd none → Calls Tryz.prog f2 #[x2] wd fun e w' => e = .returned (.string s2) ∧ wd.grownBy w' none) := fun wd hd => C2.out wd ((HT.out.grown hg0).grown hd)
  have hg0' : Hid (w.grownBy W none) := hg0
  clear hb0 hg0
  go_region_held (fun w1 => w1.cell? ⟨w.heap.size, 0, none⟩ = some (.int .i64 n) ∧ w1.cell? ⟨w.heap.size, 1, none⟩ = some (.iface T1 x1) ∧ w1.cell? ⟨w.heap.size, 2, none⟩ = some (.iface T2 x2)) (go_keep) (first
    | (go_at_call 222; refine (D0.out _ (by exact ⟨rfl, rfl, rfl, Nat.le_refl _, fun _ _ _ => rfl⟩)).mono ?_; rintro e v0 ⟨rfl, hg10⟩; have hr0 : W.grownBy v0 none := ⟨hg10.os, hg10.tape, hg10.output, hg10.size, hg10.block⟩; have hq0 : W.grownBy v0 none := hr0; obtain ⟨b0, b1, b2⟩ := cW.out v0 hq0)
    | (go_at_fn f1; refine (D1.out _ (by exact ⟨hq0.os, hq0.tape, hq0.output, hq0.size, hq0.block⟩)).mono ?_; rintro e v1 ⟨rfl, hg11⟩; have hr1 : v0.grownBy v1 none := ⟨hg11.os, hg11.tape, hg11.output, hg11.size, hg11.block⟩; have hq1 : W.grownBy v1 none := grown_trans hq0 hr1; obtain ⟨c0, c1, c2⟩ := cW.out v1 hq1)
    | (go_at_fn f2; refine (D2.out _ (by exact ⟨hq1.os, hq1.tape, hq1.output, hq1.size, hq1.block⟩)).mono ?_; rintro e v2 ⟨rfl, hg12⟩; have hr2 : v1.grownBy v2 none := ⟨hg12.os, hg12.tape, hg12.output, hg12.size, hg12.block⟩; have hq2 : W.grownBy v2 none := grown_trans hq1 hr2; obtain ⟨d0, d1, d2⟩ := cW.out v2 hq2))
  all_goals
    go_wp2_with fail
    go_ret
    exact ⟨rfl, grown_trans hg0'.out hq2⟩
end Go.Proofs.YtjjlgjmebnkdjaaGreatDoor

namespace Go.Proofs.YtjjlgjmebnkdjaaGreatDoor
open Go Go.Proofs Go.RowKit Skein

set_option maxRecDepth 100000 in
set_option maxHeartbeats 16000000 in
theorem pifP {T1 : TypeId} {x1 : Value} {f1 : Nat} {s1 : ByteArray} {T2 : TypeId} {x2 : Value} {f2 : Nat} {s2 : ByteArray} {T3 : TypeId} {x3 : Value} {f3 : Nat} {s3 : ByteArray}  (h1 : Says T1 x1 f1 s1) (z1 : s1.size ≤ 36000) (h2 : Says T2 x2 f2 s2) (z2 : s2.size ≤ 36000) (h3 : Says T3 x3 f3 s3) (z3 : s3.size ≤ 36000) (w : World) (ht : Tab w) :
    Calls Tryz.prog 226 #[.agg #[.iface T1 x1, .iface T2 x2, .iface T3 x3]] w fun e w' => e = .returned (.string (⟨#[40, 105, 102, 32]⟩ ++ s1 ++ ⟨#[32, 116, 104, 101, 110, 32]⟩ ++ s2 ++ ⟨#[32, 101, 108, 115, 101, 32]⟩ ++ s3 ++ ⟨#[41]⟩)) ∧ w.grownBy w' none := by
  have hm1 := h1.meth
  have he1 := h1.ent
  have hm2 := h2.meth
  have he2 := h2.ent
  have hm3 := h3.meth
  have he3 := h3.ent
  have HT : Hid (Tab w) := ht
  have C1 : Hid (∀ w, Tab w → Calls Tryz.prog f1 #[x1] w fun e w' => e = .returned (.string s1) ∧ w.grownBy w' none) := h1.call
  have C2 : Hid (∀ w, Tab w → Calls Tryz.prog f2 #[x2] w fun e w' => e = .returned (.string s2) ∧ w.grownBy w' none) := h2.call
  have C3 : Hid (∀ w, Tab w → Calls Tryz.prog f3 #[x3] w fun e w' => e = .returned (.string s3) ∧ w.grownBy w' none) := h3.call
  clear h1 h2 h3 ht
  go_enter Tryz.func226, Tryz.ntmps226
  go_wp2_with fail
  have hg0 : w.grownBy (w.alloc (.cells #[.iface T1 x1, .iface T2 x2, .iface T3 x3] 164 (0, 0))) none := grown_alloc (grown_refl _ _) _
  have hb0 := alloc_at w (.cells #[.iface T1 x1, .iface T2 x2, .iface T3 x3] 164 (0, 0)) w.heap.size rfl
  generalize w.alloc (.cells #[.iface T1 x1, .iface T2 x2, .iface T3 x3] 164 (0, 0)) = W at hg0 hb0 ⊢
  have cW : Hid (∀ w1, W.grownBy w1 none → w1.cell? ⟨w.heap.size, 0, none⟩ = some (.iface T1 x1) ∧ w1.cell? ⟨w.heap.size, 1, none⟩ = some (.iface T2 x2) ∧ w1.cell? ⟨w.heap.size, 2, none⟩ = some (.iface T3 x3)) := fun w1 hg => by
    have := boxed hb0 w1 hg
    refine ⟨?_, ?_, ?_⟩ <;> simp [World.cell?, this]
  obtain ⟨a0, a1, a2⟩ := cW.out W (grown_refl _ _)
  have D1 : Hid (∀ wd, W.grownBy wd none → Calls Tryz.prog f1 #[x1] wd fun e w' => e = .returned (.string s1) ∧ wd.grownBy w' none) := fun wd hd => C1.out wd ((HT.out.grown hg0).grown hd)
  have D2 : Hid (∀ wd, W.grownBy wd none → Calls Tryz.prog f2 #[x2] wd fun e w' => e = .returned (.string s2) ∧ wd.grownBy w' none) := fun wd hd => C2.out wd ((HT.out.grown hg0).grown hd)
  have D3 : Hid (∀ wd, W.grownBy wd none → Calls Tryz.prog f3 #[x3] wd fun e w' => e = .returned (.string s3) ∧ wd.grownBy w' none) := fun wd hd => C3.out wd ((HT.out.grown hg0).grown hd)
  have hg0' : Hid (w.grownBy W none) := hg0
  clear hb0 hg0
  go_region_held (fun w1 => w1.cell? ⟨w.heap.size, 0, none⟩ = some (.iface T1 x1) ∧ w1.cell? ⟨w.heap.size, 1, none⟩ = some (.iface T2 x2) ∧ w1.cell? ⟨w.heap.size, 2, none⟩ = some (.iface T3 x3)) (go_keep) (first
    | (go_at_fn f1; refine (D1.out _ (by exact ⟨rfl, rfl, rfl, Nat.le_refl _, fun _ _ _ => rfl⟩)).mono ?_; rintro e v1 ⟨rfl, hg11⟩; have hr1 : W.grownBy v1 none := ⟨hg11.os, hg11.tape, hg11.output, hg11.size, hg11.block⟩; have hq1 : W.grownBy v1 none := hr1; obtain ⟨b0, b1, b2⟩ := cW.out v1 hq1)
    | (go_at_fn f2; refine (D2.out _ (by exact ⟨hq1.os, hq1.tape, hq1.output, hq1.size, hq1.block⟩)).mono ?_; rintro e v2 ⟨rfl, hg12⟩; have hr2 : v1.grownBy v2 none := ⟨hg12.os, hg12.tape, hg12.output, hg12.size, hg12.block⟩; have hq2 : W.grownBy v2 none := grown_trans hq1 hr2; obtain ⟨c0, c1, c2⟩ := cW.out v2 hq2)
    | (go_at_fn f3; refine (D3.out _ (by exact ⟨hq2.os, hq2.tape, hq2.output, hq2.size, hq2.block⟩)).mono ?_; rintro e v3 ⟨rfl, hg13⟩; have hr3 : v2.grownBy v3 none := ⟨hg13.os, hg13.tape, hg13.output, hg13.size, hg13.block⟩; have hq3 : W.grownBy v3 none := grown_trans hq2 hr3; obtain ⟨d0, d1, d2⟩ := cW.out v3 hq3))
  all_goals
    go_wp2_with fail
    go_ret
    exact ⟨rfl, grown_trans hg0'.out hq3⟩
end Go.Proofs.YtjjlgjmebnkdjaaGreatDoor

namespace Go.Proofs.YtjjlgjmebnkdjaaGreatDoor
open Go Go.Proofs Go.RowKit Skein

set_option maxRecDepth 100000 in
set_option maxHeartbeats 16000000 in
theorem preckP {T1 : TypeId} {x1 : Value} {f1 : Nat} {s1 : ByteArray} {T2 : TypeId} {x2 : Value} {f2 : Nat} {s2 : ByteArray} {g : ByteArray} (zg : g.size ≤ 36000) (h1 : Says T1 x1 f1 s1) (z1 : s1.size ≤ 36000) (h2 : Says T2 x2 f2 s2) (z2 : s2.size ≤ 36000) (w : World) (ht : Tab w) :
    Calls Tryz.prog 227 #[.agg #[.string g, .iface T1 x1, .iface T2 x2]] w fun e w' => e = .returned (.string (⟨#[40]⟩ ++ s1 ++ ⟨#[32]⟩ ++ g ++ ⟨#[32]⟩ ++ s2 ++ ⟨#[41]⟩)) ∧ w.grownBy w' none := by
  have hm1 := h1.meth
  have he1 := h1.ent
  have hm2 := h2.meth
  have he2 := h2.ent
  have HT : Hid (Tab w) := ht
  have C1 : Hid (∀ w, Tab w → Calls Tryz.prog f1 #[x1] w fun e w' => e = .returned (.string s1) ∧ w.grownBy w' none) := h1.call
  have C2 : Hid (∀ w, Tab w → Calls Tryz.prog f2 #[x2] w fun e w' => e = .returned (.string s2) ∧ w.grownBy w' none) := h2.call
  clear h1 h2 ht
  go_enter Tryz.func227, Tryz.ntmps227
  go_wp2_with fail
  have hg0 : w.grownBy (w.alloc (.cells #[.string g, .iface T1 x1, .iface T2 x2] 167 (0, 0))) none := grown_alloc (grown_refl _ _) _
  have hb0 := alloc_at w (.cells #[.string g, .iface T1 x1, .iface T2 x2] 167 (0, 0)) w.heap.size rfl
  generalize w.alloc (.cells #[.string g, .iface T1 x1, .iface T2 x2] 167 (0, 0)) = W at hg0 hb0 ⊢
  have cW : Hid (∀ w1, W.grownBy w1 none → w1.cell? ⟨w.heap.size, 0, none⟩ = some (.string g) ∧ w1.cell? ⟨w.heap.size, 1, none⟩ = some (.iface T1 x1) ∧ w1.cell? ⟨w.heap.size, 2, none⟩ = some (.iface T2 x2)) := fun w1 hg => by
    have := boxed hb0 w1 hg
    refine ⟨?_, ?_, ?_⟩ <;> simp [World.cell?, this]
  obtain ⟨a0, a1, a2⟩ := cW.out W (grown_refl _ _)
  have D1 : Hid (∀ wd, W.grownBy wd none → Calls Tryz.prog f1 #[x1] wd fun e w' => e = .returned (.string s1) ∧ wd.grownBy w' none) := fun wd hd => C1.out wd ((HT.out.grown hg0).grown hd)
  have D2 : Hid (∀ wd, W.grownBy wd none → Calls Tryz.prog f2 #[x2] wd fun e w' => e = .returned (.string s2) ∧ wd.grownBy w' none) := fun wd hd => C2.out wd ((HT.out.grown hg0).grown hd)
  have hg0' : Hid (w.grownBy W none) := hg0
  clear hb0 hg0
  go_region_held (fun w1 => w1.cell? ⟨w.heap.size, 0, none⟩ = some (.string g) ∧ w1.cell? ⟨w.heap.size, 1, none⟩ = some (.iface T1 x1) ∧ w1.cell? ⟨w.heap.size, 2, none⟩ = some (.iface T2 x2)) (go_keep) (first
    | (go_at_fn f1; refine (D1.out _ (by exact ⟨rfl, rfl, rfl, Nat.le_refl _, fun _ _ _ => rfl⟩)).mono ?_; rintro e v1 ⟨rfl, hg11⟩; have hr1 : W.grownBy v1 none := ⟨hg11.os, hg11.tape, hg11.output, hg11.size, hg11.block⟩; have hq1 : W.grownBy v1 none := hr1; obtain ⟨b0, b1, b2⟩ := cW.out v1 hq1)
    | (go_at_fn f2; refine (D2.out _ (by exact ⟨hq1.os, hq1.tape, hq1.output, hq1.size, hq1.block⟩)).mono ?_; rintro e v2 ⟨rfl, hg12⟩; have hr2 : v1.grownBy v2 none := ⟨hg12.os, hg12.tape, hg12.output, hg12.size, hg12.block⟩; have hq2 : W.grownBy v2 none := grown_trans hq1 hr2; obtain ⟨c0, c1, c2⟩ := cW.out v2 hq2))
  all_goals
    go_wp2_with fail
    go_ret
    exact ⟨rfl, grown_trans hg0'.out hq2⟩
end Go.Proofs.YtjjlgjmebnkdjaaGreatDoor

namespace Go.Proofs.YtjjlgjmebnkdjaaGreatDoor
open Go Go.Proofs Go.RowKit Skein
theorem m92 (x : Value) (w : World) : (method 376 173 x "Plain").run Tryz.prog w = .ok (229, x) w := by kernel_rfl
theorem m94 (x : Value) (w : World) : (method 376 167 x "Plain").run Tryz.prog w = .ok (227, x) w := by kernel_rfl
theorem m97 (x : Value) (w : World) : (method 376 161 x "Plain").run Tryz.prog w = .ok (225, x) w := by kernel_rfl
theorem m99 (x : Value) (w : World) : (method 376 155 x "Plain").run Tryz.prog w = .ok (223, x) w := by kernel_rfl
theorem m101 (x : Value) (w : World) : (method 376 164 x "Plain").run Tryz.prog w = .ok (226, x) w := by kernel_rfl
theorem m107 (x : Value) (w : World) : (method 376 149 x "Plain").run Tryz.prog w = .ok (220, x) w := by kernel_rfl
theorem m109 (x : Value) (w : World) : (method 376 152 x "Plain").run Tryz.prog w = .ok (221, x) w := by kernel_rfl
theorem m111 (x : Value) (w : World) : (method 376 170 x "Plain").run Tryz.prog w = .ok (228, x) w := by kernel_rfl
theorem m113 (x : Value) (w : World) : (method 376 176 x "Plain").run Tryz.prog w = .ok (230, x) w := by kernel_rfl
theorem m124 (x : Value) (w : World) : (method 376 158 x "Plain").run Tryz.prog w = .ok (224, x) w := by kernel_rfl

theorem sz_of {t : T} (h : Clean t) (hz : nodes t ≤ 600) : (plain t).size ≤ 36000 := by have := plain_size t h; omega
theorem vsize (n : Nat) (hn : n < 10 ^ 15) : ((⟨#[118]⟩ : ByteArray) ++ dig n).size ≤ 36000 := by
  have := dig_size n hn
  rw [ByteArray.size_append]
  have e : (ByteArray.mk #[118]).size = 1 := rfl
  omega

def Spk (t : T) : Prop := Clean t → nodes t ≤ 600 → ∃ T x f, pv t = .iface T x ∧ Says T x f (plain t)

theorem spk_list (a b : T) (ia : Spk a) (ib : Spk b) : Spk (.bin 58 a b) := by
  rintro ⟨-, ca, cb⟩ hz
  simp only [nodes] at hz
  obtain ⟨T1, x1, f1, e1, s1⟩ := ia ca (by omega)
  obtain ⟨T2, x2, f2, e2, s2⟩ := ib cb (by omega)
  refine ⟨173, .agg #[.iface T1 x1, .iface T2 x2], 229, ?_, m92 _, enters_of Tryz.func229 (by kernel_rfl) rfl, fun w ht => ?_⟩
  · show Value.iface 173 (.agg #[pv a, pv b]) = _
    rw [e1, e2]
  · have h := plistP s1 s2 (sz_of ca (by omega)) (sz_of cb (by omega)) w ht
    have e : plain (.bin 58 a b) = ⟨#[40]⟩ ++ plain a ++ ⟨#[32, 58, 32]⟩ ++ plain b ++ ⟨#[41]⟩ := by
      show ⟨#[40]⟩ ++ plain a ++ ⟨#[32]⟩ ++ ⟨#[58]⟩ ++ ⟨#[32]⟩ ++ plain b ++ ⟨#[41]⟩ = _
      rw [ByteArray.append_assoc (a := ⟨#[40]⟩ ++ plain a), ByteArray.append_assoc (a := ⟨#[40]⟩ ++ plain a)]; rfl
    rw [e]; exact h

theorem spk_reck (op : UInt8) (hop : (op == 58) = false) (a b : T) (ia : Spk a) (ib : Spk b) : Spk (.bin op a b) := by
  rintro ⟨-, ca, cb⟩ hz
  simp only [nodes] at hz
  obtain ⟨T1, x1, f1, e1, s1⟩ := ia ca (by omega)
  obtain ⟨T2, x2, f2, e2, s2⟩ := ib cb (by omega)
  refine ⟨167, .agg #[.string ⟨#[op]⟩, .iface T1 x1, .iface T2 x2], 227, ?_, m94 _, enters_of Tryz.func227 (by kernel_rfl) rfl, fun w ht => ?_⟩
  · show (if op == 58 then Value.iface 173 (.agg #[pv a, pv b]) else .iface 167 (.agg #[.string ⟨#[op]⟩, pv a, pv b])) = _
    rw [hop, e1, e2]; rfl
  · exact preckP (g := ⟨#[op]⟩) (by show 1 ≤ 36000; decide) s1 (sz_of ca (by omega)) s2 (sz_of cb (by omega)) w ht

theorem spk_let (n : Nat) (a b : T) (ia : Spk a) (ib : Spk b) : Spk (.letE n a b) := by
  rintro ⟨hn, ca, cb⟩ hz
  simp only [nodes] at hz
  obtain ⟨T1, x1, f1, e1, s1⟩ := ia ca (by omega)
  obtain ⟨T2, x2, f2, e2, s2⟩ := ib cb (by omega)
  refine ⟨161, .agg #[.int .i64 n, .iface T1 x1, .iface T2 x2], 225, ?_, m97 _, enters_of Tryz.func225 (by kernel_rfl) rfl, fun w ht => ?_⟩
  · show Value.iface 161 (.agg #[.int .i64 n, pv a, pv b]) = _
    rw [e1, e2]
  · have h := pletP (pcalled n (by omega)) (vsize n (by omega)) s1 (sz_of ca (by omega)) s2 (sz_of cb (by omega)) w ht
    have e : (⟨#[40, 108, 101, 116, 32]⟩ : ByteArray) ++ (⟨#[118]⟩ ++ dig n) = ⟨#[40, 108, 101, 116, 32, 118]⟩ ++ dig n := by
      rw [← ByteArray.append_assoc]; rfl
    rw [e] at h
    exact h

theorem spk_fn (n : Nat) (a : T) (ia : Spk a) : Spk (.fn n a) := by
  rintro ⟨hn, ca⟩ hz
  simp only [nodes] at hz
  obtain ⟨T1, x1, f1, e1, s1⟩ := ia ca (by omega)
  refine ⟨155, .agg #[.int .i64 n, .iface T1 x1], 223, ?_, m99 _, enters_of Tryz.func223 (by kernel_rfl) rfl, fun w ht => ?_⟩
  · show Value.iface 155 (.agg #[.int .i64 n, pv a]) = _
    rw [e1]
  · have h := pfnP (pcalled n (by omega)) (vsize n (by omega)) s1 (sz_of ca (by omega)) w ht
    have e : (⟨#[40, 92]⟩ : ByteArray) ++ (⟨#[118]⟩ ++ dig n) = ⟨#[40, 92, 118]⟩ ++ dig n := by
      rw [← ByteArray.append_assoc]; rfl
    rw [e] at h
    exact h

theorem spk_ite (a b c : T) (ia : Spk a) (ib : Spk b) (ic : Spk c) : Spk (.ite a b c) := by
  rintro ⟨ca, cb, cc⟩ hz
  simp only [nodes] at hz
  obtain ⟨T1, x1, f1, e1, s1⟩ := ia ca (by omega)
  obtain ⟨T2, x2, f2, e2, s2⟩ := ib cb (by omega)
  obtain ⟨T3, x3, f3, e3, s3⟩ := ic cc (by omega)
  refine ⟨164, .agg #[.iface T1 x1, .iface T2 x2, .iface T3 x3], 226, ?_, m101 _, enters_of Tryz.func226 (by kernel_rfl) rfl, fun w ht => ?_⟩
  · show Value.iface 164 (.agg #[pv a, pv b, pv c]) = _
    rw [e1, e2, e3]
  · exact pifP s1 (sz_of ca (by omega)) s2 (sz_of cb (by omega)) s3 (sz_of cc (by omega)) w ht

theorem spk_app (a b : T) (ia : Spk a) (ib : Spk b) : Spk (.app a b) := by
  rintro ⟨ca, cb⟩ hz
  simp only [nodes] at hz
  obtain ⟨T1, x1, f1, e1, s1⟩ := ia ca (by omega)
  obtain ⟨T2, x2, f2, e2, s2⟩ := ib cb (by omega)
  refine ⟨158, .agg #[.iface T1 x1, .iface T2 x2], 224, ?_, m124 _, enters_of Tryz.func224 (by kernel_rfl) rfl, fun w ht => ?_⟩
  · show Value.iface 158 (.agg #[pv a, pv b]) = _
    rw [e1, e2]
  · exact puseP s1 (sz_of ca (by omega)) s2 (sz_of cb (by omega)) w ht

theorem spk_un (op : UInt8) (a : T) (ia : Spk a) : Spk (.un op a) := by
  rintro ⟨hop, ca⟩ hz
  simp only [nodes] at hz
  obtain ⟨T1, x1, f1, e1, s1⟩ := ia ca (by omega)
  have key : ∀ g : ByteArray, pv (.un op a) = .iface 176 (.agg #[.string g, pv a]) → g.size ≤ 36000 → wordOf op = ⟨#[40]⟩ ++ g ++ ⟨#[32]⟩ → ∃ T x f, pv (.un op a) = .iface T x ∧ Says T x f (plain (.un op a)) := by
    intro g e hg hw
    refine ⟨176, .agg #[.string g, .iface T1 x1], 230, by rw [e, e1], m113 _, enters_of Tryz.func230 (by kernel_rfl) rfl, fun w ht => ?_⟩
    have h := ppartP (g := g) hg s1 (sz_of ca (by omega)) w ht
    rw [← hw] at h
    exact h
  rcases hop with rfl | rfl | rfl
  · exact key ⟨#[104, 101, 97, 100]⟩ rfl (by show 4 ≤ 36000; decide) rfl
  · exact key ⟨#[116, 97, 105, 108]⟩ rfl (by show 4 ≤ 36000; decide) rfl
  · exact key ⟨#[110, 117, 108, 108]⟩ rfl (by show 4 ≤ 36000; decide) rfl

theorem spk_all : ∀ t, Spk t := by
  intro t
  induction t with
  | junk => intro h; exact h.elim
  | free => intro h; exact h.elim
  | nil => intro _ _; exact ⟨170, _, 228, rfl, m111 _, enters_of Tryz.func228 (by kernel_rfl) rfl, fun w _ => pemptyP w⟩
  | num n => intro h _; have hn : n < 10 ^ 9 := h; exact ⟨149, _, 220, rfl, m107 _, enters_of Tryz.func220 (by kernel_rfl) rfl, fun w ht => pnumberP n (by omega) w ht⟩
  | var n => intro h _; have hn : n ≤ 300 := h; exact ⟨152, _, 221, rfl, m109 _, enters_of Tryz.func221 (by kernel_rfl) rfl, fun w ht => pnameP n (by omega) w ht⟩
  | letE n a b ia ib => exact spk_let n a b ia ib
  | fn n a ia => exact spk_fn n a ia
  | ite a b c ia ib ic => exact spk_ite a b c ia ib ic
  | app a b ia ib => exact spk_app a b ia ib
  | un op a ia => exact spk_un op a ia
  | bin op a b ia ib =>
    cases h : op == 58
    · exact spk_reck op h a b ia ib
    · have e : op = 58 := by simpa using h
      subst e; exact spk_list a b ia ib
end Go.Proofs.YtjjlgjmebnkdjaaGreatDoor

namespace Go.Proofs.YtjjlgjmebnkdjaaGreatDoor
open Go Go.Proofs Go.RowKit Skein

theorem NodeAt.lt {b : Nat} {w : World} {t : T} {v : Value} (h : NodeAt b w t v) (hc : Clean t) : b < w.heap.size := by
  have key : ∀ {op n : Int} {x y z : Value}, IsN b w v op n x y z → b < w.heap.size := fun ⟨k, _, hk, hh⟩ => Nat.lt_trans hk (Array.getElem?_eq_some_iff.1 hh).1
  cases t with
  | junk => exact hc.elim
  | free => exact hc.elim
  | nil => exact key h
  | num n => exact key h
  | var n => exact key h
  | letE n p q => obtain ⟨x, y, h, _⟩ := h; exact key h
  | fn n p => obtain ⟨x, h, _⟩ := h; exact key h
  | ite p q r => obtain ⟨x, y, z, h, _⟩ := h; exact key h
  | app p q => obtain ⟨x, y, h, _⟩ := h; exact key h
  | un op p => obtain ⟨x, h, _⟩ := h; exact key h
  | bin op p q => obtain ⟨x, y, h, _⟩ := h; exact key h

theorem Tab.below {w w' : World} (h : Tab w) (hb : Below w.heap.size w w') : Tab w' := h.grown (grown_below hb)
theorem below_grown {w w' : World} (hg : w.grownBy w' none) : Below w.heap.size w w' := ⟨hg.os, hg.tape, hg.output, hg.size, fun k hk => hg.block k hk (by simp)⟩

set_option maxRecDepth 100000 in
set_option maxHeartbeats 2000000 in
theorem pshow_err (s : ByteArray) (w : World) (t : T) (f : Int × Int) (hf : f.1 ≠ 0) (hR : ∀ w, Calls Tryz.prog 31 #[.string s] w (RPost w t f)) :
    Calls Tryz.prog 26 #[.string s] w fun e w' => e = .returned (.tuple #[.string ⟨#[]⟩, .int .i64 f.1]) ∧ Below w.heap.size w w' := by
  have HR : Hid (∀ w, Calls Tryz.prog 31 #[.string s] w (RPost w t f)) := hR
  have hne : (f.1 != 0) = true := by simpa using hf
  clear hR hf
  go_enter Tryz.func26, Tryz.ntmps26
  go_wp2_with fail
  refine (HR.out _).mono ?_
  rintro e w1 ⟨v, rfl, -, hv, hb⟩
  rcases hv with rfl | ⟨T1, x1, rfl⟩
  all_goals
    go_wp2_with fail
    go_quiet (fail)
    go_wp2_with fail
    have hB := hb.alloc hb.size (.cells #[.int .i64 f.1, .int .i64 f.2] 53 (0, 0))
    exact bodyPost_ret (v := .tuple #[.string ⟨#[]⟩, .int .i64 f.1]) (by simp [results, Tryz.results26, go_sem]) rfl ⟨rfl, hB.os, hB.tape, hB.output, hB.size, hB.block⟩

set_option maxRecDepth 100000 in
set_option maxHeartbeats 2000000 in
theorem pshow_ok (s : ByteArray) (w : World) (ht : Tab w) (t : T) {T1 : TypeId} {x1 : Value} {f1 : Nat} {p : ByteArray} (he : pv t = .iface T1 x1) (hs : Says T1 x1 f1 p) (hR : ∀ w, Calls Tryz.prog 31 #[.string s] w (RPost w t (0, 0))) :
    Calls Tryz.prog 26 #[.string s] w fun e w' => e = .returned (.tuple #[.string p, .int .i64 0]) ∧ Below w.heap.size w w' := by
  have HR : Hid (∀ w, Calls Tryz.prog 31 #[.string s] w (RPost w t (0, 0))) := hR
  have HT : Hid (Tab w) := ht
  have HE : Hid (pv t = .iface T1 x1) := he
  have hm1 := hs.meth
  have he1 := hs.ent
  have C1 : Hid (∀ w, Tab w → Calls Tryz.prog f1 #[x1] w fun e w' => e = .returned (.string p) ∧ w.grownBy w' none) := hs.call
  clear hR ht he hs
  go_enter Tryz.func26, Tryz.ntmps26
  go_wp2_with fail
  refine (HR.out _).mono ?_
  rintro e w1 ⟨v, rfl, hv, -, hb⟩
  have hv' := hv rfl
  rw [HE.out] at hv'
  subst hv'
  clear hv
  go_wp2_with fail
  have hB := hb.alloc hb.size (.cells #[.int .i64 0, .int .i64 0] 53 (0, 0))
  refine (C1.out _ (HT.out.below hB)).mono ?_
  rintro e w2 ⟨rfl, hg2⟩
  have hB2 := hB.trans ((below_grown hg2).mono hB.size)
  go_wp2_with fail
  exact bodyPost_ret (v := .tuple #[.string p, .int .i64 0]) (by simp [results, Tryz.results26, go_sem]) rfl ⟨rfl, hB2⟩

set_option maxRecDepth 100000 in
set_option maxHeartbeats 2000000 in
theorem rshow_err (s : ByteArray) (w : World) (f1 f2 : Int) (hf : f1 ≠ 0) (hD : ∀ w, Calls Tryz.prog 27 #[.string s] w fun e w' => ∃ a, e = .returned (.tuple #[.pointer a, .int .i64 f1, .int .i64 f2]) ∧ Below w.heap.size w w') :
    Calls Tryz.prog 28 #[.string s] w fun e w' => e = .returned (.tuple #[.string ⟨#[]⟩, .int .i64 f1]) ∧ Below w.heap.size w w' := by
  have HD : Hid (∀ w, Calls Tryz.prog 27 #[.string s] w fun e w' => ∃ a, e = .returned (.tuple #[.pointer a, .int .i64 f1, .int .i64 f2]) ∧ Below w.heap.size w w') := hD
  have hne : (f1 != 0) = true := by simpa using hf
  clear hD hf
  go_enter Tryz.func28, Tryz.ntmps28
  go_wp2_with fail
  refine (HD.out _).mono ?_
  rintro e w1 ⟨a, rfl, hb⟩
  go_wp2_with fail
  exact bodyPost_ret (v := .tuple #[.string ⟨#[]⟩, .int .i64 f1]) (by simp [results, Tryz.results28, go_sem]) rfl ⟨rfl, hb⟩

set_option maxRecDepth 100000 in
set_option maxHeartbeats 2000000 in
theorem rshow_ok (s : ByteArray) (w : World) (t : T) (hc : Clean t) (hz : nodes t ≤ 600) (hD : ∀ w, Calls Tryz.prog 27 #[.string s] w fun e w' => ∃ a, e = .returned (.tuple #[.pointer a, .int .i64 0, .int .i64 0]) ∧ NodeAt w.heap.size w' t (.pointer a) ∧ Below w.heap.size w w') :
    Calls Tryz.prog 28 #[.string s] w fun e w' => e = .returned (.tuple #[.string (plain t), .int .i64 0]) ∧ Below w.heap.size w w' := by
  have HD : Hid (∀ w, Calls Tryz.prog 27 #[.string s] w fun e w' => ∃ a, e = .returned (.tuple #[.pointer a, .int .i64 0, .int .i64 0]) ∧ NodeAt w.heap.size w' t (.pointer a) ∧ Below w.heap.size w w') := hD
  clear hD
  go_enter Tryz.func28, Tryz.ntmps28
  go_wp2_with fail
  refine (HD.out _).mono ?_
  rintro e w1 ⟨a, rfl, hn, hb⟩
  have HN : Hid (NodeAt w.heap.size w1 t (.pointer a)) := hn
  clear hn
  go_wp2_with fail
  refine (shn_all t _ _ _ HN.out (HN.out.lt hc) hc hz).mono ?_
  rintro e w2 ⟨rfl, hg⟩
  have hB2 := hb.trans ((below_grown hg).mono hb.size)
  go_wp2_with fail
  exact bodyPost_ret (v := .tuple #[.string (plain t), .int .i64 0]) (by simp [results, Tryz.results28, go_sem]) rfl ⟨rfl, hB2⟩

set_option maxRecDepth 100000 in
set_option maxHeartbeats 2000000 in
theorem showed_of (s : ByteArray) (w : World) (ht : Tab w) (q : ByteArray) (f : Int)
    (hC : ∀ w, Tab w → Calls Tryz.prog 26 #[.string s] w fun e w' => e = .returned (.tuple #[.string q, .int .i64 f]) ∧ Below w.heap.size w w')
    (hD : ∀ w, Calls Tryz.prog 28 #[.string s] w fun e w' => e = .returned (.tuple #[.string q, .int .i64 f]) ∧ Below w.heap.size w w') :
    Calls Tryz.prog 16 #[.string s] w fun e w' => e = .returned (.bool true) ∧ Below w.heap.size w w' := by
  have HC : Hid (∀ w, Tab w → Calls Tryz.prog 26 #[.string s] w fun e w' => e = .returned (.tuple #[.string q, .int .i64 f]) ∧ Below w.heap.size w w') := hC
  have HD : Hid (∀ w, Calls Tryz.prog 28 #[.string s] w fun e w' => e = .returned (.tuple #[.string q, .int .i64 f]) ∧ Below w.heap.size w w') := hD
  have HT : Hid (Tab w) := ht
  clear hC hD ht
  go_enter Tryz.func16, Tryz.ntmps16
  go_wp2_with fail
  refine (HC.out _ HT.out).mono ?_
  rintro e w1 ⟨rfl, hb1⟩
  go_wp2_with fail
  refine (HD.out _).mono ?_
  rintro e w2 ⟨rfl, hb2⟩
  have hb := hb1.trans (hb2.mono hb1.size)
  clear hb1 hb2
  go_wp2_with fail
  go_ret
  refine ⟨?_, hb⟩
  first | rfl | simp

theorem showed_ok (s : ByteArray) (w : World) (ht : Tab w) : Calls Tryz.prog 16 #[.string s] w fun e w' => e = .returned (.bool true) ∧ Below w.heap.size w w' := by
  by_cases hl : s.size ≤ 300
  · obtain ⟨t, m, hP⟩ := PM_ends s
    by_cases hf : (finish m).1 = 0
    · have hf0 : finish m = (0, 0) := by
        unfold finish at hf ⊢
        split at hf
        · simp at hf
        · rename_i h1
          rw [if_neg h1]
          split at hf
          · simp at hf
          · rename_i h2
            rw [if_neg h2]
            split at hf
            · simp at hf
            · rename_i h3; rw [if_neg h3]
      obtain ⟨hc, hz⟩ := whole_good hl hP hf0
      obtain ⟨T1, x1, f1, he, hs⟩ := spk_all t hc hz
      refine showed_of s w ht (plain t) 0 (fun w ht => pshow_ok s w ht t he hs (fun w => by rw [← hf0]; exact pread s w hl _ t m hP)) (fun w => rshow_ok s w t hc hz fun w => ?_)
      refine (parse_ok s w hl _ t m hP).mono ?_
      rintro e w' ⟨v, he, hn, ⟨a, rfl⟩, hb⟩
      rw [hf0] at he hn
      exact ⟨a, he, hn rfl, hb⟩
    · refine showed_of s w ht ⟨#[]⟩ (finish m).1 (fun w _ => pshow_err s w t (finish m) hf (fun w => pread s w hl _ t m hP)) (fun w => rshow_err s w (finish m).1 (finish m).2 hf fun w => ?_)
      refine (parse_ok s w hl _ t m hP).mono ?_
      rintro e w' ⟨v, he, -, ⟨a, rfl⟩, hb⟩
      exact ⟨a, he, hb⟩
  · have hs : 300 < s.size := by omega
    refine showed_of s w ht ⟨#[]⟩ 1 (fun w _ => pshow_err s w .nil (1, 0) (by decide) (fun w => pread_long s w hs .nil)) (fun w => rshow_err s w 1 0 (by decide) fun w => ?_)
    refine (parse_long s w hs).mono ?_
    rintro e w' ⟨rfl, rfl⟩
    exact ⟨none, rfl, Below.refl _ _⟩

set_option maxRecDepth 100000 in
set_option maxHeartbeats 1000000 in
theorem shows_ok (s : ByteArray) (w : World) (ht : Tab w) : Calls Tryz.prog 4 #[.string s] w fun e w' => e = .returned (.bool true) ∧ Below w.heap.size w w' := by
  have HT : Hid (Tab w) := ht
  clear ht
  go_enter Tryz.func4, Tryz.ntmps4
  go_wp2_with fail
  refine (showed_ok _ _ HT.out).mono ?_
  rintro e w1 ⟨rfl, hb1⟩
  go_wp2_with fail
  refine (showed_ok _ _ (HT.out.below hb1)).mono ?_
  rintro e w2 ⟨rfl, hb2⟩
  have hb := hb1.trans (hb2.mono hb1.size)
  clear hb1 hb2
  go_wp2_with fail
  go_ret
  exact ⟨rfl, hb⟩
end Go.Proofs.YtjjlgjmebnkdjaaGreatDoor
