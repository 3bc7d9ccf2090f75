/-
  The program's plain form: a list.
-/
import Derived.Test.YtjjlgjmebnkdjaaGreatDoorPlA
namespace Go.Proofs.YtjjlgjmebnkdjaaGreatDoor
open Go Go.Proofs Go.RowKit Skein

set_option maxRecDepth 100000 in
set_option maxHeartbeats 4000000 in
theorem plistP {T1 T2 : TypeId} {x1 x2 : Value} {f1 f2 : Nat} {s1 s2 : ByteArray} (h1 : Says T1 x1 f1 s1) (h2 : Says T2 x2 f2 s2) (z1 : s1.size ≤ 36000) (z2 : s2.size ≤ 36000) (w : World) (ht : Tab w) :
    Calls Tryz.prog 229 #[.agg #[.iface T1 x1, .iface T2 x2]] w fun e w' => e = .returned (.string (⟨#[40]⟩ ++ s1 ++ ⟨#[32, 58, 32]⟩ ++ s2 ++ ⟨#[41]⟩)) ∧ w.grownBy w' none := by
  have hm1 := h1.meth
  have he1 := h1.ent
  have hm2 := h2.meth
  have he2 := h2.ent
  have HT : Hid (Tab w) := ht
  have C1 : Hid (∀ w, Tab w → Calls Tryz.prog f1 #[x1] w fun e w' => e = .returned (.string s1) ∧ w.grownBy w' none) := h1.call
  have C2 : Hid (∀ w, Tab w → Calls Tryz.prog f2 #[x2] w fun e w' => e = .returned (.string s2) ∧ w.grownBy w' none) := h2.call
  clear h1 h2 ht
  go_enter Tryz.func229, Tryz.ntmps229
  go_wp2_with fail
  have hg0 : w.grownBy (w.alloc (.cells #[.iface T1 x1, .iface T2 x2] 173 (0, 0))) none := grown_alloc (grown_refl _ _) _
  have hb0 := alloc_at w (.cells #[.iface T1 x1, .iface T2 x2] 173 (0, 0)) w.heap.size rfl
  generalize w.alloc (.cells #[.iface T1 x1, .iface T2 x2] 173 (0, 0)) = W at hg0 hb0 ⊢
  have cW : ∀ w1, W.grownBy w1 none → w1.cell? ⟨w.heap.size, 0, none⟩ = some (.iface T1 x1) ∧ w1.cell? ⟨w.heap.size, 1, none⟩ = some (.iface T2 x2) := fun w1 hg => by
    have := boxed hb0 w1 hg
    constructor <;> simp [World.cell?, this]
  obtain ⟨a0, a1⟩ := cW W (grown_refl _ _)
  have D1 : Hid (∀ wd, W.grownBy wd none → Calls Tryz.prog f1 #[x1] wd fun e w' => e = .returned (.string s1) ∧ wd.grownBy w' none) := fun wd hd => C1.out wd ((HT.out.grown hg0).grown hd)
  have D2 : Hid (∀ wd, W.grownBy wd none → Calls Tryz.prog f2 #[x2] wd fun e w' => e = .returned (.string s2) ∧ wd.grownBy w' none) := fun wd hd => C2.out wd ((HT.out.grown hg0).grown hd)
  go_region_with (first
    | (go_at_fn f1; refine (D1.out _ (by exact ⟨rfl, rfl, rfl, Nat.le_refl _, fun _ _ _ => rfl⟩)).mono ?_; rintro e w1 ⟨rfl, hg1⟩; have hg1' : W.grownBy w1 none := ⟨hg1.os, hg1.tape, hg1.output, hg1.size, hg1.block⟩; obtain ⟨b0, b1⟩ := cW w1 hg1'; have hg1'' := grown_trans hg0 hg1')
    | (go_at_fn f2; refine (D2.out _ (by exact ⟨hg1'.os, hg1'.tape, hg1'.output, hg1'.size, hg1'.block⟩)).mono ?_; rintro e w2 ⟨rfl, hg2⟩; have hg2' : w1.grownBy w2 none := ⟨hg2.os, hg2.tape, hg2.output, hg2.size, hg2.block⟩; have hg2'' := grown_trans hg1'' hg2'))
  all_goals
    go_wp2_with fail
    go_ret
    exact ⟨rfl, hg2''⟩
end Go.Proofs.YtjjlgjmebnkdjaaGreatDoor
