/-
  The program's reckoning: the use of a function.
-/
import Derived.Test.YtdpbclnpmkhooaaGreatDoorEvF
namespace Go.Proofs.YtdpbclnpmkhooaaGreatDoor
open Go Go.Proofs Go.RowKit Skein

theorem GP.fr {b w w0 B B0 st L r e w'} (h : GP b w B st L r e w') (hk : FP b w0 w) (hB : Ext B0 B) : GP b w0 B0 st L r e w' := by
  rcases h with ⟨v, B', x, h1, h2, h3, h4, h5, h6⟩ | ⟨z, h1, h2, h3, h4⟩
  · exact .inl ⟨v, B', x, h1, h2, hk.trans h3, hB.trans h4, h5, h6⟩
  · exact .inr ⟨z, h1, h2, hk.below.trans h3, h4⟩

set_option maxRecDepth 100000 in
set_option maxHeartbeats 8000000 in
theorem ccall {n : Nat} (hN : CC n) {x : T} {env : List Nat} {r : R × E} {L i : Nat} {S : E} {b : Nat} {w : World} {B : List Nat} {st a k1 k2 : Nat} (he : ev L n (.need x (env ++ [i])) S = some r) (h : PE b w B st L S) (ha : B[i]? = some a) (hv : VP st w B (.fn x env) (.iface 176 (fnv 117 #[ptr k1, ptr k2]))) :
    Calls Tryz.prog 117 #[ptr a, ptr k1, ptr k2] w (GP b w B st L r) := by
  obtain ⟨hd, j1, j2, f1, c1, sc, hj, h1, h2, h3, h4⟩ := hv
  simp only [Value.iface.injEq, true_and, Value.func.injEq, Array.mk.injEq, List.cons.injEq, Value.pointer.injEq, Option.some.injEq, Addr.mk.injEq, and_true] at hj
  obtain ⟨rfl, rfl⟩ := hj
  obtain ⟨o, cap, rfl⟩ := h4.shape
  obtain ⟨e1, l1⟩ := h1.cell
  obtain ⟨e2, l2⟩ := h2.cell
  have hent := h3.ent
  have hb := h.blt
  have HW : Hid (∀ wd, World.grownBy w wd none → Calls Tryz.prog 118 #[.slice o env.length cap, ptr a] wd fun e w' => ∃ o n c, e = .returned (.slice o n c) ∧ World.grownBy w w' none ∧ ScAt w' B (env ++ [i]) (.slice o n c) ∧ w'.cell? ⟨k1, 0, none⟩ = some (fnv f1 c1)) := fun wd hg => (with_ok (h4.fr (b := b) (Fr.grown hb hg) (Ext.refl _)) ha (by omega)).mono fun _ w' hG => by
    obtain ⟨o', n', c', he', hg', hs'⟩ := hG
    have hgg := grown_trans hg hg'
    exact ⟨o', n', c', he', hgg, hs', (Is1.fr (b := b) h1 (Fr.grown hb hgg) (by decide) (by decide)).cell.1⟩
  have HC : Hid (∀ wd sc', World.grownBy w wd none → ScAt wd B (env ++ [i]) sc' → Calls Tryz.prog f1 (#[sc'] ++ c1) wd (GP b w B st L r)) := fun wd sc' hg hs => (hN L x (env ++ [i]) S r b wd B st f1 c1 sc' he (h.grown hg) (h3.fr (b := b) (Fr.grown hb hg)) hs (by simp; omega)).mono fun _ _ hG => hG.fr (Fr.grown hb hg) (Ext.refl _)
  clear h1 h2 h3 h4 he
  go_enter Tryz.func117, Tryz.ntmps117
  go_wp2_with fail
  go_region_with (first
    | (go_at_call 118; refine (HW.out _ (by exact grown_same (grown_refl _ _) rfl rfl rfl rfl)).mono ?_; rintro e w1 ⟨o1, n1, c1', rfl, hg1, hs1, e1'⟩)
    | (go_at_fn f1; refine (HC.out _ _ (by exact grown_same hg1 rfl rfl rfl rfl) (by exact hs1)).mono ?_; rintro e w2 (⟨v, B', y, hr, rfl, hk2, hB, hp, hv⟩ | ⟨z, hr, rfl, hb2, hs2⟩); rotate_left; exact ⟨rfl, .inr ⟨z, hr, rfl, hb2, hs2⟩⟩; obtain ⟨T1, y1, rfl⟩ := hv.shape; have HR : Hid (r.1 = .ok v) := hr; clear hr))
  all_goals
    go_wp2_with fail
    go_ret
    exact .inl ⟨v, B', _, HR.out, rfl, hk2, hB, hp, hv⟩
end Go.Proofs.YtdpbclnpmkhooaaGreatDoor
