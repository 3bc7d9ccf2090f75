/-
  The program's reckoning: what is held is needed.
-/
import Derived.Test.YtdpbclnpmkhooaaGreatDoorEvD
import Derived.Deep.RegionHeld3
import Derived.Shelf.Abstract
namespace Go.Proofs.YtdpbclnpmkhooaaGreatDoor
open Go Go.Proofs Go.RowKit Skein

/-- A closure's function is entered. -/
theorem CodeAt.ent {st w x f c} (h : CodeAt st w x f c) : ∀ (args : Array Value) (w : World), (callFunc f args).run Tryz.prog w = .ok (.enter f args) w := by
  cases x with
  | num n => obtain ⟨rfl, _⟩ := h; exact enters_of Tryz.func113 (by kernel_rfl) rfl
  | var n => obtain ⟨rfl, _⟩ := h; exact enters_of Tryz.func114 (by kernel_rfl) rfl
  | fn n a => obtain ⟨rfl, _⟩ := h; exact enters_of Tryz.func116 (by kernel_rfl) rfl
  | app a d => obtain ⟨rfl, _⟩ := h; exact enters_of Tryz.func119 (by kernel_rfl) rfl
  | letE n a d => obtain ⟨rfl, _⟩ := h; exact enters_of Tryz.func122 (by kernel_rfl) rfl
  | ite a d g => obtain ⟨rfl, _⟩ := h; exact enters_of Tryz.func123 (by kernel_rfl) rfl
  | bin op a d => obtain ⟨_, rfl, _⟩ := h; exact enters_of Tryz.func126 (by kernel_rfl) rfl
  | junk => exact h.elim
  | free => exact h.elim
  | nil => exact h.elim
  | un op a => exact h.elim

theorem held_cells {w : World} {a : Nat} {s x y z : Value} (h : w.heap[a]? = some (.cells #[s, x, y, z] 181 (0, 0))) :
    w.cell? ⟨a, 0, none⟩ = some s ∧ w.cell? ⟨a, 1, none⟩ = some x ∧ w.cell? ⟨a, 2, none⟩ = some y ∧ w.cell? ⟨a, 3, none⟩ = some z ∧ (∀ o, w.frozen? ⟨a, o, none⟩ = false) ∧ a < w.heap.size := by
  refine ⟨?_, ?_, ?_, ?_, fun o => ?_, heap_lt h⟩
  all_goals simp [World.cell?, World.frozen?, h]

set_option maxRecDepth 100000 in
set_option maxHeartbeats 2000000 in
theorem hneed_known {v : V} {L i : Nat} {S : E} {b : Nat} {w : World} {B : List Nat} {st a : Nat} (h : PE b w B st L S) (ha : B[i]? = some a) (hS : S.heap[i]? = some (.known v)) :
    Calls Tryz.prog 115 #[ptr a] w (GP b w B st L (.ok v, S)) := by
  obtain ⟨x, y, z, hh, hv⟩ := h.hd i _ a hS ha
  obtain ⟨T1, z1, rfl⟩ := hv.shape
  obtain ⟨c0, c1, c2, c3, cf, hlt⟩ := held_cells hh
  clear hh
  go_enter Tryz.func115, Tryz.ntmps115
  go_wp2_with fail
  go_ret
  exact GPV.got ⟨B, T1, z1, rfl, Fr.refl _ _ _ _, Ext.refl _, h, hv⟩

set_option maxRecDepth 100000 in
set_option maxHeartbeats 2000000 in
theorem hneed_busy {L i : Nat} {S : E} {b : Nat} {w : World} {B : List Nat} {st a : Nat} (h : PE b w B st L S) (ha : B[i]? = some a) (hS : S.heap[i]? = some .busy) :
    Calls Tryz.prog 115 #[ptr a] w (GP b w B st L (.err 7, S)) := by
  obtain ⟨x, y, z, hh⟩ := h.hd i _ a hS ha
  obtain ⟨c0, c1, c2, c3, cf, hlt⟩ := held_cells hh
  clear hh
  go_enter Tryz.func115, Tryz.ntmps115
  go_wp2_with fail
  exact ⟨rfl, GPX.got ⟨rfl, Below.refl _ _, h.steps⟩⟩

theorem PE.learn {b w B st L S} (h : PE b w B st L S) {i a : Nat} (ha : B[i]? = some a) {s1 s2 s3 s4 : Value} (hh : w.heap[a]? = some (.cells #[s1, s2, s3, s4] 181 (0, 0))) {v : V} {x : Value} (hv : VP st w B v x) :
    PE b ((w.setCell ⟨a, 3, none⟩ x).setCell ⟨a, 0, none⟩ (.int .i64 2)) B st L ⟨S.heap.set i (.known v), S.steps⟩ ∧ FP b w ((w.setCell ⟨a, 3, none⟩ x).setCell ⟨a, 0, none⟩ (.int .i64 2)) := by
  have hal := h.lo a (List.mem_of_getElem? ha)
  have h1 := RB.set hh 3 x
  have hf : FP b w ((w.setCell ⟨a, 3, none⟩ x).setCell ⟨a, 0, none⟩ (.int .i64 2)) := (Fr.set hh (.inl rfl) hal 3 x).trans (Fr.set h1 (.inl rfl) hal 0 _)
  refine ⟨h.turn hf ha (fun k hk _ => ?_) (.known v) ⟨s2, s3, x, ?_, hv.fr hf (Ext.refl _)⟩, hf⟩
  · rw [Below.heap_setCell _ _ _ _ hk, Below.heap_setCell _ _ _ _ hk]
  · rw [RB.set h1 0 (.int .i64 2)]; rfl

set_option maxRecDepth 100000 in
set_option maxHeartbeats 8000000 in
theorem hneed_wait {n : Nat} (hN : CC n) {x : T} {env : List Nat} {r : R × E} {L i : Nat} {S : E} {b : Nat} {w : World} {B : List Nat} {st a : Nat} (h : PE b w B st L S) (ha : B[i]? = some a) (hS : S.heap[i]? = some (.wait x env)) (he : ev L n (.need x env) ⟨S.heap.set i .busy, S.steps⟩ = some r) :
    Calls Tryz.prog 115 #[ptr a] w fun e w' => (∃ v, r.1 = .ok v ∧ GPV b w B st L v ⟨r.2.heap.set i (.known v), r.2.steps⟩ e w') ∨ (∃ z, r.1 = .err z ∧ GPX b w st L z r.2.steps e w') := by
  obtain ⟨hd, f, c, sc, hh, hc, hsc⟩ := h.hd i _ a hS ha
  obtain ⟨o, cap, rfl⟩ := hsc.shape
  obtain ⟨c0, c1, c2, c3, cf, hlt⟩ := held_cells hh
  have hal := h.lo a (List.mem_of_getElem? ha)
  have hk1 : FP b w (w.setCell ⟨a, 0, none⟩ (.int .i64 1)) := Fr.set hh (.inl rfl) hal 0 (.int .i64 1)
  have hh1 : (w.setCell ⟨a, 0, none⟩ (.int .i64 1)).heap[a]? = some (.cells #[.int .i64 1, fnv f c, .slice o env.length cap, .nilIface] 181 (0, 0)) := by rw [RB.set hh 0 (.int .i64 1)]; rfl
  have h1 := h.turn hk1 ha (fun k hk _ => Below.heap_setCell _ _ _ _ hk) .busy ⟨fnv f c, .slice o env.length cap, .nilIface, hh1⟩
  have hent := hc.ent
  have hc1 := hc.fr hk1
  have hsc1 := hsc.fr hk1 (Ext.refl B)
  have hC := fun wd (hg : World.grownBy (w.setCell ⟨a, 0, none⟩ (.int .i64 1)) wd none) => hN L x env _ r b wd B st f c _ he (h1.grown hg) (hc1.fr (Fr.grown h1.blt hg)) (hsc1.fr (Fr.grown h1.blt hg) (Ext.refl _)) hd
  have hb1 := h1.blt
  have HC : Hid (∀ wd, World.grownBy (w.setCell ⟨a, 0, none⟩ (.int .i64 1)) wd none → Calls Tryz.prog f (#[.slice o env.length cap] ++ c) wd fun e w' => (∃ v B' T x, r.1 = .ok v ∧ e = .returned (.iface T x) ∧ FP b w w' ∧ Ext B B' ∧ PE b w' B' st L r.2 ∧ VP st w' B' v (.iface T x) ∧ ∃ s1 s2 s3 s4, w'.heap[a]? = some (.cells #[s1, s2, s3, s4] 181 (0, 0))) ∨ (∃ z, r.1 = .err z ∧ GPX b w st L z r.2.steps e w')) := fun wd hg => (hC wd hg).mono fun _ _ hG => by
    have hkk := hk1.trans (Fr.grown hb1 hg)
    rcases hr : r.1 with v | z
    · obtain ⟨B', T, x, he, hk, hB, h1, hv⟩ := hG.v hr
      have ha' := hB _ _ ha
      have hi2 := (List.getElem?_eq_some_iff.1 ha').1
      rw [h1.len] at hi2
      exact .inl ⟨v, B', T, x, rfl, he, hkk.trans hk, hB, h1, hv, (h1.hd i _ a (List.getElem?_eq_getElem hi2) ha').cells⟩
    · obtain ⟨he, hk, h1⟩ := hG.x hr
      exact .inr ⟨z, rfl, he, hkk.below.trans hk, h1⟩
  clear hc hsc hc1 hsc1 hh he hS hC h1 hk1 hb1
  obtain ⟨e0, e1, e2, e3, ef, elt⟩ := held_cells hh1
  clear hh1
  go_enter Tryz.func115, Tryz.ntmps115
  go_wp2_with fail
  generalize w.setCell ⟨a, 0, none⟩ (.int .i64 1) = W1 at e0 e1 e2 e3 ef elt HC ⊢
  go_region_with (first | (go_at_fn f; refine (HC.out _ (by exact grown_same (grown_refl _ _) rfl rfl rfl rfl)).mono ?_; rintro e w1 (⟨v, B', T1, x1, hr, rfl, hk, hB, h1, hv, s1, s2, s3, s4, hh1⟩ | ⟨z, hr, rfl, hb, hs⟩); rotate_left; exact ⟨rfl, .inr ⟨z, hr, rfl, hb, hs⟩⟩; obtain ⟨g0, g1, g2, g3, gf, glt⟩ := held_cells hh1; have HR : Hid (r.1 = .ok v) := hr; clear hr))
  all_goals
    go_wp2_with fail
    obtain ⟨h2, hf2⟩ := h1.learn (hB _ _ ha) hh1 hv
    go_ret
    exact .inl ⟨v, HR.out, B', T1, x1, rfl, hk.trans hf2, hB, h2, hv.fr hf2 (Ext.refl _)⟩

theorem hneed (n : Nat) (hN : CC n) : CH (n + 1) := by
  intro L i S r b w B st a he h ha
  have hi := (List.getElem?_eq_some_iff.1 ha).1
  have hi' : i < S.heap.length := by rw [← h.len]; exact hi
  have hS : S.heap[i]? = some S.heap[i] := List.getElem?_eq_getElem hi'
  cases hx : S.heap[i] with
  | known v =>
    rw [hx] at hS
    simp only [ev, hS, Option.some.injEq] at he
    subst he; exact hneed_known h ha hS
  | busy =>
    rw [hx] at hS
    simp only [ev, hS, Option.some.injEq] at he
    subst he; exact hneed_busy h ha hS
  | wait x env =>
    rw [hx] at hS
    simp only [ev, hS] at he
    obtain ⟨⟨rr, S1⟩, he1, he2⟩ := Option.bind_eq_some_iff.1 he
    refine (hneed_wait hN h ha hS he1).mono ?_
    rintro e w' (⟨v, hr, hg⟩ | ⟨z, hr, hg⟩)
    · simp only at hr; subst hr; simp only [Option.some.injEq] at he2; subst he2; exact hg.got
    · simp only at hr; subst hr; simp only [Option.some.injEq] at he2; subst he2; exact GPX.got hg
end Go.Proofs.YtdpbclnpmkhooaaGreatDoor
