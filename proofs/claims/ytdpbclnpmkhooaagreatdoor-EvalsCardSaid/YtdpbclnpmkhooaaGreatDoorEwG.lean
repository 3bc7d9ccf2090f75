/-
  The program's reckoning: what is held is needed.
  The program's reckoning: the closures.
  The program's reckoning: the use of a function.
  The program's reckoning: a use, let, if, a sign.
-/
import Derived.Test.YtdpbclnpmkhooaaGreatDoorEwF
import Derived.Deep.RegionHeld3
import Derived.Shelf.Abstract
import Derived.Laws.EntriesVeiled
import Derived.Test.YtdpbclnpmkhooaaGreatDoorEwE
namespace Go.Proofs.YtdpbclnpmkhooaaGreatDoor
open Go Go.Proofs Go.RowKit Skein

/-- A closure's function is entered. -/
theorem CodeAt.ent {st w x f c} (h : CodeAt st w x f c) : ∀ (args : Array Value) (w : World), (callFunc f args).run Tryz.prog w = .ok (.enter f args) w := by
  cases x with
  | num n => obtain ⟨rfl, _⟩ := h; exact enters_of Tryz.func113 (by kernel_rfl) rfl
  | var n => obtain ⟨rfl, _⟩ := h; exact enters_of Tryz.func114 (by kernel_rfl) rfl
  | fn n a => obtain ⟨rfl, _⟩ := h; exact enters_of Tryz.func116 (by kernel_rfl) rfl
  | app a d => obtain ⟨rfl, _⟩ := h; exact enters_of Tryz.func119 (by kernel_rfl) rfl
  | letE n a d => obtain ⟨rfl, _⟩ := h; exact enters_of Tryz.func122 (by kernel_rfl) rfl
  | ite a d g => obtain ⟨rfl, _⟩ := h; exact enters_of Tryz.func123 (by kernel_rfl) rfl
  | bin op a d => obtain ⟨_, rfl, _⟩ := h; exact enters_of Tryz.func126 (by kernel_rfl) rfl
  | junk => exact h.elim
  | free => exact h.elim
  | nil => exact h.elim
  | un op a => exact h.elim

theorem held_cells {w : World} {a : Nat} {s x y z : Value} (h : w.heap[a]? = some (.cells #[s, x, y, z] 181 (0, 0))) :
    w.cell? ⟨a, 0, none⟩ = some s ∧ w.cell? ⟨a, 1, none⟩ = some x ∧ w.cell? ⟨a, 2, none⟩ = some y ∧ w.cell? ⟨a, 3, none⟩ = some z ∧ (∀ o, w.frozen? ⟨a, o, none⟩ = false) ∧ a < w.heap.size := by
  refine ⟨?_, ?_, ?_, ?_, fun o => ?_, heap_lt h⟩
  all_goals simp [World.cell?, World.frozen?, h]

set_option maxRecDepth 100000 in
set_option maxHeartbeats 2000000 in
theorem hneed_known {v : V} {L i : Nat} {S : E} {b : Nat} {w : World} {B : List Nat} {st a : Nat} (h : PE b w B st L S) (ha : B[i]? = some a) (hS : S.heap[i]? = some (.known v)) :
    Calls Tryz.prog 115 #[ptr a] w (GP b w B st L (.ok v, S)) := by
  obtain ⟨x, y, z, hh, hv⟩ := h.hd i _ a hS ha
  obtain ⟨T1, z1, rfl⟩ := hv.shape
  obtain ⟨c0, c1, c2, c3, cf, hlt⟩ := held_cells hh
  clear hh
  go_enter Tryz.func115, Tryz.ntmps115
  go_wp2_with fail
  go_ret
  exact GPV.got ⟨B, T1, z1, rfl, Fr.refl _ _ _ _, Ext.refl _, h, hv⟩

set_option maxRecDepth 100000 in
set_option maxHeartbeats 2000000 in
theorem hneed_busy {L i : Nat} {S : E} {b : Nat} {w : World} {B : List Nat} {st a : Nat} (h : PE b w B st L S) (ha : B[i]? = some a) (hS : S.heap[i]? = some .busy) :
    Calls Tryz.prog 115 #[ptr a] w (GP b w B st L (.err 7, S)) := by
  obtain ⟨x, y, z, hh⟩ := h.hd i _ a hS ha
  obtain ⟨c0, c1, c2, c3, cf, hlt⟩ := held_cells hh
  clear hh
  go_enter Tryz.func115, Tryz.ntmps115
  go_wp2_with fail
  exact ⟨rfl, GPX.got ⟨rfl, Below.refl _ _, h.steps⟩⟩

theorem PE.learn {b w B st L S} (h : PE b w B st L S) {i a : Nat} (ha : B[i]? = some a) {s1 s2 s3 s4 : Value} (hh : w.heap[a]? = some (.cells #[s1, s2, s3, s4] 181 (0, 0))) {v : V} {x : Value} (hv : VP st w B v x) :
    PE b ((w.setCell ⟨a, 3, none⟩ x).setCell ⟨a, 0, none⟩ (.int .i64 2)) B st L ⟨S.heap.set i (.known v), S.steps⟩ ∧ FP b w ((w.setCell ⟨a, 3, none⟩ x).setCell ⟨a, 0, none⟩ (.int .i64 2)) := by
  have hal := h.lo a (List.mem_of_getElem? ha)
  have h1 := RB.set hh 3 x
  have hf : FP b w ((w.setCell ⟨a, 3, none⟩ x).setCell ⟨a, 0, none⟩ (.int .i64 2)) := (Fr.set hh (.inl rfl) hal 3 x).trans (Fr.set h1 (.inl rfl) hal 0 _)
  refine ⟨h.turn hf ha (fun k hk _ => ?_) (.known v) ⟨s2, s3, x, ?_, hv.fr hf (Ext.refl _)⟩, hf⟩
  · rw [Below.heap_setCell _ _ _ _ hk, Below.heap_setCell _ _ _ _ hk]
  · rw [RB.set h1 0 (.int .i64 2)]; rfl

set_option maxRecDepth 100000 in
set_option maxHeartbeats 8000000 in
theorem hneed_wait {n : Nat} (hN : CC n) {x : T} {env : List Nat} {r : R × E} {L i : Nat} {S : E} {b : Nat} {w : World} {B : List Nat} {st a : Nat} (h : PE b w B st L S) (ha : B[i]? = some a) (hS : S.heap[i]? = some (.wait x env)) (he : ev L n (.need x env) ⟨S.heap.set i .busy, S.steps⟩ = some r) :
    Calls Tryz.prog 115 #[ptr a] w fun e w' => (∃ v, r.1 = .ok v ∧ GPV b w B st L v ⟨r.2.heap.set i (.known v), r.2.steps⟩ e w') ∨ (∃ z, r.1 = .err z ∧ GPX b w st L z r.2.steps e w') := by
  obtain ⟨hd, f, c, sc, hh, hc, hsc⟩ := h.hd i _ a hS ha
  obtain ⟨o, cap, rfl⟩ := hsc.shape
  obtain ⟨c0, c1, c2, c3, cf, hlt⟩ := held_cells hh
  have hal := h.lo a (List.mem_of_getElem? ha)
  have hk1 : FP b w (w.setCell ⟨a, 0, none⟩ (.int .i64 1)) := Fr.set hh (.inl rfl) hal 0 (.int .i64 1)
  have hh1 : (w.setCell ⟨a, 0, none⟩ (.int .i64 1)).heap[a]? = some (.cells #[.int .i64 1, fnv f c, .slice o env.length cap, .nilIface] 181 (0, 0)) := by rw [RB.set hh 0 (.int .i64 1)]; rfl
  have h1 := h.turn hk1 ha (fun k hk _ => Below.heap_setCell _ _ _ _ hk) .busy ⟨fnv f c, .slice o env.length cap, .nilIface, hh1⟩
  have hent := hc.ent
  have hc1 := hc.fr hk1
  have hsc1 := hsc.fr hk1 (Ext.refl B)
  have hC := fun wd (hg : World.grownBy (w.setCell ⟨a, 0, none⟩ (.int .i64 1)) wd none) => hN L x env _ r b wd B st f c _ he (h1.grown hg) (hc1.fr (Fr.grown h1.blt hg)) (hsc1.fr (Fr.grown h1.blt hg) (Ext.refl _)) hd
  have hb1 := h1.blt
  have HC : Hid (∀ wd, World.grownBy (w.setCell ⟨a, 0, none⟩ (.int .i64 1)) wd none → Calls Tryz.prog f (#[.slice o env.length cap] ++ c) wd fun e w' => (∃ v B' T x, r.1 = .ok v ∧ e = .returned (.iface T x) ∧ FP b w w' ∧ Ext B B' ∧ PE b w' B' st L r.2 ∧ VP st w' B' v (.iface T x) ∧ ∃ s1 s2 s3 s4, w'.heap[a]? = some (.cells #[s1, s2, s3, s4] 181 (0, 0))) ∨ (∃ z, r.1 = .err z ∧ GPX b w st L z r.2.steps e w')) := fun wd hg => (hC wd hg).mono fun _ _ hG => by
    have hkk := hk1.trans (Fr.grown hb1 hg)
    rcases hr : r.1 with v | z
    · obtain ⟨B', T, x, he, hk, hB, h1, hv⟩ := hG.v hr
      have ha' := hB _ _ ha
      have hi2 := (List.getElem?_eq_some_iff.1 ha').1
      rw [h1.len] at hi2
      exact .inl ⟨v, B', T, x, rfl, he, hkk.trans hk, hB, h1, hv, (h1.hd i _ a (List.getElem?_eq_getElem hi2) ha').cells⟩
    · obtain ⟨he, hk, h1⟩ := hG.x hr
      exact .inr ⟨z, rfl, he, hkk.below.trans hk, h1⟩
  clear hc hsc hc1 hsc1 hh he hS hC h1 hk1 hb1
  obtain ⟨e0, e1, e2, e3, ef, elt⟩ := held_cells hh1
  clear hh1
  go_enter Tryz.func115, Tryz.ntmps115
  go_wp2_with fail
  generalize w.setCell ⟨a, 0, none⟩ (.int .i64 1) = W1 at e0 e1 e2 e3 ef elt HC ⊢
  go_region_with (first | (go_at_fn f; refine (HC.out _ (by exact grown_same (grown_refl _ _) rfl rfl rfl rfl)).mono ?_; rintro e w1 (⟨v, B', T1, x1, hr, rfl, hk, hB, h1, hv, s1, s2, s3, s4, hh1⟩ | ⟨z, hr, rfl, hb, hs⟩); rotate_left; exact ⟨rfl, .inr ⟨z, hr, rfl, hb, hs⟩⟩; obtain ⟨g0, g1, g2, g3, gf, glt⟩ := held_cells hh1; have HR : Hid (r.1 = .ok v) := hr; clear hr))
  all_goals
    go_wp2_with fail
    obtain ⟨h2, hf2⟩ := h1.learn (hB _ _ ha) hh1 hv
    go_ret
    exact .inl ⟨v, HR.out, B', T1, x1, rfl, hk.trans hf2, hB, h2, hv.fr hf2 (Ext.refl _)⟩

theorem hneed (n : Nat) (hN : CC n) : CH (n + 1) := by
  intro L i S r b w B st a he h ha
  have hi := (List.getElem?_eq_some_iff.1 ha).1
  have hi' : i < S.heap.length := by rw [← h.len]; exact hi
  have hS : S.heap[i]? = some S.heap[i] := List.getElem?_eq_getElem hi'
  cases hx : S.heap[i] with
  | known v =>
    rw [hx] at hS
    simp only [ev, hS, Option.some.injEq] at he
    subst he; exact hneed_known h ha hS
  | busy =>
    rw [hx] at hS
    simp only [ev, hS, Option.some.injEq] at he
    subst he; exact hneed_busy h ha hS
  | wait x env =>
    rw [hx] at hS
    simp only [ev, hS] at he
    obtain ⟨⟨rr, S1⟩, he1, he2⟩ := Option.bind_eq_some_iff.1 he
    refine (hneed_wait hN h ha hS he1).mono ?_
    rintro e w' (⟨v, hr, hg⟩ | ⟨z, hr, hg⟩)
    · simp only at hr; subst hr; simp only [Option.some.injEq] at he2; subst he2; exact hg.got
    · simp only at hr; subst hr; simp only [Option.some.injEq] at he2; subst he2; exact GPX.got hg
end Go.Proofs.YtdpbclnpmkhooaaGreatDoor

namespace Go.Proofs.YtdpbclnpmkhooaaGreatDoor
open Go Go.Proofs Go.RowKit Skein

theorem Is1.cell {w k v T} (h : Is1 w k v T) : w.cell? ⟨k, 0, none⟩ = some v ∧ k < w.heap.size := by
  unfold Is1 at h
  exact ⟨by simp [World.cell?, h], heap_lt h⟩

set_option maxRecDepth 100000 in
set_option maxHeartbeats 2000000 in
theorem cnum (m : Nat) {L : Nat} {S : E} {b : Nat} {w : World} {B : List Nat} {st : Nat} {f : Nat} {c : Array Value} {o : Option Addr} {l cap : Nat} (h : PE b w B st L S) (hc : CodeAt st w (.num m) f c) :
    Calls Tryz.prog f (#[.slice o l cap] ++ c) w (GP b w B st L (.ok (.num m), S)) := by
  obtain ⟨rfl, k, rfl, h1⟩ := hc
  obtain ⟨e0, hlt⟩ := h1.cell
  clear h1
  show Calls Tryz.prog 113 #[.slice o l cap, ptr k] w _
  go_enter Tryz.func113, Tryz.ntmps113
  go_wp2_with fail
  go_ret
  exact GPV.got ⟨B, 127, .int .i64 m, rfl, Fr.refl _ _ _ _, Ext.refl _, h, rfl⟩

set_option maxRecDepth 100000 in
set_option maxHeartbeats 2000000 in
theorem cvar (n : Nat) (hF : CH n) (m j : Nat) {L : Nat} {S : E} {r : R × E} {env : List Nat} {b : Nat} {w : World} {B : List Nat} {st : Nat} {f : Nat} {c : Array Value} {sc : Value} (hj : env[m]? = some j) (he : ev L n (.force j) S = some r) (h : PE b w B st L S) (hc : CodeAt st w (.var m) f c) (hs : ScAt w B env sc) :
    Calls Tryz.prog f (#[sc] ++ c) w (GP b w B st L r) := by
  obtain ⟨rfl, k, rfl, h1⟩ := hc
  obtain ⟨e0, hlt⟩ := h1.cell
  clear h1
  have hm := (List.getElem?_eq_some_iff.1 hj).1
  rcases hs with ⟨rfl, _⟩ | ⟨g, cs, cap, rfl, hn, h1, h2, hh, ha⟩
  · cases hj
  obtain ⟨a, hBa, hca⟩ := ha m j hj
  have hcell : w.cell? ⟨g, m, none⟩ = some (ptr a) := by simp [World.cell?, hh, hca]
  have HF : Hid (Calls Tryz.prog 115 #[ptr a] w (GP b w B st L r)) := hF L j S r b w B st a he h hBa
  clear hh ha hca he hj
  have hml : (m : Int) < (env.length : Int) := by omega
  show Calls Tryz.prog 114 #[.slice (some ⟨g, 0, none⟩) env.length cap, ptr k] w _
  go_enter Tryz.func114, Tryz.ntmps114
  go_wp2_with fail
  refine HF.out.mono ?_
  rintro e w1 (⟨v, B', x, hr, rfl, hg⟩ | ⟨z, hr, rfl, hb, hs⟩)
  · have HR : Hid (r.1 = .ok v) := hr
    clear hr
    obtain ⟨hg1, hg2, hg3, hg4⟩ := hg
    obtain ⟨T1, x1, rfl⟩ := hg4.shape
    go_wp2_with fail
    go_ret
    exact .inl ⟨v, B', _, HR.out, rfl, hg1, hg2, hg3, hg4⟩
  · have HR : Hid (r.1 = .err z) := hr
    clear hr
    go_wp2_with fail
    exact ⟨rfl, .inr ⟨z, HR.out, rfl, hb, hs⟩⟩

set_option maxRecDepth 100000 in
set_option maxHeartbeats 2000000 in
theorem cfn (m : Nat) (y : T) {L : Nat} {S : E} {env : List Nat} {b : Nat} {w : World} {B : List Nat} {st : Nat} {f : Nat} {c : Array Value} {sc : Value} (h : PE b w B st L S) (hc : CodeAt st w (.fn m y) f c) (hs : ScAt w B env sc) (hd : env.length + dep (.fn m y) ≤ 1000) :
    Calls Tryz.prog f (#[sc] ++ c) w (GP b w B st L (.ok (.fn y env), S)) := by
  obtain ⟨rfl, k, f1, c1, rfl, h1, h2⟩ := hc
  obtain ⟨o, cap, rfl⟩ := hs.shape
  have hb := h.blt
  have hg := grown_alloc (grown_refl w none) (.cells #[.slice o env.length cap] 172 (0, 0))
  have hf : FP b w _ := Fr.grown hb hg
  have hx := alloc_at w (.cells #[.slice o env.length cap] 172 (0, 0)) _ rfl
  have hv : VP st (w.alloc (.cells #[.slice o env.length cap] 172 (0, 0))) B (.fn y env) (.iface 176 (fnv 117 #[ptr k, ptr w.heap.size])) := ⟨by simp only [dep] at hd; omega, k, w.heap.size, f1, c1, _, rfl, h1.fr hf (by decide) (by decide), hx, h2.fr hf, hs.fr hf (Ext.refl _)⟩
  have h3 := h.grown hg
  have hmf : ∀ (fn : Fn) (first cap : Array Value) (w : World), (Instr.makeFunc fn first cap).run Tryz.prog w = .ok (.func fn first cap) w := fun _ _ _ _ => rfl
  clear h1 h2 hs hx
  show Calls Tryz.prog 116 #[.slice o env.length cap, ptr k] w _
  go_enter Tryz.func116, Tryz.ntmps116
  go_wp2_with fail
  go_ret
  exact GPV.got ⟨B, 176, _, rfl, hf, Ext.refl _, h3, hv⟩
end Go.Proofs.YtdpbclnpmkhooaaGreatDoor

namespace Go.Proofs.YtdpbclnpmkhooaaGreatDoor
open Go Go.Proofs Go.RowKit Skein

theorem GP.fr {b w w0 B B0 st L r e w'} (h : GP b w B st L r e w') (hk : FP b w0 w) (hB : Ext B0 B) : GP b w0 B0 st L r e w' := by
  rcases h with ⟨v, B', x, h1, h2, h3, h4, h5, h6⟩ | ⟨z, h1, h2, h3, h4⟩
  · exact .inl ⟨v, B', x, h1, h2, hk.trans h3, hB.trans h4, h5, h6⟩
  · exact .inr ⟨z, h1, h2, hk.below.trans h3, h4⟩

set_option maxRecDepth 100000 in
set_option maxHeartbeats 8000000 in
theorem ccall {n : Nat} (hN : CC n) {x : T} {env : List Nat} {r : R × E} {L i : Nat} {S : E} {b : Nat} {w : World} {B : List Nat} {st a k1 k2 : Nat} (he : ev L n (.need x (env ++ [i])) S = some r) (h : PE b w B st L S) (ha : B[i]? = some a) (hv : VP st w B (.fn x env) (.iface 176 (fnv 117 #[ptr k1, ptr k2]))) :
    Calls Tryz.prog 117 #[ptr a, ptr k1, ptr k2] w (GP b w B st L r) := by
  obtain ⟨hd, j1, j2, f1, c1, sc, hj, h1, h2, h3, h4⟩ := hv
  simp only [Value.iface.injEq, true_and, Value.func.injEq, Array.mk.injEq, List.cons.injEq, Value.pointer.injEq, Option.some.injEq, Addr.mk.injEq, and_true] at hj
  obtain ⟨rfl, rfl⟩ := hj
  obtain ⟨o, cap, rfl⟩ := h4.shape
  obtain ⟨e1, l1⟩ := h1.cell
  obtain ⟨e2, l2⟩ := h2.cell
  have hent := h3.ent
  have hb := h.blt
  have HW : Hid (∀ wd, World.grownBy w wd none → Calls Tryz.prog 118 #[.slice o env.length cap, ptr a] wd fun e w' => ∃ o n c, e = .returned (.slice o n c) ∧ World.grownBy w w' none ∧ ScAt w' B (env ++ [i]) (.slice o n c) ∧ w'.cell? ⟨k1, 0, none⟩ = some (fnv f1 c1)) := fun wd hg => (with_ok (h4.fr (b := b) (Fr.grown hb hg) (Ext.refl _)) ha (by omega)).mono fun _ w' hG => by
    obtain ⟨o', n', c', he', hg', hs'⟩ := hG
    have hgg := grown_trans hg hg'
    exact ⟨o', n', c', he', hgg, hs', (Is1.fr (b := b) h1 (Fr.grown hb hgg) (by decide) (by decide)).cell.1⟩
  have HC : Hid (∀ wd sc', World.grownBy w wd none → ScAt wd B (env ++ [i]) sc' → Calls Tryz.prog f1 (#[sc'] ++ c1) wd (GP b w B st L r)) := fun wd sc' hg hs => (hN L x (env ++ [i]) S r b wd B st f1 c1 sc' he (h.grown hg) (h3.fr (b := b) (Fr.grown hb hg)) hs (by simp; omega)).mono fun _ _ hG => hG.fr (Fr.grown hb hg) (Ext.refl _)
  clear h1 h2 h3 h4 he
  go_enter Tryz.func117, Tryz.ntmps117
  go_wp2_with fail
  go_region_with (first
    | (go_at_call 118; refine (HW.out _ (by exact grown_same (grown_refl _ _) rfl rfl rfl rfl)).mono ?_; rintro e w1 ⟨o1, n1, c1', rfl, hg1, hs1, e1'⟩)
    | (go_at_fn f1; refine (HC.out _ _ (by exact grown_same hg1 rfl rfl rfl rfl) (by exact hs1)).mono ?_; rintro e w2 (⟨v, B', y, hr, rfl, hk2, hB, hp, hv⟩ | ⟨z, hr, rfl, hb2, hs2⟩); rotate_left; exact ⟨rfl, .inr ⟨z, hr, rfl, hb2, hs2⟩⟩; obtain ⟨T1, y1, rfl⟩ := hv.shape; have HR : Hid (r.1 = .ok v) := hr; clear hr))
  all_goals
    go_wp2_with fail
    go_ret
    exact .inl ⟨v, B', _, HR.out, rfl, hk2, hB, hp, hv⟩
end Go.Proofs.YtdpbclnpmkhooaaGreatDoor

namespace Go.Proofs.YtdpbclnpmkhooaaGreatDoor
open Go Go.Proofs Go.RowKit Skein

set_option maxRecDepth 100000 in
set_option maxHeartbeats 8000000 in
theorem capp (n : Nat) (hN : CC n) (x y : T) {L : Nat} {S : E} {r1 r : R × E} {env : List Nat} {b : Nat} {w : World} {B : List Nat} {st : Nat} {f : Nat} {c : Array Value} {sc : Value} (he1 : ev L n (.need x env) S = some r1)
    (he2 : (match r1.1.fn with | .ok f => if L ≤ r1.2.steps then some (R.err 8, r1.2) else ev L n (.need f.1 (f.2 ++ [r1.2.heap.length])) ⟨r1.2.heap ++ [.wait y env], r1.2.steps + 1⟩ | .error e => some (.err e, r1.2)) = some r)
    (h : PE b w B st L S) (hc : CodeAt st w (.app x y) f c) (hs : ScAt w B env sc) (hd : env.length + dep (.app x y) ≤ 1000) :
    Calls Tryz.prog f (#[sc] ++ c) w (GP b w B st L r) := by
  obtain ⟨rfl, k1, k2, k3, f1, c1, f2, c2, sg, rfl, h1, h2, h3, hx, hy⟩ := hc
  obtain ⟨o, cap, rfl⟩ := hs.shape
  obtain ⟨e1, l1⟩ := h1.cell
  have hent := hx.ent
  have hdx : env.length + dep x ≤ 1000 := by simp only [dep] at hd; omega
  have hdy : env.length + dep y ≤ 1000 := by simp only [dep] at hd; omega
  have HC : Hid (Calls Tryz.prog f1 (#[.slice o env.length cap] ++ c1) w (GP b w B st L r1)) := hN L x env S r1 b w B st f1 c1 _ he1 h hx hs hdx
  have H2 : Hid (w.heap[k2]? = some (.cells #[ptr st, sg] 108 (0, 0))) := h2
  have H3 : Hid (Is1 w k3 (fnv f2 c2) 112) := h3
  have HY : Hid (CodeAt st w y f2 c2) := hy
  have HS : Hid (ScAt w B env (.slice o env.length cap)) := hs
  have HE : Hid ((match r1.1.fn with | .ok f => if L ≤ r1.2.steps then some (R.err 8, r1.2) else ev L n (.need f.1 (f.2 ++ [r1.2.heap.length])) ⟨r1.2.heap ++ [.wait y env], r1.2.steps + 1⟩ | .error e => some (.err e, r1.2)) = some r) := he2
  clear h1 h2 h3 hx hy hs he1 he2
  show Calls Tryz.prog 119 #[.slice o env.length cap, ptr k1, ptr k2, ptr k3] w _
  go_enter Tryz.func119, Tryz.ntmps119
  go_wp2_with fail
  refine HC.out.mono ?_
  rintro e w1 (⟨v, B', u, hr, rfl, hk1, hB, hp1, hv⟩ | ⟨z, hr, rfl, hb1, hs1⟩)
  · cases v with
    | nil => exact hv.elim
    | cons i j => exact hv.elim
    | num m =>
      have hv' : u = .iface 127 (.int .i64 m) := hv
      subst hv'
      have HF : Hid (r = (.err 5, r1.2)) := by
        have := HE.out; rw [hr] at this; simp only [R.fn, Option.some.injEq] at this; exact this.symm
      clear hv hr HE
      go_wp2_with fail
      refine (as_fn_no m w1).mono ?_
      rintro e w2 ⟨rfl, rfl⟩
      go_wp2_with fail
      refine ⟨rfl, ?_⟩
      rw [HF.out]
      exact GPX.got ⟨rfl, hk1.below, hp1.steps⟩
    | fn t fe =>
      obtain ⟨hdt, j1, j2, g1, d1, sc', rfl, q1, q2, q3, q4⟩ := hv
      have HF : Hid ((if L ≤ r1.2.steps then some (R.err 8, r1.2) else ev L n (.need t (fe ++ [r1.2.heap.length])) ⟨r1.2.heap ++ [.wait y env], r1.2.steps + 1⟩) = some r) := by
        have := HE.out; rw [hr] at this; exact this
      have HV : Hid (VP st w1 B' (.fn t fe) (.iface 176 (fnv 117 #[ptr j1, ptr j2]))) := ⟨hdt, j1, j2, g1, d1, sc', rfl, q1, q2, q3, q4⟩
      clear hr HE q1 q2 q3 q4
      have hm1 := hk1.keep _ _ 108 (by decide) (by decide) H2.out
      have e2 : w1.cell? ⟨k2, 0, none⟩ = some (ptr st) := by simp [World.cell?, hm1]
      clear hm1
      go_wp2_with fail
      refine (as_fn 117 #[ptr j1, ptr j2] w1).mono ?_
      rintro e w2 ⟨rfl, rfl⟩
      go_wp2_with fail
      by_cases hl : L ≤ r1.2.steps
      · refine (count_no hp1 hl).mono ?_
        rintro e w3 ⟨rfl, hb3, hs3⟩
        go_wp2_with fail
        refine ⟨rfl, ?_⟩
        have hF := HF.out
        rw [if_pos hl] at hF
        cases hF
        exact GPX.got ⟨rfl, hk1.below.trans hb3, hs3⟩
      · refine (count_ok hp1 hl).mono ?_
        rintro e w3 ⟨rfl, hk3, hp3⟩
        have hF := HF.out
        rw [if_neg hl] at hF
        have hk13 := hk1.trans hk3
        obtain ⟨e3, l3⟩ := (H3.out.fr hk13 (by decide) (by decide)).cell
        have hg := grown_alloc (grown_refl w3 none) (.cells #[.int .i64 0, fnv f2 c2, .slice o env.length cap, .nilIface] 181 (0, 0))
        have hf4 : FP b w3 _ := Fr.grown hp3.blt hg
        have hB2 : Ext B' (B' ++ [w3.heap.size]) := Ext.app _ _
        have h4 := hp3.more hg (.wait y env) w3.heap.size (Nat.le_refl _) ⟨hdy, f2, c2, _, alloc_at w3 _ _ rfl, HY.out.fr (hk13.trans hf4), HS.out.fr (hk13.trans hf4) (hB.trans hB2)⟩
        have hnew : (B' ++ [w3.heap.size])[r1.2.heap.length]? = some w3.heap.size := by have := hp3.len; simp only at this; rw [← this]; simp
        have HD : Hid (Calls Tryz.prog 117 #[ptr w3.heap.size, ptr j1, ptr j2] (w3.alloc (.cells #[.int .i64 0, fnv f2 c2, .slice o env.length cap, .nilIface] 181 (0, 0))) (GP b w B st L r)) := (ccall hN hF h4 hnew (HV.out.fr (hk3.trans hf4) hB2)).mono fun _ _ hG => hG.fr (hk13.trans hf4) (hB.trans hB2)
        clear hF h4 hnew
        go_wp2_with fail
        refine HD.out.mono ?_
        rintro e w5 (⟨v, B5, u, hr, rfl, hk5, hB5, hp5, hv5⟩ | ⟨z, hr, rfl, hb5, hs5⟩)
        · obtain ⟨T1, y1, rfl⟩ := hv5.shape
          have HR : Hid (r.1 = .ok v) := hr
          clear hr
          go_wp2_with fail
          go_ret
          exact .inl ⟨v, B5, _, HR.out, rfl, hk5, hB5, hp5, hv5⟩
        · have HR : Hid (r.1 = .err z) := hr
          clear hr
          go_wp2_with fail
          exact ⟨rfl, .inr ⟨z, HR.out, rfl, hb5, hs5⟩⟩
  · have HF : Hid (r = (.err z, r1.2)) := by
      have := HE.out; rw [hr] at this; simp only [R.fn, Option.some.injEq] at this; exact this.symm
    clear hr HE
    go_wp2_with fail
    refine ⟨rfl, ?_⟩
    rw [HF.out]
    exact GPX.got ⟨rfl, hb1, hs1⟩
end Go.Proofs.YtdpbclnpmkhooaaGreatDoor
