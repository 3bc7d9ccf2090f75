/-
  The document's walk: fails, step, truth, number.
  The document's walk: force; what is needed, case by case.
-/
import Derived.Test.YtjjlgjmebnkdjaaGreatDoorWc01
import Derived.Deep.RegionHeld
namespace Go.Proofs.YtjjlgjmebnkdjaaGreatDoor
open Go Go.Proofs Go.RowKit Skein

theorem belowSame {b : Nat} {w w1 w2 : World} (h : Below b w w1) (e1 : w2.heap = w1.heap) (e2 : w2.os = w1.os) (e3 : w2.tape = w1.tape) (e4 : w2.output = w1.output) : Below b w w2 :=
  ⟨e2.trans h.os, e3.trans h.tape, e4.trans h.output, by rw [e1]; exact h.size, fun k hk => by rw [e1]; exact h.block k hk⟩
theorem grown_same {w w1 w2 : World} {r : Option Nat} (h : w.grownBy w1 r) (e1 : w2.heap = w1.heap) (e2 : w2.os = w1.os) (e3 : w2.tape = w1.tape) (e4 : w2.output = w1.output) : w.grownBy w2 r :=
  ⟨e2.trans h.os, e3.trans h.tape, e4.trans h.output, by rw [e1]; exact h.size, fun k hk hn => by rw [e1]; exact h.block k hk hn⟩
theorem Fr.same {d1 d2 b : Nat} {w w1 w2 : World} (h : Fr d1 d2 b w w1) (e1 : w2.heap = w1.heap) (e2 : w2.os = w1.os) (e3 : w2.tape = w1.tape) (e4 : w2.output = w1.output) : Fr d1 d2 b w w2 :=
  ⟨belowSame h.below e1 e2 e3 e4, fun k cs T h1 h2 h3 => by rw [e1]; exact h.keep k cs T h1 h2 h3⟩
theorem NodeAt.same {b w w'} (e : w'.heap = w.heap) : ∀ {t : T} {v : Value}, NodeAt b w t v → NodeAt b w' t v := by
  have hI : ∀ {v op n x y z}, IsN b w v op n x y z → IsN b w' v op n x y z := by
    rintro v op n x y z ⟨k, h1, h2, h3⟩; exact ⟨k, h1, h2, by rw [e]; exact h3⟩
  intro t
  induction t with
  | junk => exact fun h => h
  | free => exact fun h => h
  | nil => exact fun h => hI h
  | num n => exact fun h => hI h
  | var n => exact fun h => hI h
  | letE n p q ip iq => rintro v ⟨x, y, h, hp, hq⟩; exact ⟨x, y, hI h, ip hp, iq hq⟩
  | fn n p ip => rintro v ⟨x, h, hp⟩; exact ⟨x, hI h, ip hp⟩
  | ite p q r ip iq ir => rintro v ⟨x, y, z, h, hp, hq, hr⟩; exact ⟨x, y, z, hI h, ip hp, iq hq, ir hr⟩
  | app p q ip iq => rintro v ⟨x, y, h, hp, hq⟩; exact ⟨x, y, hI h, ip hp, iq hq⟩
  | un op p ip => rintro v ⟨x, h, hp⟩; exact ⟨x, hI h, ip hp⟩
  | bin op p q ip iq => rintro v ⟨x, y, h, hp, hq⟩; exact ⟨x, y, hI h, ip hp, iq hq⟩
theorem NmR.same {w w' : World} {A} (e : w'.heap = w.heap) : ∀ {env v}, NmR w A env v → NmR w' A env v := by
  intro env
  induction env with
  | nil => exact fun h => h
  | cons i r ih => rintro v ⟨k, a, up, h1, ha, hh, hr⟩; exact ⟨k, a, up, h1, ha, by rw [e]; exact hh, ih hr⟩
theorem VR.same {b w w' A} (e : w'.heap = w.heap) {v : V} {x : Value} (h : VR b w A v x) : VR b w' A v x := by
  cases v with
  | num n => exact h
  | nil => exact h
  | fn y env => obtain ⟨ht, p, q, h1, hp, hq⟩ := h; exact ⟨ht, p, q, h1, NodeAt.same e hp, NmR.same e hq⟩
  | cons i j => exact h
theorem TkAt.same {b w w' A} (e : w'.heap = w.heap) {c : C} {a : Nat} (h : TkAt b w A c a) : TkAt b w' A c a := by
  cases c with
  | wait x env => obtain ⟨ht, p, q, hh, hp, hq⟩ := h; exact ⟨ht, p, q, by rw [e]; exact hh, NodeAt.same e hp, NmR.same e hq⟩
  | busy => obtain ⟨p, q, hh⟩ := h; exact ⟨p, q, by rw [e]; exact hh⟩
  | known v => obtain ⟨p, q, k, n, p1, p2, p3, p4, hh, hv⟩ := h; exact ⟨p, q, k, n, p1, p2, p3, p4, by rw [e]; exact hh, hv.same e⟩
theorem WB.same {w w' wb n L x} (e : w'.heap = w.heap) (h : WB w wb n L x) : WB w' wb n L x := by unfold WB; rw [e]; exact h
theorem RE.same {b w w' A wb L S} (h : RE b w A wb L S) (e : w'.heap = w.heap) : RE b w' A wb L S :=
  ⟨h.walk.same e, h.len, fun i c a h1 h2 => (h.tk i c a h1 h2).same e, h.inj, h.lo, h.wlo, h.lim⟩
theorem RX.same {b w w' A wb L n x} (h : RX b w A wb L n x) (e : w'.heap = w.heap) : RX b w' A wb L n x :=
  ⟨h.walk.same e, h.ne, fun a ha => by rw [e]; exact h.tk a ha, h.lo, h.wlo⟩

set_option maxRecDepth 100000 in
set_option maxHeartbeats 1000000 in
theorem rtruth (c : Bool) (w : World) :
    Calls Tryz.prog 69 #[.bool c] w fun e w' => e = .returned (rv 110 (tr c) nilp nilp nilp nilp) ∧ w.grownBy w' none := by
  cases c
  · go_enter Tryz.func69, Tryz.ntmps69
    go_wp2_with fail
    exact bodyPost_ret (v := rv 110 0 nilp nilp nilp nilp) (by simp [results, Tryz.results69, go_sem, rv]) rfl ⟨rfl, grown_alloc (grown_refl _ _) _⟩
  · go_enter Tryz.func69, Tryz.ntmps69
    go_wp2_with fail
    exact bodyPost_ret (v := rv 110 1 nilp nilp nilp nilp) (by simp [results, Tryz.results69, go_sem, rv]) rfl ⟨rfl, grown_alloc (grown_refl _ _) _⟩

theorem WB.fault {w wb n L e} (h : WB w wb n L e) (x : Int) : WB (w.setCell ⟨wb, 2, none⟩ (.int .i64 x)) wb n L x := by
  have := RB.set h 2 (.int .i64 x)
  unfold WB at h ⊢
  rw [this]; rfl

theorem RE.fault {b w A wb L S} (h : RE b w A wb L S) (x : Int) (hx : x ≠ 0) : RX b (w.setCell ⟨wb, 2, none⟩ (.int .i64 x)) A wb L S.steps x := by
  refine ⟨h.walk.fault x, hx, fun a ha => ?_, h.lo, h.wlo⟩
  obtain ⟨i, hi, e⟩ := List.mem_iff_getElem.1 ha
  have hne := h.ne (i := i) (a := a) (by rw [List.getElem?_eq_getElem hi, e])
  obtain ⟨cs, hh, hs⟩ := h.fine a ha
  exact ⟨cs, by rw [Below.heap_setCell _ _ _ _ (by show a ≠ wb; omega)]; exact hh, hs⟩

set_option maxRecDepth 100000 in
set_option maxHeartbeats 1000000 in
theorem rfails {b w A wb L S} (h : RE b w A wb L S) (x : Int) (hx : x ≠ 0) :
    Calls Tryz.prog 55 #[ptr wb, .int .i64 x] w fun e w' => e = .returned (rv 0 0 nilp nilp nilp nilp) ∧ Fr 89 68 b w w' ∧ RX b w' A wb L S.steps x := by
  obtain ⟨c0, c1, c2, cf, hlt⟩ := h.walk.cells
  have hk : Fr 89 68 b w (w.setCell ⟨wb, 2, none⟩ (.int .i64 x)) := Fr.set h.walk (.inr rfl) h.wlo _ _
  have h' := h.fault x hx
  have hx' : Hid (x ≠ 0) := hx
  clear hx
  go_enter Tryz.func55, Tryz.ntmps55
  go_wp2_with fail
  exact bodyPost_ret (v := rv 0 0 nilp nilp nilp nilp) (by simp [results, Tryz.results55, go_sem, rv]) rfl ⟨rfl, hk.trans (Fr.alloc h'.blt _), h'.grown (grown_alloc (grown_refl _ _) _)⟩

theorem RE.stepped {b w A wb L S} (h : RE b w A wb L S) : RE b (w.setCell ⟨wb, 0, none⟩ (.int .i64 ((S.steps : Int) + 1))) A wb L ⟨S.heap, S.steps + 1⟩ := by
  have hk : Fr 89 68 b w (w.setCell ⟨wb, 0, none⟩ (.int .i64 ((S.steps : Int) + 1))) := Fr.set h.walk (.inr rfl) h.wlo _ _
  refine ⟨?_, h.len, fun i c a h1 h2 => ?_, h.inj, h.lo, h.wlo, h.lim⟩
  · have := RB.set h.walk 0 (.int .i64 ((S.steps : Int) + 1))
    unfold WB
    rw [this]; rfl
  · exact (h.tk i c a h1 h2).fr hk (Ext.refl _) (Below.heap_setCell _ _ _ _ (by have := h.ne h2; show a ≠ wb; omega))

set_option maxRecDepth 100000 in
set_option maxHeartbeats 1000000 in
theorem rstep_ok {b w A wb L S} (h : RE b w A wb L S) (hl : ¬ L ≤ S.steps) :
    Calls Tryz.prog 56 #[ptr wb] w fun e w' => e = .returned (.tuple #[]) ∧ Fr 89 68 b w w' ∧ RE b w' A wb L ⟨S.heap, S.steps + 1⟩ := by
  obtain ⟨c0, c1, c2, cf, hlt⟩ := h.walk.cells
  have hk : Fr 89 68 b w (w.setCell ⟨wb, 0, none⟩ (.int .i64 ((S.steps : Int) + 1))) := Fr.set h.walk (.inr rfl) h.wlo _ _
  have h' := h.stepped
  have hL := h.lim
  have hd : decide ((L : Int) ≤ (S.steps : Int)) = false := by simp; omega
  go_enter Tryz.func56, Tryz.ntmps56
  go_wp2_with fail
  go_quiet (fail)
  go_wp2_with fail
  go_end0
  exact ⟨rfl, ⟨belowSame hk.below rfl rfl rfl rfl, hk.keep⟩, h'.same rfl⟩

set_option maxRecDepth 100000 in
set_option maxHeartbeats 1000000 in
theorem rstep_no {b w A wb L S} (h : RE b w A wb L S) (hl : L ≤ S.steps) :
    Calls Tryz.prog 56 #[ptr wb] w fun e w' => e = .returned (.tuple #[]) ∧ Fr 89 68 b w w' ∧ RX b w' A wb L S.steps 8 := by
  obtain ⟨c0, c1, c2, cf, hlt⟩ := h.walk.cells
  have hd : decide ((L : Int) ≤ (S.steps : Int)) = true := by simp; omega
  go_enter Tryz.func56, Tryz.ntmps56
  go_wp2_with fail
  go_quiet (fail)
  go_wp2_with fail
  refine (rfails (h.grown (grown_drewN (grown_refl w none) _)) 8 (by decide)).mono ?_
  rintro e w2 ⟨rfl, hk4, h3⟩
  go_wp2_with fail
  refine bodyPost_ret (v := .tuple #[]) (by simp [results, Tryz.results56, go_sem]) rfl ?_
  exact ⟨rfl, ⟨⟨hk4.below.os, hk4.below.tape, hk4.below.output, hk4.below.size, hk4.below.block⟩, hk4.keep⟩, h3⟩

theorem VR.num_or {b w A v k n p1 p2 p3 p4} (h : VR b w A v (rv k n p1 p2 p3 p4)) : (k = 110 ∧ v = .num n) ∨ ((k == 110) = false ∧ R.num (.ok v) = .error 5) := by
  cases v with
  | num m => simp only [VR, rv, Value.agg.injEq] at h; simp at h; obtain ⟨rfl, rfl, _⟩ := h; exact .inl ⟨rfl, rfl⟩
  | nil => simp only [VR, rv, Value.agg.injEq] at h; simp at h; obtain ⟨rfl, _⟩ := h; exact .inr ⟨rfl, rfl⟩
  | fn x env => obtain ⟨ht, p, q, h, _⟩ := h; simp only [rv, Value.agg.injEq] at h; simp at h; obtain ⟨rfl, _⟩ := h; exact .inr ⟨rfl, rfl⟩
  | cons i j => obtain ⟨a, c, _, _, h⟩ := h; simp only [rv, Value.agg.injEq] at h; simp at h; obtain ⟨rfl, _⟩ := h; exact .inr ⟨rfl, rfl⟩

set_option maxRecDepth 100000 in
set_option maxHeartbeats 1000000 in
theorem rnumber {n : Nat} (hN : CN n) {L : Nat} {x : T} {env : List Nat} {S : E} {r : R × E} {b : Nat} {w : World} {A : List Nat} {wb : Nat} {p q : Value} (he : ev L n (.need x env) S = some r) (h : RE b w A wb L S) (ht : Tidy env.length x) (hp : NodeAt b w x p) (hq : NmAt w A env q) :
    Calls Tryz.prog 54 #[ptr wb, p, q] w fun e w' => Fr 89 68 b w w' ∧
      ((∃ k A', r.1.num = .ok k ∧ e = .returned (.int .i64 k) ∧ Ext A A' ∧ RE b w' A' wb L r.2) ∨
       (∃ z k, r.1.num = .error z ∧ e = .returned (.int .i64 k) ∧ RX b w' A wb L r.2.steps z)) := by
  obtain ⟨ap, rfl⟩ := NodeAt.ptr _ _ hp
  obtain ⟨aq, rfl⟩ := hq.ptr
  have HN : Hid (Calls Tryz.prog 37 #[ptr wb, .pointer (some ap), .pointer aq] w (Got b w A wb L r)) := hN L x env S r b w A wb _ _ he h ht hp hq
  have hb := h.blt
  clear hp hq he
  go_enter Tryz.func54, Tryz.ntmps54
  go_wp2_with fail
  refine HN.out.mono ?_
  rintro e w1 ⟨hk, ⟨v, A', x, hr, rfl, hA, h1, hv⟩ | ⟨z, k, n, a1, a2, a3, a4, hr, rfl, h1⟩⟩
  · obtain ⟨k, n, a1, a2, a3, a4, rfl⟩ := hv.shape
    obtain ⟨c0, c1, c2, cf, hlt⟩ := h1.walk.cells
    have hg := grown_alloc (grown_refl w1 none) (.cells #[.int .u8 k, .int .i64 n, .pointer a1, .pointer a2, .pointer a3, .pointer a4] 72 (0, 0))
    have h2 := h1.grown hg
    have hk2 := hk.trans (Fr.grown h1.blt hg)
    rcases hv.num_or with ⟨rfl, hv1⟩ | ⟨hk1, hv1⟩
    · have HV : Hid (r.1.num = .ok n) := by rw [hr, hv1]; rfl
      clear hr hv1 hv
      go_wp2_with fail
      go_ret
      exact ⟨hk2, .inl ⟨n, A', HV.out, rfl, hA, h2⟩⟩
    · have HV : Hid (r.1.num = .error 5) := by unfold Hid; rw [hr, hv1]
      have hk3 : (k != 110) = true := by simp [bne, hk1]
      clear hr hv1 hv
      go_wp2_with fail
      refine (rfails h2 5 (by decide)).mono ?_
      rintro e w2 ⟨rfl, hk4, h3⟩
      have hx := hk4.keep w1.heap.size _ 72 (by decide) (by decide) (alloc_at w1 _ _ rfl)
      have d1 : w2.cell? ⟨w1.heap.size, 1, none⟩ = some (.int .i64 n) := by simp [World.cell?, hx]
      clear hx
      go_wp2_with fail
      go_ret
      exact ⟨hk2.trans hk4, .inr ⟨5, n, HV.out, rfl, h3.sub hA⟩⟩
  · obtain ⟨c0, c1, c2, cf, hlt⟩ := h1.walk.cells
    have hg := grown_alloc (grown_refl w1 none) (.cells #[.int .u8 k, .int .i64 n, .pointer a1, .pointer a2, .pointer a3, .pointer a4] 72 (0, 0))
    have h2 := h1.grown hg
    have hk2 := hk.trans (Fr.grown h1.blt hg)
    have hz : (z == 0) = false := by simpa using h1.ne
    have HV : Hid (r.1.num = .error z) := by rw [hr]; rfl
    clear hr
    go_wp2_with fail
    go_ret
    exact ⟨hk2, .inr ⟨z, n, HV.out, rfl, h2⟩⟩
end Go.Proofs.YtjjlgjmebnkdjaaGreatDoor

namespace Go.Proofs.YtjjlgjmebnkdjaaGreatDoor
open Go Go.Proofs Go.RowKit Skein

theorem thunk_cells {w : World} {a : Nat} {p q : Value} {bu kn : Bool} {k n : Int} {p1 p2 p3 p4 : Value} (h : w.heap[a]? = some (.cells (thunk p q bu kn k n p1 p2 p3 p4) 89 (0, 0))) :
    w.cell? ⟨a, 0, none⟩ = some p ∧ w.cell? ⟨a, 1, none⟩ = some q ∧ w.cell? ⟨a, 2, none⟩ = some (.bool bu) ∧ w.cell? ⟨a, 3, none⟩ = some (.bool kn) ∧ w.cell? ⟨a, 4, none⟩ = some (.int .u8 k) ∧ w.cell? ⟨a, 5, none⟩ = some (.int .i64 n) ∧ w.cell? ⟨a, 6, none⟩ = some p1 ∧ w.cell? ⟨a, 7, none⟩ = some p2 ∧ w.cell? ⟨a, 8, none⟩ = some p3 ∧ w.cell? ⟨a, 9, none⟩ = some p4 ∧ (∀ o, w.frozen? ⟨a, o, none⟩ = false) ∧ a < w.heap.size := by
  refine ⟨?_, ?_, ?_, ?_, ?_, ?_, ?_, ?_, ?_, ?_, fun o => ?_, heap_lt h⟩
  all_goals simp [World.cell?, World.frozen?, h, thunk]

theorem keepB' {w w' : World} {k : Nat} {o : Obj} (h : w.heap[k]? = some o) (hg : w.grownBy w' none) : w'.heap[k]? = some o := by
  rw [hg.block k (heap_lt h) (by simp)]; exact h
theorem same_of_set {w : World} {a o : Nat} {v : Value} : ∀ k, k ≠ a → k < w.heap.size → (w.setCell ⟨a, o, none⟩ v).heap[k]? = w.heap[k]? := fun _ hk _ => Below.heap_setCell _ _ _ _ hk

/-- The four kinds of block that matter stay. -/
def Alike (w w' : World) : Prop := ∀ (j : Nat) (cs : Array Value) (T : TypeId), T = 89 ∨ T = 68 ∨ T = 86 ∨ T = 91 → w.heap[j]? = some (.cells cs T (0, 0)) → w'.heap[j]? = some (.cells cs T (0, 0))
theorem Alike.box {w : World} {k T : Nat} {cs : Array Value} (h : w.heap[k]? = some (.cells cs T (0, 0))) (hT : ¬ (T = 89 ∨ T = 68 ∨ T = 86 ∨ T = 91)) (o : Nat) (v : Value) : Alike w (w.setCell ⟨k, o, none⟩ v) := by
  intro j cs' T' hT' e
  rw [Below.heap_setCell _ _ _ _ (by
    show j ≠ k
    rintro rfl
    rw [h] at e
    simp only [Option.some.injEq, Obj.cells.injEq] at e
    exact hT (e.2.1 ▸ hT'))]
  exact e
theorem Alike.trans {w w1 w2 : World} (h : Alike w w1) (k : Alike w1 w2) : Alike w w2 := fun j cs T hT e => k j cs T hT (h j cs T hT e)
theorem NodeAt.alike {b w w'} (a : Alike w w') : ∀ {t : T} {v : Value}, NodeAt b w t v → NodeAt b w' t v := by
  have hI : ∀ {v op n x y z}, IsN b w v op n x y z → IsN b w' v op n x y z := by
    rintro v op n x y z ⟨k, h1, h2, h3⟩; exact ⟨k, h1, h2, a _ _ _ (by decide) h3⟩
  intro t
  induction t with
  | junk => exact fun h => h
  | free => exact fun h => h
  | nil => exact fun h => hI h
  | num n => exact fun h => hI h
  | var n => exact fun h => hI h
  | letE n p q ip iq => rintro v ⟨x, y, h, hp, hq⟩; exact ⟨x, y, hI h, ip hp, iq hq⟩
  | fn n p ip => rintro v ⟨x, h, hp⟩; exact ⟨x, hI h, ip hp⟩
  | ite p q r ip iq ir => rintro v ⟨x, y, z, h, hp, hq, hr⟩; exact ⟨x, y, z, hI h, ip hp, iq hq, ir hr⟩
  | app p q ip iq => rintro v ⟨x, y, h, hp, hq⟩; exact ⟨x, y, hI h, ip hp, iq hq⟩
  | un op p ip => rintro v ⟨x, h, hp⟩; exact ⟨x, hI h, ip hp⟩
  | bin op p q ip iq => rintro v ⟨x, y, h, hp, hq⟩; exact ⟨x, y, hI h, ip hp, iq hq⟩
theorem NmR.alike {w w' : World} {A} (a : Alike w w') : ∀ {env v}, NmR w A env v → NmR w' A env v := by
  intro env
  induction env with
  | nil => exact fun h => h
  | cons i r ih => rintro v ⟨k, x, up, h1, ha, hh, hr⟩; exact ⟨k, x, up, h1, ha, a _ _ _ (by decide) hh, ih hr⟩
theorem VR.alike {b w w' A} (a : Alike w w') {v : V} {x : Value} (h : VR b w A v x) : VR b w' A v x := by
  cases v with
  | num n => exact h
  | nil => exact h
  | fn y env => obtain ⟨ht, p, q, h1, hp, hq⟩ := h; exact ⟨ht, p, q, h1, NodeAt.alike a hp, NmR.alike a hq⟩
  | cons i j => exact h
theorem TkAt.alike {b w w' A} (e : Alike w w') {c : C} {a : Nat} (h : TkAt b w A c a) : TkAt b w' A c a := by
  cases c with
  | wait x env => obtain ⟨ht, p, q, hh, hp, hq⟩ := h; exact ⟨ht, p, q, e _ _ _ (by decide) hh, NodeAt.alike e hp, NmR.alike e hq⟩
  | busy => obtain ⟨p, q, hh⟩ := h; exact ⟨p, q, e _ _ _ (by decide) hh⟩
  | known v => obtain ⟨p, q, k, n, p1, p2, p3, p4, hh, hv⟩ := h; exact ⟨p, q, k, n, p1, p2, p3, p4, e _ _ _ (by decide) hh, hv.alike e⟩
theorem RE.alike {b w w' A wb L S} (h : RE b w A wb L S) (e : Alike w w') : RE b w' A wb L S :=
  ⟨e _ _ _ (by decide) h.walk, h.len, fun i c a h1 h2 => (h.tk i c a h1 h2).alike e, h.inj, h.lo, h.wlo, h.lim⟩
theorem RX.alike {b w w' A wb L n x} (h : RX b w A wb L n x) (e : Alike w w') : RX b w' A wb L n x :=
  ⟨e _ _ _ (by decide) h.walk, h.ne, fun a ha => by obtain ⟨cs, h1, h2⟩ := h.tk a ha; exact ⟨cs, e _ _ _ (by decide) h1, h2⟩, h.lo, h.wlo⟩
theorem Fr.setnew {d1 d2 b : Nat} {w w' : World} (h : Fr d1 d2 b w w') {k : Nat} (hk : w.heap.size ≤ k) (hb : b ≤ w.heap.size) (o : Nat) (v : Value) : Fr d1 d2 b w (w'.setCell ⟨k, o, none⟩ v) :=
  ⟨h.below.setCell (by show b ≤ k; omega) v, fun j cs T h1 h2 e => by
    rw [Below.heap_setCell _ _ _ _ (by have := heap_lt e; show j ≠ k; omega)]
    exact h.keep j cs T h1 h2 e⟩

/-- A result's own block is written. -/
def put6 (w : World) (k : Nat) (x0 x1 x2 x3 x4 x5 : Value) : World :=
  (((((w.setCell ⟨k, 0, none⟩ x0).setCell ⟨k, 1, none⟩ x1).setCell ⟨k, 2, none⟩ x2).setCell ⟨k, 3, none⟩ x3).setCell ⟨k, 4, none⟩ x4).setCell ⟨k, 5, none⟩ x5
theorem put6_at {w : World} {k T : Nat} {y0 y1 y2 y3 y4 y5 : Value} (h : w.heap[k]? = some (.cells #[y0, y1, y2, y3, y4, y5] T (0, 0))) (x0 x1 x2 x3 x4 x5 : Value) :
    (put6 w k x0 x1 x2 x3 x4 x5).heap[k]? = some (.cells #[x0, x1, x2, x3, x4, x5] T (0, 0)) := by
  simp [put6, World.setCell, Array.getElem?_modify, h]
theorem put6_alike {w : World} {k T : Nat} {cs : Array Value} (h : w.heap[k]? = some (.cells cs T (0, 0))) (hT : ¬ (T = 89 ∨ T = 68 ∨ T = 86 ∨ T = 91)) (x0 x1 x2 x3 x4 x5 : Value) : Alike w (put6 w k x0 x1 x2 x3 x4 x5) := by
  unfold put6
  have h0 := RB.set h 0 x0
  have h1 := RB.set h0 1 x1
  have h2 := RB.set h1 2 x2
  have h3 := RB.set h2 3 x3
  have h4 := RB.set h3 4 x4
  exact (((((Alike.box h hT 0 x0).trans (Alike.box h0 hT 1 x1)).trans (Alike.box h1 hT 2 x2)).trans (Alike.box h2 hT 3 x3)).trans (Alike.box h3 hT 4 x4)).trans (Alike.box h4 hT 5 x5)
theorem put6_fr {d1 d2 b : Nat} {w w' : World} (h : Fr d1 d2 b w w') {k : Nat} (hk : w.heap.size ≤ k) (hb : b ≤ w.heap.size) (x0 x1 x2 x3 x4 x5 : Value) : Fr d1 d2 b w (put6 w' k x0 x1 x2 x3 x4 x5) :=
  ((((((h.setnew hk hb 0 x0).setnew hk hb 1 x1).setnew hk hb 2 x2).setnew hk hb 3 x3).setnew hk hb 4 x4).setnew hk hb 5 x5)
theorem cells6 {w : World} {k T : Nat} {y0 y1 y2 y3 y4 y5 : Value} (h : w.heap[k]? = some (.cells #[y0, y1, y2, y3, y4, y5] T (0, 0))) :
    w.cell? ⟨k, 0, none⟩ = some y0 ∧ w.cell? ⟨k, 1, none⟩ = some y1 ∧ w.cell? ⟨k, 2, none⟩ = some y2 ∧ w.cell? ⟨k, 3, none⟩ = some y3 ∧ w.cell? ⟨k, 4, none⟩ = some y4 ∧ w.cell? ⟨k, 5, none⟩ = some y5 ∧ (∀ o, w.frozen? ⟨k, o, none⟩ = false) ∧ k < w.heap.size := by
  refine ⟨?_, ?_, ?_, ?_, ?_, ?_, fun o => ?_, heap_lt h⟩
  all_goals simp [World.cell?, World.frozen?, h]

def GotV (b : Nat) (w : World) (A : List Nat) (wb L : Nat) (v : V) (S : E) (e : Ending) (w' : World) : Prop :=
  ∃ A' k n a1 a2 a3 a4, e = .returned (rv k n (.pointer a1) (.pointer a2) (.pointer a3) (.pointer a4)) ∧ Fr 89 68 b w w' ∧ Ext A A' ∧ RE b w' A' wb L S ∧ VR b w' A' v (rv k n (.pointer a1) (.pointer a2) (.pointer a3) (.pointer a4))
def GotX (b : Nat) (w : World) (A : List Nat) (wb L : Nat) (z : Int) (m : Nat) (e : Ending) (w' : World) : Prop :=
  ∃ k n a1 a2 a3 a4, e = .returned (rv k n (.pointer a1) (.pointer a2) (.pointer a3) (.pointer a4)) ∧ Fr 89 68 b w w' ∧ RX b w' A wb L m z
theorem Got.v {b w A wb L r v e w'} (hr : r.1 = .ok v) (h : Got b w A wb L r e w') : GotV b w A wb L v r.2 e w' := by
  obtain ⟨hk, ⟨v', A', x, hr', rfl, hA, h1, hv⟩ | ⟨z, k, n, a1, a2, a3, a4, hr', rfl, h1⟩⟩ := h
  · rw [hr] at hr'
    cases hr'
    obtain ⟨k, n, a1, a2, a3, a4, rfl⟩ := hv.shape
    exact ⟨A', k, n, a1, a2, a3, a4, rfl, hk, hA, h1, hv⟩
  · rw [hr] at hr'; cases hr'
theorem Got.x {b w A wb L r z e w'} (hr : r.1 = .err z) (h : Got b w A wb L r e w') : GotX b w A wb L z r.2.steps e w' := by
  obtain ⟨hk, ⟨v', A', x, hr', rfl, hA, h1, hv⟩ | ⟨z', k, n, a1, a2, a3, a4, hr', rfl, h1⟩⟩ := h
  · rw [hr] at hr'; cases hr'
  · rw [hr] at hr'
    cases hr'
    exact ⟨k, n, a1, a2, a3, a4, rfl, hk, h1⟩
theorem GotV.got {b w A wb L v S e w'} (h : GotV b w A wb L v S e w') : Got b w A wb L (.ok v, S) e w' := by
  obtain ⟨A', k, n, a1, a2, a3, a4, rfl, hk, hA, h1, hv⟩ := h
  exact ⟨hk, .inl ⟨v, A', _, rfl, rfl, hA, h1, hv⟩⟩
theorem GotX.got {b w A wb L z S e w'} (h : GotX b w A wb L z S.steps e w') : Got b w A wb L (.err z, S) e w' := by
  obtain ⟨k, n, a1, a2, a3, a4, rfl, hk, h1⟩ := h
  exact ⟨hk, .inr ⟨z, k, n, a1, a2, a3, a4, rfl, rfl, h1⟩⟩

theorem put6_ne {w : World} {k j : Nat} (hj : j ≠ k) (x0 x1 x2 x3 x4 x5 : Value) : (put6 w k x0 x1 x2 x3 x4 x5).heap[j]? = w.heap[j]? := by
  unfold put6
  rw [Below.heap_setCell _ _ _ _ hj, Below.heap_setCell _ _ _ _ hj, Below.heap_setCell _ _ _ _ hj, Below.heap_setCell _ _ _ _ hj, Below.heap_setCell _ _ _ _ hj, Below.heap_setCell _ _ _ _ hj]

/-- A block of a value's shape. -/
def Box68 (w : World) (k : Nat) : Prop := ∃ y0 y1 y2 y3 y4 y5, w.heap[k]? = some (.cells #[y0, y1, y2, y3, y4, y5] 72 (0, 0))
theorem Box68.fr {d1 d2 b w w' k} (h : Box68 w k) (hk : Fr d1 d2 b w w') (h1 : 72 ≠ d1) (h2 : 72 ≠ d2) : Box68 w' k := by
  obtain ⟨y0, y1, y2, y3, y4, y5, h⟩ := h
  exact ⟨_, _, _, _, _, _, hk.keep _ _ 72 h1 h2 h⟩

/-- Between: the value lies in a block of its own, and the result's block is there. -/
structure Mid (b : Nat) (w : World) (A' : List Nat) (wb L : Nat) (S1 : E) (v : V) (x0 x1 x2 x3 x4 x5 : Value) (lk : Nat) (W : World) : Prop where
  lt : w.heap.size < lk
  fr : Fr 89 68 b w W
  re : RE b W A' wb L S1
  vr : VR b W A' v (.agg #[x0, x1, x2, x3, x4, x5])
  loc : W.heap[lk]? = some (.cells #[x0, x1, x2, x3, x4, x5] 72 (0, 0))
  res : Box68 W w.heap.size
theorem midA {b : Nat} {w : World} {A' : List Nat} {wb L : Nat} {S1 : E} {v : V} {x0 x1 x2 x3 x4 x5 : Value} {w1 : World} (hk : Fr 89 68 b w w1) (h : RE b w1 A' wb L S1) (hv : VR b w1 A' v (.agg #[x0, x1, x2, x3, x4, x5]))
    (hr : Box68 w1 w.heap.size) : Mid b w A' wb L S1 v x0 x1 x2 x3 x4 x5 w1.heap.size (w1.alloc (.cells #[x0, x1, x2, x3, x4, x5] 72 (0, 0))) := by
  obtain ⟨y0, y1, y2, y3, y4, y5, hr⟩ := hr
  have hg := grown_alloc (grown_refl w1 none) (.cells #[x0, x1, x2, x3, x4, x5] 72 (0, 0))
  have hf : Fr 89 68 b w1 _ := Fr.grown h.blt hg
  exact ⟨heap_lt hr, hk.trans hf, h.grown hg, hv.fr hf (Ext.refl _), alloc_at _ _ _ rfl, ⟨_, _, _, _, _, _, keepB' hr hg⟩⟩
theorem midB {b : Nat} {w : World} {A' : List Nat} {wb L : Nat} {S1 : E} {v : V} {x0 x1 x2 x3 x4 x5 : Value} {w1 : World} (hk : Fr 89 68 b w w1) (h : RE b w1 A' wb L S1) (hv : VR b w1 A' v (.agg #[x0, x1, x2, x3, x4, x5]))
    (hr : Box68 w1 w.heap.size) (hb : b ≤ w.heap.size)
    (hl : Box68 w1 (w.heap.size + 1)) : Mid b w A' wb L S1 v x0 x1 x2 x3 x4 x5 (w.heap.size + 1) ((((((w1.setCell ⟨w.heap.size + 1, 0, none⟩ x0).setCell ⟨w.heap.size + 1, 1, none⟩ x1).setCell ⟨w.heap.size + 1, 2, none⟩ x2).setCell ⟨w.heap.size + 1, 3, none⟩ x3).setCell ⟨w.heap.size + 1, 4, none⟩ x4).setCell ⟨w.heap.size + 1, 5, none⟩ x5) := by
  obtain ⟨z0, z1, z2, z3, z4, z5, hl⟩ := hl
  obtain ⟨y0, y1, y2, y3, y4, y5, hr⟩ := hr
  have al := put6_alike hl (by decide) x0 x1 x2 x3 x4 x5
  exact ⟨Nat.lt_succ_self _, put6_fr hk (Nat.le_succ _) hb _ _ _ _ _ _, h.alike al, hv.alike al, put6_at hl _ _ _ _ _ _, ⟨_, _, _, _, _, _, (put6_ne (by omega) _ _ _ _ _ _).trans hr⟩⟩

/-- A thunk has become a value. -/
def learnt (W : World) (a : Nat) (y0 y1 y2 y3 y4 y5 : Value) : World :=
  (((((((W.setCell ⟨a, 2, none⟩ (.bool false)).setCell ⟨a, 3, none⟩ (.bool true)).setCell ⟨a, 4, none⟩ y0).setCell ⟨a, 5, none⟩ y1).setCell ⟨a, 6, none⟩ y2).setCell ⟨a, 7, none⟩ y3).setCell ⟨a, 8, none⟩ y4).setCell ⟨a, 9, none⟩ y5
theorem learnt_ne {W : World} {a j : Nat} (hj : j ≠ a) (y0 y1 y2 y3 y4 y5 : Value) : (learnt W a y0 y1 y2 y3 y4 y5).heap[j]? = W.heap[j]? := by
  unfold learnt
  rw [Below.heap_setCell _ _ _ _ hj, Below.heap_setCell _ _ _ _ hj, Below.heap_setCell _ _ _ _ hj, Below.heap_setCell _ _ _ _ hj, Below.heap_setCell _ _ _ _ hj, Below.heap_setCell _ _ _ _ hj, Below.heap_setCell _ _ _ _ hj, Below.heap_setCell _ _ _ _ hj]
theorem learnt_fr {b : Nat} {W : World} {a : Nat} {cs : Array Value} (h : W.heap[a]? = some (.cells cs 89 (0, 0))) (hb : b ≤ a) (y0 y1 y2 y3 y4 y5 : Value) : Fr 89 68 b W (learnt W a y0 y1 y2 y3 y4 y5) := by
  unfold learnt
  have h0 := RB.set h 2 (.bool false)
  have h1 := RB.set h0 3 (.bool true)
  have h2 := RB.set h1 4 y0
  have h3 := RB.set h2 5 y1
  have h4 := RB.set h3 6 y2
  have h5 := RB.set h4 7 y3
  have h6 := RB.set h5 8 y4
  exact (((((((Fr.set h (.inl rfl) hb 2 (.bool false)).trans (Fr.set h0 (.inl rfl) hb 3 (.bool true))).trans (Fr.set h1 (.inl rfl) hb 4 y0)).trans (Fr.set h2 (.inl rfl) hb 5 y1)).trans (Fr.set h3 (.inl rfl) hb 6 y2)).trans (Fr.set h4 (.inl rfl) hb 7 y3)).trans (Fr.set h5 (.inl rfl) hb 8 y4)).trans (Fr.set h6 (.inl rfl) hb 9 y5)
theorem learnt_at {W : World} {a T : Nat} {x0 x1 x2 x3 x4 x5 x6 x7 x8 x9 : Value} (h : W.heap[a]? = some (.cells #[x0, x1, x2, x3, x4, x5, x6, x7, x8, x9] T (0, 0))) (y0 y1 y2 y3 y4 y5 : Value) :
    (learnt W a y0 y1 y2 y3 y4 y5).heap[a]? = some (.cells #[x0, x1, .bool false, .bool true, y0, y1, y2, y3, y4, y5] T (0, 0)) := by
  simp [learnt, World.setCell, Array.getElem?_modify, h]
theorem RE.learn {b W A wb L S} (h : RE b W A wb L S) {i a : Nat} (ha : A[i]? = some a) {x0 x1 x2 x3 x4 x5 x6 x7 x8 x9 : Value} (hh : W.heap[a]? = some (.cells #[x0, x1, x2, x3, x4, x5, x6, x7, x8, x9] 89 (0, 0))) {v : V} {k n : Int} {p1 p2 p3 p4 : Value} (hv : VR b W A v (rv k n p1 p2 p3 p4)) :
    RE b (learnt W a (.int .u8 k) (.int .i64 n) p1 p2 p3 p4) A wb L ⟨S.heap.set i (.known v), S.steps⟩ := by
  have hf := learnt_fr (b := b) hh (h.lo a (List.mem_of_getElem? ha)) (.int .u8 k) (.int .i64 n) p1 p2 p3 p4
  exact h.turn hf ha (fun j hj _ => learnt_ne hj _ _ _ _ _ _) (.known v) ⟨x0, x1, k, n, p1, p2, p3, p4, learnt_at hh _ _ _ _ _ _, hv.fr hf (Ext.refl _)⟩

structure MidX (b : Nat) (w : World) (A : List Nat) (wb L m : Nat) (z : Int) (x0 x1 x2 x3 x4 x5 : Value) (lk : Nat) (W : World) : Prop where
  lt : w.heap.size < lk
  fr : Fr 89 68 b w W
  re : RX b W A wb L m z
  loc : W.heap[lk]? = some (.cells #[x0, x1, x2, x3, x4, x5] 72 (0, 0))
  res : Box68 W w.heap.size
theorem midXA {b : Nat} {w : World} {A : List Nat} {wb L m : Nat} {z : Int} {x0 x1 x2 x3 x4 x5 : Value} {w1 : World} (hk : Fr 89 68 b w w1) (h : RX b w1 A wb L m z)
    (hr : Box68 w1 w.heap.size) : MidX b w A wb L m z x0 x1 x2 x3 x4 x5 w1.heap.size (w1.alloc (.cells #[x0, x1, x2, x3, x4, x5] 72 (0, 0))) := by
  have hg := grown_alloc (grown_refl w1 none) (.cells #[x0, x1, x2, x3, x4, x5] 72 (0, 0))
  have hf : Fr 89 68 b w1 _ := Fr.grown h.blt hg
  refine ⟨?_, hk.trans hf, h.grown hg, alloc_at _ _ _ rfl, hr.fr hf (by decide) (by decide)⟩
  obtain ⟨y0, y1, y2, y3, y4, y5, hr⟩ := hr
  exact heap_lt hr
theorem midXB {b : Nat} {w : World} {A : List Nat} {wb L m : Nat} {z : Int} {x0 x1 x2 x3 x4 x5 : Value} {w1 : World} (hk : Fr 89 68 b w w1) (h : RX b w1 A wb L m z)
    (hr : Box68 w1 w.heap.size) (hb : b ≤ w.heap.size) (hl : Box68 w1 (w.heap.size + 1)) : MidX b w A wb L m z x0 x1 x2 x3 x4 x5 (w.heap.size + 1) ((((((w1.setCell ⟨w.heap.size + 1, 0, none⟩ x0).setCell ⟨w.heap.size + 1, 1, none⟩ x1).setCell ⟨w.heap.size + 1, 2, none⟩ x2).setCell ⟨w.heap.size + 1, 3, none⟩ x3).setCell ⟨w.heap.size + 1, 4, none⟩ x4).setCell ⟨w.heap.size + 1, 5, none⟩ x5) := by
  obtain ⟨z0, z1, z2, z3, z4, z5, hl⟩ := hl
  obtain ⟨y0, y1, y2, y3, y4, y5, hr⟩ := hr
  have al := put6_alike hl (by decide) x0 x1 x2 x3 x4 x5
  exact ⟨Nat.lt_succ_self _, put6_fr hk (Nat.le_succ _) hb _ _ _ _ _ _, h.alike al, put6_at hl _ _ _ _ _ _, ⟨_, _, _, _, _, _, (put6_ne (by omega) _ _ _ _ _ _).trans hr⟩⟩
theorem RX.idle {b W A wb L m z} (h : RX b W A wb L m z) {a : Nat} (ha : a ∈ A) (hne : wb ≠ a) (v : Value) : RX b (W.setCell ⟨a, 2, none⟩ v) A wb L m z := by
  refine ⟨?_, h.ne, fun c hc => ?_, h.lo, h.wlo⟩
  · unfold WB
    rw [Below.heap_setCell _ _ _ _ hne]; exact h.walk
  · obtain ⟨cs, hh, hs⟩ := h.tk c hc
    by_cases e : c = a
    · subst e
      exact ⟨_, RB.set hh 2 v, by simp [hs]⟩
    · exact ⟨cs, by rw [Below.heap_setCell _ _ _ _ e]; exact hh, hs⟩

theorem arr10 (cs : Array Value) (h : cs.size = 10) : ∃ x0 x1 x2 x3 x4 x5 x6 x7 x8 x9, cs = #[x0, x1, x2, x3, x4, x5, x6, x7, x8, x9] := by
  obtain ⟨l⟩ := cs
  have hl : l.length = 10 := h
  match l, hl with
  | [x0, x1, x2, x3, x4, x5, x6, x7, x8, x9], _ => exact ⟨x0, x1, x2, x3, x4, x5, x6, x7, x8, x9, rfl⟩
theorem cells10 {w : World} {k T : Nat} {x0 x1 x2 x3 x4 x5 x6 x7 x8 x9 : Value} (h : w.heap[k]? = some (.cells #[x0, x1, x2, x3, x4, x5, x6, x7, x8, x9] T (0, 0))) :
    w.cell? ⟨k, 0, none⟩ = some x0 ∧ w.cell? ⟨k, 1, none⟩ = some x1 ∧ w.cell? ⟨k, 2, none⟩ = some x2 ∧ w.cell? ⟨k, 3, none⟩ = some x3 ∧ w.cell? ⟨k, 4, none⟩ = some x4 ∧ w.cell? ⟨k, 5, none⟩ = some x5 ∧ w.cell? ⟨k, 6, none⟩ = some x6 ∧ w.cell? ⟨k, 7, none⟩ = some x7 ∧ w.cell? ⟨k, 8, none⟩ = some x8 ∧ w.cell? ⟨k, 9, none⟩ = some x9 ∧ (∀ o, w.frozen? ⟨k, o, none⟩ = false) ∧ k < w.heap.size := by
  refine ⟨?_, ?_, ?_, ?_, ?_, ?_, ?_, ?_, ?_, ?_, fun o => ?_, heap_lt h⟩
  all_goals simp [World.cell?, World.frozen?, h]

theorem fin6 {f : Func} {R : Ending → World → Prop} {t : Nat} {a : Act} {W : World} {k : Nat} {x0 x1 x2 x3 x4 x5 : Value} (hf : f.results = #[.cell t 72]) (ht : a.tmps[t]?.getD undef = .pointer (some ⟨k, 0, none⟩)) (hd : a.defers = []) (hk : W.heap[k]? = some (.cells #[x0, x1, x2, x3, x4, x5] 72 (0, 0)))
    (hR : R (.returned (.agg #[x0, x1, x2, x3, x4, x5])) W) : bodyPost Tryz.prog f R .ret a W := by
  obtain ⟨y0, y1, y2, y3, y4, y5, yf, ylt⟩ := cells6 hk
  refine bodyPost_ret (v := .agg #[x0, x1, x2, x3, x4, x5]) ?_ hd hR
  simp [results, hf, go_sem, ht, y0, y1, y2, y3, y4, y5]

theorem Got.same {b w A wb L r e w'} {w0 : World} (h : Got b w A wb L r e w') (hk : Fr 89 68 b w0 w) : Got b w0 A wb L r e w' := ⟨hk.trans h.1, h.2⟩

set_option maxRecDepth 100000 in
set_option maxHeartbeats 16000000 in
theorem rforce_known {v : V} {L i : Nat} {S : E} {b : Nat} {w : World} {A : List Nat} {wb a : Nat} (h : RE b w A wb L S) (ha : A[i]? = some a) (hS : S.heap[i]? = some (.known v)) :
    Calls Tryz.prog 53 #[ptr wb, ptr a] w (Got b w A wb L (.ok v, S)) := by
  have hc := h.tk i _ a hS ha
  obtain ⟨c0, c1, c2, cf, hlt⟩ := h.walk.cells
  have hb := h.blt
  obtain ⟨p, q, k, n, p1, p2, p3, p4, hh, hv⟩ := hc
  obtain ⟨k', n', a1, a2, a3, a4, e⟩ := hv.shape
  simp only [rv, Value.agg.injEq] at e
  simp at e
  obtain ⟨rfl, rfl, rfl, rfl, rfl, rfl⟩ := e
  obtain ⟨d0, d1, d2, d3, d4, d5, d6, d7, d8, d9, df, hlta⟩ := thunk_cells hh
  have hg := grown_alloc (grown_refl w none) (.cells #[.int .u8 k, .int .i64 n, .pointer a1, .pointer a2, .pointer a3, .pointer a4] 72 (0, 0))
  have h2 := h.grown hg
  have hk : Fr 89 68 b w _ := Fr.grown hb hg
  have hv2 := hv.fr hk (Ext.refl _)
  clear hS hh hv
  go_enter Tryz.func53, Tryz.ntmps53
  go_wp2_with fail
  refine bodyPost_ret (v := rv k n (.pointer a1) (.pointer a2) (.pointer a3) (.pointer a4)) (by simp [results, Tryz.results53, go_sem, rv]) rfl ?_
  exact ⟨hk, .inl ⟨v, A, _, rfl, rfl, Ext.refl _, h2, hv2⟩⟩
set_option maxRecDepth 100000 in
set_option maxHeartbeats 16000000 in
theorem rforce_busy {L i : Nat} {S : E} {b : Nat} {w : World} {A : List Nat} {wb a : Nat} (h : RE b w A wb L S) (ha : A[i]? = some a) (hS : S.heap[i]? = some .busy) :
    Calls Tryz.prog 53 #[ptr wb, ptr a] w (Got b w A wb L (.err 7, S)) := by
  have hc := h.tk i _ a hS ha
  obtain ⟨c0, c1, c2, cf, hlt⟩ := h.walk.cells
  have hb := h.blt
  obtain ⟨p, q, hh⟩ := hc
  obtain ⟨d0, d1, d2, d3, d4, d5, d6, d7, d8, d9, df, hlta⟩ := thunk_cells hh
  have hg := grown_alloc (grown_refl w none) (.cells #[.int .u8 0, .int .i64 0, .pointer none, .pointer none, .pointer none, .pointer none] 72 (0, 0))
  have h2 := h.grown hg
  have hk : Fr 89 68 b w _ := Fr.grown hb hg
  clear hS hh
  go_enter Tryz.func53, Tryz.ntmps53
  go_wp2_with fail
  refine (rfails h2 7 (by decide)).mono ?_
  rintro e w2 ⟨rfl, hk4, h3⟩
  have hy := hk4.keep w.heap.size _ 72 (by decide) (by decide) (alloc_at w _ _ rfl)
  obtain ⟨y0, y1, y2, y3, y4, y5, yf, ylt⟩ := cells6 hy
  go_wp2_with fail
  have hz := put6_at hy (.int .u8 0) (.int .i64 0) nilp nilp nilp nilp
  have al := put6_alike hy (by decide) (.int .u8 0) (.int .i64 0) nilp nilp nilp nilp
  have hf := put6_fr (hk.trans hk4) (Nat.le_refl _) hb (.int .u8 0) (.int .i64 0) nilp nilp nilp nilp
  refine fin6 (t := 4) Tryz.results53 rfl rfl hz ?_
  exact GotX.got ⟨_, _, _, _, _, _, rfl, hf, h3.alike al⟩
set_option maxRecDepth 100000 in
set_option maxHeartbeats 16000000 in
theorem rforce_ok {n : Nat} (hN : CN n) {x : T} {env : List Nat} {v : V} {S1 : E} {L i : Nat} {S : E} {b : Nat} {w : World} {A : List Nat} {wb a : Nat} (h : RE b w A wb L S) (ha : A[i]? = some a) (hS : S.heap[i]? = some (.wait x env)) (he1 : ev L n (.need x env) ⟨S.heap.set i .busy, S.steps⟩ = some (.ok v, S1)) :
    Calls Tryz.prog 53 #[ptr wb, ptr a] w (Got b w A wb L (.ok v, ⟨S1.heap.set i (.known v), S1.steps⟩)) := by
  have hc := h.tk i _ a hS ha
  obtain ⟨c0, c1, c2, cf, hlt⟩ := h.walk.cells
  have hb := h.blt
  obtain ⟨ht, p, q, hh, hp, hq⟩ := hc
  obtain ⟨d0, d1, d2, d3, d4, d5, d6, d7, d8, d9, df, hlta⟩ := thunk_cells hh
  have hal := h.lo a (List.mem_of_getElem? ha)
  have hk1 : Fr 89 68 b w (w.setCell ⟨a, 2, none⟩ (.bool true)) := Fr.set hh (.inl rfl) hal 2 (.bool true)
  have h1 := h.turn hk1 ha same_of_set .busy ⟨p, q, by rw [RB.set hh 2 (.bool true)]; rfl⟩
  have hg := grown_alloc (grown_refl (w.setCell ⟨a, 2, none⟩ (.bool true)) none) (.cells #[.int .u8 0, .int .i64 0, nilp, nilp, nilp, nilp] 72 (0, 0))
  have hk0 : Fr 89 68 b _ _ := hk1.trans (Fr.grown h1.blt hg)
  have h2 := h1.grown hg
  have hp1 := NodeAt.fr hk0 _ _ hp
  have hq1 := hq.fr hk0 (Ext.refl A)
  have hy0 := alloc_at (w.setCell ⟨a, 2, none⟩ (.bool true)) (.cells #[.int .u8 0, .int .i64 0, nilp, nilp, nilp, nilp] 72 (0, 0)) w.heap.size (by simp [World.setCell])
  obtain ⟨ap, rfl⟩ := NodeAt.ptr _ _ hp
  obtain ⟨aq, rfl⟩ := hq.ptr
  have hC := fun (wd : World) (e : World.grownBy ((w.setCell ⟨a, 2, none⟩ (.bool true)).alloc (.cells #[.int .u8 0, .int .i64 0, nilp, nilp, nilp, nilp] 72 (0, 0))) wd none) => hN L x env _ (.ok v, S1) b wd A wb _ _ he1 (h2.grown e) ht (NodeAt.fr (Fr.grown h2.blt e) _ _ hp1) (hq1.fr (Fr.grown h2.blt e) (Ext.refl _))
  have hbX := h2.blt
  have HC : Hid (∀ wd : World, World.grownBy ((w.setCell ⟨a, 2, none⟩ (.bool true)).alloc (.cells #[.int .u8 0, .int .i64 0, nilp, nilp, nilp, nilp] 72 (0, 0))) wd none → Calls Tryz.prog 37 #[ptr wb, .pointer (some ap), .pointer aq] wd fun e w' => GotV b w A wb L v S1 e w' ∧ (∀ k, Box68 wd k → Box68 w' k) ∧ Box68 w' w.heap.size) := fun wd e => (hC wd e).mono fun _ _ h => by
    obtain ⟨A', k, n, a1, a2, a3, a4, he, hk, hA, h1, hv⟩ := h.v rfl
    exact ⟨⟨A', k, n, a1, a2, a3, a4, he, (hk0.trans (Fr.grown hbX e)).trans hk, hA, h1, hv⟩, fun k hh => hh.fr hk (by decide) (by decide), ⟨_, _, _, _, _, _, hk.keep _ _ 72 (by decide) (by decide) (keepB' hy0 e)⟩⟩
  clear hC he1 hp hq hp1 hq1 hS hh h1 h2 hk1 hg
  go_enter Tryz.func53, Tryz.ntmps53
  go_wp2_with fail
  go_region_with (first
    | (go_at_call 37; refine (HC.out _ (by exact grown_same (grown_refl _ _) rfl rfl rfl rfl)).mono ?_; rintro e w1 ⟨⟨A', k, m, a1, a2, a3, a4, rfl, hk2, hA, h2, hv⟩, hkl, hr⟩; clear hkl)
    | (go_at_call 37; refine (HC.out _ (by exact grown_same (grown_alloc (grown_refl _ _) _) rfl rfl rfl rfl)).mono ?_; rintro e w1 ⟨⟨A', k, m, a1, a2, a3, a4, rfl, hk2, hA, h2, hv⟩, hkl, hr⟩; have hl : Box68 w1 (w.heap.size + 1) := hkl (w.heap.size + 1) ⟨_, _, _, _, _, _, by exact alloc_at _ _ _ (by simp [World.alloc, World.setCell])⟩; clear hkl; have hl0 := hl; obtain ⟨u0, u1, u2, u3, u4, u5, hl⟩ := hl; obtain ⟨l0, l1, l2, l3, l4, l5, lf, llt⟩ := cells6 hl; clear hl))
  all_goals
    first
    | (have hm := midB hk2 h2 hv hr hb hl0; generalize (((((w1.setCell ⟨w.heap.size + 1, 0, none⟩ (.int .u8 k)).setCell ⟨w.heap.size + 1, 1, none⟩ (.int .i64 m)).setCell ⟨w.heap.size + 1, 2, none⟩ (.pointer a1)).setCell ⟨w.heap.size + 1, 3, none⟩ (.pointer a2)).setCell ⟨w.heap.size + 1, 4, none⟩ (.pointer a3)).setCell ⟨w.heap.size + 1, 5, none⟩ (.pointer a4) = Wm at hm ⊢; generalize w.heap.size + 1 = lk at hm ⊢)
    | (have hm := midA hk2 h2 hv hr; generalize w1.alloc (.cells #[.int .u8 k, .int .i64 m, .pointer a1, .pointer a2, .pointer a3, .pointer a4] 72 (0, 0)) = Wm at hm ⊢; generalize w1.heap.size = lk at hm ⊢)
    clear h2 hv hk2 hr
    obtain ⟨hlk, hk2, h2, hv, hl, y0, y1, y2, y3, y4, y5, hr⟩ := hm
    have ha' := hA _ _ ha
    have hi2 : i < S1.heap.length := by rw [← h2.len]; exact (List.getElem?_eq_some_iff.1 ha').1
    obtain ⟨cs, hh, hs⟩ := (h2.tk i _ a (List.getElem?_eq_getElem hi2) ha').cells
    obtain ⟨x0, x1, x2, x3, x4, x5, x6, x7, x8, x9, rfl⟩ := arr10 cs hs
    clear hs d2 d3 d4 d5 d6 d7 d8 d9 df c0 c1 c2 cf
    obtain ⟨d0, d1, d2, d3, d4, d5, d6, d7, d8, d9, df, hlta1⟩ := cells10 hh
    obtain ⟨m0, m1, m2, m3, m4, m5, mf, mlt⟩ := cells6 hl
    obtain ⟨r0, r1, r2, r3, r4, r5, rf, rlt⟩ := cells6 hr
    obtain ⟨c0, c1, c2, cf, hlt1⟩ := h2.walk.cells
    have hne := h2.ne ha'
    go_wp2_with fail
    have hf := learnt_fr (b := b) hh (h.lo a (List.mem_of_getElem? ha)) (.int .u8 k) (.int .i64 m) (.pointer a1) (.pointer a2) (.pointer a3) (.pointer a4)
    have h3 := h2.learn ha' hh hv
    have hv3 := hv.fr hf (Ext.refl _)
    have hr3 := (learnt_ne (W := Wm) (j := w.heap.size) (show w.heap.size ≠ a by omega) (.int .u8 k) (.int .i64 m) (.pointer a1) (.pointer a2) (.pointer a3) (.pointer a4)).trans hr
    have hz := put6_at hr3 (.int .u8 k) (.int .i64 m) (.pointer a1) (.pointer a2) (.pointer a3) (.pointer a4)
    have al := put6_alike hr3 (by decide) (.int .u8 k) (.int .i64 m) (.pointer a1) (.pointer a2) (.pointer a3) (.pointer a4)
    have hf2 := put6_fr (hk2.trans hf) (Nat.le_refl _) hb (.int .u8 k) (.int .i64 m) (.pointer a1) (.pointer a2) (.pointer a3) (.pointer a4)
    change bodyPost _ _ _ _ _ (put6 (learnt Wm a (.int .u8 k) (.int .i64 m) (.pointer a1) (.pointer a2) (.pointer a3) (.pointer a4)) w.heap.size (.int .u8 k) (.int .i64 m) (.pointer a1) (.pointer a2) (.pointer a3) (.pointer a4))
    exact fin6 (t := 4) Tryz.results53 rfl rfl hz (GotV.got ⟨A', k, m, a1, a2, a3, a4, rfl, hf2, hA, h3.alike al, hv3.alike al⟩)
set_option maxRecDepth 100000 in
set_option maxHeartbeats 16000000 in
theorem rforce_err {n : Nat} (hN : CN n) {x : T} {env : List Nat} {z : Int} {S1 : E} {L i : Nat} {S : E} {b : Nat} {w : World} {A : List Nat} {wb a : Nat} (h : RE b w A wb L S) (ha : A[i]? = some a) (hS : S.heap[i]? = some (.wait x env)) (he1 : ev L n (.need x env) ⟨S.heap.set i .busy, S.steps⟩ = some (.err z, S1)) :
    Calls Tryz.prog 53 #[ptr wb, ptr a] w (Got b w A wb L (.err z, S1)) := by
  have hc := h.tk i _ a hS ha
  obtain ⟨c0, c1, c2, cf, hlt⟩ := h.walk.cells
  have hb := h.blt
  obtain ⟨ht, p, q, hh, hp, hq⟩ := hc
  obtain ⟨d0, d1, d2, d3, d4, d5, d6, d7, d8, d9, df, hlta⟩ := thunk_cells hh
  have hal := h.lo a (List.mem_of_getElem? ha)
  have hk1 : Fr 89 68 b w (w.setCell ⟨a, 2, none⟩ (.bool true)) := Fr.set hh (.inl rfl) hal 2 (.bool true)
  have h1 := h.turn hk1 ha same_of_set .busy ⟨p, q, by rw [RB.set hh 2 (.bool true)]; rfl⟩
  have hg := grown_alloc (grown_refl (w.setCell ⟨a, 2, none⟩ (.bool true)) none) (.cells #[.int .u8 0, .int .i64 0, nilp, nilp, nilp, nilp] 72 (0, 0))
  have hk0 : Fr 89 68 b _ _ := hk1.trans (Fr.grown h1.blt hg)
  have h2 := h1.grown hg
  have hp1 := NodeAt.fr hk0 _ _ hp
  have hq1 := hq.fr hk0 (Ext.refl A)
  have hy0 := alloc_at (w.setCell ⟨a, 2, none⟩ (.bool true)) (.cells #[.int .u8 0, .int .i64 0, nilp, nilp, nilp, nilp] 72 (0, 0)) w.heap.size (by simp [World.setCell])
  obtain ⟨ap, rfl⟩ := NodeAt.ptr _ _ hp
  obtain ⟨aq, rfl⟩ := hq.ptr
  have hC := fun (wd : World) (e : World.grownBy ((w.setCell ⟨a, 2, none⟩ (.bool true)).alloc (.cells #[.int .u8 0, .int .i64 0, nilp, nilp, nilp, nilp] 72 (0, 0))) wd none) => hN L x env _ (.err z, S1) b wd A wb _ _ he1 (h2.grown e) ht (NodeAt.fr (Fr.grown h2.blt e) _ _ hp1) (hq1.fr (Fr.grown h2.blt e) (Ext.refl _))
  have hbX := h2.blt
  have HC : Hid (∀ wd : World, World.grownBy ((w.setCell ⟨a, 2, none⟩ (.bool true)).alloc (.cells #[.int .u8 0, .int .i64 0, nilp, nilp, nilp, nilp] 72 (0, 0))) wd none → Calls Tryz.prog 37 #[ptr wb, .pointer (some ap), .pointer aq] wd fun e w' => GotX b w A wb L z S1.steps e w' ∧ (∀ k, Box68 wd k → Box68 w' k) ∧ Box68 w' w.heap.size) := fun wd e => (hC wd e).mono fun _ _ h => by
    obtain ⟨k, n, a1, a2, a3, a4, he, hk, h1⟩ := h.x rfl
    exact ⟨⟨k, n, a1, a2, a3, a4, he, (hk0.trans (Fr.grown hbX e)).trans hk, h1⟩, fun k hh => hh.fr hk (by decide) (by decide), ⟨_, _, _, _, _, _, hk.keep _ _ 72 (by decide) (by decide) (keepB' hy0 e)⟩⟩
  clear hC he1 hp hq hp1 hq1 hS hh h1 h2 hk1 hg
  go_enter Tryz.func53, Tryz.ntmps53
  go_wp2_with fail
  go_region_with (first
    | (go_at_call 37; refine (HC.out _ (by exact grown_same (grown_refl _ _) rfl rfl rfl rfl)).mono ?_; rintro e w1 ⟨⟨k, m, a1, a2, a3, a4, rfl, hk2, h2⟩, hkl, hr⟩; clear hkl)
    | (go_at_call 37; refine (HC.out _ (by exact grown_same (grown_alloc (grown_refl _ _) _) rfl rfl rfl rfl)).mono ?_; rintro e w1 ⟨⟨k, m, a1, a2, a3, a4, rfl, hk2, h2⟩, hkl, hr⟩; have hl : Box68 w1 (w.heap.size + 1) := hkl (w.heap.size + 1) ⟨_, _, _, _, _, _, by exact alloc_at _ _ _ (by simp [World.alloc, World.setCell])⟩; clear hkl; have hl0 := hl; obtain ⟨u0, u1, u2, u3, u4, u5, hl⟩ := hl; obtain ⟨l0, l1, l2, l3, l4, l5, lf, llt⟩ := cells6 hl; clear hl))
  all_goals
    first
    | (have hm := midXB (x0 := .int .u8 k) (x1 := .int .i64 m) (x2 := .pointer a1) (x3 := .pointer a2) (x4 := .pointer a3) (x5 := .pointer a4) hk2 h2 hr hb hl0; generalize (((((w1.setCell ⟨w.heap.size + 1, 0, none⟩ (.int .u8 k)).setCell ⟨w.heap.size + 1, 1, none⟩ (.int .i64 m)).setCell ⟨w.heap.size + 1, 2, none⟩ (.pointer a1)).setCell ⟨w.heap.size + 1, 3, none⟩ (.pointer a2)).setCell ⟨w.heap.size + 1, 4, none⟩ (.pointer a3)).setCell ⟨w.heap.size + 1, 5, none⟩ (.pointer a4) = Wm at hm ⊢; generalize w.heap.size + 1 = lk at hm ⊢)
    | (have hm := midXA (x0 := .int .u8 k) (x1 := .int .i64 m) (x2 := .pointer a1) (x3 := .pointer a2) (x4 := .pointer a3) (x5 := .pointer a4) hk2 h2 hr; generalize w1.alloc (.cells #[.int .u8 k, .int .i64 m, .pointer a1, .pointer a2, .pointer a3, .pointer a4] 72 (0, 0)) = Wm at hm ⊢; generalize w1.heap.size = lk at hm ⊢)
    clear h2 hk2 hr
    obtain ⟨hlk, hk2, h2, hl, y0, y1, y2, y3, y4, y5, hr⟩ := hm
    have ham := List.mem_of_getElem? ha
    obtain ⟨cs, hh, hs⟩ := h2.tk a ham
    obtain ⟨x0, x1, x2, x3, x4, x5, x6, x7, x8, x9, rfl⟩ := arr10 cs hs
    clear hs d2 d3 d4 d5 d6 d7 d8 d9 df c0 c1 c2 cf
    obtain ⟨d0, d1, d2, d3, d4, d5, d6, d7, d8, d9, df, hlta1⟩ := cells10 hh
    obtain ⟨m0, m1, m2, m3, m4, m5, mf, mlt⟩ := cells6 hl
    obtain ⟨r0, r1, r2, r3, r4, r5, rf, rlt⟩ := cells6 hr
    obtain ⟨c0, c1, c2, cf, hlt1⟩ := h2.walk.cells
    have hne := h.ne ha
    have hz0 : (z == 0) = false := by simpa using h2.ne
    go_wp2_with fail
    have hf : Fr 89 68 b Wm (Wm.setCell ⟨a, 2, none⟩ (.bool false)) := Fr.set hh (.inl rfl) hal 2 (.bool false)
    have h3 := h2.idle ham hne (.bool false)
    have hr3 := (Below.heap_setCell Wm ⟨a, 2, none⟩ (.bool false) w.heap.size (by show w.heap.size ≠ a; omega)).trans hr
    have hz := put6_at hr3 (.int .u8 k) (.int .i64 m) (.pointer a1) (.pointer a2) (.pointer a3) (.pointer a4)
    have al := put6_alike hr3 (by decide) (.int .u8 k) (.int .i64 m) (.pointer a1) (.pointer a2) (.pointer a3) (.pointer a4)
    have hf2 := put6_fr (hk2.trans hf) (Nat.le_refl _) hb (.int .u8 k) (.int .i64 m) (.pointer a1) (.pointer a2) (.pointer a3) (.pointer a4)
    change bodyPost _ _ _ _ _ (put6 (Wm.setCell ⟨a, 2, none⟩ (.bool false)) w.heap.size (.int .u8 k) (.int .i64 m) (.pointer a1) (.pointer a2) (.pointer a3) (.pointer a4))
    exact fin6 (t := 4) Tryz.results53 rfl rfl hz (GotX.got ⟨k, m, a1, a2, a3, a4, rfl, hf2, h3.alike al⟩)

theorem rforce (n : Nat) (hN : CN n) : CF (n + 1) := by
  intro L i S r b w A wb a he h ha
  have hi := (List.getElem?_eq_some_iff.1 ha).1
  have hi' : i < S.heap.length := by rw [← h.len]; exact hi
  have hS : S.heap[i]? = some S.heap[i] := List.getElem?_eq_getElem hi'
  cases hx : S.heap[i] with
  | known v =>
    rw [hx] at hS
    simp only [ev, hS, Option.some.injEq] at he
    subst he; exact rforce_known h ha hS
  | busy =>
    rw [hx] at hS
    simp only [ev, hS, Option.some.injEq] at he
    subst he; exact rforce_busy h ha hS
  | wait x env =>
    rw [hx] at hS
    simp only [ev, hS] at he
    obtain ⟨⟨rr, S1⟩, he1, he2⟩ := Option.bind_eq_some_iff.1 he
    cases rr with
    | ok v => simp only [Option.some.injEq] at he2; subst he2; exact rforce_ok hN h ha hS he1
    | err z => simp only [Option.some.injEq] at he2; subst he2; exact rforce_err hN h ha hS he1
end Go.Proofs.YtjjlgjmebnkdjaaGreatDoor
