/-
  The document's walk: fails, step, truth, number.
-/
import Derived.Test.YtdpbclnpmkhooaaGreatDoorRefM
namespace Go.Proofs.YtdpbclnpmkhooaaGreatDoor
open Go Go.Proofs Go.RowKit Skein

theorem belowSame {b : Nat} {w w1 w2 : World} (h : Below b w w1) (e1 : w2.heap = w1.heap) (e2 : w2.os = w1.os) (e3 : w2.tape = w1.tape) (e4 : w2.output = w1.output) : Below b w w2 :=
  ⟨e2.trans h.os, e3.trans h.tape, e4.trans h.output, by rw [e1]; exact h.size, fun k hk => by rw [e1]; exact h.block k hk⟩
theorem grown_same {w w1 w2 : World} {r : Option Nat} (h : w.grownBy w1 r) (e1 : w2.heap = w1.heap) (e2 : w2.os = w1.os) (e3 : w2.tape = w1.tape) (e4 : w2.output = w1.output) : w.grownBy w2 r :=
  ⟨e2.trans h.os, e3.trans h.tape, e4.trans h.output, by rw [e1]; exact h.size, fun k hk hn => by rw [e1]; exact h.block k hk hn⟩
theorem Fr.same {d1 d2 b : Nat} {w w1 w2 : World} (h : Fr d1 d2 b w w1) (e1 : w2.heap = w1.heap) (e2 : w2.os = w1.os) (e3 : w2.tape = w1.tape) (e4 : w2.output = w1.output) : Fr d1 d2 b w w2 :=
  ⟨belowSame h.below e1 e2 e3 e4, fun k cs T h1 h2 h3 => by rw [e1]; exact h.keep k cs T h1 h2 h3⟩
theorem NodeAt.same {b w w'} (e : w'.heap = w.heap) : ∀ {t : T} {v : Value}, NodeAt b w t v → NodeAt b w' t v := by
  have hI : ∀ {v op n x y z}, IsN b w v op n x y z → IsN b w' v op n x y z := by
    rintro v op n x y z ⟨k, h1, h2, h3⟩; exact ⟨k, h1, h2, by rw [e]; exact h3⟩
  intro t
  induction t with
  | junk => exact fun h => h
  | free => exact fun h => h
  | nil => exact fun h => hI h
  | num n => exact fun h => hI h
  | var n => exact fun h => hI h
  | letE n p q ip iq => rintro v ⟨x, y, h, hp, hq⟩; exact ⟨x, y, hI h, ip hp, iq hq⟩
  | fn n p ip => rintro v ⟨x, h, hp⟩; exact ⟨x, hI h, ip hp⟩
  | ite p q r ip iq ir => rintro v ⟨x, y, z, h, hp, hq, hr⟩; exact ⟨x, y, z, hI h, ip hp, iq hq, ir hr⟩
  | app p q ip iq => rintro v ⟨x, y, h, hp, hq⟩; exact ⟨x, y, hI h, ip hp, iq hq⟩
  | un op p ip => rintro v ⟨x, h, hp⟩; exact ⟨x, hI h, ip hp⟩
  | bin op p q ip iq => rintro v ⟨x, y, h, hp, hq⟩; exact ⟨x, y, hI h, ip hp, iq hq⟩
theorem NmR.same {w w' : World} {A} (e : w'.heap = w.heap) : ∀ {env v}, NmR w A env v → NmR w' A env v := by
  intro env
  induction env with
  | nil => exact fun h => h
  | cons i r ih => rintro v ⟨k, a, up, h1, ha, hh, hr⟩; exact ⟨k, a, up, h1, ha, by rw [e]; exact hh, ih hr⟩
theorem VR.same {b w w' A} (e : w'.heap = w.heap) {v : V} {x : Value} (h : VR b w A v x) : VR b w' A v x := by
  cases v with
  | num n => exact h
  | nil => exact h
  | fn y env => obtain ⟨ht, p, q, h1, hp, hq⟩ := h; exact ⟨ht, p, q, h1, NodeAt.same e hp, NmR.same e hq⟩
  | cons i j => exact h
theorem TkAt.same {b w w' A} (e : w'.heap = w.heap) {c : C} {a : Nat} (h : TkAt b w A c a) : TkAt b w' A c a := by
  cases c with
  | wait x env => obtain ⟨ht, p, q, hh, hp, hq⟩ := h; exact ⟨ht, p, q, by rw [e]; exact hh, NodeAt.same e hp, NmR.same e hq⟩
  | busy => obtain ⟨p, q, hh⟩ := h; exact ⟨p, q, by rw [e]; exact hh⟩
  | known v => obtain ⟨p, q, k, n, p1, p2, p3, p4, hh, hv⟩ := h; exact ⟨p, q, k, n, p1, p2, p3, p4, by rw [e]; exact hh, hv.same e⟩
theorem WB.same {w w' wb n L x} (e : w'.heap = w.heap) (h : WB w wb n L x) : WB w' wb n L x := by unfold WB; rw [e]; exact h
theorem RE.same {b w w' A wb L S} (h : RE b w A wb L S) (e : w'.heap = w.heap) : RE b w' A wb L S :=
  ⟨h.walk.same e, h.len, fun i c a h1 h2 => (h.tk i c a h1 h2).same e, h.inj, h.lo, h.wlo, h.lim⟩
theorem RX.same {b w w' A wb L n x} (h : RX b w A wb L n x) (e : w'.heap = w.heap) : RX b w' A wb L n x :=
  ⟨h.walk.same e, h.ne, fun a ha => by rw [e]; exact h.tk a ha, h.lo, h.wlo⟩

set_option maxRecDepth 100000 in
set_option maxHeartbeats 1000000 in
theorem rtruth (c : Bool) (w : World) :
    Calls Tryz.prog 62 #[.bool c] w fun e w' => e = .returned (rv 110 (tr c) nilp nilp nilp nilp) ∧ w.grownBy w' none := by
  cases c
  · go_enter Tryz.func62, Tryz.ntmps62
    go_wp2_with fail
    exact bodyPost_ret (v := rv 110 0 nilp nilp nilp nilp) (by simp [results, Tryz.results62, go_sem, rv]) rfl ⟨rfl, grown_alloc (grown_refl _ _) _⟩
  · go_enter Tryz.func62, Tryz.ntmps62
    go_wp2_with fail
    exact bodyPost_ret (v := rv 110 1 nilp nilp nilp nilp) (by simp [results, Tryz.results62, go_sem, rv]) rfl ⟨rfl, grown_alloc (grown_refl _ _) _⟩

theorem WB.fault {w wb n L e} (h : WB w wb n L e) (x : Int) : WB (w.setCell ⟨wb, 2, none⟩ (.int .i64 x)) wb n L x := by
  have := RB.set h 2 (.int .i64 x)
  unfold WB at h ⊢
  rw [this]; rfl

theorem RE.fault {b w A wb L S} (h : RE b w A wb L S) (x : Int) (hx : x ≠ 0) : RX b (w.setCell ⟨wb, 2, none⟩ (.int .i64 x)) A wb L S.steps x := by
  refine ⟨h.walk.fault x, hx, fun a ha => ?_, h.lo, h.wlo⟩
  obtain ⟨i, hi, e⟩ := List.mem_iff_getElem.1 ha
  have hne := h.ne (i := i) (a := a) (by rw [List.getElem?_eq_getElem hi, e])
  obtain ⟨cs, hh, hs⟩ := h.fine a ha
  exact ⟨cs, by rw [Below.heap_setCell _ _ _ _ (by show a ≠ wb; omega)]; exact hh, hs⟩

set_option maxRecDepth 100000 in
set_option maxHeartbeats 1000000 in
theorem rfails {b w A wb L S} (h : RE b w A wb L S) (x : Int) (hx : x ≠ 0) :
    Calls Tryz.prog 49 #[ptr wb, .int .i64 x] w fun e w' => e = .returned (rv 0 0 nilp nilp nilp nilp) ∧ Fr 85 64 b w w' ∧ RX b w' A wb L S.steps x := by
  obtain ⟨c0, c1, c2, cf, hlt⟩ := h.walk.cells
  have hk : Fr 85 64 b w (w.setCell ⟨wb, 2, none⟩ (.int .i64 x)) := Fr.set h.walk (.inr rfl) h.wlo _ _
  have h' := h.fault x hx
  have hx' : Hid (x ≠ 0) := hx
  clear hx
  go_enter Tryz.func49, Tryz.ntmps49
  go_wp2_with fail
  exact bodyPost_ret (v := rv 0 0 nilp nilp nilp nilp) (by simp [results, Tryz.results49, go_sem, rv]) rfl ⟨rfl, hk.trans (Fr.alloc h'.blt _), h'.grown (grown_alloc (grown_refl _ _) _)⟩

theorem RE.stepped {b w A wb L S} (h : RE b w A wb L S) : RE b (w.setCell ⟨wb, 0, none⟩ (.int .i64 ((S.steps : Int) + 1))) A wb L ⟨S.heap, S.steps + 1⟩ := by
  have hk : Fr 85 64 b w (w.setCell ⟨wb, 0, none⟩ (.int .i64 ((S.steps : Int) + 1))) := Fr.set h.walk (.inr rfl) h.wlo _ _
  refine ⟨?_, h.len, fun i c a h1 h2 => ?_, h.inj, h.lo, h.wlo, h.lim⟩
  · have := RB.set h.walk 0 (.int .i64 ((S.steps : Int) + 1))
    unfold WB
    rw [this]; rfl
  · exact (h.tk i c a h1 h2).fr hk (Ext.refl _) (Below.heap_setCell _ _ _ _ (by have := h.ne h2; show a ≠ wb; omega))

set_option maxRecDepth 100000 in
set_option maxHeartbeats 1000000 in
theorem rstep_ok {b w A wb L S} (h : RE b w A wb L S) (hl : ¬ L ≤ S.steps) :
    Calls Tryz.prog 50 #[ptr wb] w fun e w' => e = .returned (.tuple #[]) ∧ Fr 85 64 b w w' ∧ RE b w' A wb L ⟨S.heap, S.steps + 1⟩ := by
  obtain ⟨c0, c1, c2, cf, hlt⟩ := h.walk.cells
  have hk : Fr 85 64 b w (w.setCell ⟨wb, 0, none⟩ (.int .i64 ((S.steps : Int) + 1))) := Fr.set h.walk (.inr rfl) h.wlo _ _
  have h' := h.stepped
  have hL := h.lim
  have hd : decide ((L : Int) ≤ (S.steps : Int)) = false := by simp; omega
  go_enter Tryz.func50, Tryz.ntmps50
  go_wp2_with fail
  go_quiet (fail)
  go_wp2_with fail
  go_end0
  exact ⟨rfl, ⟨belowSame hk.below rfl rfl rfl rfl, hk.keep⟩, h'.same rfl⟩

set_option maxRecDepth 100000 in
set_option maxHeartbeats 1000000 in
theorem rstep_no {b w A wb L S} (h : RE b w A wb L S) (hl : L ≤ S.steps) :
    Calls Tryz.prog 50 #[ptr wb] w fun e w' => e = .returned (.tuple #[]) ∧ Fr 85 64 b w w' ∧ RX b w' A wb L S.steps 8 := by
  obtain ⟨c0, c1, c2, cf, hlt⟩ := h.walk.cells
  have hd : decide ((L : Int) ≤ (S.steps : Int)) = true := by simp; omega
  go_enter Tryz.func50, Tryz.ntmps50
  go_wp2_with fail
  go_quiet (fail)
  go_wp2_with fail
  refine (rfails (h.grown (grown_drewN (grown_refl w none) _)) 8 (by decide)).mono ?_
  rintro e w2 ⟨rfl, hk4, h3⟩
  go_wp2_with fail
  refine bodyPost_ret (v := .tuple #[]) (by simp [results, Tryz.results50, go_sem]) rfl ?_
  exact ⟨rfl, ⟨⟨hk4.below.os, hk4.below.tape, hk4.below.output, hk4.below.size, hk4.below.block⟩, hk4.keep⟩, h3⟩

theorem VR.num_or {b w A v k n p1 p2 p3 p4} (h : VR b w A v (rv k n p1 p2 p3 p4)) : (k = 110 ∧ v = .num n) ∨ ((k == 110) = false ∧ R.num (.ok v) = .error 5) := by
  cases v with
  | num m => simp only [VR, rv, Value.agg.injEq] at h; simp at h; obtain ⟨rfl, rfl, _⟩ := h; exact .inl ⟨rfl, rfl⟩
  | nil => simp only [VR, rv, Value.agg.injEq] at h; simp at h; obtain ⟨rfl, _⟩ := h; exact .inr ⟨rfl, rfl⟩
  | fn x env => obtain ⟨ht, p, q, h, _⟩ := h; simp only [rv, Value.agg.injEq] at h; simp at h; obtain ⟨rfl, _⟩ := h; exact .inr ⟨rfl, rfl⟩
  | cons i j => obtain ⟨a, c, _, _, h⟩ := h; simp only [rv, Value.agg.injEq] at h; simp at h; obtain ⟨rfl, _⟩ := h; exact .inr ⟨rfl, rfl⟩

set_option maxRecDepth 100000 in
set_option maxHeartbeats 1000000 in
theorem rnumber {n : Nat} (hN : CN n) {L : Nat} {x : T} {env : List Nat} {S : E} {r : R × E} {b : Nat} {w : World} {A : List Nat} {wb : Nat} {p q : Value} (he : ev L n (.need x env) S = some r) (h : RE b w A wb L S) (ht : Tidy env.length x) (hp : NodeAt b w x p) (hq : NmAt w A env q) :
    Calls Tryz.prog 48 #[ptr wb, p, q] w fun e w' => Fr 85 64 b w w' ∧
      ((∃ k A', r.1.num = .ok k ∧ e = .returned (.int .i64 k) ∧ Ext A A' ∧ RE b w' A' wb L r.2) ∨
       (∃ z k, r.1.num = .error z ∧ e = .returned (.int .i64 k) ∧ RX b w' A wb L r.2.steps z)) := by
  obtain ⟨ap, rfl⟩ := NodeAt.ptr _ _ hp
  obtain ⟨aq, rfl⟩ := hq.ptr
  have HN : Hid (Calls Tryz.prog 31 #[ptr wb, .pointer (some ap), .pointer aq] w (Got b w A wb L r)) := hN L x env S r b w A wb _ _ he h ht hp hq
  have hb := h.blt
  clear hp hq he
  go_enter Tryz.func48, Tryz.ntmps48
  go_wp2_with fail
  refine HN.out.mono ?_
  rintro e w1 ⟨hk, ⟨v, A', x, hr, rfl, hA, h1, hv⟩ | ⟨z, k, n, a1, a2, a3, a4, hr, rfl, h1⟩⟩
  · obtain ⟨k, n, a1, a2, a3, a4, rfl⟩ := hv.shape
    obtain ⟨c0, c1, c2, cf, hlt⟩ := h1.walk.cells
    have hg := grown_alloc (grown_refl w1 none) (.cells #[.int .u8 k, .int .i64 n, .pointer a1, .pointer a2, .pointer a3, .pointer a4] 68 (0, 0))
    have h2 := h1.grown hg
    have hk2 := hk.trans (Fr.grown h1.blt hg)
    rcases hv.num_or with ⟨rfl, hv1⟩ | ⟨hk1, hv1⟩
    · have HV : Hid (r.1.num = .ok n) := by rw [hr, hv1]; rfl
      clear hr hv1 hv
      go_wp2_with fail
      go_ret
      exact ⟨hk2, .inl ⟨n, A', HV.out, rfl, hA, h2⟩⟩
    · have HV : Hid (r.1.num = .error 5) := by unfold Hid; rw [hr, hv1]
      have hk3 : (k != 110) = true := by simp [bne, hk1]
      clear hr hv1 hv
      go_wp2_with fail
      refine (rfails h2 5 (by decide)).mono ?_
      rintro e w2 ⟨rfl, hk4, h3⟩
      have hx := hk4.keep w1.heap.size _ 68 (by decide) (by decide) (alloc_at w1 _ _ rfl)
      have d1 : w2.cell? ⟨w1.heap.size, 1, none⟩ = some (.int .i64 n) := by simp [World.cell?, hx]
      clear hx
      go_wp2_with fail
      go_ret
      exact ⟨hk2.trans hk4, .inr ⟨5, n, HV.out, rfl, h3.sub hA⟩⟩
  · obtain ⟨c0, c1, c2, cf, hlt⟩ := h1.walk.cells
    have hg := grown_alloc (grown_refl w1 none) (.cells #[.int .u8 k, .int .i64 n, .pointer a1, .pointer a2, .pointer a3, .pointer a4] 68 (0, 0))
    have h2 := h1.grown hg
    have hk2 := hk.trans (Fr.grown h1.blt hg)
    have hz : (z == 0) = false := by simpa using h1.ne
    have HV : Hid (r.1.num = .error z) := by rw [hr]; rfl
    clear hr
    go_wp2_with fail
    go_ret
    exact ⟨hk2, .inr ⟨z, n, HV.out, rfl, h2⟩⟩
end Go.Proofs.YtdpbclnpmkhooaaGreatDoor
