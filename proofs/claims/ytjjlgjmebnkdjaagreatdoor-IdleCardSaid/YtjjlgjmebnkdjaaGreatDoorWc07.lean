/-
  The plain model of a value as text, lists too (for stage 3).
  The plain model of a list's text, a part at a time.
  The document's walk: a value as text, lists too.
  The document's walk: the text of a list, and of any value.
  The program's reckoning: a sign; all closures.
-/
import Derived.Test.YtjjlgjmebnkdjaaGreatDoorWc00
import Derived.Test.YtjjlgjmebnkdjaaGreatDoorWc06
import Derived.Test.YtjjlgjmebnkdjaaGreatDoorWc05
namespace Skein
open Go

inductive TJ where
  | val (v : V)
  | parts (acc : ByteArray) (i j : Nat)

/-- A value told as text, or what goes wrong. -/
def tell (L : Nat) (num : Int → ByteArray) (fnT : ByteArray) : Nat → TJ → E → Option (Except Int ByteArray × E)
  | 0, _, _ => none
  | n + 1, .val v, S =>
    match v with
    | .num k => some (.ok (num k), S)
    | .fn _ _ => some (.ok fnT, S)
    | .nil => some (.ok ⟨#[91, 93]⟩, S)
    | .cons i j => tell L num fnT n (.parts ⟨#[91]⟩ i j) S
  | n + 1, .parts acc i j, S =>
    if L ≤ S.steps then some (.error 8, S)
    else (ev L n (.force i) ⟨S.heap, S.steps + 1⟩).bind fun r =>
      match r.1 with
      | .err z => some (.error z, r.2)
      | .ok v => (tell L num fnT n (.val v) r.2).bind fun t =>
        match t.1 with
        | .error z => some (.error z, t.2)
        | .ok s => (ev L n (.force j) t.2).bind fun q =>
          match q.1 with
          | .err z => some (.error z, q.2)
          | .ok .nil => some (.ok (acc ++ s ++ ⟨#[93]⟩), q.2)
          | .ok (.cons i' j') => tell L num fnT n (.parts (acc ++ s ++ ⟨#[44, 32]⟩) i' j') q.2
          | .ok _ => some (.error 5, q.2)

theorem ev_steps (L : Nat) : ∀ (n : Nat) (j : J) (S : E) (r : R × E), ev L n j S = some r → S.steps ≤ L → S.steps ≤ r.2.steps ∧ r.2.steps ≤ L := by
  intro n
  induction n with
  | zero => intro j S r h; simp [ev] at h
  | succ n ih =>
    intro j S r h hS
    have same : S.steps ≤ S.steps ∧ S.steps ≤ L := ⟨Nat.le_refl _, hS⟩
    cases j with
    | force i =>
      simp only [ev] at h
      cases hc : S.heap[i]? with
      | none => rw [hc] at h; cases h
      | some c =>
        rw [hc] at h
        cases c with
        | known v => cases h; exact same
        | busy => cases h; exact same
        | wait x env =>
          obtain ⟨⟨rr, S1⟩, h1, h2⟩ := Option.bind_eq_some_iff.1 h
          have k1 := ih _ _ _ h1 hS
          cases rr with
          | ok v => cases h2; exact k1
          | err e => cases h2; exact k1
    | need x env =>
      cases x with
      | junk => cases h
      | free => cases h
      | nil => cases h; exact same
      | num k => cases h; exact same
      | fn k b => cases h; exact same
      | var i =>
        simp only [ev] at h
        cases he : env[i]? with
        | none => rw [he] at h; cases h
        | some k => rw [he] at h; exact ih _ _ _ h hS
      | letE k a b =>
        simp only [ev] at h
        have k1 := ih _ _ _ h (by exact hS)
        exact k1
      | ite a b c =>
        simp only [ev] at h
        obtain ⟨r1, h1, h2⟩ := Option.bind_eq_some_iff.1 h
        have k1 := ih _ _ _ h1 hS
        cases hr : r1.1.num with
        | error e => rw [hr] at h2; cases h2; exact k1
        | ok k =>
          rw [hr] at h2
          simp only at h2
          split at h2
          · have k2 := ih _ _ _ h2 k1.2; exact ⟨Nat.le_trans k1.1 k2.1, k2.2⟩
          · have k2 := ih _ _ _ h2 k1.2; exact ⟨Nat.le_trans k1.1 k2.1, k2.2⟩
      | app a b =>
        simp only [ev] at h
        obtain ⟨r1, h1, h2⟩ := Option.bind_eq_some_iff.1 h
        have k1 := ih _ _ _ h1 hS
        cases hr : r1.1.fn with
        | error e => rw [hr] at h2; cases h2; exact k1
        | ok f =>
          rw [hr] at h2
          simp only at h2
          split at h2
          · cases h2; exact k1
          · have k2 := ih _ _ _ h2 (by show r1.2.steps + 1 ≤ L; omega)
            simp only at k2
            exact ⟨by omega, k2.2⟩
      | un op a =>
        simp only [ev] at h
        obtain ⟨r1, h1, h2⟩ := Option.bind_eq_some_iff.1 h
        have k1 := ih _ _ _ h1 hS
        cases hr : r1.1.list with
        | error e => rw [hr] at h2; cases h2; exact k1
        | ok o =>
          rw [hr] at h2
          cases o with
          | none =>
            simp only at h2
            split at h2
            · cases h2; exact k1
            · cases h2; exact k1
          | some p =>
            simp only at h2
            split at h2
            · cases h2; exact k1
            · split at h2
              · have k2 := ih _ _ _ h2 k1.2; exact ⟨Nat.le_trans k1.1 k2.1, k2.2⟩
              · have k2 := ih _ _ _ h2 k1.2; exact ⟨Nat.le_trans k1.1 k2.1, k2.2⟩
      | bin op a b =>
        simp only [ev] at h
        split at h
        · cases h; exact same
        · obtain ⟨r1, h1, h2⟩ := Option.bind_eq_some_iff.1 h
          have k1 := ih _ _ _ h1 hS
          cases hr : r1.1.num with
          | error e => rw [hr] at h2; cases h2; exact k1
          | ok i =>
            rw [hr] at h2
            obtain ⟨r2, h3, h4⟩ := Option.bind_eq_some_iff.1 h2
            have k2 := ih _ _ _ h3 k1.2
            have k3 : S.steps ≤ r2.2.steps ∧ r2.2.steps ≤ L := ⟨Nat.le_trans k1.1 k2.1, k2.2⟩
            cases hr2 : r2.1.num with
            | error e => rw [hr2] at h4; cases h4; exact k3
            | ok j => rw [hr2] at h4; cases h4; exact k3

/-- How long a text is: by the steps that it took. -/
def TSize (S : E) : TJ → Except Int ByteArray × E → Prop
  | .val _, r => ∀ s, r.1 = .ok s → s.size ≤ 21 + 40 * (r.2.steps - S.steps)
  | .parts acc _ _, r => ∀ s, r.1 = .ok s → s.size ≤ acc.size + 40 * (r.2.steps - S.steps)

theorem tell_size (L : Nat) (num : Int → ByteArray) (fnT : ByteArray) (hn : ∀ k, (num k).size ≤ 21) (hf : fnT.size ≤ 21) : ∀ (n : Nat) (j : TJ) (S : E) (r : Except Int ByteArray × E), tell L num fnT n j S = some r → S.steps ≤ L → S.steps ≤ r.2.steps ∧ r.2.steps ≤ L ∧ TSize S j r := by
  intro n
  induction n with
  | zero => intro j S r h; simp [tell] at h
  | succ n ih =>
    intro j S r h hS
    cases j with
    | val v =>
      cases v with
      | num k => simp only [tell, Option.some.injEq] at h; subst h; exact ⟨Nat.le_refl _, hS, fun s e => by cases e; have := hn k; omega⟩
      | fn b e => simp only [tell, Option.some.injEq] at h; subst h; exact ⟨Nat.le_refl _, hS, fun s e => by cases e; omega⟩
      | nil => simp only [tell, Option.some.injEq] at h; subst h; exact ⟨Nat.le_refl _, hS, fun s e => by cases e; show 2 ≤ _; omega⟩
      | cons i j =>
        simp only [tell] at h
        obtain ⟨k1, k2, k3⟩ := ih _ _ _ h hS
        refine ⟨k1, k2, fun s e => ?_⟩
        have := k3 s e
        have e1 : (ByteArray.mk #[91]).size = 1 := rfl
        omega
    | parts acc i j =>
      simp only [tell] at h
      split at h
      · cases h; exact ⟨Nat.le_refl _, hS, fun s e => by cases e⟩
      · rename_i hl
        obtain ⟨r1, h1, h2⟩ := Option.bind_eq_some_iff.1 h
        have a1 := ev_steps L n _ _ _ h1 (by show S.steps + 1 ≤ L; omega)
        simp only at a1
        rcases hr : r1.1 with v | z
        · rw [hr] at h2
          obtain ⟨t, h3, h4⟩ := Option.bind_eq_some_iff.1 h2
          obtain ⟨b1, b2, b3⟩ := ih _ _ _ h3 a1.2
          rcases ht : t.1 with z | s
          · rw [ht] at h4; cases h4; exact ⟨by show S.steps ≤ t.2.steps; omega, b2, fun s e => by cases e⟩
          · rw [ht] at h4
            have bs := b3 s ht
            obtain ⟨q, h5, h6⟩ := Option.bind_eq_some_iff.1 h4
            have c1 := ev_steps L n _ _ _ h5 b2
            rcases hq : q.1 with v2 | z
            · rw [hq] at h6
              cases v2 with
              | nil =>
                simp only [Option.some.injEq] at h6
                subst h6
                refine ⟨by show S.steps ≤ q.2.steps; omega, c1.2, fun s' e => ?_⟩
                cases e
                simp only [ByteArray.size_append]
                have e1 : (ByteArray.mk #[93]).size = 1 := rfl
                show acc.size + s.size + _ ≤ acc.size + 40 * (q.2.steps - S.steps)
                omega
              | cons i' j' =>
                simp only at h6
                obtain ⟨d1, d2, d3⟩ := ih _ _ _ h6 c1.2
                refine ⟨by omega, d2, fun s' e => ?_⟩
                have := d3 s' e
                simp only [ByteArray.size_append] at this
                have e1 : (ByteArray.mk #[44, 32]).size = 2 := rfl
                omega
              | num k => simp only [Option.some.injEq] at h6; subst h6; exact ⟨by show S.steps ≤ q.2.steps; omega, c1.2, fun s e => by cases e⟩
              | fn b e => simp only [Option.some.injEq] at h6; subst h6; exact ⟨by show S.steps ≤ q.2.steps; omega, c1.2, fun s e => by cases e⟩
            · rw [hq] at h6; cases h6; exact ⟨by show S.steps ≤ q.2.steps; omega, c1.2, fun s e => by cases e⟩
        · rw [hr] at h2; cases h2; exact ⟨by show S.steps ≤ r1.2.steps; omega, a1.2, fun s e => by cases e⟩

theorem tell_in (L : Nat) (num : Int → ByteArray) (fnT : ByteArray) : ∀ (n : Nat) (j : TJ) (S : E) (r : Except Int ByteArray × E), tell L num fnT n j S = some r → HIn S → HIn r.2 := by
  intro n
  induction n with
  | zero => intro j S r h; simp [tell] at h
  | succ n ih =>
    intro j S r h hS
    cases j with
    | val v =>
      cases v with
      | num k => simp only [tell, Option.some.injEq] at h; subst h; exact hS
      | fn b e => simp only [tell, Option.some.injEq] at h; subst h; exact hS
      | nil => simp only [tell, Option.some.injEq] at h; subst h; exact hS
      | cons i j => simp only [tell] at h; exact ih _ _ _ h hS
    | parts acc i j =>
      simp only [tell] at h
      split at h
      · cases h; exact hS
      · obtain ⟨r1, h1, h2⟩ := Option.bind_eq_some_iff.1 h
        have a1 := (ev_in L n _ _ _ h1 (by exact hS) trivial).1
        rcases hr : r1.1 with v | z
        · rw [hr] at h2
          obtain ⟨t, h3, h4⟩ := Option.bind_eq_some_iff.1 h2
          have b1 := ih _ _ _ h3 a1
          rcases ht : t.1 with z | s
          · rw [ht] at h4; cases h4; exact b1
          · rw [ht] at h4
            obtain ⟨q, h5, h6⟩ := Option.bind_eq_some_iff.1 h4
            have c1 := (ev_in L n _ _ _ h5 b1 trivial).1
            rcases hq : q.1 with v2 | z
            · rw [hq] at h6
              cases v2 with
              | nil => simp only [Option.some.injEq] at h6; subst h6; exact c1
              | cons i' j' => exact ih _ _ _ h6 c1
              | num k => simp only [Option.some.injEq] at h6; subst h6; exact c1
              | fn b e => simp only [Option.some.injEq] at h6; subst h6; exact c1
            · rw [hq] at h6; cases h6; exact c1
        · rw [hr] at h2; cases h2; exact a1
end Skein

namespace Skein
open Go

section
variable (L : Nat) (num : Int → ByteArray) (fnT : ByteArray) (g : Nat) (acc : ByteArray) (r : Except Int ByteArray × E)

def Tail4 (s : ByteArray) (v : V) (S : E) : Prop :=
  (v = .nil ∧ r = (.ok (acc ++ s ++ ⟨#[93]⟩), S)) ∨ (∃ i j, v = .cons i j ∧ tell L num fnT g (.parts (acc ++ s ++ ⟨#[44, 32]⟩) i j) S = some r) ∨ (R.list (.ok v) = .error 5 ∧ r = (.error 5, S))
def Tail3 (j : Nat) (s : ByteArray) (S : E) : Prop :=
  ∃ q, ev L g (.force j) S = some q ∧ (∀ z, q.1 = .err z → r = (.error z, q.2)) ∧ ∀ v, q.1 = .ok v → Tail4 L num fnT g acc r s v q.2
def Tail2 (j : Nat) (v : V) (S : E) : Prop :=
  ∃ t, tell L num fnT g (.val v) S = some t ∧ (∀ z, t.1 = .error z → r = (.error z, t.2)) ∧ ∀ s, t.1 = .ok s → Tail3 L num fnT g acc r j s t.2
def Tail1 (i j : Nat) (S : E) : Prop :=
  ∃ q, ev L g (.force i) S = some q ∧ (∀ z, q.1 = .err z → r = (.error z, q.2)) ∧ ∀ v, q.1 = .ok v → Tail2 L num fnT g acc r j v q.2
end

theorem parts_tail {L : Nat} {num : Int → ByteArray} {fnT : ByteArray} {g : Nat} {acc : ByteArray} {r : Except Int ByteArray × E} {i j : Nat} {S : E} (h : tell L num fnT (g + 1) (.parts acc i j) S = some r) :
    (L ≤ S.steps ∧ r = (.error 8, S)) ∨ (¬ L ≤ S.steps ∧ Tail1 L num fnT g acc r i j ⟨S.heap, S.steps + 1⟩) := by
  simp only [tell] at h
  by_cases hl : L ≤ S.steps
  · rw [if_pos hl] at h; exact .inl ⟨hl, (Option.some.inj h).symm⟩
  · rw [if_neg hl] at h
    refine .inr ⟨hl, ?_⟩
    obtain ⟨q, h1, h2⟩ := Option.bind_eq_some_iff.1 h
    refine ⟨q, h1, fun z hz => ?_, fun v hv => ?_⟩
    · rw [hz] at h2; exact (Option.some.inj h2).symm
    rw [hv] at h2
    obtain ⟨t, h3, h4⟩ := Option.bind_eq_some_iff.1 h2
    refine ⟨t, h3, fun z hz => ?_, fun s hs => ?_⟩
    · rw [hz] at h4; exact (Option.some.inj h4).symm
    rw [hs] at h4
    obtain ⟨p, h5, h6⟩ := Option.bind_eq_some_iff.1 h4
    refine ⟨p, h5, fun z hz => ?_, fun v2 hv2 => ?_⟩
    · rw [hz] at h6; exact (Option.some.inj h6).symm
    rw [hv2] at h6
    cases v2 with
    | nil => exact .inl ⟨rfl, (Option.some.inj h6).symm⟩
    | cons i' j' => exact .inr (.inl ⟨i', j', rfl, h6⟩)
    | num k => exact .inr (.inr ⟨rfl, (Option.some.inj h6).symm⟩)
    | fn b e => exact .inr (.inr ⟨rfl, (Option.some.inj h6).symm⟩)
end Skein

namespace Go.Proofs.YtjjlgjmebnkdjaaGreatDoor
open Go Go.Proofs Go.RowKit Skein

def TGot (b : Nat) (w : World) (A : List Nat) (wb L : Nat) (r : Except Int ByteArray × E) (e : Ending) (w' : World) : Prop :=
  Fr 89 68 b w w' ∧ ((∃ s A', r.1 = .ok s ∧ e = .returned (.string s) ∧ Ext A A' ∧ RE b w' A' wb L r.2) ∨ (∃ z, r.1 = .error z ∧ e = .returned (.string ⟨#[]⟩) ∧ RX b w' A wb L r.2.steps z))

def CT (n : Nat) : Prop := ∀ (L : Nat) (v : V) (S : E) (r : Except Int ByteArray × E) (b : Nat) (w : World) (A : List Nat) (wb : Nat) (x : Value), tell L numT fnText n (.val v) S = some r → S.steps ≤ L → HIn S → VIn v → RE b w A wb L S → VR b w A v x →
  Calls Tryz.prog 38 #[ptr wb, x] w (TGot b w A wb L r)

set_option maxRecDepth 100000 in
set_option maxHeartbeats 4000000 in
theorem rforce_x {b w A wb L m z} (h : RX b w A wb L m z) (a : Nat) : Calls Tryz.prog 53 #[ptr wb, ptr a] w fun e w' => e = .returned (rv 0 0 nilp nilp nilp nilp) ∧ World.grownBy w w' none := by
  obtain ⟨c0, c1, c2, cf, hlt⟩ := h.walk.cells
  have hz0 : (z == 0) = false := by simpa using h.ne
  have hz1 : (z != 0) = true := by simp [bne, hz0]
  have hy := alloc_at w (.cells #[.int .u8 0, .int .i64 0, nilp, nilp, nilp, nilp] 72 (0, 0)) w.heap.size rfl
  go_enter Tryz.func53, Tryz.ntmps53
  go_wp2_with fail
  exact fin6 (t := 4) Tryz.results53 rfl rfl hy ⟨rfl, grown_alloc (grown_refl _ _) _⟩

set_option maxRecDepth 100000 in
set_option maxHeartbeats 4000000 in
theorem rtext_nil {b w A wb L S} (h : RE b w A wb L S) : Calls Tryz.prog 38 #[ptr wb, rv 101 0 nilp nilp nilp nilp] w fun e w' => e = .returned (.string ⟨#[91, 93]⟩) ∧ w.grownBy w' none := by
  obtain ⟨c0, c1, c2, cf, hlt⟩ := h.walk.cells
  go_enter Tryz.func38, Tryz.ntmps38
  go_wp2_with fail
  go_ret
  exact ⟨rfl, grown_alloc (grown_refl _ _) _⟩

/-- Something went wrong, and it is what is told. -/
def Bad (b : Nat) (w : World) (A : List Nat) (wb L : Nat) (r : Except Int ByteArray × E) : Prop := ∃ z, r.1 = .error z ∧ RX b w A wb L r.2.steps z
theorem Bad.grown {b w w' A wb L r} (h : Bad b w A wb L r) (hg : World.grownBy w w' none) : Bad b w' A wb L r := by
  obtain ⟨z, h1, h2⟩ := h; exact ⟨z, h1, h2.grown hg⟩

/-- How far a round has come: each time, something went wrong or all is well. -/
def D1 (b : Nat) (w : World) (A : List Nat) (wb L g : Nat) (acc : ByteArray) (r : Except Int ByteArray × E) (i j : Nat) : Prop :=
  Bad b w A wb L r ∨ ∃ S, RE b w A wb L S ∧ S.steps ≤ L ∧ HIn S ∧ acc.size + 40 ≤ 40 * S.steps + 1 ∧ Tail1 L numT fnText g acc r i j S
def D2 (b : Nat) (w : World) (A : List Nat) (wb L g : Nat) (acc : ByteArray) (r : Except Int ByteArray × E) (j : Nat) (x : Value) : Prop :=
  Bad b w A wb L r ∨ ∃ S v, RE b w A wb L S ∧ S.steps ≤ L ∧ HIn S ∧ acc.size + 40 ≤ 40 * S.steps + 1 ∧ VIn v ∧ VR b w A v x ∧ Tail2 L numT fnText g acc r j v S
def D3 (b : Nat) (w : World) (A : List Nat) (wb L g : Nat) (acc : ByteArray) (r : Except Int ByteArray × E) (j : Nat) (s : ByteArray) : Prop :=
  Bad b w A wb L r ∨ ∃ S, RE b w A wb L S ∧ S.steps ≤ L ∧ HIn S ∧ acc.size + s.size + 2 ≤ 40 * S.steps + 1 ∧ Tail3 L numT fnText g acc r j s S
def D4 (b : Nat) (w : World) (A : List Nat) (wb L g : Nat) (acc : ByteArray) (r : Except Int ByteArray × E) (s : ByteArray) (x : Value) : Prop :=
  Bad b w A wb L r ∨ ∃ S v, RE b w A wb L S ∧ S.steps ≤ L ∧ HIn S ∧ acc.size + s.size + 2 ≤ 40 * S.steps + 1 ∧ VR b w A v x ∧ Tail4 L numT fnText g acc r s v S

theorem D2.grown {b w w' A wb L g acc r j x} (h : D2 b w A wb L g acc r j x) (hg : World.grownBy w w' none) : D2 b w' A wb L g acc r j x := by
  rcases h with h | ⟨S, v, h1, h2, h3, h4, h5, h6, h7⟩
  · exact .inl (h.grown hg)
  · exact .inr ⟨S, v, h1.grown hg, h2, h3, h4, h5, h6.fr (Fr.grown h1.blt hg) (Ext.refl _), h7⟩
theorem D2.blt {b w A wb L g acc r j x} (h : D2 b w A wb L g acc r j x) : b ≤ w.heap.size := by
  rcases h with ⟨z, _, h⟩ | ⟨S, v, h1, _⟩
  · exact h.blt
  · exact h1.blt

theorem tstep {b w A wb L g acc r i j S} (h : RE b w A wb L S) (hH : HIn S) (ha : acc.size ≤ 40 * S.steps + 1) (ht : tell L numT fnText (g + 1) (.parts acc i j) S = some r) :
    Calls Tryz.prog 56 #[ptr wb] w fun e w' => e = .returned (.tuple #[]) ∧ Fr 89 68 b w w' ∧ D1 b w' A wb L g acc r i j := by
  rcases parts_tail ht with ⟨hl, rfl⟩ | ⟨hl, h1⟩
  · refine (rstep_no h hl).mono ?_
    rintro e w' ⟨rfl, k, q⟩
    exact ⟨rfl, k, .inl ⟨8, rfl, q⟩⟩
  · refine (rstep_ok h hl).mono ?_
    rintro e w' ⟨rfl, k, q⟩
    exact ⟨rfl, k, .inr ⟨_, q, by show S.steps + 1 ≤ L; omega, hH, by show acc.size + 40 ≤ 40 * (S.steps + 1) + 1; omega, h1⟩⟩

theorem tforce1 {b w A wb L g acc r i j a} (h : D1 b w A wb L g acc r i j) (ha : A[i]? = some a) :
    Calls Tryz.prog 53 #[ptr wb, ptr a] w fun e w' => ∃ k n a1 a2 a3 a4, e = .returned (rv k n (.pointer a1) (.pointer a2) (.pointer a3) (.pointer a4)) ∧ Fr 89 68 b w w' ∧ ∃ A1, Ext A A1 ∧ D2 b w' A1 wb L g acc r j (rv k n (.pointer a1) (.pointer a2) (.pointer a3) (.pointer a4)) := by
  rcases h with ⟨z, hz, h⟩ | ⟨S, h1, h2, h3, h4, q, h5, h6, h7⟩
  · refine (rforce_x h a).mono ?_
    rintro e w' ⟨rfl, hg⟩
    exact ⟨_, _, _, _, _, _, rfl, Fr.grown h.blt hg, A, Ext.refl _, .inl ⟨z, hz, h.grown hg⟩⟩
  · have st := ev_steps L g _ _ _ h5 h2
    have hin := ev_in L g _ _ _ h5 h3 trivial
    refine ((cn_all g).2 L i S q b w A wb a h5 h1 ha).mono ?_
    intro e w' hG
    rcases hr : q.1 with v | z
    · obtain ⟨A1, k', n', a1, a2, a3, a4, rfl, k2, hA1, R2, hv⟩ := hG.v hr
      have hI := hin.2
      rw [hr] at hI
      exact ⟨_, _, _, _, _, _, rfl, k2, A1, hA1, .inr ⟨_, v, R2, st.2, hin.1, by omega, hI, hv, h7 v hr⟩⟩
    · obtain ⟨k', n', a1, a2, a3, a4, rfl, k2, q2⟩ := hG.x hr
      have := h6 z hr
      subst this
      exact ⟨_, _, _, _, _, _, rfl, k2, A, Ext.refl _, .inl ⟨z, rfl, q2⟩⟩

theorem ttext {b w A wb L g acc r j} {k n : Int} {a1 a2 a3 a4 : Option Addr} (hT : CT g) (h : D2 b w A wb L g acc r j (rv k n (.pointer a1) (.pointer a2) (.pointer a3) (.pointer a4))) (hacc : acc.size ≤ 100000) :
    Calls Tryz.prog 38 #[ptr wb, rv k n (.pointer a1) (.pointer a2) (.pointer a3) (.pointer a4)] w fun e w' => ∃ s, e = .returned (.string s) ∧ acc.size + s.size ≤ 1000000 ∧ Fr 89 68 b w w' ∧ ∃ A1, Ext A A1 ∧ D3 b w' A1 wb L g acc r j s := by
  rcases h with ⟨z, hz, h⟩ | ⟨S, v, h1, h2, h3, h4, h5, h6, t, h7, h8, h9⟩
  · refine (rtext_err h k n a1 a2 a3 a4).mono ?_
    rintro e w' ⟨rfl, hg⟩
    exact ⟨⟨#[]⟩, rfl, by show acc.size + 0 ≤ _; omega, Fr.grown h.blt hg, A, Ext.refl _, .inl ⟨z, hz, h.grown hg⟩⟩
  · obtain ⟨st2, st3, sz2⟩ := tell_size L numT fnText numT_size (by decide) g _ _ _ h7 h2
    have hin := tell_in L numT fnText g _ _ _ h7 h3
    have hL := h1.lim
    refine (hT L v S t b w A wb _ h7 h2 h3 h5 h1 h6).mono ?_
    rintro e w' ⟨k4, ⟨s, A2, ht, rfl, hA2, R4⟩ | ⟨z, ht, rfl, q4⟩⟩
    · have hs := sz2 s ht
      exact ⟨s, rfl, by omega, k4, A2, hA2, .inr ⟨t.2, R4, st3, hin, by omega, h9 s ht⟩⟩
    · have := h8 z ht
      subst this
      exact ⟨⟨#[]⟩, rfl, by show acc.size + 0 ≤ _; omega, k4, A, Ext.refl _, .inl ⟨z, rfl, q4⟩⟩

theorem tforce2 {b w A wb L g acc r j a s} (h : D3 b w A wb L g acc r j s) (ha : A[j]? = some a) :
    Calls Tryz.prog 53 #[ptr wb, ptr a] w fun e w' => ∃ k n a1 a2 a3 a4, e = .returned (rv k n (.pointer a1) (.pointer a2) (.pointer a3) (.pointer a4)) ∧ Fr 89 68 b w w' ∧ ∃ A1, Ext A A1 ∧ D4 b w' A1 wb L g acc r s (rv k n (.pointer a1) (.pointer a2) (.pointer a3) (.pointer a4)) := by
  rcases h with ⟨z, hz, h⟩ | ⟨S, h1, h2, h3, h4, q, h5, h6, h7⟩
  · refine (rforce_x h a).mono ?_
    rintro e w' ⟨rfl, hg⟩
    exact ⟨_, _, _, _, _, _, rfl, Fr.grown h.blt hg, A, Ext.refl _, .inl ⟨z, hz, h.grown hg⟩⟩
  · have st := ev_steps L g _ _ _ h5 h2
    have hin := ev_in L g _ _ _ h5 h3 trivial
    refine ((cn_all g).2 L j S q b w A wb a h5 h1 ha).mono ?_
    intro e w' hG
    rcases hr : q.1 with v | z
    · obtain ⟨A1, k', n', a1, a2, a3, a4, rfl, k2, hA1, R2, hv⟩ := hG.v hr
      exact ⟨_, _, _, _, _, _, rfl, k2, A1, hA1, .inr ⟨_, v, R2, st.2, hin.1, by omega, hv, h7 v hr⟩⟩
    · obtain ⟨k', n', a1, a2, a3, a4, rfl, k2, q2⟩ := hG.x hr
      have := h6 z hr
      subst this
      exact ⟨_, _, _, _, _, _, rfl, k2, A, Ext.refl _, .inl ⟨z, rfl, q2⟩⟩
end Go.Proofs.YtjjlgjmebnkdjaaGreatDoor

namespace Go.Proofs.YtjjlgjmebnkdjaaGreatDoor
open Go Go.Proofs Go.RowKit Skein

set_option maxRecDepth 100000 in
set_option maxHeartbeats 16000000 in
theorem rtext_cons (n : Nat) (hT : ∀ m, m < n → CT m) {L : Nat} {S : E} {r : Except Int ByteArray × E} {b : Nat} {w : World} {A : List Nat} {wb i j a c : Nat} (he : tell L numT fnText n (.parts ⟨#[91]⟩ i j) S = some r) (hS : S.steps ≤ L) (hH : HIn S) (h : RE b w A wb L S) (ha : A[i]? = some a) (hc : A[j]? = some c) :
    Calls Tryz.prog 38 #[ptr wb, rv 99 0 nilp nilp (ptr a) (ptr c)] w (TGot b w A wb L r) := by
  have hb := h.blt
  have hL := h.lim
  obtain ⟨c0, c1, c2, cf, hlt⟩ := h.walk.cells
  have hg := grown_alloc (grown_refl w none) (.cells #[.int .u8 99, .int .i64 0, nilp, nilp, ptr a, ptr c] 72 (0, 0))
  have hy := alloc_at w (.cells #[.int .u8 99, .int .i64 0, nilp, nilp, ptr a, ptr c] 72 (0, 0)) w.heap.size rfl
  have h0 := h.grown hg
  have hf0 : Fr 89 68 b w _ := Fr.grown hb hg
  have HE : Hid (tell L numT fnText n (.parts ⟨#[91]⟩ i j) S = some r) := he
  clear he
  go_enter Tryz.func38, Tryz.ntmps38
  go_wp2_with fail
  go_loopg [5] n (fun g v wr => g ≤ n ∧ ∃ acc i j S' A' a c, v = .string acc ∧ Hid (tell L numT fnText g (.parts acc i j) S' = some r) ∧ S'.steps ≤ L ∧ HIn S' ∧ acc.size ≤ 40 * S'.steps + 1 ∧ Fr 89 68 b w wr ∧ Ext A A' ∧ RE b wr A' wb L S' ∧ A'[i]? = some a ∧ A'[j]? = some c ∧ wr.heap[w.heap.size]? = some (.cells #[.int .u8 99, .int .i64 0, nilp, nilp, ptr a, ptr c] 72 (0, 0)))
  case atStart => exact ⟨Nat.le_refl _, _, i, j, S, A, a, c, rfl, HE, hS, hH, by show 1 ≤ _; omega, hf0, Ext.refl _, h0, ha, hc, hy⟩
  case round =>
    clear hy h0 hf0 hg ha hc HE c0 c1 c2 cf hlt hS hH h
    obtain ⟨hgn, acc, i, j, S', A', a, c, rfl, HP, hS, hH, hacc, hf, hA, hR, ha, hc, hbx⟩ := hrel
    cases gk with
    | zero => have := HP.out; simp [tell] at this
    | succ g =>
      have hcap : acc.size ≤ 100000 := by omega
      obtain ⟨x0, x1, x2, x3, x4, x5, xf, xlt⟩ := cells6 hbx
      have HS1 : Hid (Calls Tryz.prog 56 #[ptr wb] wr _) := tstep hR hH hacc HP.out
      have HA1 : Hid (A'[i]? = some a) := ha
      have HA2 : Hid (A'[j]? = some c) := hc
      have HT : Hid (CT g) := hT g (by omega)
      clear HP hR hS hH hacc ha hc
      go_wp2_with fail
      refine HS1.out.mono ?_
      rintro e w1 ⟨rfl, k1, d1⟩
      have b1 := k1.keep _ _ 72 (by decide) (by decide) hbx
      obtain ⟨y0, y1, y2, y3, y4, y5, yf, ylt⟩ := cells6 b1
      have HS2 : Hid (Calls Tryz.prog 53 #[ptr wb, ptr a] w1 _) := tforce1 d1 HA1.out
      clear HS1 d1 x0 x1 x2 x3 x4 x5 xf xlt hbx
      go_wp2_with fail
      refine HS2.out.mono ?_
      rintro e w2 ⟨k', n', a1, a2, a3, a4, rfl, k2, A1, hA1, d2⟩
      have b2 := k2.keep _ _ 72 (by decide) (by decide) b1
      have hf2 := (hf.trans k1).trans k2
      have g3 := grown_alloc (grown_refl w2 none) (.cells #[.int .u8 k', .int .i64 n', .pointer a1, .pointer a2, .pointer a3, .pointer a4] 72 (0, 0))
      have b3 := keepB' b2 g3
      have f3 : Fr 89 68 b w _ := hf2.trans (Fr.grown d2.blt g3)
      have HS3 : Hid (Calls Tryz.prog 38 #[ptr wb, rv k' n' (.pointer a1) (.pointer a2) (.pointer a3) (.pointer a4)] (w2.alloc (.cells #[.int .u8 k', .int .i64 n', .pointer a1, .pointer a2, .pointer a3, .pointer a4] 72 (0, 0))) _) := ttext HT.out (d2.grown g3) hcap
      clear HS2 d2 y0 y1 y2 y3 y4 y5 yf ylt b1 k1 k2 hf2 hf
      go_wp2_with fail
      refine HS3.out.mono ?_
      rintro e w4 ⟨s, rfl, hsz, k4, A2, hA2, d3⟩
      have b4 := k4.keep _ _ 72 (by decide) (by decide) b3
      obtain ⟨u0, u1, u2, u3, u4, u5, uf, ult⟩ := cells6 b4
      have hf4 := f3.trans k4
      have hs0 : acc.size + s.size ≤ 9223372036854775807 := by omega
      have hA12 := (hA.trans hA1).trans hA2
      have HS4 : Hid (Calls Tryz.prog 53 #[ptr wb, ptr c] w4 _) := tforce2 d3 (hA2 _ _ (hA1 _ _ HA2.out))
      clear HS3 d3 b3 b2 g3 f3 k4
      go_wp2_with fail
      refine HS4.out.mono ?_
      rintro e w9 ⟨k5, n5, e1, e2, e3, e4, rfl, k9, A3, hA3, d4⟩
      have b9 := k9.keep _ _ 72 (by decide) (by decide) b4
      have f9 := hf4.trans k9
      obtain ⟨v0, v1, v2, v3, v4, v5, vf, vlt⟩ := cells6 b9
      obtain ⟨W, hW⟩ : ∃ W, put6 w9 w.heap.size (.int .u8 k5) (.int .i64 n5) (.pointer e1) (.pointer e2) (.pointer e3) (.pointer e4) = W := ⟨_, rfl⟩
      have HAL : Hid (Alike w9 W) := by rw [← hW]; exact put6_alike b9 (by decide) _ _ _ _ _ _
      have HF10 : Hid (Fr 89 68 b w W) := by rw [← hW]; exact put6_fr f9 (Nat.le_refl _) hb _ _ _ _ _ _
      have HB10 : Hid (W.heap[w.heap.size]? = some (.cells #[.int .u8 k5, .int .i64 n5, .pointer e1, .pointer e2, .pointer e3, .pointer e4] 72 (0, 0))) := by rw [← hW]; exact put6_at b9 _ _ _ _ _ _
      obtain ⟨t0, t1, t2, t3, t4, t5, tf, tlt⟩ := cells6 HB10.out
      unfold put6 at hW
      have hA3' := hA12.trans hA3
      clear HS4 b4 u0 u1 u2 u3 u4 u5 uf ult k9 hf4 f9 hA12 hA hA1 hA2 b9
      rcases d4 with ⟨z, hz, q9⟩ | ⟨S3, v, R9, s1, s2, s3, hv, ht⟩
      · have HZ : Hid (r.1 = .error z) := hz
        obtain ⟨o0, o1, o2, of, olt⟩ := (q9.alike HAL.out).walk.cells
        have hz0 : ((z : Int) == 0) = false := by simpa using q9.ne
        have hz1 : ((z : Int) != 0) = true := by simp [bne, hz0]
        have HQ9 : Hid (RX b w9 A3 wb L r.2.steps z) := q9
        clear hz q9
        go_wp2_with fail
        go_ret
        exact ⟨HF10.out, .inr ⟨_, HZ.out, rfl, (HQ9.out.alike HAL.out).sub hA3'⟩⟩
      · obtain ⟨o0, o1, o2, of, olt⟩ := (R9.alike HAL.out).walk.cells
        have HR10 : Hid (RE b W A3 wb L S3) := R9.alike HAL.out
        have hs2 : (acc ++ s).size ≤ 1000000 := by rw [ByteArray.size_append]; exact hsz
        clear R9
        rcases hv.list_or with ⟨rfl, rfl⟩ | ⟨rfl, i', j', a', c', rfl, hi', hj', hp3, hp4⟩ | ⟨h1, h2, h3⟩
        · have HT' : Hid (r = (.ok (acc ++ s ++ ⟨#[93]⟩), S3)) := by
            rcases ht with ⟨_, ht⟩ | ⟨i, j, ht, _⟩ | ⟨ht, _⟩
            · exact ht
            · cases ht
            · cases ht
          clear ht hv
          have hs3 : (acc ++ s).size + 1 ≤ 9223372036854775807 := by omega
          go_wp2_with fail
          go_ret
          have e9 := HT'.out
          subst e9
          exact ⟨HF10.out, .inl ⟨_, A3, rfl, rfl, hA3', HR10.out⟩⟩
        · have HT' : Hid (tell L numT fnText g (.parts (acc ++ s ++ ⟨#[44, 32]⟩) i' j') S3 = some r) := by
            rcases ht with ⟨ht, _⟩ | ⟨i, j, ht, hr⟩ | ⟨ht, _⟩
            · cases ht
            · cases ht; exact hr
            · cases ht
          have hn0 : n5 = 0 ∧ e1 = none ∧ e2 = none := by
            obtain ⟨a9, c9, _, _, e⟩ := hv
            simp only [rv, Value.agg.injEq] at e
            simp at e
            exact ⟨e.1, e.2.1, e.2.2.1⟩
          obtain ⟨rfl, rfl, rfl⟩ := hn0
          cases hp3
          cases hp4
          have Hi' : Hid (A3[i']? = some a') := hi'
          have Hj' : Hid (A3[j']? = some c') := hj'
          have HS2' : Hid (acc.size + s.size + 2 ≤ 40 * S3.steps + 1) := s3
          clear ht hv hi' hj' s3
          have hs3 : (acc ++ s).size + 2 ≤ 9223372036854775807 := by omega
          go_wp2_with fail
          go_roundg g
          case measure => omega
          case rel =>
            refine ⟨by omega, acc ++ s ++ ⟨#[44, 32]⟩, i', j', S3, A3, a', c', rfl, HT', s1, s2, ?_, HF10.out, hA3', HR10.out, Hi'.out, Hj'.out, HB10.out⟩
            simp only [ByteArray.size_append]
            have e2 : (ByteArray.mk #[44, 32]).size = 2 := rfl
            have := HS2'.out
            omega
        · have HT' : Hid (r = (.error 5, S3)) := by
            rcases ht with ⟨rfl, _⟩ | ⟨i, j, rfl, _⟩ | ⟨_, ht⟩
            · cases h3
            · cases h3
            · exact ht
          clear ht hv h3
          have HX : Hid (Calls Tryz.prog 55 #[ptr wb, .int .i64 5] W _) := rfails HR10.out 5 (by decide)
          go_wp2_with fail
          refine HX.out.mono ?_
          rintro e w11 ⟨rfl, k11, q11⟩
          go_wp2_with fail
          go_ret
          have e9 := HT'.out
          subst e9
          exact ⟨HF10.out.trans k11, .inr ⟨5, rfl, rfl, q11.sub hA3'⟩⟩

theorem ct_all : ∀ n, CT n := by
  intro n
  induction n using Nat.strongRecOn with
  | _ n ih =>
    intro L v S r b w A wb x he hS hH hI h hv
    cases n with
    | zero => simp [tell] at he
    | succ n =>
      have hb := h.blt
      cases v with
      | num k =>
        have hv' : x = rv 110 k nilp nilp nilp nilp := hv
        subst hv'
        simp only [tell, Option.some.injEq] at he
        subst he
        refine (rtext_num h k hI).mono ?_
        rintro e w' ⟨rfl, hg⟩
        exact ⟨Fr.grown hb hg, .inl ⟨_, A, rfl, by rw [numT_in hI], Ext.refl _, h.grown hg⟩⟩
      | fn t fe =>
        obtain ⟨_, p, q, rfl, hp, hq⟩ := hv
        obtain ⟨a1, rfl⟩ := NodeAt.ptr _ _ hp
        obtain ⟨a2, rfl⟩ := hq.ptr
        simp only [tell, Option.some.injEq] at he
        subst he
        refine (rtext_fn h _ a1 a2).mono ?_
        rintro e w' ⟨rfl, hg⟩
        exact ⟨Fr.grown hb hg, .inl ⟨_, A, rfl, rfl, Ext.refl _, h.grown hg⟩⟩
      | nil =>
        have hv' : x = rv 101 0 nilp nilp nilp nilp := hv
        subst hv'
        simp only [tell, Option.some.injEq] at he
        subst he
        refine (rtext_nil h).mono ?_
        rintro e w' ⟨rfl, hg⟩
        exact ⟨Fr.grown hb hg, .inl ⟨_, A, rfl, rfl, Ext.refl _, h.grown hg⟩⟩
      | cons i j =>
        obtain ⟨a, c, h1, h2, rfl⟩ := hv
        simp only [tell] at he
        exact rtext_cons n (fun m hm => ih m (by omega)) he hS hH h h1 h2
end Go.Proofs.YtjjlgjmebnkdjaaGreatDoor

namespace Go.Proofs.YtjjlgjmebnkdjaaGreatDoor
open Go Go.Proofs Go.RowKit Skein

set_option maxRecDepth 100000 in
set_option maxHeartbeats 1000000 in
theorem ptruth (c : Bool) (w : World) : Calls Tryz.prog 94 #[.bool c] w fun e w' => e = .returned (.int .i64 (tr c)) ∧ w' = w := by
  cases c
  all_goals
    go_enter Tryz.func94, Tryz.ntmps94
    go_wp2_with fail
    go_ret
    exact ⟨rfl, rfl⟩

set_option maxRecDepth 100000 in
set_option maxHeartbeats 2000000 in
theorem work_ok (op : UInt8) (hop : Sign5 op) (i j : Int) (w : World) : Calls Tryz.prog (workOf op) #[.int .i64 i, .int .i64 j] w fun e w' => e = .returned (.int .i64 (reck op i j)) ∧ w' = w := by
  rcases hop with rfl | rfl | rfl | rfl | rfl
  · show Calls Tryz.prog 90 _ _ _
    go_enter Tryz.func90, Tryz.ntmps90
    go_wp2_with fail
    go_ret
    exact ⟨ret_int (wrap_eq _).symm, rfl⟩
  · show Calls Tryz.prog 91 _ _ _
    go_enter Tryz.func91, Tryz.ntmps91
    go_wp2_with fail
    go_ret
    exact ⟨ret_int (wrap_eq _).symm, rfl⟩
  · show Calls Tryz.prog 92 _ _ _
    go_enter Tryz.func92, Tryz.ntmps92
    go_wp2_with fail
    go_ret
    exact ⟨ret_int (wrap_eq _).symm, rfl⟩
  · show Calls Tryz.prog 93 _ _ _
    go_enter Tryz.func93, Tryz.ntmps93
    go_wp2_with fail
    refine (ptruth _ _).mono ?_
    rintro e w' ⟨rfl, rfl⟩
    go_wp2_with fail
    go_ret
    exact ⟨rfl, rfl⟩
  · show Calls Tryz.prog 95 _ _ _
    go_enter Tryz.func95, Tryz.ntmps95
    go_wp2_with fail
    refine (ptruth _ _).mono ?_
    rintro e w' ⟨rfl, rfl⟩
    go_wp2_with fail
    go_ret
    exact ⟨rfl, rfl⟩

theorem work_ent (op : UInt8) (hop : Sign5 op) : ∀ (args : Array Value) (w : World), (callFunc (workOf op) args).run Tryz.prog w = .ok (.enter (workOf op) args) w := by
  rcases hop with rfl | rfl | rfl | rfl | rfl
  · exact enters_of Tryz.func90 (by kernel_rfl) rfl
  · exact enters_of Tryz.func91 (by kernel_rfl) rfl
  · exact enters_of Tryz.func92 (by kernel_rfl) rfl
  · exact enters_of Tryz.func93 (by kernel_rfl) rfl
  · exact enters_of Tryz.func95 (by kernel_rfl) rfl

set_option maxRecDepth 100000 in
set_option maxHeartbeats 8000000 in
theorem cbin (n : Nat) (hN : CC n) (op : UInt8) (hop : Sign5 op) (x y : T) {L : Nat} {S : E} {r1 r : R × E} {env : List Nat} {b : Nat} {w : World} {B : List Nat} {st : Nat} {f : Nat} {c : Array Value} {sc : Value} (he1 : ev L n (.need x env) S = some r1)
    (he2 : (match r1.1.num with | .ok i => (ev L n (.need y env) r1.2).bind fun q => (match q.1.num with | .ok j => some (R.ok (V.num (reck op i j)), q.2) | .error e => some (.err e, q.2)) | .error e => some (.err e, r1.2)) = some r)
    (h : PE b w B st L S) (hc : CodeAt st w (.bin op x y) f c) (hs : ScAt w B env sc) (hd : env.length + dep (.bin op x y) ≤ 1000) :
    Calls Tryz.prog f (#[sc] ++ c) w (GP b w B st L r) := by
  have ho58 : op ≠ 58 := by rcases hop with e | e | e | e | e <;> rw [e] <;> decide
  rcases hc with ⟨e58, _⟩ | hc
  · exact absurd e58 ho58
  obtain ⟨ho, rfl, k1, k2, k3, f1, c1, f2, c2, rfl, h1, h2, h3, hx, hy⟩ := hc
  obtain ⟨o, cap, rfl⟩ := hs.shape
  obtain ⟨e1, l1⟩ := h1.cell
  have hent := hx.ent
  have hent2 := hy.ent
  have hent3 := work_ent op hop
  have hdx : env.length + dep x ≤ 1000 := by simp only [dep] at hd; omega
  have hdy : env.length + dep y ≤ 1000 := by simp only [dep] at hd; omega
  have HC : Hid (Calls Tryz.prog f1 (#[.slice o env.length cap] ++ c1) w (GP b w B st L r1)) := hN L x env S r1 b w B st f1 c1 _ he1 h hx hs hdx
  have H2 : Hid (Is1 w k2 (fnv f2 c2) 118) := h2
  have H3 : Hid (Is1 w k3 (fnv (workOf op) #[]) 135) := h3
  have HY : Hid (CodeAt st w y f2 c2) := hy
  have HS : Hid (ScAt w B env (.slice o env.length cap)) := hs
  have HW : Hid (∀ i j w, Calls Tryz.prog (workOf op) #[.int .i64 i, .int .i64 j] w fun e w' => e = .returned (.int .i64 (reck op i j)) ∧ w' = w) := work_ok op hop
  have HE : Hid ((match r1.1.num with | .ok i => (ev L n (.need y env) r1.2).bind fun q => (match q.1.num with | .ok j => some (R.ok (V.num (reck op i j)), q.2) | .error e => some (.err e, q.2)) | .error e => some (.err e, r1.2)) = some r) := he2
  clear h1 h2 h3 hx hy hs he1 he2 ho hop ho58
  generalize workOf op = fw at hent3 H3 HW
  show Calls Tryz.prog 140 #[.slice o env.length cap, ptr k1, ptr k2, ptr k3] w _
  go_enter Tryz.func140, Tryz.ntmps140
  go_wp2_with fail
  refine HC.out.mono ?_
  rintro e w1 (⟨v, B', u, hr, rfl, hk1, hB, hp1, hv⟩ | ⟨z, hr, rfl, hb1, hs1⟩)
  · obtain ⟨T1, x1, rfl⟩ := hv.shape
    rcases as_num_of hv with ⟨i, rfl, rfl, rfl⟩ | ⟨hno, hbad⟩
    · have HF : Hid (((ev L n (.need y env) r1.2).bind fun q => (match q.1.num with | .ok j => some (R.ok (V.num (reck op i j)), q.2) | .error e => some (.err e, q.2))) = some r) := by
        have := HE.out; rw [hr] at this; exact this
      clear hv hr HE
      obtain ⟨e2, l2⟩ := (H2.out.fr hk1 (by decide) (by decide)).cell
      go_wp2_with fail
      refine (as_num i w1).mono ?_
      rintro e w2 ⟨rfl, rfl⟩
      obtain ⟨r2, he3, he4⟩ := Option.bind_eq_some_iff.1 HF.out
      have HD : Hid (Calls Tryz.prog f2 (#[.slice o env.length cap] ++ c2) w2 (GP b w B st L r2)) := (hN L y env _ r2 b w2 B' st f2 c2 _ he3 hp1 (HY.out.fr hk1) (HS.out.fr hk1 hB) hdy).mono fun _ _ hG => hG.fr hk1 hB
      have HG : Hid ((match r2.1.num with | .ok j => some (R.ok (V.num (reck op i j)), r2.2) | .error e => some (.err e, r2.2)) = some r) := he4
      clear HF he3 he4
      go_wp2_with fail
      refine HD.out.mono ?_
      rintro e w5 (⟨v, B5, u, hr, rfl, hk5, hB5, hp5, hv5⟩ | ⟨z, hr, rfl, hb5, hs5⟩)
      · obtain ⟨T1, y1, rfl⟩ := hv5.shape
        rcases as_num_of hv5 with ⟨j, rfl, rfl, rfl⟩ | ⟨hno, hbad⟩
        · have HR : Hid (r = (R.ok (V.num (reck op i j)), r2.2)) := by
            have := HG.out; rw [hr] at this; simp only [R.num, Option.some.injEq] at this; exact this.symm
          clear hr HG hv5
          obtain ⟨e3, l3⟩ := (H3.out.fr hk5 (by decide) (by decide)).cell
          go_wp2_with fail
          refine (as_num j w5).mono ?_
          rintro e w6 ⟨rfl, rfl⟩
          go_wp2_with fail
          refine (HW.out i j w6).mono ?_
          rintro e w7 ⟨rfl, rfl⟩
          go_wp2_with fail
          go_ret
          rw [HR.out]
          exact GPV.got ⟨B5, _, _, rfl, hk5, hB5, hp5, rfl⟩
        · have HR : Hid (r = (.err 5, r2.2)) := by
            have := HG.out; rw [hr, hbad] at this; simp only [Option.some.injEq] at this; exact this.symm
          have HN : Hid (∀ w, Calls Tryz.prog 138 #[.iface T1 y1] w fun e w' => e = .panicked (oops 5) ∧ w' = w) := hno
          clear hr HG hv5 hbad hno
          go_wp2_with fail
          refine (HN.out w5).mono ?_
          rintro e w6 ⟨rfl, rfl⟩
          go_wp2_with fail
          refine ⟨rfl, ?_⟩
          rw [HR.out]
          exact GPX.got ⟨rfl, hk5.below, hp5.steps⟩
      · have HR : Hid (r = (.err z, r2.2)) := by
          have := HG.out; rw [hr] at this; simp only [R.num, Option.some.injEq] at this; exact this.symm
        clear hr HG
        go_wp2_with fail
        refine ⟨rfl, ?_⟩
        rw [HR.out]
        exact GPX.got ⟨rfl, hb5, hs5⟩
    · have HF : Hid (r = (.err 5, r1.2)) := by
        have := HE.out; rw [hr, hbad] at this; simp only [Option.some.injEq] at this; exact this.symm
      have HN : Hid (∀ w, Calls Tryz.prog 138 #[.iface T1 x1] w fun e w' => e = .panicked (oops 5) ∧ w' = w) := hno
      clear hv hr HE hbad hno
      go_wp2_with fail
      refine (HN.out w1).mono ?_
      rintro e w2 ⟨rfl, rfl⟩
      go_wp2_with fail
      refine ⟨rfl, ?_⟩
      rw [HF.out]
      exact GPX.got ⟨rfl, hk1.below, hp1.steps⟩
  · have HF : Hid (r = (.err z, r1.2)) := by
      have := HE.out; rw [hr] at this; simp only [R.num, Option.some.injEq] at this; exact this.symm
    clear hr HE
    go_wp2_with fail
    refine ⟨rfl, ?_⟩
    rw [HF.out]
    exact GPX.got ⟨rfl, hb1, hs1⟩

end Go.Proofs.YtjjlgjmebnkdjaaGreatDoor
