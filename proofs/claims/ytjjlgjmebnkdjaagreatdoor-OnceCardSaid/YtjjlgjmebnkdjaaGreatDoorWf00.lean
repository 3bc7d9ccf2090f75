/-
  The plain model: with fewer steps the same is done up to there (for Limited).
  The plain model: with fewer steps the same is told up to there; out of steps means that all were counted (for Limited).
  The reader over a list of signs, and how it goes with the reader over a text. It imports nothing of the program.
  The plain model: an expression that stands within another, one cell further, is the same (for Laid).
  The reader over signs: more fuel; signs behind; names about it; and back from the reader over a text.
  Back from the reader over a text to the reader over its signs; every text has its signs.
  The plain model reads an expression of numbers, signs and ways: signs of a text that is known from a place on (for Reckoned, Idle, Once).
  The plain model reads such an expression as the tree that it is.
  The plain model reads an expression of numbers, wherever it stands in a text.
  Such an expression alone, behind a name, and given to a function: how it is read, and what it comes to.
  A text laid of pieces: its signs. And the reader over signs where an atom's signs stand for its tree.
  A text laid of pieces is read as its signs are; expressions of numbers as one sign.
  For the statements without the document's answer: limits; pick; digits; is.
-/
import Derived.Test.YtjjlgjmebnkdjaaGreatDoorWc07
import Derived.Test.YtjjlgjmebnkdjaaGreatDoorPureB
import Derived.Test.YtjjlgjmebnkdjaaGreatDoorWc00
import Derived.Test.YtjjlgjmebnkdjaaGreatDoorWc11
namespace Skein
open Go

/-- With the lesser limit: the same, or out of steps. -/
def Lim (L : Nat) (n : Nat) (j : J) (S : E) (r : R × E) : Prop :=
  (r.2.steps ≤ L ∧ ev L n j S = some r) ∨ (L < r.2.steps ∧ ∃ S', ev L n j S = some (.err 8, S') ∧ S'.steps = L)

theorem ev_lim (L M : Nat) (hLM : L < M) : ∀ (n : Nat) (j : J) (S : E) (r : R × E), ev M n j S = some r → S.steps ≤ L → Lim L n j S r := by
  intro n
  induction n with
  | zero => intro j S r h; simp [ev] at h
  | succ n ih =>
    intro j S r h hS
    cases j with
    | force i =>
      simp only [ev] at h
      cases hc : S.heap[i]? with
      | none => rw [hc] at h; cases h
      | some c =>
        rw [hc] at h
        cases c with
        | known v => cases h; exact .inl ⟨hS, by simp only [ev, hc]⟩
        | busy => cases h; exact .inl ⟨hS, by simp only [ev, hc]⟩
        | wait x env =>
          obtain ⟨⟨rr, S1⟩, h1, h2⟩ := Option.bind_eq_some_iff.1 h
          rcases ih _ _ _ h1 (by exact hS) with ⟨k1, k2⟩ | ⟨k1, S', k2, k3⟩
          · cases rr with
            | ok v => cases h2; exact .inl ⟨k1, by simp only [ev, hc, k2]; rfl⟩
            | err e => cases h2; exact .inl ⟨k1, by simp only [ev, hc, k2]; rfl⟩
          · refine .inr ⟨?_, S', by simp only [ev, hc, k2]; rfl, k3⟩
            cases rr with
            | ok v => cases h2; exact k1
            | err e => cases h2; exact k1
    | need x env =>
      cases x with
      | junk => cases h
      | free => cases h
      | nil => cases h; exact .inl ⟨hS, rfl⟩
      | num k => cases h; exact .inl ⟨hS, rfl⟩
      | fn k b => cases h; exact .inl ⟨hS, rfl⟩
      | var i =>
        simp only [ev] at h
        cases he : env[i]? with
        | none => rw [he] at h; cases h
        | some k =>
          rw [he] at h
          rcases ih _ _ _ h hS with ⟨k1, k2⟩ | ⟨k1, S', k2, k3⟩
          · exact .inl ⟨k1, by simp only [ev, he]; exact k2⟩
          · exact .inr ⟨k1, S', by simp only [ev, he]; exact k2, k3⟩
      | letE k a b =>
        simp only [ev] at h
        rcases ih _ _ _ h (by exact hS) with ⟨k1, k2⟩ | ⟨k1, S', k2, k3⟩
        · exact .inl ⟨k1, by simp only [ev]; exact k2⟩
        · exact .inr ⟨k1, S', by simp only [ev]; exact k2, k3⟩
      | ite a b c =>
        simp only [ev] at h
        obtain ⟨r1, h1, h2⟩ := Option.bind_eq_some_iff.1 h
        have m1 := ev_steps M n _ _ _ h1 (by omega)
        rcases ih _ _ _ h1 hS with ⟨k1, k2⟩ | ⟨k1, S', k2, k3⟩
        · cases hr : r1.1.num with
          | error e => rw [hr] at h2; cases h2; exact .inl ⟨k1, by simp only [ev, k2, Option.bind_some, hr]⟩
          | ok k =>
            rw [hr] at h2
            simp only at h2
            cases hk : k == 0
            · rw [hk] at h2
              rcases ih _ _ _ h2 k1 with ⟨q1, q2⟩ | ⟨q1, S', q2, q3⟩
              · exact .inl ⟨q1, by simp only [ev, k2, Option.bind_some, hr, hk]; exact q2⟩
              · exact .inr ⟨q1, S', by simp only [ev, k2, Option.bind_some, hr, hk]; exact q2, q3⟩
            · rw [hk] at h2
              rcases ih _ _ _ h2 k1 with ⟨q1, q2⟩ | ⟨q1, S', q2, q3⟩
              · exact .inl ⟨q1, by simp only [ev, k2, Option.bind_some, hr, hk]; exact q2⟩
              · exact .inr ⟨q1, S', by simp only [ev, k2, Option.bind_some, hr, hk]; exact q2, q3⟩
        · refine .inr ⟨?_, S', by simp only [ev, k2, Option.bind_some, R.num], k3⟩
          cases hr : r1.1.num with
          | error e => rw [hr] at h2; cases h2; exact k1
          | ok k =>
            rw [hr] at h2
            simp only at h2
            split at h2
            · have := ev_steps M n _ _ _ h2 m1.2; omega
            · have := ev_steps M n _ _ _ h2 m1.2; omega
      | app a b =>
        simp only [ev] at h
        obtain ⟨r1, h1, h2⟩ := Option.bind_eq_some_iff.1 h
        have m1 := ev_steps M n _ _ _ h1 (by omega)
        rcases ih _ _ _ h1 hS with ⟨k1, k2⟩ | ⟨k1, S', k2, k3⟩
        · cases hr : r1.1.fn with
          | error e => rw [hr] at h2; cases h2; exact .inl ⟨k1, by simp only [ev, k2, Option.bind_some, hr]⟩
          | ok f =>
            rw [hr] at h2
            simp only at h2
            rw [if_neg (by omega)] at h2
            have m2 := ev_steps M n _ _ _ h2 (by show r1.2.steps + 1 ≤ M; omega)
            simp only at m2
            by_cases hl : L ≤ r1.2.steps
            · exact .inr ⟨by omega, r1.2, by simp only [ev, k2, Option.bind_some, hr, if_pos hl], by omega⟩
            · rcases ih _ _ _ h2 (by show r1.2.steps + 1 ≤ L; omega) with ⟨q1, q2⟩ | ⟨q1, S', q2, q3⟩
              · exact .inl ⟨q1, by simp only [ev, k2, Option.bind_some, hr, if_neg hl]; exact q2⟩
              · exact .inr ⟨q1, S', by simp only [ev, k2, Option.bind_some, hr, if_neg hl]; exact q2, q3⟩
        · refine .inr ⟨?_, S', by simp only [ev, k2, Option.bind_some, R.fn], k3⟩
          cases hr : r1.1.fn with
          | error e => rw [hr] at h2; cases h2; exact k1
          | ok f =>
            rw [hr] at h2
            simp only at h2
            split at h2
            · cases h2; exact k1
            · have := ev_steps M n _ _ _ h2 (by show r1.2.steps + 1 ≤ M; omega)
              simp only at this
              omega
      | un op a =>
        simp only [ev] at h
        obtain ⟨r1, h1, h2⟩ := Option.bind_eq_some_iff.1 h
        have m1 := ev_steps M n _ _ _ h1 (by omega)
        rcases ih _ _ _ h1 hS with ⟨k1, k2⟩ | ⟨k1, S', k2, k3⟩
        · cases hr : r1.1.list with
          | error e => rw [hr] at h2; cases h2; exact .inl ⟨k1, by simp only [ev, k2, Option.bind_some, hr]⟩
          | ok o =>
            rw [hr] at h2
            cases o with
            | none =>
              simp only at h2
              cases ho : op == 110
              · rw [ho] at h2; cases h2; exact .inl ⟨k1, by simp only [ev, k2, Option.bind_some, hr, ho]; rfl⟩
              · rw [ho] at h2; cases h2; exact .inl ⟨k1, by simp only [ev, k2, Option.bind_some, hr, ho]; rfl⟩
            | some p =>
              simp only at h2
              cases ho : op == 110
              · rw [ho] at h2
                cases ho2 : op == 104
                · rw [ho2] at h2
                  rcases ih _ _ _ h2 k1 with ⟨q1, q2⟩ | ⟨q1, S', q2, q3⟩
                  · exact .inl ⟨q1, by simp only [ev, k2, Option.bind_some, hr, ho, ho2]; exact q2⟩
                  · exact .inr ⟨q1, S', by simp only [ev, k2, Option.bind_some, hr, ho, ho2]; exact q2, q3⟩
                · rw [ho2] at h2
                  rcases ih _ _ _ h2 k1 with ⟨q1, q2⟩ | ⟨q1, S', q2, q3⟩
                  · exact .inl ⟨q1, by simp only [ev, k2, Option.bind_some, hr, ho, ho2]; exact q2⟩
                  · exact .inr ⟨q1, S', by simp only [ev, k2, Option.bind_some, hr, ho, ho2]; exact q2, q3⟩
              · rw [ho] at h2; cases h2; exact .inl ⟨k1, by simp only [ev, k2, Option.bind_some, hr, ho]; rfl⟩
        · refine .inr ⟨?_, S', by simp only [ev, k2, Option.bind_some, R.list], k3⟩
          cases hr : r1.1.list with
          | error e => rw [hr] at h2; cases h2; exact k1
          | ok o =>
            rw [hr] at h2
            cases o with
            | none =>
              simp only at h2
              split at h2
              · cases h2; exact k1
              · cases h2; exact k1
            | some p =>
              simp only at h2
              split at h2
              · cases h2; exact k1
              · split at h2
                · have := ev_steps M n _ _ _ h2 m1.2; omega
                · have := ev_steps M n _ _ _ h2 m1.2; omega
      | bin op a b =>
        simp only [ev] at h
        cases ho : op == 58
        · rw [ho] at h
          simp only [Bool.false_eq_true, if_false] at h
          obtain ⟨r1, h1, h2⟩ := Option.bind_eq_some_iff.1 h
          have m1 := ev_steps M n _ _ _ h1 (by omega)
          rcases ih _ _ _ h1 hS with ⟨k1, k2⟩ | ⟨k1, S', k2, k3⟩
          · cases hr : r1.1.num with
            | error e => rw [hr] at h2; cases h2; exact .inl ⟨k1, by simp only [ev, ho, k2, Option.bind_some, hr]; rfl⟩
            | ok i =>
              rw [hr] at h2
              obtain ⟨r2, h3, h4⟩ := Option.bind_eq_some_iff.1 h2
              rcases ih _ _ _ h3 k1 with ⟨q1, q2⟩ | ⟨q1, S', q2, q3⟩
              · cases hr2 : r2.1.num with
                | error e => rw [hr2] at h4; cases h4; exact .inl ⟨q1, by simp only [ev, ho, k2, Option.bind_some, hr, q2, hr2]; rfl⟩
                | ok j => rw [hr2] at h4; cases h4; exact .inl ⟨q1, by simp only [ev, ho, k2, Option.bind_some, hr, q2, hr2]; rfl⟩
              · refine .inr ⟨?_, S', by simp only [ev, ho, k2, Option.bind_some, hr, q2]; rfl, q3⟩
                cases hr2 : r2.1.num with
                | error e => rw [hr2] at h4; cases h4; exact q1
                | ok j => rw [hr2] at h4; cases h4; exact q1
          · refine .inr ⟨?_, S', by simp only [ev, ho, k2, Option.bind_some, R.num]; rfl, k3⟩
            cases hr : r1.1.num with
            | error e => rw [hr] at h2; cases h2; exact k1
            | ok i =>
              rw [hr] at h2
              obtain ⟨r2, h3, h4⟩ := Option.bind_eq_some_iff.1 h2
              have := ev_steps M n _ _ _ h3 m1.2
              cases hr2 : r2.1.num with
              | error e => rw [hr2] at h4; cases h4; show L < r2.2.steps; omega
              | ok j => rw [hr2] at h4; cases h4; show L < r2.2.steps; omega
        · rw [ho] at h
          cases h
          exact .inl ⟨hS, by simp only [ev, ho]; rfl⟩
end Skein

namespace Skein
open Go

theorem tell_steps (L : Nat) (num : Int → ByteArray) (fnT : ByteArray) : ∀ (n : Nat) (j : TJ) (S : E) (r : Except Int ByteArray × E), tell L num fnT n j S = some r → S.steps ≤ L → S.steps ≤ r.2.steps ∧ r.2.steps ≤ L := by
  intro n
  induction n with
  | zero => intro j S r h; simp [tell] at h
  | succ n ih =>
    intro j S r h hS
    cases j with
    | val v =>
      cases v with
      | num k => simp only [tell, Option.some.injEq] at h; subst h; exact ⟨Nat.le_refl _, hS⟩
      | fn b e => simp only [tell, Option.some.injEq] at h; subst h; exact ⟨Nat.le_refl _, hS⟩
      | nil => simp only [tell, Option.some.injEq] at h; subst h; exact ⟨Nat.le_refl _, hS⟩
      | cons i j => simp only [tell] at h; exact ih _ _ _ h hS
    | parts acc i j =>
      simp only [tell] at h
      split at h
      · cases h; exact ⟨Nat.le_refl _, hS⟩
      · obtain ⟨r1, h1, h2⟩ := Option.bind_eq_some_iff.1 h
        have a1 := ev_steps L n _ _ _ h1 (by show S.steps + 1 ≤ L; omega)
        simp only at a1
        have a2 : S.steps ≤ r1.2.steps ∧ r1.2.steps ≤ L := ⟨by omega, a1.2⟩
        rcases hr : r1.1 with v | z
        · rw [hr] at h2
          obtain ⟨t, h3, h4⟩ := Option.bind_eq_some_iff.1 h2
          have b1 := ih _ _ _ h3 a2.2
          have b2 : S.steps ≤ t.2.steps ∧ t.2.steps ≤ L := ⟨Nat.le_trans a2.1 b1.1, b1.2⟩
          rcases ht : t.1 with z | s
          · rw [ht] at h4; cases h4; exact b2
          · rw [ht] at h4
            obtain ⟨q, h5, h6⟩ := Option.bind_eq_some_iff.1 h4
            have c1 := ev_steps L n _ _ _ h5 b2.2
            have c2 : S.steps ≤ q.2.steps ∧ q.2.steps ≤ L := ⟨Nat.le_trans b2.1 c1.1, c1.2⟩
            rcases hq : q.1 with v2 | z
            · rw [hq] at h6
              cases v2 with
              | nil => simp only [Option.some.injEq] at h6; subst h6; exact c2
              | cons i' j' => have d1 := ih _ _ _ h6 c2.2; exact ⟨Nat.le_trans c2.1 d1.1, d1.2⟩
              | num k => simp only [Option.some.injEq] at h6; subst h6; exact c2
              | fn b e => simp only [Option.some.injEq] at h6; subst h6; exact c2
            · rw [hq] at h6; cases h6; exact c2
        · rw [hr] at h2; cases h2; exact a2

theorem num8 {r : R} {e : Int} (h : r.num = .error e) (he : e = 8) : r = .err 8 := by
  subst he
  cases r with
  | err e => simp [R.num] at h; rw [h]
  | ok v => cases v <;> simp [R.num] at h
theorem fn8 {r : R} {e : Int} (h : r.fn = .error e) (he : e = 8) : r = .err 8 := by
  subst he
  cases r with
  | err e => simp [R.fn] at h; rw [h]
  | ok v => cases v <;> simp [R.fn] at h
theorem list8 {r : R} {e : Int} (h : r.list = .error e) (he : e = 8) : r = .err 8 := by
  subst he
  cases r with
  | err e => simp [R.list] at h; rw [h]
  | ok v => cases v <;> simp [R.list] at h

theorem ev_8 (L : Nat) : ∀ (n : Nat) (j : J) (S : E) (r : R × E), ev L n j S = some r → r.1 = .err 8 → L ≤ r.2.steps := by
  intro n
  induction n with
  | zero => intro j S r h; simp [ev] at h
  | succ n ih =>
    intro j S r h hr8
    cases j with
    | force i =>
      simp only [ev] at h
      cases hc : S.heap[i]? with
      | none => rw [hc] at h; cases h
      | some c =>
        rw [hc] at h
        cases c with
        | known v => cases h; cases hr8
        | busy => cases h; cases hr8
        | wait x env =>
          obtain ⟨⟨rr, S1⟩, h1, h2⟩ := Option.bind_eq_some_iff.1 h
          cases rr with
          | ok v => cases h2; cases hr8
          | err e => cases h2; exact ih _ _ _ h1 hr8
    | need x env =>
      cases x with
      | junk => cases h
      | free => cases h
      | nil => cases h; cases hr8
      | num k => cases h; cases hr8
      | fn k b => cases h; cases hr8
      | var i =>
        simp only [ev] at h
        cases he : env[i]? with
        | none => rw [he] at h; cases h
        | some k => rw [he] at h; exact ih _ _ _ h hr8
      | letE k a b => simp only [ev] at h; exact ih _ _ _ h hr8
      | ite a b c =>
        simp only [ev] at h
        obtain ⟨r1, h1, h2⟩ := Option.bind_eq_some_iff.1 h
        cases hr : r1.1.num with
        | error e => rw [hr] at h2; cases h2; simp only [R.err.injEq] at hr8; exact ih _ _ r1 h1 (num8 hr hr8)
        | ok k =>
          rw [hr] at h2
          simp only at h2
          split at h2
          · exact ih _ _ _ h2 hr8
          · exact ih _ _ _ h2 hr8
      | app a b =>
        simp only [ev] at h
        obtain ⟨r1, h1, h2⟩ := Option.bind_eq_some_iff.1 h
        cases hr : r1.1.fn with
        | error e => rw [hr] at h2; cases h2; simp only [R.err.injEq] at hr8; exact ih _ _ r1 h1 (fn8 hr hr8)
        | ok f =>
          rw [hr] at h2
          simp only at h2
          split at h2
          · cases h2; assumption
          · exact ih _ _ _ h2 hr8
      | un op a =>
        simp only [ev] at h
        obtain ⟨r1, h1, h2⟩ := Option.bind_eq_some_iff.1 h
        cases hr : r1.1.list with
        | error e => rw [hr] at h2; cases h2; simp only [R.err.injEq] at hr8; exact ih _ _ r1 h1 (list8 hr hr8)
        | ok o =>
          rw [hr] at h2
          cases o with
          | none =>
            simp only at h2
            split at h2
            · cases h2; cases hr8
            · cases h2; simp at hr8
          | some p =>
            simp only at h2
            split at h2
            · cases h2; cases hr8
            · split at h2
              · exact ih _ _ _ h2 hr8
              · exact ih _ _ _ h2 hr8
      | bin op a b =>
        simp only [ev] at h
        split at h
        · cases h; cases hr8
        · obtain ⟨r1, h1, h2⟩ := Option.bind_eq_some_iff.1 h
          cases hr : r1.1.num with
          | error e => rw [hr] at h2; cases h2; simp only [R.err.injEq] at hr8; exact ih _ _ r1 h1 (num8 hr hr8)
          | ok i =>
            rw [hr] at h2
            obtain ⟨r2, h3, h4⟩ := Option.bind_eq_some_iff.1 h2
            cases hr2 : r2.1.num with
            | error e => rw [hr2] at h4; cases h4; simp only [R.err.injEq] at hr8; exact ih _ _ r2 h3 (num8 hr2 hr8)
            | ok j => rw [hr2] at h4; cases h4; cases hr8

theorem tell_8 (L : Nat) (num : Int → ByteArray) (fnT : ByteArray) : ∀ (n : Nat) (j : TJ) (S : E) (r : Except Int ByteArray × E), tell L num fnT n j S = some r → r.1 = .error 8 → L ≤ r.2.steps := by
  intro n
  induction n with
  | zero => intro j S r h; simp [tell] at h
  | succ n ih =>
    intro j S r h h8
    cases j with
    | val v =>
      cases v with
      | num k => simp only [tell, Option.some.injEq] at h; subst h; cases h8
      | fn b e => simp only [tell, Option.some.injEq] at h; subst h; cases h8
      | nil => simp only [tell, Option.some.injEq] at h; subst h; cases h8
      | cons i j => simp only [tell] at h; exact ih _ _ _ h h8
    | parts acc i j =>
      simp only [tell] at h
      split at h
      · cases h; assumption
      · obtain ⟨r1, h1, h2⟩ := Option.bind_eq_some_iff.1 h
        rcases hr : r1.1 with v | z
        · rw [hr] at h2
          obtain ⟨t, h3, h4⟩ := Option.bind_eq_some_iff.1 h2
          rcases ht : t.1 with z | s
          · rw [ht] at h4; cases h4; exact ih _ _ t h3 (ht.trans h8)
          · rw [ht] at h4
            obtain ⟨q, h5, h6⟩ := Option.bind_eq_some_iff.1 h4
            rcases hq : q.1 with v2 | z
            · rw [hq] at h6
              cases v2 with
              | nil => simp only [Option.some.injEq] at h6; subst h6; cases h8
              | cons i' j' => exact ih _ _ _ h6 h8
              | num k => simp only [Option.some.injEq] at h6; subst h6; simp at h8
              | fn b e => simp only [Option.some.injEq] at h6; subst h6; simp at h8
            · rw [hq] at h6; cases h6; simp only [Except.error.injEq] at h8; subst h8; exact ev_8 L n _ _ q h5 hq
        · rw [hr] at h2; cases h2; simp only [Except.error.injEq] at h8; subst h8; exact ev_8 L n _ _ r1 h1 hr

theorem tell_lim (L M : Nat) (hLM : L < M) (num : Int → ByteArray) (fnT : ByteArray) : ∀ (n : Nat) (j : TJ) (S : E) (r : Except Int ByteArray × E), tell M num fnT n j S = some r → S.steps ≤ L →
    (r.2.steps ≤ L ∧ tell L num fnT n j S = some r) ∨ (L < r.2.steps ∧ ∃ S', tell L num fnT n j S = some (.error 8, S') ∧ S'.steps = L) := by
  intro n
  induction n with
  | zero => intro j S r h; simp [tell] at h
  | succ n ih =>
    intro j S r h hS
    cases j with
    | val v =>
      cases v with
      | num k => simp only [tell, Option.some.injEq] at h; subst h; exact .inl ⟨hS, by simp only [tell]⟩
      | fn b e => simp only [tell, Option.some.injEq] at h; subst h; exact .inl ⟨hS, by simp only [tell]⟩
      | nil => simp only [tell, Option.some.injEq] at h; subst h; exact .inl ⟨hS, by simp only [tell]⟩
      | cons a b =>
        simp only [tell] at h
        rcases ih _ _ _ h hS with ⟨k1, k2⟩ | ⟨k1, S', k2, k3⟩
        · exact .inl ⟨k1, by simp only [tell]; exact k2⟩
        · exact .inr ⟨k1, S', by simp only [tell]; exact k2, k3⟩
    | parts acc i j =>
      have hMS : ¬ M ≤ S.steps := by omega
      simp only [tell, if_neg hMS] at h
      obtain ⟨r1, h1, h2⟩ := Option.bind_eq_some_iff.1 h
      have a1 := ev_steps M n _ _ _ h1 (by show S.steps + 1 ≤ M; omega)
      simp only at a1
      -- what comes after is counted on
      have hmono : r1.2.steps ≤ r.2.steps := by
        rcases hr : r1.1 with v | z
        · rw [hr] at h2
          obtain ⟨t, h3, h4⟩ := Option.bind_eq_some_iff.1 h2
          have b1 : r1.2.steps ≤ t.2.steps ∧ t.2.steps ≤ M := tell_steps M num fnT n _ _ _ h3 a1.2
          rcases ht : t.1 with z | s
          · rw [ht] at h4; cases h4; exact b1.1
          · rw [ht] at h4
            obtain ⟨q, h5, h6⟩ := Option.bind_eq_some_iff.1 h4
            have c1 := ev_steps M n _ _ _ h5 b1.2
            rcases hq : q.1 with v2 | z
            · rw [hq] at h6
              cases v2 with
              | nil => simp only [Option.some.injEq] at h6; subst h6; exact Nat.le_trans b1.1 c1.1
              | cons i' j' => have d1 := tell_steps M num fnT n _ _ _ h6 c1.2; exact Nat.le_trans (Nat.le_trans b1.1 c1.1) d1.1
              | num k => simp only [Option.some.injEq] at h6; subst h6; exact Nat.le_trans b1.1 c1.1
              | fn b e => simp only [Option.some.injEq] at h6; subst h6; exact Nat.le_trans b1.1 c1.1
            · rw [hq] at h6; cases h6; exact Nat.le_trans b1.1 c1.1
        · rw [hr] at h2; cases h2; exact Nat.le_refl _
      by_cases hLS : L ≤ S.steps
      · refine .inr ⟨by omega, S, by simp only [tell, if_pos hLS], by omega⟩
      · rcases ev_lim L M hLM n _ _ _ h1 (by show S.steps + 1 ≤ L; omega) with ⟨k1, k2⟩ | ⟨k1, S', k2, k3⟩
        · rcases hr : r1.1 with v | z
          · rw [hr] at h2
            obtain ⟨t, h3, h4⟩ := Option.bind_eq_some_iff.1 h2
            have b1 := tell_steps M num fnT n _ _ _ h3 a1.2
            rcases ih _ _ _ h3 k1 with ⟨m1, m2⟩ | ⟨m1, S', m2, m3⟩
            · rcases ht : t.1 with z | s
              · rw [ht] at h4; cases h4
                exact .inl ⟨m1, by simp only [tell, if_neg hLS, k2, Option.bind_some, hr, m2, ht]⟩
              · rw [ht] at h4
                obtain ⟨q, h5, h6⟩ := Option.bind_eq_some_iff.1 h4
                have c1 := ev_steps M n _ _ _ h5 b1.2
                rcases ev_lim L M hLM n _ _ _ h5 m1 with ⟨p1, p2⟩ | ⟨p1, S', p2, p3⟩
                · rcases hq : q.1 with v2 | z
                  · rw [hq] at h6
                    cases v2 with
                    | nil => simp only [Option.some.injEq] at h6; subst h6; exact .inl ⟨p1, by simp only [tell, if_neg hLS, k2, Option.bind_some, hr, m2, ht, p2, hq]⟩
                    | cons i' j' =>
                      rcases ih _ _ _ h6 p1 with ⟨x1, x2⟩ | ⟨x1, S', x2, x3⟩
                      · exact .inl ⟨x1, by simp only [tell, if_neg hLS, k2, Option.bind_some, hr, m2, ht, p2, hq]; exact x2⟩
                      · exact .inr ⟨x1, S', by simp only [tell, if_neg hLS, k2, Option.bind_some, hr, m2, ht, p2, hq]; exact x2, x3⟩
                    | num k => simp only [Option.some.injEq] at h6; subst h6; exact .inl ⟨p1, by simp only [tell, if_neg hLS, k2, Option.bind_some, hr, m2, ht, p2, hq]⟩
                    | fn b e => simp only [Option.some.injEq] at h6; subst h6; exact .inl ⟨p1, by simp only [tell, if_neg hLS, k2, Option.bind_some, hr, m2, ht, p2, hq]⟩
                  · rw [hq] at h6; cases h6
                    exact .inl ⟨p1, by simp only [tell, if_neg hLS, k2, Option.bind_some, hr, m2, ht, p2, hq]⟩
                · refine .inr ⟨?_, S', by simp only [tell, if_neg hLS, k2, Option.bind_some, hr, m2, ht, p2], p3⟩
                  have : q.2.steps ≤ r.2.steps := by
                    rcases hq : q.1 with v2 | z
                    · rw [hq] at h6
                      cases v2 with
                      | nil => simp only [Option.some.injEq] at h6; subst h6; exact Nat.le_refl _
                      | cons i' j' => exact (tell_steps M num fnT n _ _ _ h6 c1.2).1
                      | num k => simp only [Option.some.injEq] at h6; subst h6; exact Nat.le_refl _
                      | fn b e => simp only [Option.some.injEq] at h6; subst h6; exact Nat.le_refl _
                    · rw [hq] at h6; cases h6; exact Nat.le_refl _
                  omega
            · refine .inr ⟨?_, S', by simp only [tell, if_neg hLS, k2, Option.bind_some, hr, m2], m3⟩
              have : t.2.steps ≤ r.2.steps := by
                rcases ht : t.1 with z | s
                · rw [ht] at h4; cases h4; exact Nat.le_refl _
                · rw [ht] at h4
                  obtain ⟨q, h5, h6⟩ := Option.bind_eq_some_iff.1 h4
                  have c1 := ev_steps M n _ _ _ h5 b1.2
                  rcases hq : q.1 with v2 | z
                  · rw [hq] at h6
                    cases v2 with
                    | nil => simp only [Option.some.injEq] at h6; subst h6; exact c1.1
                    | cons i' j' => exact Nat.le_trans c1.1 (tell_steps M num fnT n _ _ _ h6 c1.2).1
                    | num k => simp only [Option.some.injEq] at h6; subst h6; exact c1.1
                    | fn b e => simp only [Option.some.injEq] at h6; subst h6; exact c1.1
                  · rw [hq] at h6; cases h6; exact c1.1
              omega
          · rw [hr] at h2; cases h2
            exact .inl ⟨k1, by simp only [tell, if_neg hLS, k2, Option.bind_some, hr]⟩
        · exact .inr ⟨by omega, S', by simp only [tell, if_neg hLS, k2, Option.bind_some], k3⟩
end Skein

namespace Skein

inductive Tk where
  | num (x : ByteArray) | name (x : ByteArray) | sym (x : ByteArray) | bad | tree (t : T)

def specials : List ByteArray := [⟨#[108, 101, 116]⟩, ⟨#[105, 110]⟩, ⟨#[105, 102]⟩, ⟨#[116, 104, 101, 110]⟩, ⟨#[101, 108, 115, 101]⟩, ⟨#[104, 101, 97, 100]⟩, ⟨#[116, 97, 105, 108]⟩, ⟨#[110, 117, 108, 108]⟩, ⟨#[92]⟩, ⟨#[46]⟩, ⟨#[61]⟩, ⟨#[60]⟩, ⟨#[43]⟩, ⟨#[45]⟩, ⟨#[42]⟩, ⟨#[58]⟩, ⟨#[40]⟩, ⟨#[41]⟩, ⟨#[91, 93]⟩]

def hd (x : ByteArray) : List Tk → Bool
  | .sym y :: _ => eqb y x
  | _ => false
def beg : List Tk → Bool
  | .num _ :: _ => true
  | .name _ :: _ => true
  | .tree _ :: _ => true
  | .sym x :: _ => mem openers x
  | _ => false
def eat (x : ByteArray) (l : List Tk) : Option (List Tk) := if hd x l then some l.tail else none
def eatName : List Tk → Option (ByteArray × List Tk)
  | .name x :: r => some (x, r)
  | _ => none
def opT : List Tk → UInt8
  | .sym x :: _ => opOf x
  | _ => 0

def PT : Nat → NT → List ByteArray → List Tk → Option (T × List Tk)
  | 0, _, _, _ => none
  | n + 1, .expr, g, l =>
    if hd ⟨#[108, 101, 116]⟩ l then
      (eatName l.tail).bind fun y => (eat ⟨#[61]⟩ y.2).bind fun l2 => (PT n .expr (g ++ [y.1]) l2).bind fun r => (eat ⟨#[105, 110]⟩ r.2).bind fun l3 => (PT n .expr (g ++ [y.1]) l3).bind fun q =>
        some (.letE g.length r.1 q.1, q.2)
    else if hd ⟨#[92]⟩ l then
      (eatName l.tail).bind fun y => (eat ⟨#[46]⟩ y.2).bind fun l2 => (PT n .expr (g ++ [y.1]) l2).bind fun r => some (.fn g.length r.1, r.2)
    else if hd ⟨#[105, 102]⟩ l then
      (PT n .expr g l.tail).bind fun r => (eat ⟨#[116, 104, 101, 110]⟩ r.2).bind fun l2 => (PT n .expr g l2).bind fun q => (eat ⟨#[101, 108, 115, 101]⟩ q.2).bind fun l3 => (PT n .expr g l3).bind fun p =>
        some (.ite r.1 q.1 p.1, p.2)
    else PT n .list g l
  | n + 1, .list, g, l =>
    (PT n .order g l).bind fun r => if hd ⟨#[58]⟩ r.2 then (PT n .list g r.2.tail).bind fun q => some (.bin 58 r.1 q.1, q.2) else some r
  | n + 1, .order, g, l =>
    (PT n .sum g l).bind fun r => if hd ⟨#[61]⟩ r.2 || hd ⟨#[60]⟩ r.2 then (PT n .sum g r.2.tail).bind fun q => some (.bin (opT r.2) r.1 q.1, q.2) else some r
  | n + 1, .sum, g, l => (PT n .prod g l).bind fun r => PT n (.sumL r.1) g r.2
  | n + 1, .sumL a, g, l =>
    if hd ⟨#[43]⟩ l || hd ⟨#[45]⟩ l then (PT n .prod g l.tail).bind fun r => PT n (.sumL (.bin (opT l) a r.1)) g r.2 else some (a, l)
  | n + 1, .prod, g, l => (PT n .use g l).bind fun r => PT n (.prodL r.1) g r.2
  | n + 1, .prodL a, g, l =>
    if hd ⟨#[42]⟩ l then (PT n .use g l.tail).bind fun r => PT n (.prodL (.bin 42 a r.1)) g r.2 else some (a, l)
  | n + 1, .use, g, l => (PT n .atom g l).bind fun r => PT n (.useL r.1) g r.2
  | n + 1, .useL a, g, l =>
    if beg l then (PT n .atom g l).bind fun r => PT n (.useL (.app a r.1)) g r.2 else some (a, l)
  | n + 1, .atom, g, l =>
    match l with
    | .num x :: r => some (.num (val x), r)
    | .name x :: r => (lastIdx x g).bind fun i => some (.var i, r)
    | .tree t :: r => some (t, r)
    | .sym x :: r =>
      if eqb x ⟨#[91, 93]⟩ then some (.nil, r)
      else if eqb x ⟨#[40]⟩ then (PT n .expr g r).bind fun q => (eat ⟨#[41]⟩ q.2).bind fun l2 => some (q.1, l2)
      else if mem openers x then (PT n .atom g r).bind fun q => some (.un (opOf x) q.1, q.2)
      else none
    | _ => none

/-- The signs of a text, from one on. -/
def Str (s : ByteArray) : Tok → List Tk → Prop
  | t, [] => t.k = .eof ∧ t.text = ⟨#[]⟩
  | t, .num x :: l => t.k = .num ∧ t.text = x ∧ mem specials x = false ∧ Str s (tok s (t.at_ + t.text.size)) l
  | t, .name x :: l => t.k = .name ∧ t.text = x ∧ mem specials x = false ∧ Str s (tok s (t.at_ + t.text.size)) l
  | t, .sym x :: l => t.k = .sym ∧ t.text = x ∧ 0 < x.size ∧ Str s (tok s (t.at_ + t.text.size)) l
  | t, .bad :: l => t.k = .bad ∧ t.text = ⟨#[]⟩ ∧ l = []
  | _, .tree _ :: _ => False

theorem mem_of_list {l : List ByteArray} {x y : ByteArray} (h : mem l x = false) (hy : mem l y = true) : eqb x y = false := by
  rw [eqb_ne]; rintro rfl; rw [h] at hy; cases hy
theorem eqb_nil {x : ByteArray} (h : 0 < x.size) : eqb ⟨#[]⟩ x = false := by
  rw [eqb_ne]; rintro rfl; cases h
theorem hd_eqb {s : ByteArray} {t : Tok} {l : List Tk} (h : Str s t l) {x : ByteArray} (hx : mem specials x = true) (h0 : 0 < x.size) : eqb t.text x = hd x l := by
  cases l with
  | nil => rw [h.2]; exact eqb_nil h0
  | cons k r =>
    cases k with
    | num y => rw [h.2.1]; exact mem_of_list h.2.2.1 hx
    | name y => rw [h.2.1]; exact mem_of_list h.2.2.1 hx
    | sym y => rw [h.2.1]; rfl
    | bad => rw [h.2.1]; exact eqb_nil h0
    | tree t => exact h.elim
theorem hd_has {s : ByteArray} {m : M} {l : List Tk} (hb : m.bad = none) (h : Str s m.tok l) {x : ByteArray} (hx : mem specials x = true) (h0 : 0 < x.size) : m.has x = hd x l := by
  unfold M.has; rw [hb, hd_eqb h hx h0]; rfl
theorem beg_begins {s : ByteArray} {m : M} {l : List Tk} (hb : m.bad = none) (h : Str s m.tok l) : m.begins = beg l := by
  unfold M.begins; rw [hb]
  have e0 : mem openers ⟨#[]⟩ = false := by decide
  cases l with
  | nil => rw [h.1, h.2, e0]; rfl
  | cons k r =>
    cases k with
    | num y => rw [h.1]; rfl
    | name y => rw [h.1]; rfl
    | sym y => rw [h.1, h.2.1]; rfl
    | bad => rw [h.1, h.2.1, e0]; rfl
    | tree t => exact h.elim
theorem op_text {s : ByteArray} {t : Tok} {l : List Tk} (h : Str s t l) {x : ByteArray} (hx : hd x l = true) : opOf t.text = opT l := by
  cases l with
  | nil => cases hx
  | cons k r =>
    cases k with
    | sym y => rw [h.2.1]; rfl
    | num y => cases hx
    | name y => cases hx
    | bad => cases hx
    | tree t => cases hx
theorem hd_step {s : ByteArray} {m : M} {l : List Tk} (h : Str s m.tok l) {x : ByteArray} (hx : hd x l = true) : Str s (m.adv s).tok l.tail := by
  cases l with
  | nil => cases hx
  | cons k r =>
    cases k with
    | sym y => exact h.2.2.2
    | num y => cases hx
    | name y => cases hx
    | bad => cases hx
    | tree t => cases hx

theorem eat_ok {x : ByteArray} {l l' : List Tk} (h : eat x l = some l') : hd x l = true ∧ l' = l.tail := by
  unfold eat at h
  split at h
  · rename_i hx; exact ⟨hx, (Option.some.inj h).symm⟩
  · cases h
theorem want_eat {s : ByteArray} {m : M} {l l' : List Tk} (hb : m.bad = none) (h : Str s m.tok l) {x : ByteArray} (hx : mem specials x = true) (h0 : 0 < x.size) (he : eat x l = some l') : m.want s x = m.adv s ∧ Str s (m.adv s).tok l' := by
  obtain ⟨e1, rfl⟩ := eat_ok he
  refine ⟨?_, hd_step h e1⟩
  unfold M.want; rw [hd_has hb h hx h0, e1]; rfl
theorem gives_eat {s : ByteArray} {m : M} {l : List Tk} {y : ByteArray × List Tk} (hb : m.bad = none) (h : Str s m.tok l) (he : eatName l = some y) : m.gives s = (y.1, m.adv s) ∧ Str s (m.adv s).tok y.2 := by
  cases l with
  | nil => cases he
  | cons k r =>
    cases k with
    | name x =>
      cases he
      refine ⟨?_, h.2.2.2⟩
      unfold M.gives; rw [hb, h.1, h.2.1]; rfl
    | num y => cases he
    | sym y => cases he
    | bad => cases he
    | tree t => cases he

/-- What the reader over signs reads, the reader over the text reads. -/
theorem PT_PM (s : ByteArray) : ∀ (n : Nat) (nt : NT) (g : List ByteArray) (l : List Tk) (t : T) (l' : List Tk), PT n nt g l = some (t, l') → ∀ m : M, m.bad = none → m.given = g → Str s m.tok l →
    ∃ m', PM s n nt m = some (t, m') ∧ m'.bad = none ∧ m'.given = g ∧ m'.free = m.free ∧ Str s m'.tok l' := by
  intro n
  induction n with
  | zero => intro nt g l t l' h; simp [PT] at h
  | succ n ih =>
    intro nt g l t l' h m hb hg hs
    have hbs : m.bad.isSome = false := by rw [hb]; rfl
    have hg' : g = m.given := hg.symm
    subst hg'
    cases nt with
    | expr =>
      simp only [PT] at h
      simp only [PM, hbs, Bool.false_eq_true, if_false]
      rw [hd_eqb hs (x := ⟨#[108, 101, 116]⟩) (by decide) (by decide), hd_eqb hs (x := ⟨#[92]⟩) (by decide) (by decide), hd_eqb hs (x := ⟨#[105, 102]⟩) (by decide) (by decide)]
      split at h
      · rename_i hx
        rw [if_pos hx]
        obtain ⟨y, h1, h⟩ := Option.bind_eq_some_iff.1 h
        obtain ⟨l2, h2, h⟩ := Option.bind_eq_some_iff.1 h
        obtain ⟨r, h3, h⟩ := Option.bind_eq_some_iff.1 h
        obtain ⟨l3, h4, h⟩ := Option.bind_eq_some_iff.1 h
        obtain ⟨q, h5, h⟩ := Option.bind_eq_some_iff.1 h
        cases h
        have s0 := hd_step hs hx
        obtain ⟨g1, s1⟩ := gives_eat (m := m.adv s) hb s0 h1
        obtain ⟨g2, s2⟩ := want_eat (m := (m.adv s).adv s) hb s1 (x := ⟨#[61]⟩) (by decide) (by decide) h2
        rw [g1]
        dsimp only
        rw [g2]
        obtain ⟨m1, p1, b1, v1, f1, s3⟩ := ih .expr (m.given ++ [y.1]) l2 r.1 r.2 h3 ((((m.adv s).adv s).adv s).push y.1) hb (by simp) s2
        rw [p1]
        simp only [Option.bind_some]
        obtain ⟨g3, s4⟩ := want_eat (m := m1) b1 s3 (x := ⟨#[105, 110]⟩) (by decide) (by decide) h4
        rw [g3]
        obtain ⟨m2, p2, b2, v2, f2, s5⟩ := ih .expr (m.given ++ [y.1]) l3 q.1 q.2 h5 (m1.adv s) b1 (by simpa using v1) s4
        rw [p2]
        simp only [Option.bind_some]
        refine ⟨_, rfl, b2, by simp [v2], ?_, s5⟩
        show m2.free = _
        rw [f2]; show m1.free = _; rw [f1]; rfl
      · rename_i hx
        rw [if_neg hx]
        split at h
        · rename_i hx
          rw [if_pos hx]
          obtain ⟨y, h1, h⟩ := Option.bind_eq_some_iff.1 h
          obtain ⟨l2, h2, h⟩ := Option.bind_eq_some_iff.1 h
          obtain ⟨r, h3, h⟩ := Option.bind_eq_some_iff.1 h
          cases h
          have s0 := hd_step hs hx
          obtain ⟨g1, s1⟩ := gives_eat (m := m.adv s) hb s0 h1
          obtain ⟨g2, s2⟩ := want_eat (m := (m.adv s).adv s) hb s1 (x := ⟨#[46]⟩) (by decide) (by decide) h2
          rw [g1]
          dsimp only
          rw [g2]
          obtain ⟨m1, p1, b1, v1, f1, s3⟩ := ih .expr (m.given ++ [y.1]) l2 r.1 r.2 h3 ((((m.adv s).adv s).adv s).push y.1) hb (by simp) s2
          rw [p1]
          simp only [Option.bind_some]
          exact ⟨_, rfl, b1, by simp [v1], f1, s3⟩
        · rename_i hx
          rw [if_neg hx]
          split at h
          · rename_i hx
            rw [if_pos hx]
            obtain ⟨r, h1, h⟩ := Option.bind_eq_some_iff.1 h
            obtain ⟨l2, h2, h⟩ := Option.bind_eq_some_iff.1 h
            obtain ⟨q, h3, h⟩ := Option.bind_eq_some_iff.1 h
            obtain ⟨l3, h4, h⟩ := Option.bind_eq_some_iff.1 h
            obtain ⟨p, h5, h⟩ := Option.bind_eq_some_iff.1 h
            cases h
            obtain ⟨m1, p1, b1, v1, f1, s1⟩ := ih .expr m.given l.tail r.1 r.2 h1 (m.adv s) hb hg (hd_step hs hx)
            rw [p1]; simp only [Option.bind_some]
            obtain ⟨g2, s2⟩ := want_eat b1 s1 (x := ⟨#[116, 104, 101, 110]⟩) (by decide) (by decide) h2
            rw [g2]
            obtain ⟨m2, p2, b2, v2, f2, s3⟩ := ih .expr m.given l2 q.1 q.2 h3 (m1.adv s) b1 v1 s2
            rw [p2]; simp only [Option.bind_some]
            obtain ⟨g3, s4⟩ := want_eat b2 s3 (x := ⟨#[101, 108, 115, 101]⟩) (by decide) (by decide) h4
            rw [g3]
            obtain ⟨m3, p3, b3, v3, f3, s5⟩ := ih .expr m.given l3 p.1 p.2 h5 (m2.adv s) b2 v2 s4
            rw [p3]; simp only [Option.bind_some]
            exact ⟨m3, rfl, b3, v3, by rw [f3]; show m2.free = _; rw [f2]; show m1.free = _; rw [f1]; rfl, s5⟩
          · rename_i hx
            rw [if_neg hx]
            exact ih .list m.given l t l' h m hb hg hs
    | list =>
      simp only [PT] at h
      simp only [PM, hbs, Bool.false_eq_true, if_false]
      obtain ⟨r, h1, h⟩ := Option.bind_eq_some_iff.1 h
      obtain ⟨m1, p1, b1, v1, f1, s1⟩ := ih .order m.given l r.1 r.2 h1 m hb hg hs
      rw [p1]; simp only [Option.bind_some]
      rw [hd_has b1 s1 (x := ⟨#[58]⟩) (by decide) (by decide)]
      split at h
      · rename_i hx
        rw [if_pos hx]
        obtain ⟨q, h2, h⟩ := Option.bind_eq_some_iff.1 h
        cases h
        obtain ⟨m2, p2, b2, v2, f2, s2⟩ := ih .list m.given r.2.tail q.1 q.2 h2 (m1.adv s) b1 v1 (hd_step s1 hx)
        rw [p2]; exact ⟨m2, rfl, b2, v2, by rw [f2]; exact f1, s2⟩
      · rename_i hx
        rw [if_neg hx]; cases h; exact ⟨m1, rfl, b1, v1, f1, s1⟩
    | order =>
      simp only [PT] at h
      simp only [PM, hbs, Bool.false_eq_true, if_false]
      obtain ⟨r, h1, h⟩ := Option.bind_eq_some_iff.1 h
      obtain ⟨m1, p1, b1, v1, f1, s1⟩ := ih .sum m.given l r.1 r.2 h1 m hb hg hs
      rw [p1]; simp only [Option.bind_some]
      rw [hd_has b1 s1 (x := ⟨#[61]⟩) (by decide) (by decide), hd_has b1 s1 (x := ⟨#[60]⟩) (by decide) (by decide)]
      split at h
      · rename_i hx
        rw [if_pos hx]
        obtain ⟨q, h2, h⟩ := Option.bind_eq_some_iff.1 h
        cases h
        have hz : ∃ x, hd x r.2 = true := by
          rcases Bool.or_eq_true _ _ |>.mp hx with h | h
          · exact ⟨_, h⟩
          · exact ⟨_, h⟩
        obtain ⟨z, hz⟩ := hz
        obtain ⟨m2, p2, b2, v2, f2, s2⟩ := ih .sum m.given r.2.tail q.1 q.2 h2 (m1.adv s) b1 v1 (hd_step s1 hz)
        rw [p2, op_text s1 hz]; exact ⟨m2, rfl, b2, v2, by rw [f2]; exact f1, s2⟩
      · rename_i hx
        rw [if_neg hx]; cases h; exact ⟨m1, rfl, b1, v1, f1, s1⟩
    | sum =>
      simp only [PT] at h
      simp only [PM, hbs, Bool.false_eq_true, if_false]
      obtain ⟨r, h1, h⟩ := Option.bind_eq_some_iff.1 h
      obtain ⟨m1, p1, b1, v1, f1, s1⟩ := ih .prod m.given l r.1 r.2 h1 m hb hg hs
      rw [p1]; simp only [Option.bind_some]
      obtain ⟨m2, p2, b2, v2, f2, s2⟩ := ih _ m.given r.2 t l' h m1 b1 v1 s1
      exact ⟨m2, p2, b2, v2, f2.trans f1, s2⟩
    | prod =>
      simp only [PT] at h
      simp only [PM, hbs, Bool.false_eq_true, if_false]
      obtain ⟨r, h1, h⟩ := Option.bind_eq_some_iff.1 h
      obtain ⟨m1, p1, b1, v1, f1, s1⟩ := ih .use m.given l r.1 r.2 h1 m hb hg hs
      rw [p1]; simp only [Option.bind_some]
      obtain ⟨m2, p2, b2, v2, f2, s2⟩ := ih _ m.given r.2 t l' h m1 b1 v1 s1
      exact ⟨m2, p2, b2, v2, f2.trans f1, s2⟩
    | use =>
      simp only [PT] at h
      simp only [PM, hbs, Bool.false_eq_true, if_false]
      obtain ⟨r, h1, h⟩ := Option.bind_eq_some_iff.1 h
      obtain ⟨m1, p1, b1, v1, f1, s1⟩ := ih .atom m.given l r.1 r.2 h1 m hb hg hs
      rw [p1]; simp only [Option.bind_some]
      obtain ⟨m2, p2, b2, v2, f2, s2⟩ := ih _ m.given r.2 t l' h m1 b1 v1 s1
      exact ⟨m2, p2, b2, v2, f2.trans f1, s2⟩
    | sumL a =>
      simp only [PT] at h
      simp only [PM]
      rw [hd_has hb hs (x := ⟨#[43]⟩) (by decide) (by decide), hd_has hb hs (x := ⟨#[45]⟩) (by decide) (by decide)]
      split at h
      · rename_i hx
        rw [if_pos hx]
        have hz : ∃ x, hd x l = true := by
          rcases Bool.or_eq_true _ _ |>.mp hx with h | h
          · exact ⟨_, h⟩
          · exact ⟨_, h⟩
        obtain ⟨z, hz⟩ := hz
        obtain ⟨r, h1, h⟩ := Option.bind_eq_some_iff.1 h
        obtain ⟨m1, p1, b1, v1, f1, s1⟩ := ih .prod m.given l.tail r.1 r.2 h1 (m.adv s) hb hg (hd_step hs hz)
        rw [p1, op_text hs hz]; simp only [Option.bind_some]
        obtain ⟨m2, p2, b2, v2, f2, s2⟩ := ih _ m.given r.2 t l' h m1 b1 v1 s1
        exact ⟨m2, p2, b2, v2, f2.trans f1, s2⟩
      · rename_i hx
        rw [if_neg hx]; cases h; exact ⟨m, rfl, hb, hg, rfl, hs⟩
    | prodL a =>
      simp only [PT] at h
      simp only [PM]
      rw [hd_has hb hs (x := ⟨#[42]⟩) (by decide) (by decide)]
      split at h
      · rename_i hx
        rw [if_pos hx]
        obtain ⟨r, h1, h⟩ := Option.bind_eq_some_iff.1 h
        obtain ⟨m1, p1, b1, v1, f1, s1⟩ := ih .use m.given l.tail r.1 r.2 h1 (m.adv s) hb hg (hd_step hs hx)
        rw [p1]; simp only [Option.bind_some]
        obtain ⟨m2, p2, b2, v2, f2, s2⟩ := ih _ m.given r.2 t l' h m1 b1 v1 s1
        exact ⟨m2, p2, b2, v2, f2.trans f1, s2⟩
      · rename_i hx
        rw [if_neg hx]; cases h; exact ⟨m, rfl, hb, hg, rfl, hs⟩
    | useL a =>
      simp only [PT] at h
      simp only [PM]
      rw [beg_begins hb hs]
      split at h
      · rename_i hx
        rw [if_pos hx]
        obtain ⟨r, h1, h⟩ := Option.bind_eq_some_iff.1 h
        obtain ⟨m1, p1, b1, v1, f1, s1⟩ := ih .atom m.given l r.1 r.2 h1 m hb hg hs
        rw [p1]; simp only [Option.bind_some]
        obtain ⟨m2, p2, b2, v2, f2, s2⟩ := ih _ m.given r.2 t l' h m1 b1 v1 s1
        exact ⟨m2, p2, b2, v2, f2.trans f1, s2⟩
      · rename_i hx
        rw [if_neg hx]; cases h; exact ⟨m, rfl, hb, hg, rfl, hs⟩
    | atom =>
      simp only [PM]
      rw [beg_begins hb hs]
      cases l with
      | nil => simp [PT] at h
      | cons k r =>
        cases k with
        | num x =>
          simp only [PT, Option.some.injEq, Prod.mk.injEq] at h
          obtain ⟨rfl, rfl⟩ := h
          rw [if_pos (show beg (Tk.num x :: r) = true from rfl), hs.1, if_pos (show (K.num == K.num) = true from rfl), hs.2.1]
          exact ⟨_, rfl, hb, hg, rfl, hs.2.2.2⟩
        | name x =>
          simp only [PT] at h
          obtain ⟨i, h1, h⟩ := Option.bind_eq_some_iff.1 h
          cases h
          rw [if_pos (show beg (Tk.name x :: l') = true from rfl), hs.1, if_neg (by decide), if_pos (show (K.name == K.name) = true from rfl)]
          have hg2 : (m.adv s).given = m.given := hg
          unfold named
          rw [hs.2.1, hg2, h1]
          exact ⟨m.adv s, rfl, hb, hg, rfl, hs.2.2.2⟩
        | bad => simp [PT] at h
        | tree t => exact hs.elim
        | sym x =>
          simp only [PT] at h
          have hk : (m.tok.k == K.num) = false := by rw [hs.1]; rfl
          have hk2 : (m.tok.k == K.name) = false := by rw [hs.1]; rfl
          simp only [hk, hk2, hs.2.1, beg]
          split at h
          · rename_i hx
            cases h
            have : mem openers x = true := by rw [eqb_iff.1 hx]; decide
            rw [if_pos this, if_pos hx]
            exact ⟨m.adv s, rfl, hb, hg, rfl, hs.2.2.2⟩
          · rename_i hx
            split at h
            · rename_i hx2
              have : mem openers x = true := by rw [eqb_iff.1 hx2]; decide
              simp only [if_pos this, Bool.false_eq_true, if_false, if_neg hx, if_pos hx2]
              obtain ⟨q, h1, h⟩ := Option.bind_eq_some_iff.1 h
              obtain ⟨l2, h2, h⟩ := Option.bind_eq_some_iff.1 h
              cases h
              obtain ⟨m1, p1, b1, v1, f1, s1⟩ := ih .expr m.given r q.1 q.2 h1 (m.adv s) hb hg hs.2.2.2
              obtain ⟨g2, s2⟩ := want_eat b1 s1 (x := ⟨#[41]⟩) (by decide) (by decide) h2
              rw [p1]; simp only [Option.bind_some, g2]
              exact ⟨m1.adv s, rfl, b1, v1, f1, s2⟩
            · rename_i hx2
              split at h
              · rename_i hx3
                simp only [if_pos hx3, Bool.false_eq_true, if_false, if_neg hx, if_neg hx2]
                obtain ⟨q, h1, h⟩ := Option.bind_eq_some_iff.1 h
                cases h
                obtain ⟨m1, p1, b1, v1, f1, s1⟩ := ih .atom m.given r q.1 q.2 h1 (m.adv s) hb hg hs.2.2.2
                rw [p1]
                exact ⟨m1, rfl, b1, v1, f1, s1⟩
              · cases h
end Skein

namespace Skein
open Go

/-- All names d levels deeper. -/
def lft (d : Nat) : T → T
  | .junk => .junk | .free => .free | .nil => .nil | .num n => .num n
  | .var i => .var (i + d)
  | .letE n a b => .letE (n + d) (lft d a) (lft d b)
  | .fn n a => .fn (n + d) (lft d a)
  | .ite a b c => .ite (lft d a) (lft d b) (lft d c)
  | .app a b => .app (lft d a) (lft d b)
  | .un op a => .un op (lft d a)
  | .bin op a b => .bin op (lft d a) (lft d b)
theorem lft_zero : ∀ t : T, lft 0 t = t := by
  intro t
  induction t <;> simp_all [lft]

def shEnv (p env : List Nat) : List Nat := p ++ env.map (· + 1)
def shV (p : List Nat) : V → V
  | .num n => .num n | .nil => .nil
  | .fn b env => .fn (lft p.length b) (shEnv p env)
  | .cons a b => .cons (a + 1) (b + 1)
def shC (p : List Nat) : C → C
  | .wait x env => .wait (lft p.length x) (shEnv p env)
  | .busy => .busy
  | .known v => .known (shV p v)
def shE (c0 : C) (p : List Nat) (k : Nat) (S : E) : E := ⟨c0 :: S.heap.map (shC p), S.steps + k⟩
def shJ (p : List Nat) : J → J
  | .need x env => .need (lft p.length x) (shEnv p env)
  | .force i => .force (i + 1)
def shR (p : List Nat) : R → R
  | .ok v => .ok (shV p v)
  | .err e => .err e
theorem shEnv_snoc (p env : List Nat) (i : Nat) : shEnv p (env ++ [i]) = shEnv p env ++ [i + 1] := by simp [shEnv]
theorem shEnv_get (p env : List Nat) (i : Nat) : (shEnv p env)[i + p.length]? = env[i]?.map (· + 1) := by
  simp [shEnv, List.getElem?_append_right]
theorem shR_num (p : List Nat) (r : R) : (shR p r).num = r.num := by
  cases r with
  | err e => rfl
  | ok v => cases v <;> rfl
theorem shR_fn (p : List Nat) (r : R) : (shR p r).fn = r.fn.map fun f => (lft p.length f.1, shEnv p f.2) := by
  cases r with
  | err e => rfl
  | ok v => cases v <;> rfl
theorem shR_list (p : List Nat) (r : R) : (shR p r).list = r.list.map fun o => o.map fun q => (q.1 + 1, q.2 + 1) := by
  cases r with
  | err e => rfl
  | ok v => cases v <;> rfl
theorem shE_len (c0 : C) (p : List Nat) (k : Nat) (S : E) : (shE c0 p k S).heap.length = S.heap.length + 1 := by simp [shE]
theorem shE_app (c0 : C) (p : List Nat) (k : Nat) (S : E) (l : List C) (n : Nat) : shE c0 p k ⟨S.heap ++ l, n⟩ = ⟨(shE c0 p k S).heap ++ l.map (shC p), n + k⟩ := by simp [shE]
theorem shE_set (c0 : C) (p : List Nat) (k : Nat) (S : E) (i : Nat) (c : C) (n : Nat) : shE c0 p k ⟨S.heap.set i c, n⟩ = ⟨(shE c0 p k S).heap.set (i + 1) (shC p c), n + k⟩ := by simp [shE, List.map_set]
theorem shE_get (c0 : C) (p : List Nat) (k : Nat) (S : E) (i : Nat) : (shE c0 p k S).heap[i + 1]? = S.heap[i]?.map (shC p) := by simp [shE]
theorem shE_steps (c0 : C) (p : List Nat) (k : Nat) (S : E) : (shE c0 p k S).steps = S.steps + k := rfl

def shO (c0 : C) (p : List Nat) (k : Nat) (o : Option (R × E)) : Option (R × E) := o.map fun r => (shR p r.1, shE c0 p k r.2)

theorem ev_sh (c0 : C) (p : List Nat) (k L : Nat) : ∀ (n : Nat) (j : J) (S : E), ev (L + k) n (shJ p j) (shE c0 p k S) = shO c0 p k (ev L n j S) := by
  intro n
  induction n with
  | zero => intro j S; rfl
  | succ n ih =>
    intro j S
    cases j with
    | force i =>
      simp only [shJ, ev, shE_get]
      cases hc : S.heap[i]? with
      | none => rfl
      | some c =>
        cases c with
        | known v => rfl
        | busy => rfl
        | wait x env =>
          have h := ih (.need x env) ⟨S.heap.set i .busy, S.steps⟩
          rw [shE_set] at h
          simp only [shJ, shC] at h
          simp only [Option.map_some, shC, shE_steps, h]
          cases he : ev L n (.need x env) ⟨S.heap.set i .busy, S.steps⟩ with
          | none => rfl
          | some r =>
            obtain ⟨rr, S1⟩ := r
            cases rr with
            | err e => rfl
            | ok v => simp only [shO, Option.map_some, Option.bind_some, shR, shE_set, shC]; rfl
    | need x env =>
      cases x with
      | junk => rfl
      | free => rfl
      | nil => rfl
      | num _ => rfl
      | fn _ _ => rfl
      | var i =>
        simp only [shJ, lft, ev, shEnv_get]
        cases he : env[i]? with
        | none => rfl
        | some m => exact ih (.force m) S
      | letE m a b =>
        have h := ih (.need b (env ++ [S.heap.length])) ⟨S.heap ++ [.wait a (env ++ [S.heap.length])], S.steps⟩
        rw [shE_app] at h
        simp only [shJ, List.map_cons, List.map_nil, shC, shEnv_snoc] at h
        simp only [shJ, lft, ev, shE_len, shE_steps]
        exact h
      | ite a b c =>
        have h := ih (.need a env) S
        simp only [shJ] at h
        simp only [shJ, lft, ev, h]
        cases he : ev L n (.need a env) S with
        | none => rfl
        | some r =>
          simp only [shO, Option.map_some, Option.bind_some, shR_num]
          cases hr : r.1.num with
          | error e => rfl
          | ok q =>
            simp only
            split
            · exact ih (.need c env) r.2
            · exact ih (.need b env) r.2
      | app a b =>
        have h := ih (.need a env) S
        simp only [shJ] at h
        simp only [shJ, lft, ev, h]
        cases he : ev L n (.need a env) S with
        | none => rfl
        | some r =>
          simp only [shO, Option.map_some, Option.bind_some, shR_fn]
          cases hr : r.1.fn with
          | error e => rfl
          | ok f =>
            simp only [Except.map, shE_steps, Nat.add_le_add_iff_right]
            split
            · rfl
            · have h2 := ih (.need f.1 (f.2 ++ [r.2.heap.length])) ⟨r.2.heap ++ [.wait b env], r.2.steps + 1⟩
              rw [shE_app] at h2
              simp only [shJ, List.map_cons, List.map_nil, shC, shEnv_snoc] at h2
              simp only [shE_len]
              rw [show r.2.steps + k + 1 = r.2.steps + 1 + k by omega]
              exact h2
      | un op a =>
        have h := ih (.need a env) S
        simp only [shJ] at h
        simp only [shJ, lft, ev, h]
        cases he : ev L n (.need a env) S with
        | none => rfl
        | some r =>
          simp only [shO, Option.map_some, Option.bind_some, shR_list]
          cases hr : r.1.list with
          | error e => rfl
          | ok o =>
            cases o with
            | none =>
              simp only [Except.map, Option.map_none]
              split
              · rfl
              · rfl
            | some q =>
              simp only [Except.map, Option.map_some]
              split
              · rfl
              · split
                · exact ih (.force q.1) r.2
                · exact ih (.force q.2) r.2
      | bin op a b =>
        simp only [shJ, lft, ev]
        split
        · simp only [shO, Option.map_some, shR, shV, shE_app, shE_len, shE_steps, List.map_cons, List.map_nil, shC]
        · have h := ih (.need a env) S
          simp only [shJ] at h
          simp only [h]
          cases he : ev L n (.need a env) S with
          | none => rfl
          | some r =>
            simp only [shO, Option.map_some, Option.bind_some, shR_num]
            cases hr : r.1.num with
            | error e => rfl
            | ok x =>
              have h2 := ih (.need b env) r.2
              simp only [shJ] at h2
              simp only [h2]
              cases he2 : ev L n (.need b env) r.2 with
              | none => rfl
              | some q =>
                simp only [shO, Option.map_some, Option.bind_some, shR_num]
                cases hq : q.1.num with
                | error e => rfl
                | ok y => rfl

def shT (p : List Nat) : TJ → TJ
  | .val v => .val (shV p v)
  | .parts acc i j => .parts acc (i + 1) (j + 1)

theorem tell_sh (c0 : C) (p : List Nat) (k L : Nat) (num : Int → ByteArray) (fnT : ByteArray) : ∀ (n : Nat) (j : TJ) (S : E), tell (L + k) num fnT n (shT p j) (shE c0 p k S) = (tell L num fnT n j S).map fun r => (r.1, shE c0 p k r.2) := by
  intro n
  induction n with
  | zero => intro j S; rfl
  | succ n ih =>
    intro j S
    cases j with
    | val v =>
      cases v with
      | num m => rfl
      | fn b e => rfl
      | nil => rfl
      | cons i j => exact ih (.parts ⟨#[91]⟩ i j) S
    | parts acc i j =>
      simp only [shT, tell, shE_steps, Nat.add_le_add_iff_right]
      split
      · rfl
      · have h := ev_sh c0 p k L n (.force i) ⟨S.heap, S.steps + 1⟩
        have e1 : shE c0 p k ⟨S.heap, S.steps + 1⟩ = ⟨(shE c0 p k S).heap, S.steps + k + 1⟩ := by
          simp only [shE]; congr 1; omega
        rw [e1] at h
        simp only [shJ] at h
        simp only [h]
        cases he : ev L n (.force i) ⟨S.heap, S.steps + 1⟩ with
        | none => rfl
        | some r =>
          obtain ⟨rr, S1⟩ := r
          cases rr with
          | err z => rfl
          | ok v =>
            have h2 := ih (.val v) S1
            simp only [shT] at h2
            simp only [shO, Option.map_some, Option.bind_some, shR, h2]
            cases ht : tell L num fnT n (.val v) S1 with
            | none => rfl
            | some t =>
              obtain ⟨tt, S2⟩ := t
              cases tt with
              | error z => rfl
              | ok s =>
                have h3 := ev_sh c0 p k L n (.force j) S2
                simp only [shJ] at h3
                simp only [Option.map_some, Option.bind_some, h3]
                cases hq : ev L n (.force j) S2 with
                | none => rfl
                | some q =>
                  obtain ⟨qq, S3⟩ := q
                  cases qq with
                  | err z => rfl
                  | ok v2 =>
                    cases v2 with
                    | nil => rfl
                    | num m => rfl
                    | fn b e => rfl
                    | cons i' j' => exact ih (.parts (acc ++ s ++ ⟨#[44, 32]⟩) i' j') S3
end Skein

namespace Skein

theorem PT_mono : ∀ (n : Nat) (nt : NT) (g : List ByteArray) (l : List Tk) (r : T × List Tk), PT n nt g l = some r → PT (n + 1) nt g l = some r := by
  intro n
  induction n with
  | zero => intro nt g l r h; simp [PT] at h
  | succ n ih =>
    intro nt g l r h
    cases nt with
    | expr =>
      rw [PT] at h ⊢
      split at h
      · rename_i hx
        rw [if_pos hx]
        obtain ⟨y, h1, h⟩ := Option.bind_eq_some_iff.1 h
        obtain ⟨l2, h2, h⟩ := Option.bind_eq_some_iff.1 h
        obtain ⟨r1, h3, h⟩ := Option.bind_eq_some_iff.1 h
        obtain ⟨l3, h4, h⟩ := Option.bind_eq_some_iff.1 h
        obtain ⟨q, h5, h⟩ := Option.bind_eq_some_iff.1 h
        rw [h1, Option.bind_some, h2, Option.bind_some, ih _ _ _ _ h3, Option.bind_some, h4, Option.bind_some, ih _ _ _ _ h5]; exact h
      · rename_i hx
        rw [if_neg hx]
        split at h
        · rename_i hx
          rw [if_pos hx]
          obtain ⟨y, h1, h⟩ := Option.bind_eq_some_iff.1 h
          obtain ⟨l2, h2, h⟩ := Option.bind_eq_some_iff.1 h
          obtain ⟨r1, h3, h⟩ := Option.bind_eq_some_iff.1 h
          rw [h1, Option.bind_some, h2, Option.bind_some, ih _ _ _ _ h3]; exact h
        · rename_i hx
          rw [if_neg hx]
          split at h
          · rename_i hx
            rw [if_pos hx]
            obtain ⟨r1, h1, h⟩ := Option.bind_eq_some_iff.1 h
            obtain ⟨l2, h2, h⟩ := Option.bind_eq_some_iff.1 h
            obtain ⟨q, h3, h⟩ := Option.bind_eq_some_iff.1 h
            obtain ⟨l3, h4, h⟩ := Option.bind_eq_some_iff.1 h
            obtain ⟨p, h5, h⟩ := Option.bind_eq_some_iff.1 h
            rw [ih _ _ _ _ h1, Option.bind_some, h2, Option.bind_some, ih _ _ _ _ h3, Option.bind_some, h4, Option.bind_some, ih _ _ _ _ h5]; exact h
          · rename_i hx
            rw [if_neg hx]
            exact ih _ _ _ _ h
    | list =>
      rw [PT] at h ⊢
      obtain ⟨r1, h1, h⟩ := Option.bind_eq_some_iff.1 h
      rw [ih _ _ _ _ h1, Option.bind_some]
      split at h
      · rename_i hx
        rw [if_pos hx]
        obtain ⟨q, h2, h⟩ := Option.bind_eq_some_iff.1 h
        rw [ih _ _ _ _ h2]; exact h
      · rename_i hx
        rw [if_neg hx]; exact h
    | order =>
      rw [PT] at h ⊢
      obtain ⟨r1, h1, h⟩ := Option.bind_eq_some_iff.1 h
      rw [ih _ _ _ _ h1, Option.bind_some]
      split at h
      · rename_i hx
        rw [if_pos hx]
        obtain ⟨q, h2, h⟩ := Option.bind_eq_some_iff.1 h
        rw [ih _ _ _ _ h2]; exact h
      · rename_i hx
        rw [if_neg hx]; exact h
    | sum =>
      rw [PT] at h ⊢
      obtain ⟨r1, h1, h⟩ := Option.bind_eq_some_iff.1 h
      rw [ih _ _ _ _ h1, Option.bind_some]; exact ih _ _ _ _ h
    | prod =>
      rw [PT] at h ⊢
      obtain ⟨r1, h1, h⟩ := Option.bind_eq_some_iff.1 h
      rw [ih _ _ _ _ h1, Option.bind_some]; exact ih _ _ _ _ h
    | use =>
      rw [PT] at h ⊢
      obtain ⟨r1, h1, h⟩ := Option.bind_eq_some_iff.1 h
      rw [ih _ _ _ _ h1, Option.bind_some]; exact ih _ _ _ _ h
    | sumL a =>
      rw [PT] at h ⊢
      split at h
      · rename_i hx
        rw [if_pos hx]
        obtain ⟨r1, h1, h⟩ := Option.bind_eq_some_iff.1 h
        rw [ih _ _ _ _ h1, Option.bind_some]; exact ih _ _ _ _ h
      · rename_i hx
        rw [if_neg hx]; exact h
    | prodL a =>
      rw [PT] at h ⊢
      split at h
      · rename_i hx
        rw [if_pos hx]
        obtain ⟨r1, h1, h⟩ := Option.bind_eq_some_iff.1 h
        rw [ih _ _ _ _ h1, Option.bind_some]; exact ih _ _ _ _ h
      · rename_i hx
        rw [if_neg hx]; exact h
    | useL a =>
      rw [PT] at h ⊢
      split at h
      · rename_i hx
        rw [if_pos hx]
        obtain ⟨r1, h1, h⟩ := Option.bind_eq_some_iff.1 h
        rw [ih _ _ _ _ h1, Option.bind_some]; exact ih _ _ _ _ h
      · rename_i hx
        rw [if_neg hx]; exact h
    | atom =>
      cases l with
      | nil => simp [PT] at h
      | cons k l =>
        cases k with
        | num x => simp only [PT] at h ⊢; exact h
        | name x => simp only [PT] at h ⊢; exact h
        | tree x => simp only [PT] at h ⊢; exact h
        | bad => simp [PT] at h
        | sym x =>
          simp only [PT] at h
          rw [PT]
          split at h
          · rename_i hx
            rw [if_pos hx]; exact h
          · rename_i hx
            rw [if_neg hx]
            split at h
            · rename_i hx
              rw [if_pos hx]
              obtain ⟨r1, h1, h⟩ := Option.bind_eq_some_iff.1 h
              rw [ih _ _ _ _ h1, Option.bind_some]; exact h
            · rename_i hx
              rw [if_neg hx]
              split at h
              · rename_i hx
                rw [if_pos hx]
                obtain ⟨r1, h1, h⟩ := Option.bind_eq_some_iff.1 h
                rw [ih _ _ _ _ h1, Option.bind_some]; exact h
              · cases h
theorem PT_more {n k : Nat} {nt : NT} {g : List ByteArray} {l : List Tk} {r : T × List Tk} (h : PT n nt g l = some r) (hk : n ≤ k) : PT k nt g l = some r := by
  induction k with
  | zero => obtain rfl : n = 0 := by omega
            exact h
  | succ k ih =>
    by_cases e : n = k + 1
    · rw [← e]; exact h
    · exact PT_mono _ _ _ _ _ (ih (by omega))

/-- Signs that go on with nothing. -/
structure Term (r : List Tk) : Prop where
  b : beg r = false
  k1 : hd ⟨#[108, 101, 116]⟩ r = false
  k2 : hd ⟨#[92]⟩ r = false
  k3 : hd ⟨#[105, 102]⟩ r = false
  o1 : hd ⟨#[58]⟩ r = false
  o2 : hd ⟨#[61]⟩ r = false
  o3 : hd ⟨#[60]⟩ r = false
  o4 : hd ⟨#[43]⟩ r = false
  o5 : hd ⟨#[45]⟩ r = false
  o6 : hd ⟨#[42]⟩ r = false
theorem hd_app {x : ByteArray} {r : List Tk} (hr : hd x r = false) (l : List Tk) : hd x (l ++ r) = hd x l := by
  cases l with
  | nil => exact hr
  | cons k l => cases k <;> rfl
theorem hd_app' {x : ByteArray} {l : List Tk} (hl : hd x l = true) (r : List Tk) : hd x (l ++ r) = true ∧ (l ++ r).tail = l.tail ++ r ∧ opT (l ++ r) = opT l := by
  cases l with
  | nil => cases hl
  | cons k l => cases k <;> first | cases hl | exact ⟨hl, rfl, rfl⟩
theorem beg_app {r : List Tk} (hr : beg r = false) (l : List Tk) : beg (l ++ r) = beg l := by
  cases l with
  | nil => exact hr
  | cons k l => cases k <;> rfl
theorem eat_app {x : ByteArray} {l l' : List Tk} (h : eat x l = some l') (r : List Tk) : eat x (l ++ r) = some (l' ++ r) := by
  obtain ⟨h1, rfl⟩ := eat_ok h
  obtain ⟨h2, h3, _⟩ := hd_app' h1 r
  unfold eat; rw [if_pos h2, h3]
theorem eatName_app {l : List Tk} {y : ByteArray × List Tk} (h : eatName l = some y) (r : List Tk) : eatName (l ++ r) = some (y.1, y.2 ++ r) := by
  cases l with
  | nil => cases h
  | cons k l => cases k <;> first | (cases h; done) | (cases h; rfl)

theorem PT_ext {e : List Tk} (he : Term e) : ∀ (n : Nat) (nt : NT) (g : List ByteArray) (l : List Tk) (t : T) (l' : List Tk), PT n nt g l = some (t, l') → PT n nt g (l ++ e) = some (t, l' ++ e) := by
  intro n
  induction n with
  | zero => intro nt g l t l' h; simp [PT] at h
  | succ n ih =>
    intro nt g l t l' h
    cases nt with
    | expr =>
      rw [PT] at h ⊢
      rw [hd_app he.k1, hd_app he.k2, hd_app he.k3]
      split at h
      · rename_i hx
        rw [if_pos hx, (hd_app' hx e).2.1]
        obtain ⟨y, h1, h⟩ := Option.bind_eq_some_iff.1 h
        obtain ⟨l2, h2, h⟩ := Option.bind_eq_some_iff.1 h
        obtain ⟨r1, h3, h⟩ := Option.bind_eq_some_iff.1 h
        obtain ⟨l3, h4, h⟩ := Option.bind_eq_some_iff.1 h
        obtain ⟨q, h5, h⟩ := Option.bind_eq_some_iff.1 h
        cases h
        rw [eatName_app h1, Option.bind_some, eat_app h2, Option.bind_some, ih _ _ _ r1.1 r1.2 h3, Option.bind_some, eat_app h4, Option.bind_some, ih _ _ _ q.1 q.2 h5]; rfl
      · rename_i hx
        rw [if_neg hx]
        split at h
        · rename_i hx
          rw [if_pos hx, (hd_app' hx e).2.1]
          obtain ⟨y, h1, h⟩ := Option.bind_eq_some_iff.1 h
          obtain ⟨l2, h2, h⟩ := Option.bind_eq_some_iff.1 h
          obtain ⟨r1, h3, h⟩ := Option.bind_eq_some_iff.1 h
          cases h
          rw [eatName_app h1, Option.bind_some, eat_app h2, Option.bind_some, ih _ _ _ r1.1 r1.2 h3]; rfl
        · rename_i hx
          rw [if_neg hx]
          split at h
          · rename_i hx
            rw [if_pos hx, (hd_app' hx e).2.1]
            obtain ⟨r1, h1, h⟩ := Option.bind_eq_some_iff.1 h
            obtain ⟨l2, h2, h⟩ := Option.bind_eq_some_iff.1 h
            obtain ⟨q, h3, h⟩ := Option.bind_eq_some_iff.1 h
            obtain ⟨l3, h4, h⟩ := Option.bind_eq_some_iff.1 h
            obtain ⟨p, h5, h⟩ := Option.bind_eq_some_iff.1 h
            cases h
            rw [ih _ _ _ r1.1 r1.2 h1, Option.bind_some, eat_app h2, Option.bind_some, ih _ _ _ q.1 q.2 h3, Option.bind_some, eat_app h4, Option.bind_some, ih _ _ _ p.1 p.2 h5]; rfl
          · rename_i hx
            rw [if_neg hx]
            exact ih _ _ _ _ _ h
    | list =>
      rw [PT] at h ⊢
      obtain ⟨r1, h1, h⟩ := Option.bind_eq_some_iff.1 h
      rw [ih _ _ _ r1.1 r1.2 h1, Option.bind_some]
      simp only [hd_app he.o1]
      split at h
      · rename_i hx
        rw [if_pos hx, (hd_app' hx e).2.1]
        obtain ⟨q, h2, h⟩ := Option.bind_eq_some_iff.1 h
        cases h
        rw [ih _ _ _ q.1 q.2 h2]; rfl
      · rename_i hx
        rw [if_neg hx]; cases h; rfl
    | order =>
      rw [PT] at h ⊢
      obtain ⟨r1, h1, h⟩ := Option.bind_eq_some_iff.1 h
      rw [ih _ _ _ r1.1 r1.2 h1, Option.bind_some]
      simp only [hd_app he.o2, hd_app he.o3]
      split at h
      · rename_i hx
        have hz : ∃ x, hd x r1.2 = true := by
          rcases Bool.or_eq_true _ _ |>.mp hx with h | h
          · exact ⟨_, h⟩
          · exact ⟨_, h⟩
        obtain ⟨z, hz⟩ := hz
        rw [if_pos hx, (hd_app' hz e).2.1, (hd_app' hz e).2.2]
        obtain ⟨q, h2, h⟩ := Option.bind_eq_some_iff.1 h
        cases h
        rw [ih _ _ _ q.1 q.2 h2]; rfl
      · rename_i hx
        rw [if_neg hx]; cases h; rfl
    | sum =>
      rw [PT] at h ⊢
      obtain ⟨r1, h1, h⟩ := Option.bind_eq_some_iff.1 h
      rw [ih _ _ _ r1.1 r1.2 h1, Option.bind_some]; exact ih _ _ _ _ _ h
    | prod =>
      rw [PT] at h ⊢
      obtain ⟨r1, h1, h⟩ := Option.bind_eq_some_iff.1 h
      rw [ih _ _ _ r1.1 r1.2 h1, Option.bind_some]; exact ih _ _ _ _ _ h
    | use =>
      rw [PT] at h ⊢
      obtain ⟨r1, h1, h⟩ := Option.bind_eq_some_iff.1 h
      rw [ih _ _ _ r1.1 r1.2 h1, Option.bind_some]; exact ih _ _ _ _ _ h
    | sumL a =>
      rw [PT] at h ⊢
      rw [hd_app he.o4, hd_app he.o5]
      split at h
      · rename_i hx
        have hz : ∃ x, hd x l = true := by
          rcases Bool.or_eq_true _ _ |>.mp hx with h | h
          · exact ⟨_, h⟩
          · exact ⟨_, h⟩
        obtain ⟨z, hz⟩ := hz
        rw [if_pos hx, (hd_app' hz e).2.1, (hd_app' hz e).2.2]
        obtain ⟨r1, h1, h⟩ := Option.bind_eq_some_iff.1 h
        rw [ih _ _ _ r1.1 r1.2 h1, Option.bind_some]; exact ih _ _ _ _ _ h
      · rename_i hx
        rw [if_neg hx]; cases h; rfl
    | prodL a =>
      rw [PT] at h ⊢
      rw [hd_app he.o6]
      split at h
      · rename_i hx
        rw [if_pos hx, (hd_app' hx e).2.1]
        obtain ⟨r1, h1, h⟩ := Option.bind_eq_some_iff.1 h
        rw [ih _ _ _ r1.1 r1.2 h1, Option.bind_some]; exact ih _ _ _ _ _ h
      · rename_i hx
        rw [if_neg hx]; cases h; rfl
    | useL a =>
      rw [PT] at h ⊢
      rw [beg_app he.b]
      split at h
      · rename_i hx
        rw [if_pos hx]
        obtain ⟨r1, h1, h⟩ := Option.bind_eq_some_iff.1 h
        rw [ih _ _ _ r1.1 r1.2 h1, Option.bind_some]; exact ih _ _ _ _ _ h
      · rename_i hx
        rw [if_neg hx]; cases h; rfl
    | atom =>
      cases l with
      | nil => simp [PT] at h
      | cons k l =>
        cases k with
        | num x => simp only [PT, List.cons_append] at h ⊢; cases h; rfl
        | name x =>
          simp only [PT, List.cons_append] at h ⊢
          obtain ⟨i, h1, h⟩ := Option.bind_eq_some_iff.1 h
          cases h; rw [h1]; rfl
        | tree x => simp only [PT, List.cons_append] at h ⊢; cases h; rfl
        | bad => simp [PT] at h
        | sym x =>
          simp only [PT, List.cons_append] at h ⊢
          split at h
          · rename_i hx
            rw [if_pos hx]; cases h; rfl
          · rename_i hx
            rw [if_neg hx]
            split at h
            · rename_i hx
              rw [if_pos hx]
              obtain ⟨r1, h1, h⟩ := Option.bind_eq_some_iff.1 h
              obtain ⟨l2, h2, h⟩ := Option.bind_eq_some_iff.1 h
              cases h
              rw [ih _ _ _ r1.1 r1.2 h1, Option.bind_some, eat_app h2]; rfl
            · rename_i hx
              rw [if_neg hx]
              split at h
              · rename_i hx
                rw [if_pos hx]
                obtain ⟨r1, h1, h⟩ := Option.bind_eq_some_iff.1 h
                cases h
                rw [ih _ _ _ r1.1 r1.2 h1]; rfl
              · cases h

/-- Names about it: all levels are deeper. -/
def lftK (d : Nat) : Tk → Tk
  | .tree t => .tree (lft d t)
  | k => k
def lftN (d : Nat) : NT → NT
  | .sumL a => .sumL (lft d a) | .prodL a => .prodL (lft d a) | .useL a => .useL (lft d a)
  | .expr => .expr | .list => .list | .order => .order | .sum => .sum | .prod => .prod | .use => .use | .atom => .atom
theorem hd_lft (d : Nat) (x : ByteArray) (l : List Tk) : hd x (l.map (lftK d)) = hd x l := by
  cases l with
  | nil => rfl
  | cons k l => cases k <;> rfl
theorem beg_lft (d : Nat) (l : List Tk) : beg (l.map (lftK d)) = beg l := by
  cases l with
  | nil => rfl
  | cons k l => cases k <;> rfl
theorem op_lft (d : Nat) (l : List Tk) : opT (l.map (lftK d)) = opT l := by
  cases l with
  | nil => rfl
  | cons k l => cases k <;> rfl
theorem tail_lft (d : Nat) (l : List Tk) : (l.map (lftK d)).tail = l.tail.map (lftK d) := by cases l <;> rfl
theorem eat_lft (d : Nat) {x : ByteArray} {l l' : List Tk} (h : eat x l = some l') : eat x (l.map (lftK d)) = some (l'.map (lftK d)) := by
  obtain ⟨h1, rfl⟩ := eat_ok h
  unfold eat; rw [hd_lft, if_pos h1, tail_lft]
theorem eatName_lft (d : Nat) {l : List Tk} {y : ByteArray × List Tk} (h : eatName l = some y) : eatName (l.map (lftK d)) = some (y.1, y.2.map (lftK d)) := by
  cases l with
  | nil => cases h
  | cons k l => cases k <;> first | (cases h; done) | (cases h; rfl)
theorem lastIdx_app (x : ByteArray) (g0 g : List ByteArray) (i : Nat) (h : lastIdx x g = some i) : lastIdx x (g0 ++ g) = some (i + g0.length) := by
  induction g0 with
  | nil => simpa using h
  | cons y r ih => simp only [List.cons_append, lastIdx, ih, List.length_cons]; congr 1

theorem PT_lft (g0 : List ByteArray) : ∀ (n : Nat) (nt : NT) (g : List ByteArray) (l : List Tk) (t : T) (l' : List Tk), PT n nt g l = some (t, l') →
    PT n (lftN g0.length nt) (g0 ++ g) (l.map (lftK g0.length)) = some (lft g0.length t, l'.map (lftK g0.length)) := by
  intro n
  induction n with
  | zero => intro nt g l t l' h; simp [PT] at h
  | succ n ih =>
    intro nt g l t l' h
    have hlen : (g0 ++ g).length = g.length + g0.length := by simp; omega
    cases nt with
    | expr =>
      rw [PT] at h
      rw [lftN, PT]
      rw [hd_lft, hd_lft, hd_lft, tail_lft]
      split at h
      · rename_i hx
        rw [if_pos hx]
        obtain ⟨y, h1, h⟩ := Option.bind_eq_some_iff.1 h
        obtain ⟨l2, h2, h⟩ := Option.bind_eq_some_iff.1 h
        obtain ⟨r1, h3, h⟩ := Option.bind_eq_some_iff.1 h
        obtain ⟨l3, h4, h⟩ := Option.bind_eq_some_iff.1 h
        obtain ⟨q, h5, h⟩ := Option.bind_eq_some_iff.1 h
        cases h
        have a3 := ih .expr _ _ r1.1 r1.2 h3
        have a5 := ih .expr _ _ q.1 q.2 h5
        rw [lftN, ← List.append_assoc] at a3 a5
        rw [eatName_lft _ h1, Option.bind_some, eat_lft _ h2, Option.bind_some, a3, Option.bind_some, eat_lft _ h4, Option.bind_some, a5, hlen]; rfl
      · rename_i hx
        rw [if_neg hx]
        split at h
        · rename_i hx
          rw [if_pos hx]
          obtain ⟨y, h1, h⟩ := Option.bind_eq_some_iff.1 h
          obtain ⟨l2, h2, h⟩ := Option.bind_eq_some_iff.1 h
          obtain ⟨r1, h3, h⟩ := Option.bind_eq_some_iff.1 h
          cases h
          have a3 := ih .expr _ _ r1.1 r1.2 h3
          rw [lftN, ← List.append_assoc] at a3
          rw [eatName_lft _ h1, Option.bind_some, eat_lft _ h2, Option.bind_some, a3, hlen]; rfl
        · rename_i hx
          rw [if_neg hx]
          split at h
          · rename_i hx
            rw [if_pos hx]
            obtain ⟨r1, h1, h⟩ := Option.bind_eq_some_iff.1 h
            obtain ⟨l2, h2, h⟩ := Option.bind_eq_some_iff.1 h
            obtain ⟨q, h3, h⟩ := Option.bind_eq_some_iff.1 h
            obtain ⟨l3, h4, h⟩ := Option.bind_eq_some_iff.1 h
            obtain ⟨p, h5, h⟩ := Option.bind_eq_some_iff.1 h
            cases h
            have a1 := ih .expr _ _ r1.1 r1.2 h1
            have a3 := ih .expr _ _ q.1 q.2 h3
            have a5 := ih .expr _ _ p.1 p.2 h5
            rw [lftN] at a1 a3 a5
            rw [a1, Option.bind_some, eat_lft _ h2, Option.bind_some, a3, Option.bind_some, eat_lft _ h4, Option.bind_some, a5]; rfl
          · rename_i hx
            rw [if_neg hx]
            exact ih .list _ _ _ _ h
    | list =>
      rw [PT] at h
      rw [lftN, PT]
      obtain ⟨r1, h1, h⟩ := Option.bind_eq_some_iff.1 h
      have a1 := ih .order _ _ r1.1 r1.2 h1
      rw [lftN] at a1
      rw [a1, Option.bind_some]
      simp only [hd_lft, tail_lft]
      split at h
      · rename_i hx
        rw [if_pos hx]
        obtain ⟨q, h2, h⟩ := Option.bind_eq_some_iff.1 h
        cases h
        have a2 := ih .list _ _ q.1 q.2 h2
        rw [lftN] at a2
        rw [a2]; rfl
      · rename_i hx
        rw [if_neg hx]; cases h; rfl
    | order =>
      rw [PT] at h
      rw [lftN, PT]
      obtain ⟨r1, h1, h⟩ := Option.bind_eq_some_iff.1 h
      have a1 := ih .sum _ _ r1.1 r1.2 h1
      rw [lftN] at a1
      rw [a1, Option.bind_some]
      simp only [hd_lft, tail_lft, op_lft]
      split at h
      · rename_i hx
        rw [if_pos hx]
        obtain ⟨q, h2, h⟩ := Option.bind_eq_some_iff.1 h
        cases h
        have a2 := ih .sum _ _ q.1 q.2 h2
        rw [lftN] at a2
        rw [a2]; rfl
      · rename_i hx
        rw [if_neg hx]; cases h; rfl
    | sum =>
      rw [PT] at h
      rw [lftN, PT]
      obtain ⟨r1, h1, h⟩ := Option.bind_eq_some_iff.1 h
      have a1 := ih .prod _ _ r1.1 r1.2 h1
      rw [lftN] at a1
      rw [a1, Option.bind_some]; exact ih _ _ _ _ _ h
    | prod =>
      rw [PT] at h
      rw [lftN, PT]
      obtain ⟨r1, h1, h⟩ := Option.bind_eq_some_iff.1 h
      have a1 := ih .use _ _ r1.1 r1.2 h1
      rw [lftN] at a1
      rw [a1, Option.bind_some]; exact ih _ _ _ _ _ h
    | use =>
      rw [PT] at h
      rw [lftN, PT]
      obtain ⟨r1, h1, h⟩ := Option.bind_eq_some_iff.1 h
      have a1 := ih .atom _ _ r1.1 r1.2 h1
      rw [lftN] at a1
      rw [a1, Option.bind_some]; exact ih _ _ _ _ _ h
    | sumL a =>
      rw [PT] at h
      rw [lftN, PT]
      rw [hd_lft, hd_lft, tail_lft, op_lft]
      split at h
      · rename_i hx
        rw [if_pos hx]
        obtain ⟨r1, h1, h⟩ := Option.bind_eq_some_iff.1 h
        have a1 := ih .prod _ _ r1.1 r1.2 h1
        rw [lftN] at a1
        rw [a1, Option.bind_some]; exact ih _ _ _ _ _ h
      · rename_i hx
        rw [if_neg hx]; cases h; rfl
    | prodL a =>
      rw [PT] at h
      rw [lftN, PT]
      rw [hd_lft, tail_lft]
      split at h
      · rename_i hx
        rw [if_pos hx]
        obtain ⟨r1, h1, h⟩ := Option.bind_eq_some_iff.1 h
        have a1 := ih .use _ _ r1.1 r1.2 h1
        rw [lftN] at a1
        rw [a1, Option.bind_some]; exact ih _ _ _ _ _ h
      · rename_i hx
        rw [if_neg hx]; cases h; rfl
    | useL a =>
      rw [PT] at h
      rw [lftN, PT]
      rw [beg_lft]
      split at h
      · rename_i hx
        rw [if_pos hx]
        obtain ⟨r1, h1, h⟩ := Option.bind_eq_some_iff.1 h
        have a1 := ih .atom _ _ r1.1 r1.2 h1
        rw [lftN] at a1
        rw [a1, Option.bind_some]; exact ih _ _ _ _ _ h
      · rename_i hx
        rw [if_neg hx]; cases h; rfl
    | atom =>
      rw [lftN]
      cases l with
      | nil => simp [PT] at h
      | cons k l =>
        cases k with
        | num x => simp only [PT, List.map_cons, lftK] at h ⊢; cases h; rfl
        | name x =>
          simp only [PT, List.map_cons, lftK] at h ⊢
          obtain ⟨i, h1, h⟩ := Option.bind_eq_some_iff.1 h
          cases h; rw [lastIdx_app _ _ _ _ h1]; rfl
        | tree x => simp only [PT, List.map_cons, lftK] at h ⊢; cases h; rfl
        | bad => simp [PT] at h
        | sym x =>
          simp only [PT, List.map_cons, lftK] at h ⊢
          split at h
          · rename_i hx
            rw [if_pos hx]; cases h; rfl
          · rename_i hx
            rw [if_neg hx]
            split at h
            · rename_i hx
              rw [if_pos hx]
              obtain ⟨r1, h1, h⟩ := Option.bind_eq_some_iff.1 h
              obtain ⟨l2, h2, h⟩ := Option.bind_eq_some_iff.1 h
              cases h
              have a1 := ih .expr _ _ r1.1 r1.2 h1
              rw [lftN] at a1
              rw [a1, Option.bind_some, eat_lft _ h2]; rfl
            · rename_i hx
              rw [if_neg hx]
              split at h
              · rename_i hx
                rw [if_pos hx]
                obtain ⟨r1, h1, h⟩ := Option.bind_eq_some_iff.1 h
                cases h
                have a1 := ih .atom _ _ r1.1 r1.2 h1
                rw [lftN] at a1
                rw [a1]; rfl
              · cases h
end Skein

namespace Skein

theorem lex_special (x : ByteArray) (hx : mem specials x = true) : mem words x = true ∨ ∃ h : 0 < x.size, isDig x[0] = false ∧ isLet x[0] = false := by
  simp only [mem, specials, List.any_cons, List.any_nil, Bool.or_eq_true, Bool.or_false] at hx
  rcases hx with h | h | h | h | h | h | h | h | h | h | h | h | h | h | h | h | h | h | h
  all_goals
    have e := eqb_iff.1 h
    subst e
    first | (left; decide) | (right; exact ⟨by decide, by decide, by decide⟩)

theorem extract_head {s : ByteArray} {a k : Nat} (h : a < s.size) (hk : 0 < k) : ∃ h0 : 0 < (s.extract a (a + k)).size, (s.extract a (a + k))[0] = s[a] := by
  have h0 : 0 < (s.extract a (a + k)).size := by rw [ByteArray.size_extract]; omega
  refine ⟨h0, ?_⟩
  simp [ByteArray.getElem_extract]

/-- Every sign is one that the list can tell. -/
theorem tok_kind (s : ByteArray) (i : Nat) (hi : i ≤ s.size) : ((tok s i).k = .eof ∧ (tok s i).text = ⟨#[]⟩) ∨ ((tok s i).k = .bad ∧ (tok s i).text = ⟨#[]⟩) ∨ ((tok s i).k = .num ∧ mem specials (tok s i).text = false ∧ 0 < (tok s i).text.size) ∨ ((tok s i).k = .name ∧ mem specials (tok s i).text = false ∧ 0 < (tok s i).text.size) ∨ ((tok s i).k = .sym ∧ 0 < (tok s i).text.size) := by
  have h1 := skip_le s i hi
  unfold tok tokAt
  split
  · rename_i h
    have hsz : ∀ k, 0 < k → 0 < (s.extract (skip s i) (skip s i + k)).size := fun k hk => (extract_head h hk).1
    split
    · rename_i hd
      have hr : 0 < runLen s false (skip s i) := runLen_pos s false _ h (by simp [fits, hd])
      split
      · exact .inr (.inl ⟨rfl, rfl⟩)
      · refine .inr (.inr (.inl ⟨rfl, ?_, hsz _ hr⟩))
        obtain ⟨h0, e0⟩ := extract_head h hr
        cases hm : mem specials (s.extract (skip s i) (skip s i + runLen s false (skip s i))) with
        | false => rfl
        | true =>
          exfalso
          rcases lex_special _ hm with hw | ⟨_, hd2, _⟩
          · simp only [mem, words, List.any_cons, List.any_nil, Bool.or_eq_true, Bool.or_false] at hw
            have key : ∀ y : ByteArray, ∀ hy : 0 < y.size, isDig y[0] = false → eqb y (s.extract (skip s i) (skip s i + runLen s false (skip s i))) = true → False := by
              intro y hy hyd he
              have e := eqb_iff.1 he
              subst e
              rw [e0] at hyd; rw [hd] at hyd; cases hyd
            rcases hw with h | h | h | h | h | h | h | h
            all_goals exact key _ (by decide) (by decide) h
          · rw [e0, hd] at hd2; cases hd2
    · rename_i hd
      split
      · rename_i hl
        have hr : 0 < runLen s true (skip s i) := runLen_pos s true _ h (by simp [fits, hl])
        split
        · exact .inr (.inl ⟨rfl, rfl⟩)
        · split
          · exact .inr (.inr (.inr (.inr ⟨rfl, hsz _ hr⟩)))
          · rename_i hnw
            refine .inr (.inr (.inr (.inl ⟨rfl, ?_, hsz _ hr⟩)))
            obtain ⟨h0, e0⟩ := extract_head h hr
            cases hm : mem specials (s.extract (skip s i) (skip s i + runLen s true (skip s i))) with
            | false => rfl
            | true =>
              exfalso
              rcases lex_special _ hm with hw | ⟨_, _, hl2⟩
              · exact hnw hw
              · rw [e0, hl] at hl2; cases hl2
      · split
        · split
          · split
            · exact .inr (.inr (.inr (.inr ⟨rfl, hsz 2 (by omega)⟩)))
            · exact .inr (.inl ⟨rfl, rfl⟩)
          · exact .inr (.inl ⟨rfl, rfl⟩)
        · split
          · exact .inr (.inr (.inr (.inr ⟨rfl, hsz 1 (by omega)⟩)))
          · exact .inr (.inl ⟨rfl, rfl⟩)
  · exact .inl ⟨rfl, rfl⟩

theorem lex (s : ByteArray) : ∀ (n i : Nat), i ≤ s.size → s.size - i < n → ∃ l, Str s (tok s i) l := by
  intro n
  induction n with
  | zero => intro i _ h; omega
  | succ n ih =>
    intro i hi hn
    have hb := tok_behind s i hi
    have ha : i ≤ (tok s i).at_ := by rw [tok_at]; exact skip_ge s i
    rcases tok_kind s i hi with h | h | ⟨h1, h2, h3⟩ | ⟨h1, h2, h3⟩ | ⟨h1, h3⟩
    · exact ⟨[], h⟩
    · exact ⟨[.bad], h.1, h.2, rfl⟩
    · obtain ⟨l, hl⟩ := ih ((tok s i).at_ + (tok s i).text.size) hb (by omega)
      exact ⟨.num (tok s i).text :: l, h1, rfl, h2, hl⟩
    · obtain ⟨l, hl⟩ := ih ((tok s i).at_ + (tok s i).text.size) hb (by omega)
      exact ⟨.name (tok s i).text :: l, h1, rfl, h2, hl⟩
    · obtain ⟨l, hl⟩ := ih ((tok s i).at_ + (tok s i).text.size) hb (by omega)
      exact ⟨.sym (tok s i).text :: l, h1, rfl, h3, hl⟩

theorem Str.lft {s : ByteArray} (d : Nat) : ∀ (l : List Tk) (t : Tok), Str s t l → l.map (lftK d) = l := by
  intro l
  induction l with
  | nil => intro t _; rfl
  | cons k r ih =>
    intro t h
    cases k with
    | num x => simp only [List.map_cons, lftK]; rw [ih _ h.2.2.2]
    | name x => simp only [List.map_cons, lftK]; rw [ih _ h.2.2.2]
    | sym x => simp only [List.map_cons, lftK]; rw [ih _ h.2.2.2]
    | bad => rw [h.2.2]; rfl
    | tree t => exact h.elim

theorem none_of {o : Option Nat} (h : ¬ o.isSome = true) : o = none := by cases o <;> simp_all
theorem back_none {m m' : M} (h : m.bad.isSome = true → m'.bad.isSome = true) (hb : m'.bad = none) : m.bad = none := by
  cases e : m.bad with
  | none => rfl
  | some q => have := h (by rw [e]; rfl); rw [hb] at this; cases this
theorem PM_bk {s : ByteArray} {n : Nat} {nt : NT} {m : M} {r : T × M} (h : PM s n nt m = some r) (hb : r.2.bad = none) : m.bad = none := back_none (PM_sticky s n nt m r h) hb
theorem want_bk {s x : ByteArray} {m : M} (h : (m.want s x).bad = none) : m.bad = none := back_none (want_bad s x m) h
theorem gives_bk {s : ByteArray} {m : M} (h : (m.gives s).2.bad = none) : m.bad = none := back_none (gives_bad s m) h

theorem want_back' {s x : ByteArray} {m : M} {l : List Tk} (h : (m.want s x).bad = none) (hs : Str s m.tok l) (hx : mem specials x = true) (h0 : 0 < x.size) : eat x l = some l.tail ∧ m.want s x = m.adv s ∧ Str s (m.adv s).tok l.tail := by
  have hb := want_bk h
  have he := hd_has hb hs hx h0
  unfold M.want at h ⊢
  cases hh : m.has x with
  | false => rw [hh] at h; simp at h
  | true =>
    rw [hh] at he
    refine ⟨by unfold eat; rw [← he]; rfl, rfl, hd_step hs he.symm⟩
theorem gives_back' {s : ByteArray} {m : M} {l : List Tk} (h : (m.gives s).2.bad = none) (hs : Str s m.tok l) : ∃ y, eatName l = some y ∧ m.gives s = (y.1, m.adv s) ∧ Str s (m.adv s).tok y.2 := by
  have hb := gives_bk h
  unfold M.gives at h ⊢
  rw [hb] at h ⊢
  cases hk : m.tok.k == K.name with
  | false => rw [hk] at h; simp at h
  | true =>
    have hk' : m.tok.k = K.name := by simpa using hk
    cases l with
    | nil => rw [hs.1] at hk'; cases hk'
    | cons k r =>
      cases k with
      | name x => exact ⟨(x, r), rfl, by rw [hs.2.1]; rfl, hs.2.2.2⟩
      | num x => rw [hs.1] at hk'; cases hk'
      | sym x => rw [hs.1] at hk'; cases hk'
      | bad => rw [hs.1] at hk'; cases hk'
      | tree t => exact hs.elim

/-- No name that stands for nothing. -/
def NoFree : T → Prop
  | .free => False
  | .letE _ a b => NoFree a ∧ NoFree b
  | .fn _ a => NoFree a
  | .ite a b c => NoFree a ∧ NoFree b ∧ NoFree c
  | .app a b => NoFree a ∧ NoFree b
  | .un _ a => NoFree a
  | .bin _ a b => NoFree a ∧ NoFree b
  | _ => True
def accF : NT → Prop
  | .sumL a => NoFree a | .prodL a => NoFree a | .useL a => NoFree a | _ => True

theorem acc_free (s : ByteArray) : ∀ (n : Nat) (nt : NT) (m : M) (r : T × M), PM s n nt m = some r → NoFree r.1 → accF nt := by
  intro n
  induction n with
  | zero => intro nt m r h; simp [PM] at h
  | succ n ih =>
    intro nt m r h hf
    cases nt with
    | sumL a =>
      simp only [PM] at h
      split at h
      · obtain ⟨r1, h1, h⟩ := Option.bind_eq_some_iff.1 h
        exact (ih _ _ _ h hf).1
      · cases h; exact hf
    | prodL a =>
      simp only [PM] at h
      split at h
      · obtain ⟨r1, h1, h⟩ := Option.bind_eq_some_iff.1 h
        exact (ih _ _ _ h hf).1
      · cases h; exact hf
    | useL a =>
      simp only [PM] at h
      split at h
      · obtain ⟨r1, h1, h⟩ := Option.bind_eq_some_iff.1 h
        exact (ih _ _ _ h hf).1
      · cases h; exact hf
    | _ => trivial

theorem PM_PT (s : ByteArray) : ∀ (n : Nat) (nt : NT) (m : M) (r : T × M), PM s n nt m = some r → r.2.bad = none → NoFree r.1 → ∀ l, Str s m.tok l → ∃ l', PT n nt m.given l = some (r.1, l') ∧ Str s r.2.tok l' := by
  intro n
  induction n with
  | zero => intro nt m r h; simp [PM] at h
  | succ n ih =>
    intro nt m r h hb hf l hs
    have hm := PM_bk h hb
    have hbs : m.bad.isSome = false := by rw [hm]; rfl
    cases nt with
    | expr =>
      simp only [PM, hbs, Bool.false_eq_true, if_false] at h
      rw [hd_eqb hs (x := ⟨#[108, 101, 116]⟩) (by decide) (by decide), hd_eqb hs (x := ⟨#[92]⟩) (by decide) (by decide), hd_eqb hs (x := ⟨#[105, 102]⟩) (by decide) (by decide)] at h
      rw [PT]
      split at h
      · rename_i hx
        rw [if_pos hx]
        obtain ⟨r1, h1, h⟩ := Option.bind_eq_some_iff.1 h
        obtain ⟨q, h2, h⟩ := Option.bind_eq_some_iff.1 h
        cases h
        have b2 := PM_bk h2 hb
        have b1 := want_bk b2
        have b0 := PM_bk h1 b1
        have s0 := hd_step hs hx
        obtain ⟨y, e1, g1, s1⟩ := gives_back' (m := m.adv s) (want_bk b0) s0
        rw [g1] at h1 b0
        obtain ⟨e2, g2, s2⟩ := want_back' (m := (m.adv s).adv s) b0 s1 (by decide) (by decide)
        rw [g2] at h1
        have k1 := (PM_keeps s n _ _ _ h1).2
        obtain ⟨l3, p1, s3⟩ := ih _ _ _ h1 b1 hf.1 _ s2
        obtain ⟨e3, g3, s4⟩ := want_back' b2 s3 (by decide) (by decide)
        rw [g3] at h2
        obtain ⟨l4, p2, s5⟩ := ih _ _ _ h2 hb hf.2 _ s4
        rw [adv_given, k1] at p2
        simp only [push_given, adv_given] at p1 p2
        rw [e1, Option.bind_some, e2, Option.bind_some, p1, Option.bind_some, e3, Option.bind_some, p2]
        exact ⟨l4, rfl, s5⟩
      · rename_i hx
        rw [if_neg hx]
        split at h
        · rename_i hx
          rw [if_pos hx]
          obtain ⟨r1, h1, h⟩ := Option.bind_eq_some_iff.1 h
          cases h
          have b1 : r1.2.bad = none := hb
          have b0 := PM_bk h1 b1
          have s0 := hd_step hs hx
          obtain ⟨y, e1, g1, s1⟩ := gives_back' (m := m.adv s) (want_bk b0) s0
          rw [g1] at h1 b0
          obtain ⟨e2, g2, s2⟩ := want_back' (m := (m.adv s).adv s) b0 s1 (by decide) (by decide)
          rw [g2] at h1
          obtain ⟨l3, p1, s3⟩ := ih _ _ _ h1 b1 hf _ s2
          simp only [push_given, adv_given] at p1
          rw [e1, Option.bind_some, e2, Option.bind_some, p1]
          exact ⟨l3, rfl, s3⟩
        · rename_i hx
          rw [if_neg hx]
          split at h
          · rename_i hx
            rw [if_pos hx]
            obtain ⟨r1, h1, h⟩ := Option.bind_eq_some_iff.1 h
            obtain ⟨q, h2, h⟩ := Option.bind_eq_some_iff.1 h
            obtain ⟨p, h3, h⟩ := Option.bind_eq_some_iff.1 h
            cases h
            have b3 := PM_bk h3 hb
            have b2 := want_bk b3
            have b1 := PM_bk h2 b2
            have b0 := want_bk b1
            have k1 := (PM_keeps s n _ _ _ h1).2
            obtain ⟨l1, p1, s1⟩ := ih _ _ _ h1 b0 hf.1 _ (hd_step hs hx)
            obtain ⟨e2, g2, s2⟩ := want_back' b1 s1 (by decide) (by decide)
            rw [g2] at h2
            have k2 := (PM_keeps s n _ _ _ h2).2
            obtain ⟨l2, p2, s3⟩ := ih _ _ _ h2 b2 hf.2.1 _ s2
            obtain ⟨e3, g3, s4⟩ := want_back' b3 s3 (by decide) (by decide)
            rw [g3] at h3
            obtain ⟨l3, p3, s5⟩ := ih _ _ _ h3 hb hf.2.2 _ s4
            simp only [adv_given, k1, k2] at p1 p2 p3
            rw [p1, Option.bind_some, e2, Option.bind_some, p2, Option.bind_some, e3, Option.bind_some, p3]
            exact ⟨l3, rfl, s5⟩
          · rename_i hx
            rw [if_neg hx]
            exact ih _ _ _ h hb hf l hs
    | list =>
      simp only [PM, hbs, Bool.false_eq_true, if_false] at h
      rw [PT]
      obtain ⟨r1, h1, h⟩ := Option.bind_eq_some_iff.1 h
      have k1 := (PM_keeps s n _ _ _ h1).2
      split at h
      · rename_i hx
        obtain ⟨q, h2, h⟩ := Option.bind_eq_some_iff.1 h
        cases h
        have b1 : r1.2.bad = none := PM_bk (m := r1.2.adv s) h2 hb
        obtain ⟨l1, p1, s1⟩ := ih _ _ _ h1 b1 hf.1 l hs
        rw [hd_has b1 s1 (by decide) (by decide)] at hx
        obtain ⟨l2, p2, s2⟩ := ih _ _ _ h2 hb hf.2 _ (hd_step s1 hx)
        rw [adv_given, k1] at p2
        rw [p1, Option.bind_some]
        simp only [hx, if_true, p2]
        exact ⟨l2, rfl, s2⟩
      · rename_i hx
        cases h
        obtain ⟨l1, p1, s1⟩ := ih _ _ _ h1 hb hf l hs
        rw [hd_has hb s1 (by decide) (by decide)] at hx
        rw [p1, Option.bind_some]
        simp only [hx]
        exact ⟨l1, rfl, s1⟩
    | order =>
      simp only [PM, hbs, Bool.false_eq_true, if_false] at h
      rw [PT]
      obtain ⟨r1, h1, h⟩ := Option.bind_eq_some_iff.1 h
      have k1 := (PM_keeps s n _ _ _ h1).2
      split at h
      · rename_i hx
        obtain ⟨q, h2, h⟩ := Option.bind_eq_some_iff.1 h
        cases h
        have b1 : r1.2.bad = none := PM_bk (m := r1.2.adv s) h2 hb
        obtain ⟨l1, p1, s1⟩ := ih _ _ _ h1 b1 hf.1 l hs
        rw [hd_has b1 s1 (x := ⟨#[61]⟩) (by decide) (by decide), hd_has b1 s1 (x := ⟨#[60]⟩) (by decide) (by decide)] at hx
        have hz : ∃ x, hd x l1 = true := by
          rcases Bool.or_eq_true _ _ |>.mp hx with h | h
          · exact ⟨_, h⟩
          · exact ⟨_, h⟩
        obtain ⟨z, hz⟩ := hz
        obtain ⟨l2, p2, s2⟩ := ih _ _ _ h2 hb hf.2 _ (hd_step s1 hz)
        rw [adv_given, k1] at p2
        rw [p1, Option.bind_some]
        simp only [hx, if_true, p2, ← op_text s1 hz]
        exact ⟨l2, rfl, s2⟩
      · rename_i hx
        cases h
        obtain ⟨l1, p1, s1⟩ := ih _ _ _ h1 hb hf l hs
        rw [hd_has hb s1 (x := ⟨#[61]⟩) (by decide) (by decide), hd_has hb s1 (x := ⟨#[60]⟩) (by decide) (by decide)] at hx
        rw [p1, Option.bind_some]
        simp only [hx]
        exact ⟨l1, rfl, s1⟩
    | sum =>
      simp only [PM, hbs, Bool.false_eq_true, if_false] at h
      rw [PT]
      obtain ⟨r1, h1, h⟩ := Option.bind_eq_some_iff.1 h
      have k1 := (PM_keeps s n _ _ _ h1).2
      have b1 := PM_bk h hb
      obtain ⟨l1, p1, s1⟩ := ih _ _ _ h1 b1 (acc_free s _ _ _ _ h hf) l hs
      obtain ⟨l2, p2, s2⟩ := ih _ _ _ h hb hf _ s1
      rw [k1] at p2
      rw [p1, Option.bind_some, p2]
      exact ⟨l2, rfl, s2⟩
    | prod =>
      simp only [PM, hbs, Bool.false_eq_true, if_false] at h
      rw [PT]
      obtain ⟨r1, h1, h⟩ := Option.bind_eq_some_iff.1 h
      have k1 := (PM_keeps s n _ _ _ h1).2
      have b1 := PM_bk h hb
      obtain ⟨l1, p1, s1⟩ := ih _ _ _ h1 b1 (acc_free s _ _ _ _ h hf) l hs
      obtain ⟨l2, p2, s2⟩ := ih _ _ _ h hb hf _ s1
      rw [k1] at p2
      rw [p1, Option.bind_some, p2]
      exact ⟨l2, rfl, s2⟩
    | use =>
      simp only [PM, hbs, Bool.false_eq_true, if_false] at h
      rw [PT]
      obtain ⟨r1, h1, h⟩ := Option.bind_eq_some_iff.1 h
      have k1 := (PM_keeps s n _ _ _ h1).2
      have b1 := PM_bk h hb
      obtain ⟨l1, p1, s1⟩ := ih _ _ _ h1 b1 (acc_free s _ _ _ _ h hf) l hs
      obtain ⟨l2, p2, s2⟩ := ih _ _ _ h hb hf _ s1
      rw [k1] at p2
      rw [p1, Option.bind_some, p2]
      exact ⟨l2, rfl, s2⟩
    | sumL a =>
      simp only [PM] at h
      rw [hd_has hm hs (x := ⟨#[43]⟩) (by decide) (by decide), hd_has hm hs (x := ⟨#[45]⟩) (by decide) (by decide)] at h
      rw [PT]
      split at h
      · rename_i hx
        have hz : ∃ x, hd x l = true := by
          rcases Bool.or_eq_true _ _ |>.mp hx with h | h
          · exact ⟨_, h⟩
          · exact ⟨_, h⟩
        obtain ⟨z, hz⟩ := hz
        rw [if_pos hx]
        obtain ⟨r1, h1, h⟩ := Option.bind_eq_some_iff.1 h
        have k1 := (PM_keeps s n _ _ _ h1).2
        have b1 := PM_bk h hb
        obtain ⟨l1, p1, s1⟩ := ih _ _ _ h1 b1 (acc_free s _ _ _ _ h hf).2 _ (hd_step hs hz)
        obtain ⟨l2, p2, s2⟩ := ih _ _ _ h hb hf _ s1
        rw [k1, adv_given, op_text hs hz] at p2
        rw [adv_given] at p1
        rw [p1, Option.bind_some, p2]
        exact ⟨l2, rfl, s2⟩
      · rename_i hx
        rw [if_neg hx]; cases h; exact ⟨l, rfl, hs⟩
    | prodL a =>
      simp only [PM] at h
      rw [hd_has hm hs (x := ⟨#[42]⟩) (by decide) (by decide)] at h
      rw [PT]
      split at h
      · rename_i hx
        rw [if_pos hx]
        obtain ⟨r1, h1, h⟩ := Option.bind_eq_some_iff.1 h
        have k1 := (PM_keeps s n _ _ _ h1).2
        have b1 := PM_bk h hb
        obtain ⟨l1, p1, s1⟩ := ih _ _ _ h1 b1 (acc_free s _ _ _ _ h hf).2 _ (hd_step hs hx)
        obtain ⟨l2, p2, s2⟩ := ih _ _ _ h hb hf _ s1
        rw [k1, adv_given] at p2
        rw [adv_given] at p1
        rw [p1, Option.bind_some, p2]
        exact ⟨l2, rfl, s2⟩
      · rename_i hx
        rw [if_neg hx]; cases h; exact ⟨l, rfl, hs⟩
    | useL a =>
      simp only [PM] at h
      rw [beg_begins hm hs] at h
      rw [PT]
      split at h
      · rename_i hx
        rw [if_pos hx]
        obtain ⟨r1, h1, h⟩ := Option.bind_eq_some_iff.1 h
        have k1 := (PM_keeps s n _ _ _ h1).2
        have b1 := PM_bk h hb
        obtain ⟨l1, p1, s1⟩ := ih _ _ _ h1 b1 (acc_free s _ _ _ _ h hf).2 _ hs
        obtain ⟨l2, p2, s2⟩ := ih _ _ _ h hb hf _ s1
        rw [k1] at p2
        rw [p1, Option.bind_some, p2]
        exact ⟨l2, rfl, s2⟩
      · rename_i hx
        rw [if_neg hx]; cases h; exact ⟨l, rfl, hs⟩
    | atom =>
      simp only [PM] at h
      rw [beg_begins hm hs] at h
      cases l with
      | nil => simp only [beg, Bool.false_eq_true, if_false, Option.some.injEq] at h; subst h; simp at hb
      | cons k l =>
        cases k with
        | bad => simp only [beg, Bool.false_eq_true, if_false, Option.some.injEq] at h; subst h; simp at hb
        | tree t => exact hs.elim
        | num x =>
          simp only [beg, if_true, hs.1, hs.2.1] at h
          rw [if_pos (by rfl)] at h
          cases h
          exact ⟨l, rfl, hs.2.2.2⟩
        | name x =>
          simp only [beg, if_true, hs.1] at h
          rw [if_neg (by decide), if_pos (by rfl)] at h
          unfold named at h
          rw [hs.2.1, adv_given] at h
          cases hl : lastIdx x m.given with
          | none => rw [hl] at h; cases h; exact hf.elim
          | some i => rw [hl] at h; cases h; exact ⟨l, by simp only [PT, hl]; rfl, hs.2.2.2⟩
        | sym x =>
          have hk : (m.tok.k == K.num) = false := by rw [hs.1]; rfl
          have hk2 : (m.tok.k == K.name) = false := by rw [hs.1]; rfl
          simp only [beg, hk, hk2, Bool.false_eq_true, if_false, hs.2.1] at h
          simp only [PT]
          split at h
          · rename_i ho
            split at h
            · rename_i hx
              rw [if_pos hx]; cases h; exact ⟨l, rfl, hs.2.2.2⟩
            · rename_i hx
              rw [if_neg hx]
              split at h
              · rename_i hx2
                rw [if_pos hx2]
                obtain ⟨r1, h1, h⟩ := Option.bind_eq_some_iff.1 h
                cases h
                have b1 := want_bk hb
                obtain ⟨l1, p1, s1⟩ := ih _ _ _ h1 b1 hf _ hs.2.2.2
                obtain ⟨e2, g2, s2⟩ := want_back' hb s1 (by decide) (by decide)
                rw [adv_given] at p1
                rw [p1, Option.bind_some, e2]
                exact ⟨l1.tail, rfl, by simp only [g2]; exact s2⟩
              · rename_i hx2
                rw [if_neg hx2, if_pos ho]
                obtain ⟨r1, h1, h⟩ := Option.bind_eq_some_iff.1 h
                cases h
                obtain ⟨l1, p1, s1⟩ := ih _ _ _ h1 hb hf _ hs.2.2.2
                rw [adv_given] at p1
                rw [p1]
                exact ⟨l1, rfl, s1⟩
          · simp only [Option.some.injEq] at h; subst h; simp at hb
end Skein

namespace Skein
open Go

/-- From i on, the text is l. -/
def D (s : ByteArray) (i : Nat) (l : List UInt8) : Prop := s.data.toList.drop i = l

theorem D.get {s : ByteArray} {i : Nat} {c : UInt8} {r : List UInt8} (h : D s i (c :: r)) : ∃ hi : i < s.size, s[i] = c := by
  unfold D at h
  have hl : i < s.data.toList.length := by
    rcases Nat.lt_or_ge i s.data.toList.length with h1 | h1
    · exact h1
    · rw [List.drop_eq_nil_of_le h1] at h; cases h
  rw [List.drop_eq_getElem_cons hl] at h
  have h2 := (List.cons.inj h).1
  refine ⟨by simpa using hl, ?_⟩
  rw [← h2]; simp [ByteArray.getElem_eq_getElem_data]
theorem D.app {s : ByteArray} {i : Nat} {l r : List UInt8} (h : D s i (l ++ r)) : D s (i + l.length) r := by
  unfold D at h ⊢
  rw [← List.drop_drop, h]; simp
theorem D.next {s : ByteArray} {i : Nat} {c : UInt8} {r : List UInt8} (h : D s i (c :: r)) : D s (i + 1) r := D.app (l := [c]) h
theorem D.stop {s : ByteArray} {i : Nat} (h : D s i []) : ¬ i < s.size := by
  unfold D at h
  have := List.drop_eq_nil_iff.1 h
  simpa using this
theorem D.extract {s : ByteArray} {i : Nat} {l r : List UInt8} (h : D s i (l ++ r)) : s.extract i (i + l.length) = ⟨l.toArray⟩ := by
  unfold D at h
  have e : (s.extract i (i + l.length)).data.toList = l := by
    simp [ByteArray.data_extract, Array.toList_extract, h]
  apply ByteArray.ext
  apply Array.ext'
  simpa using e

theorem skip_here {s : ByteArray} {i : Nat} {c : UInt8} {r : List UInt8} (h : D s i (c :: r)) (hb : isBlank c = false) : skip s i = i := by
  obtain ⟨hi, e⟩ := h.get
  rw [skip]; simp [hi, e, hb]
theorem skip_blank {s : ByteArray} {i : Nat} {c : UInt8} {r : List UInt8} (h : D s i (c :: r)) (hb : isBlank c = true) : skip s i = skip s (i + 1) := by
  obtain ⟨hi, e⟩ := h.get
  rw [skip]; simp [hi, e, hb]
theorem skip_end {s : ByteArray} {i : Nat} (h : D s i []) : skip s i = i := by
  rw [skip]; simp [h.stop]
theorem tok_blank {s : ByteArray} {i : Nat} {r : List UInt8} (h : D s i (32 :: r)) : tok s i = tok s (i + 1) := by
  unfold tok; rw [skip_blank h (by decide)]

/-- No sign of the run goes on behind it. -/
def Halts (letters : Bool) (r : List UInt8) : Prop := ∀ c q, r = c :: q → fits letters c = false

theorem runLen_is {s : ByteArray} (b : Bool) {r : List UInt8} (hr : Halts b r) : ∀ (ds : List UInt8) (i : Nat), D s i (ds ++ r) → (∀ c ∈ ds, fits b c = true) → runLen s b i = ds.length := by
  intro ds
  induction ds with
  | nil =>
    intro i h _
    rw [runLen]
    cases r with
    | nil => simp [D.stop (by simpa using h)]
    | cons c q =>
      obtain ⟨hi, e⟩ := D.get (by simpa using h)
      simp [hi, e, hr c q rfl]
  | cons c q ih =>
    intro i h hc
    obtain ⟨hi, e⟩ := D.get h
    rw [runLen]
    simp only [hi, e, hc c (by simp), dif_pos, if_true, List.length_cons]
    rw [ih (i + 1) (D.next h) (fun x hx => hc x (by simp [hx]))]; omega

theorem tok_num {s : ByteArray} {i : Nat} {ds r : List UInt8} (h : D s i (ds ++ r)) (h0 : ds ≠ []) (h9 : ds.length ≤ 9) (hd : ∀ c ∈ ds, isDig c = true) (hr : Halts false r) :
    tok s i = ⟨.num, ⟨ds.toArray⟩, i⟩ := by
  cases ds with
  | nil => exact absurd rfl h0
  | cons c q =>
    have hc := hd c (by simp)
    have hb : isBlank c = false := by
      simp only [isDig, isBlank, Bool.and_eq_true, decide_eq_true_eq, Bool.or_eq_false_iff, beq_eq_false_iff_ne] at hc ⊢
      refine ⟨⟨⟨?_, ?_⟩, ?_⟩, ?_⟩ <;> (rintro rfl; revert hc; decide)
    obtain ⟨hi, e⟩ := D.get h
    have hl := runLen_is false hr (c :: q) i h (fun x hx => by simp [fits, hd x hx])
    unfold tok; rw [skip_here h hb]
    unfold tokAt
    rw [dif_pos hi, e, hc, hl, D.extract h]
    simp only [if_true]
    rw [if_neg (by omega)]

theorem tok_mark {s : ByteArray} {i : Nat} {c : UInt8} {r : List UInt8} (h : D s i (c :: r)) (hc : isBlank c = false ∧ isDig c = false ∧ isLet c = false ∧ (c == 91) = false ∧ mem marks ⟨#[c]⟩ = true) :
    tok s i = ⟨.sym, ⟨#[c]⟩, i⟩ := by
  obtain ⟨hi, e⟩ := D.get h
  unfold tok; rw [skip_here h hc.1]
  unfold tokAt
  have hx : s.extract i (i + 1) = ⟨#[c]⟩ := D.extract (l := [c]) h
  rw [dif_pos hi, e, hx, hc.2.1, hc.2.2.1, hc.2.2.2.1, hc.2.2.2.2]
  simp

theorem tok_word {s : ByteArray} {i : Nat} {c : UInt8} {w r : List UInt8} (h : D s i ((c :: w) ++ r)) (hc : isBlank c = false ∧ isDig c = false ∧ isLet c = true) (h6 : (c :: w).length ≤ 6)
    (hw : ∀ x ∈ c :: w, fits true x = true) (hr : Halts true r) :
    tok s i = ⟨if mem words ⟨(c :: w).toArray⟩ then .sym else .name, ⟨(c :: w).toArray⟩, i⟩ := by
  obtain ⟨hi, e⟩ := D.get h
  have hl := runLen_is true hr (c :: w) i h hw
  unfold tok; rw [skip_here h hc.1]
  unfold tokAt
  rw [dif_pos hi, e, hc.2.1, hc.2.2, hl, D.extract h]
  rw [if_neg (by simp), if_pos rfl, if_neg (by omega)]
  split <;> rfl

theorem tok_end {s : ByteArray} {i : Nat} (h : D s i []) : tok s i = ⟨.eof, ⟨#[]⟩, i⟩ := by
  unfold tok; rw [skip_end h]; unfold tokAt; rw [dif_neg h.stop]

/-- What 'expression' makes. -/
inductive X where
  | num (ds : List UInt8)
  | op (sp : Bool) (o : UInt8) (a b : X)
  | ite (a b : X)

def X.txt : X → List UInt8
  | .num ds => ds
  | .op sp o a b => 40 :: (a.txt ++ ((if sp then [32, o, 32] else [o]) ++ (b.txt ++ [41])))
  | .ite a b => 40 :: ([105, 102] ++ (32 :: (a.txt ++ (32 :: ([116, 104, 101, 110] ++ (32 :: (b.txt ++ (32 :: ([101, 108, 115, 101] ++ (32 :: (a.txt ++ [41]))))))))))) 
def X.ok : X → Prop
  | .num ds => ds ≠ [] ∧ ds.length ≤ 9 ∧ ∀ c ∈ ds, isDig c = true
  | .op _ o a b => (o = 43 ∨ o = 45 ∨ o = 42 ∨ o = 61 ∨ o = 60) ∧ a.ok ∧ b.ok
  | .ite a b => a.ok ∧ b.ok
def X.tree : X → T
  | .num ds => .num (val ⟨ds.toArray⟩)
  | .op _ o a b => .bin o a.tree b.tree
  | .ite a b => .ite a.tree b.tree a.tree
def X.n : X → Int
  | .num ds => (val ⟨ds.toArray⟩ : Int)
  | .op _ o a b => reck o a.n b.n
  | .ite a b => if a.n == 0 then a.n else b.n
def X.fuel : X → Nat
  | .num _ => 1
  | .op _ _ a b => a.fuel + b.fuel + 1
  | .ite a b => a.fuel + b.fuel + 1

theorem X.no58 {x : X} (h : x.ok) : ∀ sp o a b, x = .op sp o a b → (o == 58) = false := by
  rintro sp o a b rfl
  rcases h.1 with e | e | e | e | e <;> rw [e] <;> rfl

/-- It is reckoned by no step, and leaves the heap. -/
theorem ev_X (L : Nat) : ∀ (x : X), x.ok → ∀ (n : Nat), x.fuel ≤ n → ∀ (env : List Nat) (S : E), ev L n (.need x.tree env) S = some (.ok (.num x.n), S) := by
  intro x
  induction x with
  | num ds =>
    intro _ n hn env S
    obtain ⟨n, rfl⟩ : ∃ k, n = k + 1 := ⟨n - 1, by simp [X.fuel] at hn; omega⟩
    rfl
  | op sp o a b iha ihb =>
    intro h n hn env S
    obtain ⟨n, rfl⟩ : ∃ k, n = k + 1 := ⟨n - 1, by simp [X.fuel] at hn; omega⟩
    simp only [X.fuel] at hn
    have h58 := X.no58 h sp o a b rfl
    simp only [X.tree, ev, h58, X.n]
    rw [iha h.2.1 n (by omega)]
    simp only [Option.bind_some, R.num]
    rw [ihb h.2.2 n (by omega)]
    simp
  | ite a b iha ihb =>
    intro h n hn env S
    obtain ⟨n, rfl⟩ : ∃ k, n = k + 1 := ⟨n - 1, by simp [X.fuel] at hn; omega⟩
    simp only [X.fuel] at hn
    simp only [X.tree, ev, X.n]
    rw [iha h.1 n (by omega)]
    simp only [Option.bind_some, R.num]
    split
    · rw [iha h.1 n (by omega)]
    · rw [ihb h.2 n (by omega)]
end Skein

namespace Skein
open Go

/-- The first sign of such a text: a number, or an open bracket. -/
theorem X.first {x : X} (h : x.ok) {s : ByteArray} {i : Nat} {r : List UInt8} (hd : D s i (x.txt ++ r)) (hr : Halts false r) :
    (∃ ds : List UInt8, x = .num ds ∧ tok s i = ⟨.num, ⟨ds.toArray⟩, i⟩) ∨ tok s i = ⟨.sym, ⟨#[40]⟩, i⟩ := by
  cases x with
  | num ds => exact .inl ⟨ds, rfl, tok_num hd h.1 h.2.1 h.2.2 hr⟩
  | op sp o a b => exact .inr (tok_mark (r := _) (c := 40) (by simpa [X.txt] using hd) (by decide))
  | ite a b => exact .inr (tok_mark (r := _) (c := 40) (by simpa [X.txt] using hd) (by decide))

/-- A sign that stands behind an atom and goes on with no other atom. -/
def Stop (t : Tok) : Prop := t.k ≠ .num ∧ t.k ≠ .name ∧ mem openers t.text = false
theorem Stop.no {t : Tok} (h : Stop t) {m : M} (e : m.tok = t) : m.begins = false := by
  unfold M.begins; rw [e]
  have h1 := h.1; have h2 := h.2.1
  simp [h.2.2, h1, h2]

def NoKey (t : Tok) : Prop := eqb t.text ⟨#[108, 101, 116]⟩ = false ∧ eqb t.text ⟨#[92]⟩ = false ∧ eqb t.text ⟨#[105, 102]⟩ = false

theorem dig_nokey {ds : List UInt8} (hd : ∀ c ∈ ds, isDig c = true) (l : List UInt8) (c : UInt8) (hc : c ∈ l) (hn : isDig c = false) : eqb ⟨ds.toArray⟩ ⟨l.toArray⟩ = false := by
  rw [eqb_ne]; intro e
  have e2 : ds = l := by
    have := congrArg (fun b : ByteArray => b.data.toList) e
    simpa using this
  subst e2
  rw [hd c hc] at hn; cases hn

theorem X.nokey {x : X} (h : x.ok) {s : ByteArray} {i : Nat} {r : List UInt8} (hd : D s i (x.txt ++ r)) (hr : Halts false r) : NoKey (tok s i) := by
  rcases X.first h hd hr with ⟨ds, rfl, e⟩ | e
  · rw [e]
    exact ⟨dig_nokey h.2.2 [108, 101, 116] 108 (by simp) (by decide), dig_nokey h.2.2 [92] 92 (by simp) (by decide), dig_nokey h.2.2 [105, 102] 105 (by simp) (by decide)⟩
  · rw [e]; exact ⟨rfl, rfl, rfl⟩

/-- An atom is read at m: it is t, and the reader stands at m'. -/
def Atom (s : ByteArray) (k : Nat) (m m' : M) (t : T) : Prop := ∀ n, k ≤ n → PM s n .atom m = some (t, m')

theorem use_of {s : ByteArray} {k : Nat} {m m' : M} {t : T} (h : Atom s k m m' t) (hb : m.bad = none) (hs : Stop m'.tok) : ∀ n, k + 1 ≤ n → 2 ≤ n → PM s n .use m = some (t, m') := by
  intro n hn h2
  obtain ⟨n, rfl⟩ : ∃ j, n = j + 2 := ⟨n - 2, by omega⟩
  rw [PM]; simp only [hb, Option.isSome_none, Bool.false_eq_true, if_false]
  rw [h (n + 1) (by omega)]
  simp only [Option.bind_some]
  rw [PM]; simp [hs.no rfl]

theorem prod_of {s : ByteArray} {k : Nat} {m m' : M} {t : T} (h : Atom s k m m' t) (hb : m.bad = none) (hs : Stop m'.tok) (h42 : m'.has ⟨#[42]⟩ = false) : ∀ n, k + 2 ≤ n → 3 ≤ n → PM s n .prod m = some (t, m') := by
  intro n hn h2
  obtain ⟨n, rfl⟩ : ∃ j, n = j + 2 := ⟨n - 2, by omega⟩
  rw [PM]; simp only [hb, Option.isSome_none, Bool.false_eq_true, if_false]
  rw [use_of h hb hs (n + 1) (by omega) (by omega)]
  simp only [Option.bind_some]
  rw [PM]; simp [h42]

theorem sum_of {s : ByteArray} {k : Nat} {m m' : M} {t : T} (h : Atom s k m m' t) (hb : m.bad = none) (hs : Stop m'.tok) (h42 : m'.has ⟨#[42]⟩ = false)
    (h43 : m'.has ⟨#[43]⟩ = false) (h45 : m'.has ⟨#[45]⟩ = false) : ∀ n, k + 3 ≤ n → 4 ≤ n → PM s n .sum m = some (t, m') := by
  intro n hn h2
  obtain ⟨n, rfl⟩ : ∃ j, n = j + 2 := ⟨n - 2, by omega⟩
  rw [PM]; simp only [hb, Option.isSome_none, Bool.false_eq_true, if_false]
  rw [prod_of h hb hs h42 (n + 1) (by omega) (by omega)]
  simp only [Option.bind_some]
  rw [PM]; simp [h43, h45]

/-- No sign of reckoning. -/
def Quiet (m : M) : Prop := m.bad = none ∧ Stop m.tok ∧ m.has ⟨#[42]⟩ = false ∧ m.has ⟨#[43]⟩ = false ∧ m.has ⟨#[45]⟩ = false ∧ m.has ⟨#[61]⟩ = false ∧ m.has ⟨#[60]⟩ = false ∧ m.has ⟨#[58]⟩ = false

theorem up_of {s : ByteArray} {n : Nat} {m m' : M} {t : T} (hb : m.bad = none) (hk : NoKey m.tok) (h : PM s n .order m = some (t, m')) (h58 : m'.has ⟨#[58]⟩ = false) : PM s (n + 2) .expr m = some (t, m') := by
  rw [PM]; simp only [hb, Option.isSome_none, Bool.false_eq_true, if_false, hk.1, hk.2.1, hk.2.2]
  rw [PM]; simp only [hb, Option.isSome_none, Bool.false_eq_true, if_false]
  rw [h]; simp [h58]

theorem expr_of {s : ByteArray} {k : Nat} {m m' : M} {t : T} (h : Atom s k m m' t) (hb : m.bad = none) (hk : NoKey m.tok) (hq : Quiet m') : ∀ n, k + 7 ≤ n → PM s n .expr m = some (t, m') := by
  intro n hn
  obtain ⟨n, rfl⟩ : ∃ j, n = j + 3 := ⟨n - 3, by omega⟩
  refine up_of (n := n + 1) hb hk ?_ hq.2.2.2.2.2.2.2
  rw [PM]; simp only [hb, Option.isSome_none, Bool.false_eq_true, if_false]
  rw [sum_of h hb hq.2.1 hq.2.2.1 hq.2.2.2.1 hq.2.2.2.2.1 n (by omega) (by omega)]
  simp [hq.2.2.2.2.2.1, hq.2.2.2.2.2.2.1]

/-- Two atoms and a sign between them. -/
theorem expr_op {s : ByteArray} {ka kb : Nat} {m ma mb : M} {a b : T} {o : UInt8} (ho : o = 43 ∨ o = 45 ∨ o = 42 ∨ o = 61 ∨ o = 60) (ha : Atom s ka m ma a) (hb : m.bad = none) (hk : NoKey m.tok)
    (hma : ma.bad = none) (ht : ma.tok.text = ⟨#[o]⟩) (hs : Stop ma.tok) (hB : Atom s kb (ma.adv s) mb b) (hq : Quiet mb) : ∀ n, ka + kb + 12 ≤ n → PM s n .expr m = some (.bin o a b, mb) := by
  intro n hn
  obtain ⟨n, rfl⟩ : ∃ j, n = j + 6 := ⟨n - 6, by omega⟩
  refine up_of (n := n + 4) hb hk ?_ hq.2.2.2.2.2.2.2
  have has : ∀ x : UInt8, ma.has ⟨#[x]⟩ = (o == x) := by
    intro x; unfold M.has; rw [hma, ht]
    simp [eqb]
  have hbB : (ma.adv s).bad = none := hma
  obtain ⟨_, hs2, q42, q43, q45, q61, q60, _⟩ := hq
  rcases ho with rfl | rfl | rfl | rfl | rfl
  · rw [PM]; simp only [hb, Option.isSome_none, Bool.false_eq_true, if_false]
    rw [PM]; simp only [hb, Option.isSome_none, Bool.false_eq_true, if_false]
    rw [prod_of ha hb hs (by rw [has]; rfl) (n + 2) (by omega) (by omega)]
    simp only [Option.bind_some]
    rw [PM]; simp only [has]
    rw [if_pos (by decide), prod_of hB hbB hs2 q42 (n + 1) (by omega) (by omega)]
    simp only [Option.bind_some]
    rw [PM]; simp [q43, q45, q61, q60, ht, opOf]
  · rw [PM]; simp only [hb, Option.isSome_none, Bool.false_eq_true, if_false]
    rw [PM]; simp only [hb, Option.isSome_none, Bool.false_eq_true, if_false]
    rw [prod_of ha hb hs (by rw [has]; rfl) (n + 2) (by omega) (by omega)]
    simp only [Option.bind_some]
    rw [PM]; simp only [has]
    rw [if_pos (by decide), prod_of hB hbB hs2 q42 (n + 1) (by omega) (by omega)]
    simp only [Option.bind_some]
    rw [PM]; simp [q43, q45, q61, q60, ht, opOf]
  · rw [PM]; simp only [hb, Option.isSome_none, Bool.false_eq_true, if_false]
    rw [PM]; simp only [hb, Option.isSome_none, Bool.false_eq_true, if_false]
    rw [PM]; simp only [hb, Option.isSome_none, Bool.false_eq_true, if_false]
    rw [use_of ha hb hs (n + 1) (by omega) (by omega)]
    simp only [Option.bind_some]
    rw [PM]; simp only [has]
    rw [if_pos (by decide), use_of hB hbB hs2 n (by omega) (by omega)]
    simp only [Option.bind_some]
    obtain ⟨n, rfl⟩ : ∃ j, n = j + 1 := ⟨n - 1, by omega⟩
    rw [PM]; simp only [q42, Bool.false_eq_true, if_false, Option.bind_some]
    rw [PM]; simp [q43, q45, q61, q60]
  · rw [PM]; simp only [hb, Option.isSome_none, Bool.false_eq_true, if_false]
    rw [sum_of ha hb hs (by rw [has]; rfl) (by rw [has]; rfl) (by rw [has]; rfl) (n + 3) (by omega) (by omega)]
    simp only [Option.bind_some, has]
    rw [if_pos (by decide), sum_of hB hbB hs2 q42 q43 q45 (n + 3) (by omega) (by omega)]
    simp [ht, opOf]
  · rw [PM]; simp only [hb, Option.isSome_none, Bool.false_eq_true, if_false]
    rw [sum_of ha hb hs (by rw [has]; rfl) (by rw [has]; rfl) (by rw [has]; rfl) (n + 3) (by omega) (by omega)]
    simp only [Option.bind_some, has]
    rw [if_pos (by decide), sum_of hB hbB hs2 q42 q43 q45 (n + 3) (by omega) (by omega)]
    simp [ht, opOf]
end Skein

namespace Skein
open Go

def X.rf : X → Nat
  | .num _ => 1
  | .op _ _ a b => a.rf + b.rf + 13
  | .ite a b => a.rf + b.rf + 13

def M.to (m : M) (s : ByteArray) (i : Nat) : M := { m with tok := Skein.tok s i }
theorem to_bad (m : M) (s : ByteArray) (i : Nat) : (m.to s i).bad = m.bad := rfl
theorem adv_to {s : ByteArray} {m : M} {k : K} {t : ByteArray} {i : Nat} (e : m.tok = ⟨k, t, i⟩) : m.adv s = m.to s (i + t.size) := by
  unfold M.adv M.to; rw [e]
theorem to_to (m : M) (s : ByteArray) (i j : Nat) : (m.to s i).to s j = m.to s j := rfl

theorem stop_sym {t : Tok} {k : K} {x : ByteArray} {i : Nat} (e : t = ⟨k, x, i⟩) (hk : k ≠ .num ∧ k ≠ .name) (hx : mem openers x = false) : Stop t := by
  subst e; exact ⟨hk.1, hk.2, hx⟩
theorem quiet_sym {m : M} {k : K} {x : ByteArray} {i : Nat} (hb : m.bad = none) (e : m.tok = ⟨k, x, i⟩) (hk : k ≠ .num ∧ k ≠ .name)
    (hx : mem openers x = false ∧ eqb x ⟨#[42]⟩ = false ∧ eqb x ⟨#[43]⟩ = false ∧ eqb x ⟨#[45]⟩ = false ∧ eqb x ⟨#[61]⟩ = false ∧ eqb x ⟨#[60]⟩ = false ∧ eqb x ⟨#[58]⟩ = false) : Quiet m := by
  obtain ⟨h0, h1, h2, h3, h4, h5, h6⟩ := hx
  refine ⟨hb, stop_sym e hk h0, ?_, ?_, ?_, ?_, ?_, ?_⟩ <;> (unfold M.has; rw [hb, e]; simpa)
theorem quiet_at {m : M} {c : UInt8} {i : Nat} (hb : m.bad = none) (e : m.tok = ⟨.sym, ⟨#[c]⟩, i⟩) (hc : c = 41) : Quiet m := by
  subst hc
  exact quiet_sym hb e (by decide) (by decide)
theorem quiet_word {m : M} {l : List UInt8} {i : Nat} (hb : m.bad = none) (e : m.tok = ⟨.sym, ⟨l.toArray⟩, i⟩) (hl : l = [116, 104, 101, 110] ∨ l = [101, 108, 115, 101] ∨ l = [105, 110]) : Quiet m := by
  rcases hl with rfl | rfl | rfl <;> exact quiet_sym hb e (by decide) (by decide)
theorem quiet_end {m : M} {i : Nat} (hb : m.bad = none) (e : m.tok = ⟨.eof, ⟨#[]⟩, i⟩) : Quiet m := quiet_sym hb e (by decide) (by decide)

theorem halts_cons {b : Bool} {c : UInt8} {r : List UInt8} (h : fits b c = false) : Halts b (c :: r) := by
  intro c' q e; rw [← (List.cons.inj e).1]; exact h

/-- A bracket, an expression, a bracket. -/
theorem atom_paren {s : ByteArray} {k : Nat} {m m' : M} {t : T} {i j : Nat} (hb : m.bad = none) (e : m.tok = ⟨.sym, ⟨#[40]⟩, i⟩) (h : ∀ n, k ≤ n → PM s n .expr (m.to s (i + 1)) = some (t, m'))
    (hb2 : m'.bad = none) (e2 : m'.tok = ⟨.sym, ⟨#[41]⟩, j⟩) : Atom s (k + 1) m (m'.to s (j + 1)) t := by
  intro n hn
  obtain ⟨n, rfl⟩ : ∃ q, n = q + 1 := ⟨n - 1, by omega⟩
  have hbe : m.begins = true := by unfold M.begins; rw [hb, e]; rfl
  have ea : m.adv s = m.to s (i + 1) := adv_to e
  have hw : m'.want s ⟨#[41]⟩ = m'.to s (j + 1) := by
    unfold M.want M.has; rw [hb2, e2, if_pos (by rfl)]; exact adv_to e2
  rw [PM]; rw [hbe, ea, e]
  simp only [if_true]
  rw [if_neg (by decide), if_neg (by decide), if_neg (by decide), if_pos (by rfl), h n (by omega)]
  simp only [Option.bind_some, hw]

theorem X.read (s : ByteArray) : ∀ (x : X), x.ok → ∀ (i : Nat) (r : List UInt8), D s i (x.txt ++ r) → Halts false r → ∀ m : M, m.bad = none →
    Atom s x.rf (m.to s i) (m.to s (i + x.txt.length)) x.tree := by
  intro x
  induction x with
  | num ds =>
    intro h i r hd hr m hb n hn
    obtain ⟨n, rfl⟩ : ∃ q, n = q + 1 := ⟨n - 1, by simp [X.rf] at hn; omega⟩
    have e : (m.to s i).tok = ⟨.num, ⟨ds.toArray⟩, i⟩ := tok_num hd h.1 h.2.1 h.2.2 hr
    have hbe : (m.to s i).begins = true := by unfold M.begins; rw [to_bad, hb, e]; rfl
    rw [PM, hbe, adv_to e, e]
    simp [X.tree, X.txt, to_to, ByteArray.size]
  | op sp o a b iha ihb =>
    intro h i r hd hr m hb
    have hd0 : D s i (40 :: (a.txt ++ ((if sp then [32, o, 32] else [o]) ++ (b.txt ++ (41 :: r))))) := by
      simpa [X.txt] using hd
    have e0 : (m.to s i).tok = ⟨.sym, ⟨#[40]⟩, i⟩ := tok_mark hd0 (by decide)
    have hd1 := hd0.next
    have hd2 := hd1.app
    have hd3 := hd2.app
    have hd4 := hd3.app
    have ho : isBlank o = false ∧ isDig o = false ∧ isLet o = false ∧ (o == 91) = false ∧ mem marks ⟨#[o]⟩ = true := by
      rcases h.1 with e | e | e | e | e <;> rw [e] <;> decide
    have hf : fits false o = false := by unfold fits; rw [ho.2.1]; rfl
    have hh1 : Halts false ((if sp then [32, o, 32] else [o]) ++ (b.txt ++ (41 :: r))) := by
      cases sp
      · exact halts_cons hf
      · exact halts_cons (by decide)
    have hh2 : Halts false (41 :: r) := halts_cons (by decide)
    have hA := iha h.2.1 (i + 1) _ hd1 hh1 m hb
    have hB := ihb h.2.2 _ _ hd3 hh2 m hb
    have e4 := tok_mark hd4 (by decide)
    have key : ∃ j, tok s (i + 1 + a.txt.length) = ⟨.sym, ⟨#[o]⟩, j⟩ ∧ tok s (j + 1) = tok s (i + 1 + a.txt.length + (if sp then [32, o, 32] else [o]).length) := by
      cases sp
      · exact ⟨_, tok_mark hd2 ho, rfl⟩
      · refine ⟨i + 1 + a.txt.length + 1, ?_, ?_⟩
        · rw [tok_blank hd2]; exact tok_mark hd2.next ho
        · exact tok_blank hd2.next.next
    obtain ⟨j, k1, k2⟩ := key
    have hexp := expr_op (s := s) h.1 hA hb (X.nokey h.2.1 hd1 hh1) hb (by rw [M.to, k1]) (stop_sym (t := (m.to s (i + 1 + a.txt.length)).tok) k1 (by decide) (by rcases h.1 with e | e | e | e | e <;> rw [e] <;> rfl))
      (mb := m.to s (i + 1 + a.txt.length + (if sp then [32, o, 32] else [o]).length + b.txt.length)) (kb := b.rf) (b := b.tree)
      (by rw [adv_to (m := m.to s (i + 1 + a.txt.length)) k1]; rw [to_to]; show Atom s b.rf (m.to s (j + 1)) _ _; unfold M.to at hB ⊢; rw [k2]; exact hB)
      (quiet_at hb e4 rfl)
    have := atom_paren (s := s) (m := m.to s i) hb e0 hexp hb e4
    intro n hn
    rw [this n (by simp only [X.rf] at hn; omega)]
    simp only [to_to, X.tree, X.txt]
    congr 3
    simp; cases sp <;> simp <;> omega
  | ite a b iha ihb =>
    intro h i r hd hr m hb
    have hd0 : D s i (40 :: ([105, 102] ++ (32 :: (a.txt ++ (32 :: ([116, 104, 101, 110] ++ (32 :: (b.txt ++ (32 :: ([101, 108, 115, 101] ++ (32 :: (a.txt ++ (41 :: r))))))))))))) := by
      simpa [X.txt] using hd
    have e0 : (m.to s i).tok = ⟨.sym, ⟨#[40]⟩, i⟩ := tok_mark hd0 (by decide)
    have hd1 := hd0.next
    have hsp : ∀ b q, Halts b (32 :: q) := fun b q => halts_cons (by cases b <;> decide)
    have e1 : tok s (i + 1) = ⟨.sym, ⟨#[105, 102]⟩, i + 1⟩ := by
      rw [tok_word hd1 (by decide) (by decide) (by decide) (hsp _ _)]; rfl
    have hd2 : D s (i + 1 + 2) _ := hd1.app
    have hd3 := hd2.next
    have hd4 := hd3.app
    have hd5 := hd4.next
    have e5 : tok s (i + 1 + 2 + 1 + a.txt.length + 1) = ⟨.sym, ⟨#[116, 104, 101, 110]⟩, i + 1 + 2 + 1 + a.txt.length + 1⟩ := tok_word hd5 (by decide) (by decide) (by decide) (hsp _ _)
    have hd6 : D s (i + 1 + 2 + 1 + a.txt.length + 1 + 4) _ := hd5.app
    have hd7 := hd6.next
    have hd8 := hd7.app
    have hd9 := hd8.next
    have e9 : tok s (i + 1 + 2 + 1 + a.txt.length + 1 + 4 + 1 + b.txt.length + 1) = ⟨.sym, ⟨#[101, 108, 115, 101]⟩, i + 1 + 2 + 1 + a.txt.length + 1 + 4 + 1 + b.txt.length + 1⟩ := tok_word hd9 (by decide) (by decide) (by decide) (hsp _ _)
    have hd10 : D s (i + 1 + 2 + 1 + a.txt.length + 1 + 4 + 1 + b.txt.length + 1 + 4) _ := hd9.app
    have hd11 := hd10.next
    have hd12 := hd11.app
    have e12 := tok_mark hd12 (by decide)
    have hA := iha h.1 _ _ hd3 (hsp _ _) m hb
    have hB := ihb h.2 _ _ hd7 (hsp _ _) m hb
    have hC := iha h.1 _ _ hd11 (halts_cons (by decide)) m hb
    have q1 := expr_of hA hb (X.nokey h.1 hd3 (hsp _ _)) (quiet_word (l := [116, 104, 101, 110]) hb ((tok_blank hd4).trans e5) (by simp))
    have q2 := expr_of hB hb (X.nokey h.2 hd7 (hsp _ _)) (quiet_word (l := [101, 108, 115, 101]) hb ((tok_blank hd8).trans e9) (by simp))
    have q3 := expr_of hC hb (X.nokey h.1 hd11 (halts_cons (by decide))) (quiet_at hb e12 rfl)
    have hexp : ∀ n, a.rf + b.rf + 12 ≤ n → PM s n .expr (m.to s (i + 1)) = some (.ite a.tree b.tree a.tree, m.to s (i + 1 + 2 + 1 + a.txt.length + 1 + 4 + 1 + b.txt.length + 1 + 4 + 1 + a.txt.length)) := by
      intro n hn
      obtain ⟨n, rfl⟩ : ∃ q, n = q + 1 := ⟨n - 1, by omega⟩
      rw [PM]
      rw [if_neg (by rw [to_bad, hb]; decide), if_neg (by rw [M.to, e1]; exact Bool.false_ne_true), if_neg (by rw [M.to, e1]; exact Bool.false_ne_true), if_pos (by rw [M.to, e1]; rfl)]
      have s1 : (m.to s (i + 1)).adv s = m.to s (i + 1 + 2 + 1) := by
        rw [adv_to (m := m.to s (i + 1)) e1, to_to]; unfold M.to; congr 1; exact tok_blank hd2
      rw [s1]; erw [q1 n (by omega)]
      simp only [Option.bind_some]
      have w1 : (m.to s (i + 1 + 2 + 1 + a.txt.length)).want s ⟨#[116, 104, 101, 110]⟩ = m.to s (i + 1 + 2 + 1 + a.txt.length + 1 + 4 + 1) := by
        have e : (m.to s (i + 1 + 2 + 1 + a.txt.length)).tok = _ := (tok_blank hd4).trans e5
        unfold M.want M.has; rw [to_bad, hb, e, if_pos (by rfl), adv_to e, to_to]; unfold M.to; congr 1; exact tok_blank hd6
      erw [w1, q2 n (by omega)]
      simp only [Option.bind_some]
      have w2 : (m.to s (i + 1 + 2 + 1 + a.txt.length + 1 + 4 + 1 + b.txt.length)).want s ⟨#[101, 108, 115, 101]⟩ = m.to s (i + 1 + 2 + 1 + a.txt.length + 1 + 4 + 1 + b.txt.length + 1 + 4 + 1) := by
        have e : (m.to s (i + 1 + 2 + 1 + a.txt.length + 1 + 4 + 1 + b.txt.length)).tok = _ := (tok_blank hd8).trans e9
        unfold M.want M.has; rw [to_bad, hb, e, if_pos (by rfl), adv_to e, to_to]; unfold M.to; congr 1; exact tok_blank hd10
      erw [w2, q3 n (by omega)]
      rfl
    have := atom_paren (s := s) (m := m.to s i) hb e0 hexp hb e12
    intro n hn
    rw [this n (by simp only [X.rf] at hn; omega)]
    simp only [to_to, X.tree, X.txt]
    congr 3
    simp; omega
end Skein

namespace Skein
open Go

theorem D_whole {s : ByteArray} {l : List UInt8} (h : s.data.toList = l) : D s 0 l := by unfold D; simpa using h

theorem X.starts {x : X} (h : x.ok) {s : ByteArray} {i : Nat} {r : List UInt8} (hd : D s i (x.txt ++ r)) (hr : Halts false r) {m : M} (hb : m.bad = none) : (m.to s i).begins = true := by
  unfold M.begins; rw [to_bad, hb]
  show (none.isNone && ((tok s i).k == .num || (tok s i).k == .name || mem openers (tok s i).text)) = true
  rcases X.first h hd hr with ⟨ds, rfl, e⟩ | e <;> rw [e] <;> rfl

theorem read_plain {x : X} (h : x.ok) {s : ByteArray} (hd : s.data.toList = x.txt) :
    tok s x.txt.length = ⟨.eof, ⟨#[]⟩, x.txt.length⟩ ∧ ∀ n, x.rf + 7 ≤ n → PM s n .expr (start s) = some (x.tree, (start s).to s x.txt.length) := by
  have h0 : D s 0 (x.txt ++ []) := by simpa using D_whole hd
  have hr : Halts false [] := by intro c q e; cases e
  have h1 : D s (0 + x.txt.length) [] := h0.app
  have e1 := tok_end h1
  rw [Nat.zero_add] at e1
  refine ⟨e1, ?_⟩
  have hA := X.read s x h 0 [] h0 hr (start s) rfl
  rw [Nat.zero_add] at hA
  exact expr_of hA rfl (X.nokey h h0 hr) (quiet_end rfl e1)

theorem name_x {s : ByteArray} {i : Nat} {r : List UInt8} (hd : D s i (120 :: r)) (hr : Halts true r) : tok s i = ⟨.name, ⟨#[120]⟩, i⟩ :=
  tok_word (c := 120) (w := []) hd (by decide) (by decide) (by decide) hr

theorem atom_x {s : ByteArray} {m : M} {i : Nat} (hb : m.bad = none) (hg : m.given = [⟨#[120]⟩]) (e : m.tok = ⟨.name, ⟨#[120]⟩, i⟩) : Atom s 1 m (m.to s (i + 1)) (.var 0) := by
  intro n hn
  obtain ⟨n, rfl⟩ : ∃ q, n = q + 1 := ⟨n - 1, by omega⟩
  have hbe : m.begins = true := by unfold M.begins; rw [hb, e]; rfl
  have ha : m.adv s = m.to s (i + 1) := adv_to e
  rw [PM, hbe, ha, e]
  simp only [if_true]
  rw [if_neg (by decide), if_pos (by rfl)]
  have hg2 : (m.to s (i + 1)).given = [⟨#[120]⟩] := hg
  unfold named; rw [hg2]
  rfl

theorem nokey_x {i : Nat} : NoKey ⟨.name, ⟨#[120]⟩, i⟩ := ⟨rfl, rfl, rfl⟩

theorem read_let {x : X} (h : x.ok) {s : ByteArray} (hd : s.data.toList = [108, 101, 116] ++ (32 :: (120 :: (32 :: (61 :: (32 :: (x.txt ++ (32 :: ([105, 110] ++ (32 :: [120]))))))))) ) :
    ∃ m, (m.tok.k = .eof ∧ m.bad = none ∧ m.free = -1) ∧ ∀ n, x.rf + 16 ≤ n → PM s n .expr (start s) = some (.letE 0 x.tree (.var 0), m) := by
  have h0 : D s 0 _ := D_whole hd
  have hsp : ∀ b q, Halts b (32 :: q) := fun b q => halts_cons (by cases b <;> decide)
  have hnil : ∀ b, Halts b [] := by intro b c q e; cases e
  have e0 : tok s 0 = ⟨.sym, ⟨#[108, 101, 116]⟩, 0⟩ := tok_word h0 (by decide) (by decide) (by decide) (hsp _ _)
  have h3 : D s 3 _ := h0.app
  have h4 : D s 4 _ := h3.next
  have e4 : tok s 3 = ⟨.name, ⟨#[120]⟩, 4⟩ := (tok_blank h3).trans (name_x h4 (hsp _ _))
  have h5 : D s 5 _ := h4.next
  have h6 : D s 6 _ := h5.next
  have e6 : tok s 5 = ⟨.sym, ⟨#[61]⟩, 6⟩ := (tok_blank h5).trans (tok_mark h6 (by decide))
  have h7 : D s 7 _ := h6.next
  have h8 : D s 8 _ := h7.next
  have e8 : tok s 7 = tok s 8 := tok_blank h7
  have h9 := h8.app
  have h10 := h9.next
  have e10 : tok s (8 + x.txt.length) = ⟨.sym, ⟨#[105, 110]⟩, 8 + x.txt.length + 1⟩ := (tok_blank h9).trans (tok_word h10 (by decide) (by decide) (by decide) (hsp _ _))
  have h11 : D s (8 + x.txt.length + 1 + 2) _ := h10.app
  have h12 := h11.next
  have e12 : tok s (8 + x.txt.length + 1 + 2) = ⟨.name, ⟨#[120]⟩, 8 + x.txt.length + 1 + 2 + 1⟩ := (tok_blank h11).trans (name_x h12 (hnil _))
  have e13 := tok_end h12.next
  let m0 : M := { start s with given := [⟨#[120]⟩] }
  have hA := X.read s x h 8 _ h8 (hsp _ _) m0 rfl
  have q1 := expr_of hA rfl (X.nokey h h8 (hsp _ _)) (quiet_word (l := [105, 110]) rfl e10 (by simp))
  have hV : Atom s 1 (m0.to s (8 + x.txt.length + 1 + 2)) _ _ := atom_x rfl rfl e12
  have q2 := expr_of hV rfl (by show NoKey (tok s _); rw [e12]; exact nokey_x) (quiet_end rfl e13)
  refine ⟨(m0.to s (8 + x.txt.length + 1 + 2 + 1 + 1)).pop 0, ⟨?_, rfl, rfl⟩, fun n hn => ?_⟩
  · show (tok s _).k = _; rw [e13]
  · obtain ⟨n, rfl⟩ : ∃ q, n = q + 1 := ⟨n - 1, by omega⟩
    rw [PM]
    have a1 : (start s).adv s = (start s).to s 3 := adv_to (m := start s) e0
    have a2 : ((start s).to s 3).gives s = (⟨#[120]⟩, (start s).to s 5) := by
      have e : ((start s).to s 3).tok = _ := e4
      unfold M.gives; rw [e, if_pos (by rfl), adv_to e, to_to]; rfl
    have a3 : ((start s).to s 5).want s ⟨#[61]⟩ = (start s).to s 8 := by
      have e : ((start s).to s 5).tok = _ := e6
      unfold M.want M.has; rw [e, if_pos (by rfl), adv_to e, to_to]; unfold M.to; congr 1
    have a4 : ((start s).to s 8).push ⟨#[120]⟩ = m0.to s 8 := rfl
    have a5 : (m0.to s (8 + x.txt.length)).want s ⟨#[105, 110]⟩ = m0.to s (8 + x.txt.length + 1 + 2) := by
      have e : (m0.to s (8 + x.txt.length)).tok = _ := e10
      unfold M.want M.has; rw [e, if_pos (by rfl), adv_to e, to_to]; rfl
    rw [if_neg (by exact Bool.false_ne_true), if_pos (by show eqb (tok s 0).text _ = true; rw [e0]; rfl), a1, a2]
    dsimp only
    rw [a3, a4, q1 n (by omega)]
    simp only [Option.bind_some]
    rw [a5, q2 n (by omega)]
    rfl

theorem read_fn {x : X} (h : x.ok) {s : ByteArray} (hd : s.data.toList = 40 :: (92 :: (120 :: (46 :: (32 :: (120 :: (41 :: (32 :: x.txt)))))))) :
    ∃ m, (m.tok.k = .eof ∧ m.bad = none ∧ m.free = -1) ∧ ∀ n, x.rf + 24 ≤ n → PM s n .expr (start s) = some (.app (.fn 0 (.var 0)) x.tree, m) := by
  have h0 : D s 0 _ := D_whole hd
  have hnil : ∀ b, Halts b [] := by intro b c q e; cases e
  have e0 : tok s 0 = ⟨.sym, ⟨#[40]⟩, 0⟩ := tok_mark h0 (by decide)
  have h1 : D s 1 _ := h0.next
  have e1 : tok s 1 = ⟨.sym, ⟨#[92]⟩, 1⟩ := tok_mark h1 (by decide)
  have h2 : D s 2 _ := h1.next
  have e2 : tok s 2 = ⟨.name, ⟨#[120]⟩, 2⟩ := name_x h2 (halts_cons (by decide))
  have h3 : D s 3 _ := h2.next
  have e3 : tok s 3 = ⟨.sym, ⟨#[46]⟩, 3⟩ := tok_mark h3 (by decide)
  have h4 : D s 4 _ := h3.next
  have h5 : D s 5 _ := h4.next
  have e5 : tok s 4 = ⟨.name, ⟨#[120]⟩, 5⟩ := (tok_blank h4).trans (name_x h5 (halts_cons (by decide)))
  have h6 : D s 6 _ := h5.next
  have e6 : tok s 6 = ⟨.sym, ⟨#[41]⟩, 6⟩ := tok_mark h6 (by decide)
  have h7 : D s 7 _ := h6.next
  have h8 : D s 8 (x.txt ++ []) := by simpa using h7.next
  have e7 : tok s 7 = tok s 8 := tok_blank h7
  have e9 := tok_end h8.app
  let m0 : M := { start s with given := [⟨#[120]⟩] }
  have hV : Atom s 1 (m0.to s 4) (m0.to s 6) _ := atom_x rfl rfl e5
  have q1 := expr_of hV rfl (by show NoKey (tok s 4); rw [e5]; exact nokey_x) (quiet_at rfl e6 rfl)
  have q2 : ∀ n, 9 ≤ n → PM s n .expr ((start s).to s 1) = some (.fn 0 (.var 0), (start s).to s 6) := by
    intro n hn
    obtain ⟨n, rfl⟩ : ∃ q, n = q + 1 := ⟨n - 1, by omega⟩
    rw [PM]
    have a1 : ((start s).to s 1).adv s = (start s).to s 2 := adv_to (m := (start s).to s 1) e1
    have a2 : ((start s).to s 2).gives s = (⟨#[120]⟩, (start s).to s 3) := by
      have e : ((start s).to s 2).tok = _ := e2
      unfold M.gives; rw [e, if_pos (by rfl), adv_to e, to_to]; rfl
    have a3 : ((start s).to s 3).want s ⟨#[46]⟩ = (start s).to s 4 := by
      have e : ((start s).to s 3).tok = _ := e3
      unfold M.want M.has; rw [e, if_pos (by rfl), adv_to e, to_to]; rfl
    have a4 : ((start s).to s 4).push ⟨#[120]⟩ = m0.to s 4 := rfl
    rw [if_neg (by exact Bool.false_ne_true), if_neg (by show ¬ eqb (tok s 1).text _ = true; rw [e1]; exact Bool.false_ne_true), if_pos (by show eqb (tok s 1).text _ = true; rw [e1]; rfl), a1, a2]
    dsimp only
    rw [a3, a4, q1 n (by omega)]
    rfl
  have hP : Atom s 10 (start s) ((start s).to s 8) (.fn 0 (.var 0)) := by
    have := atom_paren (s := s) (m := start s) rfl e0 q2 rfl e6
    have e : ((start s).to s 6).to s (6 + 1) = (start s).to s 8 := by rw [to_to]; unfold M.to; congr 1
    rw [e] at this; exact this
  have hA := X.read s x h 8 [] h8 (hnil _) (start s) rfl
  have hq : Quiet ((start s).to s (8 + x.txt.length)) := quiet_end rfl e9
  refine ⟨(start s).to s (8 + x.txt.length), ⟨?_, rfl, rfl⟩, fun n hn => ?_⟩
  · show (tok s _).k = _; rw [e9]
  · obtain ⟨_, hs, q42, q43, q45, q61, q60, q58⟩ := hq
    obtain ⟨n, rfl⟩ : ∃ q, n = q + 8 := ⟨n - 8, by omega⟩
    refine up_of (n := n + 6) rfl (by show NoKey (tok s 0); rw [e0]; exact ⟨rfl, rfl, rfl⟩) ?_ q58
    rw [PM]; rw [if_neg (by exact Bool.false_ne_true)]
    rw [PM]; rw [if_neg (by exact Bool.false_ne_true)]
    rw [PM]; rw [if_neg (by exact Bool.false_ne_true)]
    rw [PM]; rw [if_neg (by exact Bool.false_ne_true)]
    rw [hP (n + 2) (by omega)]
    simp only [Option.bind_some]
    rw [PM, X.starts h h8 (hnil _) rfl]
    simp only [if_true]
    rw [hA (n + 1) (by omega)]
    simp only [Option.bind_some]
    rw [PM, hs.no rfl]
    simp only [Bool.false_eq_true, if_false, Option.bind_some]
    rw [PM, q42]; simp only [Bool.false_eq_true, if_false, Option.bind_some]
    rw [PM, q43, q45]; simp [q61, q60]

theorem ev_let (L : Nat) {x : X} (h : x.ok) : ∀ n, x.fuel + 3 ≤ n → ev L n (.need (.letE 0 x.tree (.var 0)) []) ⟨[], 0⟩ = some (.ok (.num x.n), ⟨[.known (.num x.n)], 0⟩) := by
  intro n hn
  obtain ⟨n, rfl⟩ : ∃ q, n = q + 3 := ⟨n - 3, by omega⟩
  simp only [ev, List.length_nil, List.nil_append, List.getElem?_cons_zero, List.set_cons_zero]
  rw [ev_X L x h n (by omega)]
  simp
theorem ev_fn {x : X} (h : x.ok) : ∀ n, x.fuel + 3 ≤ n → ev 1 n (.need (.app (.fn 0 (.var 0)) x.tree) []) ⟨[], 0⟩ = some (.ok (.num x.n), ⟨[.known (.num x.n)], 1⟩) := by
  intro n hn
  obtain ⟨n, rfl⟩ : ∃ q, n = q + 3 := ⟨n - 3, by omega⟩
  simp only [ev, Option.bind_some, R.fn, List.length_nil, List.nil_append, List.getElem?_cons_zero, List.set_cons_zero]
  rw [if_neg (by decide)]
  rw [ev_X 1 x h n (by omega)]
  simp
end Skein

namespace Skein

inductive Pc where
  | num (x : List UInt8) | word (x : List UInt8) | mark (c : UInt8) | nil | blank (c : UInt8)

def Pc.txt : Pc → List UInt8
  | .num x => x | .word x => x | .mark c => [c] | .nil => [91, 93] | .blank c => [c]
def Pc.ok : Pc → Bool
  | .num x => !x.isEmpty && x.length ≤ 9 && x.all isDig
  | .word x => (match x with | [] => false | c :: _ => isLet c) && x.length ≤ 6 && x.all (fits true)
  | .mark c => !isBlank c && !isDig c && !isLet c && !(c == 91) && mem marks ⟨#[c]⟩
  | .nil => true
  | .blank c => isBlank c
def Pc.runs : Pc → Bool
  | .num _ => true | .word _ => true | _ => false
def Pc.tk : Pc → List Tk
  | .num x => [.num ⟨x.toArray⟩]
  | .word x => [if mem words ⟨x.toArray⟩ then .sym ⟨x.toArray⟩ else .name ⟨x.toArray⟩]
  | .mark c => [.sym ⟨#[c]⟩]
  | .nil => [.sym ⟨#[91, 93]⟩]
  | .blank _ => []
def flat (l : List Pc) : List UInt8 := l.flatMap Pc.txt
def tks (l : List Pc) : List Tk := l.flatMap Pc.tk
def firstN (l : List Pc) (nx : Option UInt8) : Option UInt8 :=
  match l with | [] => nx | p :: _ => p.txt.head?
def halt (o : Option UInt8) : Bool := match o with | none => true | some c => !fits true c
def fin (l : List Pc) (nx : Option UInt8) : Bool :=
  match l with | [] => true | p :: r => p.ok && (!p.runs || halt (firstN r nx)) && fin r nx

theorem flat_app (a b : List Pc) : flat (a ++ b) = flat a ++ flat b := by simp [flat]
theorem tks_app (a b : List Pc) : tks (a ++ b) = tks a ++ tks b := by simp [tks]
theorem firstN_app (a b : List Pc) (nx : Option UInt8) : firstN (a ++ b) nx = firstN a (firstN b nx) := by cases a <;> rfl
theorem fin_app (a b : List Pc) (nx : Option UInt8) (ha : fin a (firstN b nx) = true) (hb : fin b nx = true) : fin (a ++ b) nx = true := by
  induction a with
  | nil => exact hb
  | cons p r ih =>
    simp only [fin, List.cons_append, Bool.and_eq_true] at ha ⊢
    rw [firstN_app]
    exact ⟨ha.1, ih ha.2⟩

theorem ok_cons {p : Pc} (h : p.ok = true) : ∃ c q, p.txt = c :: q := by
  cases p with
  | num x => cases x with
    | nil => simp [Pc.ok] at h
    | cons c q => exact ⟨c, q, rfl⟩
  | word x => cases x with
    | nil => simp [Pc.ok] at h
    | cons c q => exact ⟨c, q, rfl⟩
  | mark c => exact ⟨c, [], rfl⟩
  | nil => exact ⟨91, [93], rfl⟩
  | blank c => exact ⟨c, [], rfl⟩
theorem halts_of {r : List Pc} (hr : fin r none = true) (h : halt (firstN r none) = true) (b : Bool) : Halts b (flat r) := by
  intro c q e
  have hc : fits true c = false := by
    cases r with
    | nil => cases e
    | cons p r =>
      simp only [fin, Bool.and_eq_true] at hr
      obtain ⟨c', q', e'⟩ := ok_cons hr.1.1
      simp only [flat, List.flatMap_cons, e', List.cons_append, List.cons.injEq] at e
      simp only [firstN, e', List.head?_cons, halt, Bool.not_eq_true'] at h
      rw [← e.1]; exact h
  cases b with
  | true => exact hc
  | false =>
    simp only [fits, Bool.or_eq_false_iff] at hc ⊢
    exact ⟨hc.1, by simp⟩

theorem tok_skip {s : ByteArray} {i : Nat} {c : UInt8} {r : List UInt8} (h : D s i (c :: r)) (hb : isBlank c = true) : tok s i = tok s (i + 1) := by
  unfold tok; rw [skip_blank h hb]

theorem D.le {s : ByteArray} {i : Nat} {l : List UInt8} (h : D s i l) (hi : i ≤ s.size) : i + l.length ≤ s.size := by
  unfold D at h
  have := congrArg List.length h
  simp at this
  have e : s.data.size = s.size := rfl
  omega

/-- The signs of a text that is laid of pieces. -/
theorem Str_of {s : ByteArray} : ∀ (l : List Pc) (i : Nat), i ≤ s.size → D s i (flat l) → fin l none = true → Str s (tok s i) (tks l) := by
  intro l
  induction l with
  | nil => intro i _ h _; rw [tok_end h]; exact ⟨rfl, rfl⟩
  | cons p r ih =>
    intro i hi h hf
    simp only [fin, Bool.and_eq_true] at hf
    obtain ⟨⟨hok, hrun⟩, hfr⟩ := hf
    have hD : D s i (p.txt ++ flat r) := h
    have hn := ih (i + p.txt.length) (by have := D.le hD hi; simp at this; omega) hD.app hfr
    have hk := tok_kind s i hi
    cases p with
    | blank c =>
      rw [tok_skip (r := flat r) hD hok]
      exact hn
    | num x =>
      simp only [Pc.ok, Bool.and_eq_true, Bool.not_eq_true', List.isEmpty_eq_false_iff, decide_eq_true_eq, List.all_eq_true] at hok
      simp only [Pc.runs, Bool.not_true, Bool.false_or] at hrun
      have e := tok_num hD hok.1.1 hok.1.2 hok.2 (halts_of hfr hrun false)
      rw [e] at hk
      have hm : mem specials ⟨x.toArray⟩ = false := by
        rcases hk with ⟨h, _⟩ | ⟨h, _⟩ | ⟨_, h, _⟩ | ⟨h, _⟩ | ⟨h, _⟩ <;> first | exact h | cases h
      rw [e]
      refine ⟨rfl, rfl, hm, ?_⟩
      have e2 : (⟨x.toArray⟩ : ByteArray).size = x.length := by simp [ByteArray.size]
      show Str s (tok s (i + (⟨x.toArray⟩ : ByteArray).size)) _
      rw [e2]; exact hn
    | word x =>
      cases x with
      | nil => simp [Pc.ok] at hok
      | cons c w =>
        simp only [Pc.ok, Bool.and_eq_true, decide_eq_true_eq, List.all_eq_true] at hok
        simp only [Pc.runs, Bool.not_true, Bool.false_or] at hrun
        have hc : isBlank c = false ∧ isDig c = false ∧ isLet c = true := by
          have h1 := hok.1.1
          refine ⟨?_, ?_, h1⟩
          · simp only [isLet, isBlank, Bool.and_eq_true, decide_eq_true_eq, Bool.or_eq_false_iff, beq_eq_false_iff_ne] at h1 ⊢
            refine ⟨⟨⟨?_, ?_⟩, ?_⟩, ?_⟩ <;> (rintro rfl; revert h1; decide)
          · simp only [isLet, isDig, Bool.and_eq_true, decide_eq_true_eq, Bool.and_eq_false_iff, decide_eq_false_iff_not] at h1 ⊢
            right
            intro h2
            have h3 := UInt8.le_trans h1.1 h2
            revert h3; decide
        have e := tok_word (c := c) (w := w) hD hc hok.1.2 hok.2 (halts_of hfr hrun true)
        have e2 : (⟨(c :: w).toArray⟩ : ByteArray).size = (c :: w).length := by simp [ByteArray.size]
        show Str s (tok s i) ([if mem words ⟨(c :: w).toArray⟩ then Tk.sym ⟨(c :: w).toArray⟩ else Tk.name ⟨(c :: w).toArray⟩] ++ tks r)
        rw [e] at hk ⊢
        cases hw : mem words ⟨(c :: w).toArray⟩ with
        | true =>
          refine ⟨by simp, rfl, by rw [e2]; simp, ?_⟩
          show Str s (tok s (i + (⟨(c :: w).toArray⟩ : ByteArray).size)) _
          rw [e2]; exact hn
        | false =>
          rw [hw] at hk
          have hm : mem specials ⟨(c :: w).toArray⟩ = false := by
            rcases hk with ⟨h, _⟩ | ⟨h, _⟩ | ⟨h, _⟩ | ⟨_, h, _⟩ | ⟨h, _⟩ <;> first | exact h | cases h
          refine ⟨by simp, rfl, hm, ?_⟩
          show Str s (tok s (i + (⟨(c :: w).toArray⟩ : ByteArray).size)) _
          rw [e2]; exact hn
    | mark c =>
      simp only [Pc.ok, Bool.and_eq_true, Bool.not_eq_true'] at hok
      have e := tok_mark (r := flat r) hD ⟨hok.1.1.1.1, hok.1.1.1.2, hok.1.1.2, hok.1.2, hok.2⟩
      rw [e]
      exact ⟨rfl, rfl, Nat.one_pos, hn⟩
    | nil =>
      have hD2 : D s i (91 :: 93 :: flat r) := hD
      obtain ⟨h1, e1⟩ := hD2.get
      obtain ⟨h2, e2⟩ := hD2.next.get
      have e : tok s i = ⟨.sym, ⟨#[91, 93]⟩, i⟩ := by
        unfold tok; rw [skip_here hD2 (by decide)]
        unfold tokAt
        have hx : s.extract i (i + 2) = ⟨#[91, 93]⟩ := D.extract (l := [91, 93]) hD2
        rw [dif_pos h1, e1]
        rw [if_neg (by decide), if_neg (by decide), if_pos (by decide), dif_pos h2, e2, if_pos (by decide), hx]
      rw [e]
      exact ⟨rfl, rfl, by decide, hn⟩

/-- An atom's signs. -/
structure Rd (e : List Tk) (t : T) : Prop where
  go : ∀ g, ∃ k, ∀ n, k ≤ n → ∀ r, PT n .atom g (e ++ r) = some (t, r)
  b : ∀ r, beg (e ++ r) = true
  h : ∀ x r, hd x (e ++ r) = true → eqb ⟨#[40]⟩ x = true

inductive Sub : List Tk → List Tk → Prop
  | nil : Sub [] []
  | same (k : Tk) {l l' : List Tk} : Sub l l' → Sub (k :: l) (k :: l')
  | tree {e : List Tk} {t : T} {l l' : List Tk} : Rd e t → Sub l l' → Sub (.tree t :: l) (e ++ l')

theorem Sub.hd {l l' : List Tk} (h : Sub l l') {x : ByteArray} (hx : eqb ⟨#[40]⟩ x = false) : Skein.hd x l' = Skein.hd x l := by
  cases h with
  | nil => rfl
  | same k h => cases k <;> rfl
  | tree hr h =>
    rename_i e t l2 l2'
    cases hh : Skein.hd x (e ++ l2') with
    | false => rfl
    | true => have := hr.h x l2' hh; rw [hx] at this; cases this
theorem Sub.beg {l l' : List Tk} (h : Sub l l') : Skein.beg l' = Skein.beg l := by
  cases h with
  | nil => rfl
  | same k h => cases k <;> rfl
  | tree hr h => rw [hr.b]; rfl
theorem Sub.tail {l l' : List Tk} (h : Sub l l') {x : ByteArray} (hx : Skein.hd x l = true) : Sub l.tail l'.tail ∧ opT l' = opT l := by
  cases h with
  | nil => cases hx
  | same k h => exact ⟨h, by cases k <;> rfl⟩
  | tree hr h => cases hx
theorem Sub.eat {l l' l1 : List Tk} (h : Sub l l') {x : ByteArray} (h0 : eqb ⟨#[40]⟩ x = false) (he : Skein.eat x l = some l1) : ∃ l1', Skein.eat x l' = some l1' ∧ Sub l1 l1' := by
  obtain ⟨h1, rfl⟩ := eat_ok he
  refine ⟨l'.tail, ?_, (h.tail h1).1⟩
  unfold Skein.eat; rw [h.hd h0, h1]; rfl
theorem Sub.eatName {l l' : List Tk} (h : Sub l l') {y : ByteArray × List Tk} (he : Skein.eatName l = some y) : ∃ r, Skein.eatName l' = some (y.1, r) ∧ Sub y.2 r := by
  cases h with
  | nil => cases he
  | same k h =>
    cases k with
    | name x => cases he; exact ⟨_, rfl, h⟩
    | num x => cases he
    | sym x => cases he
    | bad => cases he
    | tree t => cases he
  | tree hr h => cases he

/-- The same with each tree's signs in its place. -/
theorem PT_sub : ∀ (n : Nat) (nt : NT) (g : List ByteArray) (l : List Tk) (t : T) (l1 : List Tk), PT n nt g l = some (t, l1) → ∀ l', Sub l l' → ∃ N l1', Sub l1 l1' ∧ ∀ k, N ≤ k → PT k nt g l' = some (t, l1') := by
  intro n
  induction n with
  | zero => intro nt g l t l1 h; simp [PT] at h
  | succ n ih =>
    intro nt g l t l1 h l' hs
    have step : ∀ {N : Nat} {P : Nat → Prop}, (∀ k, N ≤ k → P (k + 1)) → ∃ M, ∀ k, M ≤ k → P k := fun {N P} hP => ⟨N + 1, fun k hk => by
      obtain ⟨j, rfl⟩ : ∃ j, k = j + 1 := ⟨k - 1, by omega⟩
      exact hP j (by omega)⟩
    have fin' : ∀ {l2 : List Tk} {N : Nat} {t : T}, Sub l1 l2 → (∀ k, N ≤ k → PT (k + 1) nt g l' = some (t, l2)) → ∃ N l1', Sub l1 l1' ∧ ∀ k, N ≤ k → PT k nt g l' = some (t, l1') := fun {l2 N t} h2 hP => by
      obtain ⟨M, hM⟩ := step (P := fun k => PT k nt g l' = some (t, l2)) hP
      exact ⟨M, l2, h2, hM⟩
    cases nt with
    | expr =>
      rw [PT] at h
      split at h
      · rename_i hx
        obtain ⟨y, h1, h⟩ := Option.bind_eq_some_iff.1 h
        obtain ⟨l2, h2, h⟩ := Option.bind_eq_some_iff.1 h
        obtain ⟨r1, h3, h⟩ := Option.bind_eq_some_iff.1 h
        obtain ⟨l3, h4, h⟩ := Option.bind_eq_some_iff.1 h
        obtain ⟨q, h5, h⟩ := Option.bind_eq_some_iff.1 h
        cases h
        obtain ⟨m1, a1, s1⟩ := (hs.tail hx).1.eatName h1
        obtain ⟨m2, a2, s2⟩ := s1.eat (by decide) h2
        obtain ⟨N3, m3, s3, a3⟩ := ih _ _ _ r1.1 r1.2 h3 _ s2
        obtain ⟨m4, a4, s4⟩ := s3.eat (by decide) h4
        obtain ⟨N5, m5, s5, a5⟩ := ih _ _ _ q.1 q.2 h5 _ s4
        refine fin' s5 (N := N3 + N5) fun k hk => ?_
        rw [PT, hs.hd (by decide), if_pos hx, a1, Option.bind_some, a2, Option.bind_some, a3 k (by omega), Option.bind_some, a4, Option.bind_some, a5 k (by omega)]; rfl
      · rename_i hx1
        split at h
        · rename_i hx
          obtain ⟨y, h1, h⟩ := Option.bind_eq_some_iff.1 h
          obtain ⟨l2, h2, h⟩ := Option.bind_eq_some_iff.1 h
          obtain ⟨r1, h3, h⟩ := Option.bind_eq_some_iff.1 h
          cases h
          obtain ⟨m1, a1, s1⟩ := (hs.tail hx).1.eatName h1
          obtain ⟨m2, a2, s2⟩ := s1.eat (by decide) h2
          obtain ⟨N3, m3, s3, a3⟩ := ih _ _ _ r1.1 r1.2 h3 _ s2
          refine fin' s3 (N := N3) fun k hk => ?_
          rw [PT, hs.hd (by decide), if_neg hx1, hs.hd (by decide), if_pos hx, a1, Option.bind_some, a2, Option.bind_some, a3 k (by omega)]; rfl
        · rename_i hx2
          split at h
          · rename_i hx
            obtain ⟨r1, h1, h⟩ := Option.bind_eq_some_iff.1 h
            obtain ⟨l2, h2, h⟩ := Option.bind_eq_some_iff.1 h
            obtain ⟨q, h3, h⟩ := Option.bind_eq_some_iff.1 h
            obtain ⟨l3, h4, h⟩ := Option.bind_eq_some_iff.1 h
            obtain ⟨p, h5, h⟩ := Option.bind_eq_some_iff.1 h
            cases h
            obtain ⟨N1, m1, s1, a1⟩ := ih _ _ _ r1.1 r1.2 h1 _ (hs.tail hx).1
            obtain ⟨m2, a2, s2⟩ := s1.eat (by decide) h2
            obtain ⟨N3, m3, s3, a3⟩ := ih _ _ _ q.1 q.2 h3 _ s2
            obtain ⟨m4, a4, s4⟩ := s3.eat (by decide) h4
            obtain ⟨N5, m5, s5, a5⟩ := ih _ _ _ p.1 p.2 h5 _ s4
            refine fin' s5 (N := N1 + N3 + N5) fun k hk => ?_
            rw [PT, hs.hd (by decide), if_neg hx1, hs.hd (by decide), if_neg hx2, hs.hd (by decide), if_pos hx, a1 k (by omega), Option.bind_some, a2, Option.bind_some, a3 k (by omega), Option.bind_some, a4, Option.bind_some, a5 k (by omega)]; rfl
          · rename_i hx3
            obtain ⟨N1, m1, s1, a1⟩ := ih _ _ _ _ _ h _ hs
            refine fin' s1 (N := N1) fun k hk => ?_
            rw [PT, hs.hd (by decide), if_neg hx1, hs.hd (by decide), if_neg hx2, hs.hd (by decide), if_neg hx3, a1 k (by omega)]
    | list =>
      rw [PT] at h
      obtain ⟨r1, h1, h⟩ := Option.bind_eq_some_iff.1 h
      obtain ⟨N1, m1, s1, a1⟩ := ih _ _ _ r1.1 r1.2 h1 _ hs
      split at h
      · rename_i hx
        obtain ⟨q, h2, h⟩ := Option.bind_eq_some_iff.1 h
        cases h
        obtain ⟨N2, m2, s2, a2⟩ := ih _ _ _ q.1 q.2 h2 _ (s1.tail hx).1
        refine fin' s2 (N := N1 + N2) fun k hk => ?_
        rw [PT, a1 k (by omega), Option.bind_some]
        simp only [s1.hd (x := ⟨#[58]⟩) (by decide), hx, if_true, a2 k (by omega)]; rfl
      · rename_i hx
        cases h
        refine fin' s1 (N := N1) fun k hk => ?_
        rw [PT, a1 k (by omega), Option.bind_some]
        simp only [s1.hd (x := ⟨#[58]⟩) (by decide), hx]; rfl
    | order =>
      rw [PT] at h
      obtain ⟨r1, h1, h⟩ := Option.bind_eq_some_iff.1 h
      obtain ⟨N1, m1, s1, a1⟩ := ih _ _ _ r1.1 r1.2 h1 _ hs
      split at h
      · rename_i hx
        have hz : ∃ x, Skein.hd x r1.2 = true := by
          rcases Bool.or_eq_true _ _ |>.mp hx with h | h
          · exact ⟨_, h⟩
          · exact ⟨_, h⟩
        obtain ⟨z, hz⟩ := hz
        obtain ⟨q, h2, h⟩ := Option.bind_eq_some_iff.1 h
        cases h
        obtain ⟨N2, m2, s2, a2⟩ := ih _ _ _ q.1 q.2 h2 _ (s1.tail hz).1
        refine fin' s2 (N := N1 + N2) fun k hk => ?_
        rw [PT, a1 k (by omega), Option.bind_some]
        simp only [s1.hd (x := ⟨#[61]⟩) (by decide), s1.hd (x := ⟨#[60]⟩) (by decide), hx, if_true, a2 k (by omega), (s1.tail hz).2]; rfl
      · rename_i hx
        cases h
        refine fin' s1 (N := N1) fun k hk => ?_
        rw [PT, a1 k (by omega), Option.bind_some]
        simp only [s1.hd (x := ⟨#[61]⟩) (by decide), s1.hd (x := ⟨#[60]⟩) (by decide), hx]; rfl
    | sum =>
      rw [PT] at h
      obtain ⟨r1, h1, h⟩ := Option.bind_eq_some_iff.1 h
      obtain ⟨N1, m1, s1, a1⟩ := ih _ _ _ r1.1 r1.2 h1 _ hs
      obtain ⟨N2, m2, s2, a2⟩ := ih _ _ _ _ _ h _ s1
      refine fin' s2 (N := N1 + N2) fun k hk => ?_
      rw [PT, a1 k (by omega), Option.bind_some, a2 k (by omega)]
    | prod =>
      rw [PT] at h
      obtain ⟨r1, h1, h⟩ := Option.bind_eq_some_iff.1 h
      obtain ⟨N1, m1, s1, a1⟩ := ih _ _ _ r1.1 r1.2 h1 _ hs
      obtain ⟨N2, m2, s2, a2⟩ := ih _ _ _ _ _ h _ s1
      refine fin' s2 (N := N1 + N2) fun k hk => ?_
      rw [PT, a1 k (by omega), Option.bind_some, a2 k (by omega)]
    | use =>
      rw [PT] at h
      obtain ⟨r1, h1, h⟩ := Option.bind_eq_some_iff.1 h
      obtain ⟨N1, m1, s1, a1⟩ := ih _ _ _ r1.1 r1.2 h1 _ hs
      obtain ⟨N2, m2, s2, a2⟩ := ih _ _ _ _ _ h _ s1
      refine fin' s2 (N := N1 + N2) fun k hk => ?_
      rw [PT, a1 k (by omega), Option.bind_some, a2 k (by omega)]
    | sumL a =>
      rw [PT] at h
      split at h
      · rename_i hx
        have hz : ∃ x, Skein.hd x l = true := by
          rcases Bool.or_eq_true _ _ |>.mp hx with h | h
          · exact ⟨_, h⟩
          · exact ⟨_, h⟩
        obtain ⟨z, hz⟩ := hz
        obtain ⟨r1, h1, h⟩ := Option.bind_eq_some_iff.1 h
        obtain ⟨N1, m1, s1, a1⟩ := ih _ _ _ r1.1 r1.2 h1 _ (hs.tail hz).1
        obtain ⟨N2, m2, s2, a2⟩ := ih _ _ _ _ _ h _ s1
        refine fin' s2 (N := N1 + N2) fun k hk => ?_
        rw [PT, hs.hd (by decide), hs.hd (by decide), if_pos hx, a1 k (by omega), Option.bind_some, (hs.tail hz).2, a2 k (by omega)]
      · rename_i hx
        cases h
        refine fin' hs (N := 0) fun k hk => ?_
        rw [PT, hs.hd (by decide), hs.hd (by decide), if_neg hx]
    | prodL a =>
      rw [PT] at h
      split at h
      · rename_i hx
        obtain ⟨r1, h1, h⟩ := Option.bind_eq_some_iff.1 h
        obtain ⟨N1, m1, s1, a1⟩ := ih _ _ _ r1.1 r1.2 h1 _ (hs.tail hx).1
        obtain ⟨N2, m2, s2, a2⟩ := ih _ _ _ _ _ h _ s1
        refine fin' s2 (N := N1 + N2) fun k hk => ?_
        rw [PT, hs.hd (by decide), if_pos hx, a1 k (by omega), Option.bind_some, a2 k (by omega)]
      · rename_i hx
        cases h
        refine fin' hs (N := 0) fun k hk => ?_
        rw [PT, hs.hd (by decide), if_neg hx]
    | useL a =>
      rw [PT] at h
      split at h
      · rename_i hx
        obtain ⟨r1, h1, h⟩ := Option.bind_eq_some_iff.1 h
        obtain ⟨N1, m1, s1, a1⟩ := ih _ _ _ r1.1 r1.2 h1 _ hs
        obtain ⟨N2, m2, s2, a2⟩ := ih _ _ _ _ _ h _ s1
        refine fin' s2 (N := N1 + N2) fun k hk => ?_
        rw [PT, hs.beg, if_pos hx, a1 k (by omega), Option.bind_some, a2 k (by omega)]
      · rename_i hx
        cases h
        refine fin' hs (N := 0) fun k hk => ?_
        rw [PT, hs.beg, if_neg hx]
    | atom =>
      cases hs with
      | nil => simp [PT] at h
      | tree hr hs =>
        simp only [PT, Option.some.injEq, Prod.mk.injEq] at h
        obtain ⟨rfl, rfl⟩ := h
        obtain ⟨k, hk⟩ := hr.go g
        exact ⟨k, _, hs, fun n hn => hk n hn _⟩
      | same k hs =>
        rename_i l l'
        cases k with
        | num x => simp only [PT, Option.some.injEq, Prod.mk.injEq] at h; obtain ⟨rfl, rfl⟩ := h; exact fin' hs (N := 0) fun k _ => by simp only [PT]
        | tree x => simp only [PT, Option.some.injEq, Prod.mk.injEq] at h; obtain ⟨rfl, rfl⟩ := h; exact fin' hs (N := 0) fun k _ => by simp only [PT]
        | bad => simp [PT] at h
        | name x =>
          simp only [PT] at h
          obtain ⟨i, h1, h⟩ := Option.bind_eq_some_iff.1 h
          cases h
          exact fin' hs (N := 0) fun k _ => by simp only [PT, h1]; rfl
        | sym x =>
          simp only [PT] at h
          split at h
          · rename_i hx
            cases h
            exact fin' hs (N := 0) fun k _ => by simp only [PT, hx]; rfl
          · rename_i hx
            split at h
            · rename_i hx2
              obtain ⟨r1, h1, h⟩ := Option.bind_eq_some_iff.1 h
              obtain ⟨l2, h2, h⟩ := Option.bind_eq_some_iff.1 h
              cases h
              obtain ⟨N1, m1, s1, a1⟩ := ih _ _ _ r1.1 r1.2 h1 _ hs
              obtain ⟨m2, a2, s2⟩ := s1.eat (by decide) h2
              refine fin' s2 (N := N1) fun k hk => ?_
              simp only [PT]
              rw [if_neg hx, if_pos hx2, a1 k (by omega), Option.bind_some, a2]; rfl
            · rename_i hx2
              split at h
              · rename_i hx3
                obtain ⟨r1, h1, h⟩ := Option.bind_eq_some_iff.1 h
                cases h
                obtain ⟨N1, m1, s1, a1⟩ := ih _ _ _ r1.1 r1.2 h1 _ hs
                refine fin' s1 (N := N1) fun k hk => ?_
                simp only [PT]
                rw [if_neg hx, if_neg hx2, if_pos hx3, a1 k (by omega)]; rfl
              · cases h
end Skein

namespace Skein

theorem PM_mono (s : ByteArray) : ∀ (n : Nat) (nt : NT) (m : M) (r : T × M), PM s n nt m = some r → PM s (n + 1) nt m = some r := by
  intro n
  induction n with
  | zero => intro nt m r h; simp [PM] at h
  | succ n ih =>
    intro nt m r h
    cases nt with
    | expr =>
      rw [PM] at h ⊢
      split at h
      · rename_i hx
        rw [if_pos hx]; exact h
      · rename_i hx0
        rw [if_neg hx0]
        split at h
        · rename_i hx
          rw [if_pos hx]
          obtain ⟨r1, h1, h⟩ := Option.bind_eq_some_iff.1 h
          obtain ⟨q, h2, h⟩ := Option.bind_eq_some_iff.1 h
          rw [ih _ _ _ h1, Option.bind_some, ih _ _ _ h2]; exact h
        · rename_i hx
          rw [if_neg hx]
          split at h
          · rename_i hx
            rw [if_pos hx]
            obtain ⟨r1, h1, h⟩ := Option.bind_eq_some_iff.1 h
            rw [ih _ _ _ h1]; exact h
          · rename_i hx
            rw [if_neg hx]
            split at h
            · rename_i hx
              rw [if_pos hx]
              obtain ⟨r1, h1, h⟩ := Option.bind_eq_some_iff.1 h
              obtain ⟨q, h2, h⟩ := Option.bind_eq_some_iff.1 h
              obtain ⟨p, h3, h⟩ := Option.bind_eq_some_iff.1 h
              rw [ih _ _ _ h1, Option.bind_some, ih _ _ _ h2, Option.bind_some, ih _ _ _ h3]; exact h
            · rename_i hx
              rw [if_neg hx]; exact ih _ _ _ h
    | list =>
      rw [PM] at h ⊢
      split at h
      · rename_i hx
        rw [if_pos hx]; exact h
      · rename_i hx0
        rw [if_neg hx0]
        obtain ⟨r1, h1, h⟩ := Option.bind_eq_some_iff.1 h
        rw [ih _ _ _ h1, Option.bind_some]
        split at h
        · rename_i hx
          rw [if_pos hx]
          obtain ⟨q, h2, h⟩ := Option.bind_eq_some_iff.1 h
          rw [ih _ _ _ h2]; exact h
        · rename_i hx
          rw [if_neg hx]; exact h
    | order =>
      rw [PM] at h ⊢
      split at h
      · rename_i hx
        rw [if_pos hx]; exact h
      · rename_i hx0
        rw [if_neg hx0]
        obtain ⟨r1, h1, h⟩ := Option.bind_eq_some_iff.1 h
        rw [ih _ _ _ h1, Option.bind_some]
        split at h
        · rename_i hx
          rw [if_pos hx]
          obtain ⟨q, h2, h⟩ := Option.bind_eq_some_iff.1 h
          rw [ih _ _ _ h2]; exact h
        · rename_i hx
          rw [if_neg hx]; exact h
    | sum =>
      rw [PM] at h ⊢
      split at h
      · rename_i hx
        rw [if_pos hx]; exact h
      · rename_i hx0
        rw [if_neg hx0]
        obtain ⟨r1, h1, h⟩ := Option.bind_eq_some_iff.1 h
        rw [ih _ _ _ h1, Option.bind_some]; exact ih _ _ _ h
    | prod =>
      rw [PM] at h ⊢
      split at h
      · rename_i hx
        rw [if_pos hx]; exact h
      · rename_i hx0
        rw [if_neg hx0]
        obtain ⟨r1, h1, h⟩ := Option.bind_eq_some_iff.1 h
        rw [ih _ _ _ h1, Option.bind_some]; exact ih _ _ _ h
    | use =>
      rw [PM] at h ⊢
      split at h
      · rename_i hx
        rw [if_pos hx]; exact h
      · rename_i hx0
        rw [if_neg hx0]
        obtain ⟨r1, h1, h⟩ := Option.bind_eq_some_iff.1 h
        rw [ih _ _ _ h1, Option.bind_some]; exact ih _ _ _ h
    | sumL a =>
      rw [PM] at h ⊢
      split at h
      · rename_i hx
        rw [if_pos hx]
        obtain ⟨r1, h1, h⟩ := Option.bind_eq_some_iff.1 h
        rw [ih _ _ _ h1, Option.bind_some]; exact ih _ _ _ h
      · rename_i hx
        rw [if_neg hx]; exact h
    | prodL a =>
      rw [PM] at h ⊢
      split at h
      · rename_i hx
        rw [if_pos hx]
        obtain ⟨r1, h1, h⟩ := Option.bind_eq_some_iff.1 h
        rw [ih _ _ _ h1, Option.bind_some]; exact ih _ _ _ h
      · rename_i hx
        rw [if_neg hx]; exact h
    | useL a =>
      rw [PM] at h ⊢
      split at h
      · rename_i hx
        rw [if_pos hx]
        obtain ⟨r1, h1, h⟩ := Option.bind_eq_some_iff.1 h
        rw [ih _ _ _ h1, Option.bind_some]; exact ih _ _ _ h
      · rename_i hx
        rw [if_neg hx]; exact h
    | atom =>
      rw [PM] at h ⊢
      split at h
      · rename_i hx
        rw [if_pos hx]
        split at h
        · rename_i hx
          rw [if_pos hx]; exact h
        · rename_i hx
          rw [if_neg hx]
          split at h
          · rename_i hx
            rw [if_pos hx]; exact h
          · rename_i hx
            rw [if_neg hx]
            split at h
            · rename_i hx
              rw [if_pos hx]; exact h
            · rename_i hx
              rw [if_neg hx]
              split at h
              · rename_i hx
                rw [if_pos hx]
                obtain ⟨r1, h1, h⟩ := Option.bind_eq_some_iff.1 h
                rw [ih _ _ _ h1]; exact h
              · rename_i hx
                rw [if_neg hx]
                obtain ⟨r1, h1, h⟩ := Option.bind_eq_some_iff.1 h
                rw [ih _ _ _ h1]; exact h
      · rename_i hx
        rw [if_neg hx]; exact h
theorem PM_more {s : ByteArray} {n k : Nat} {nt : NT} {m : M} {r : T × M} (h : PM s n nt m = some r) (hk : n ≤ k) : PM s k nt m = some r := by
  induction k with
  | zero => obtain rfl : n = 0 := by omega
            exact h
  | succ k ih =>
    by_cases e : n = k + 1
    · rw [← e]; exact h
    · exact PM_mono _ _ _ _ _ (ih (by omega))
theorem PM_same {s : ByteArray} {n k : Nat} {nt : NT} {m : M} {r q : T × M} (h : PM s n nt m = some r) (h2 : PM s k nt m = some q) : r = q := by
  have a := PM_more h (Nat.le_max_left n k)
  have b := PM_more h2 (Nat.le_max_right n k)
  rw [a] at b; exact Option.some.inj b

/-- A whole text by its signs. -/
theorem whole_str {s : ByteArray} {l : List Tk} {t : T} {n : Nat} (hs : Str s (tok s 0) l) (hp : PT n .expr [] l = some (t, [])) : ∃ m, PM s (8 * s.size + 8) .expr (start s) = some (t, m) ∧ finish m = (0, 0) := by
  obtain ⟨m', p, b, _, f, s'⟩ := PT_PM s n .expr [] _ t [] hp (start s) rfl rfl hs
  obtain ⟨t0, m0, h0⟩ := PM_ends s
  have e := PM_same p h0
  cases e
  refine ⟨m', h0, ?_⟩
  have f' : m'.free = -1 := f
  unfold finish M.isBad
  rw [b, s'.1, s'.2, f']
  rfl
theorem whole_of {s : ByteArray} {l : List Pc} {t : T} {n : Nat} (hs : s.data.toList = flat l) (hf : fin l none = true) (hp : PT n .expr [] (tks l) = some (t, [])) : ∃ m, PM s (8 * s.size + 8) .expr (start s) = some (t, m) ∧ finish m = (0, 0) :=
  whole_str (Str_of l 0 (Nat.zero_le _) (D_whole hs) hf) hp

/-- The pieces of an expression of numbers. -/
def X.pcs : X → List Pc
  | .num ds => [.num ds]
  | .op sp o a b => .mark 40 :: (a.pcs ++ ((if sp then [.blank 32, .mark o, .blank 32] else [.mark o]) ++ (b.pcs ++ [.mark 41])))
  | .ite a b => .mark 40 :: .word [105, 102] :: .blank 32 :: (a.pcs ++ (.blank 32 :: .word [116, 104, 101, 110] :: .blank 32 :: (b.pcs ++ (.blank 32 :: .word [101, 108, 115, 101] :: .blank 32 :: (a.pcs ++ [.mark 41])))))
theorem X.flat_pcs : ∀ x : X, flat x.pcs = x.txt := by
  intro x
  induction x with
  | num ds => simp [X.pcs, X.txt, flat, Pc.txt]
  | op sp o a b ia ib =>
    simp only [flat] at ia ib
    cases sp <;> simp [X.pcs, X.txt, flat, Pc.txt, ia, ib]
  | ite a b ia ib =>
    simp only [flat] at ia ib
    simp [X.pcs, X.txt, flat, Pc.txt, ia, ib]
theorem mark_ok (o : UInt8) (h : o = 43 ∨ o = 45 ∨ o = 42 ∨ o = 61 ∨ o = 60) : (Pc.mark o).ok = true ∧ fits true o = false := by
  rcases h with rfl | rfl | rfl | rfl | rfl <;> decide
theorem X.first_pc (x : X) : ∃ p r, x.pcs = p :: r := by cases x <;> exact ⟨_, _, rfl⟩
theorem X.fin_pcs : ∀ x : X, x.ok → ∀ nx, halt nx = true → fin x.pcs nx = true := by
  intro x
  induction x with
  | num ds =>
    intro h nx hn
    have hok : (Pc.num ds).ok = true := by
      simp only [Pc.ok, Bool.and_eq_true, Bool.not_eq_true', List.isEmpty_eq_false_iff, decide_eq_true_eq, List.all_eq_true]
      exact ⟨⟨h.1, h.2.1⟩, h.2.2⟩
    simp [X.pcs, fin, hok, Pc.runs, firstN, hn]
  | op sp o a b ia ib =>
    intro h nx hn
    obtain ⟨m1, m2⟩ := mark_ok o h.1
    have hb : fin (b.pcs ++ [Pc.mark 41]) nx = true := fin_app _ _ _ (ib h.2.2 _ (by rfl)) (by simp only [fin, Bool.and_true, Bool.and_eq_true]; exact ⟨by rfl, by rfl⟩)
    simp only [X.pcs, fin, Bool.and_eq_true]
    refine ⟨⟨by rfl, by rfl⟩, fin_app _ _ _ (ia h.2.1 _ ?_) (fin_app _ _ _ ?_ hb)⟩
    · cases sp
      · simp [firstN, Pc.txt, halt, m2]
      · rfl
    · cases sp
      · simp [fin, m1, Pc.runs]
      · simp only [if_true, fin, m1, Pc.runs]; rfl
  | ite a b ia ib =>
    intro h nx hn
    have ha : fin (a.pcs ++ [Pc.mark 41]) nx = true := fin_app _ _ _ (ia h.1 _ (by rfl)) (by simp only [fin, Bool.and_true, Bool.and_eq_true]; exact ⟨by rfl, by rfl⟩)
    have h1 : fin (Pc.blank 32 :: Pc.word [101, 108, 115, 101] :: Pc.blank 32 :: (a.pcs ++ [Pc.mark 41])) nx = true := by
      simp only [fin, Bool.and_eq_true]
      exact ⟨⟨by rfl, by rfl⟩, ⟨by rfl, by rfl⟩, ⟨by rfl, by rfl⟩, ha⟩
    have h2 := fin_app b.pcs _ nx (ib h.2 _ (by rfl)) h1
    have h3 : fin (Pc.blank 32 :: Pc.word [116, 104, 101, 110] :: Pc.blank 32 :: (b.pcs ++ (Pc.blank 32 :: Pc.word [101, 108, 115, 101] :: Pc.blank 32 :: (a.pcs ++ [Pc.mark 41])))) nx = true := by
      simp only [fin, Bool.and_eq_true] at h2 ⊢
      exact ⟨⟨by rfl, by rfl⟩, ⟨by rfl, by rfl⟩, ⟨by rfl, by rfl⟩, h2⟩
    have h4 := fin_app a.pcs _ nx (ia h.1 _ (by rfl)) h3
    simp only [X.pcs]
    simp only [fin, Bool.and_eq_true] at h4 ⊢
    exact ⟨⟨by rfl, by rfl⟩, ⟨by rfl, by rfl⟩, ⟨by rfl, by rfl⟩, h4⟩

theorem sub_same (l : List Tk) {r r' : List Tk} (h : Sub r r') : Sub (l ++ r) (l ++ r') := by
  induction l with
  | nil => exact h
  | cons k l ih => exact .same k ih
theorem sub_refl (l : List Tk) : Sub l l := by
  induction l with
  | nil => exact .nil
  | cons k l ih => exact .same k ih

/-- What is left is a part of what there was. -/
theorem PT_suf : ∀ (n : Nat) (nt : NT) (g : List ByteArray) (l : List Tk) (t : T) (l' : List Tk), PT n nt g l = some (t, l') → ∃ p, l = p ++ l' := by
  intro n
  induction n with
  | zero => intro nt g l t l' h; simp [PT] at h
  | succ n ih =>
    intro nt g l t l' h
    have tl : ∀ {l l1 : List Tk}, (∃ p, l.tail = p ++ l1) → ∃ p, l = p ++ l1 := fun {l l1} ⟨p, e⟩ => by
      cases l with
      | nil => exact ⟨p, by simpa using e⟩
      | cons k l => exact ⟨k :: p, by simp at e; simp [e]⟩
    have ea : ∀ {x : ByteArray} {l l1 : List Tk}, eat x l = some l1 → ∃ p, l = p ++ l1 := fun {x l l1} he => by
      obtain ⟨_, rfl⟩ := eat_ok he
      exact tl ⟨[], rfl⟩
    have en : ∀ {l : List Tk} {y : ByteArray × List Tk}, eatName l = some y → ∃ p, l = p ++ y.2 := fun {l y} he => by
      cases l with
      | nil => cases he
      | cons k l => cases k <;> first | (cases he; done) | (cases he; exact ⟨[_], rfl⟩)
    have tr : ∀ {a b c : List Tk}, (∃ p, a = p ++ b) → (∃ p, b = p ++ c) → ∃ p, a = p ++ c := fun {a b c} ⟨p, e⟩ ⟨q, e2⟩ => ⟨p ++ q, by rw [e, e2]; simp⟩
    cases nt with
    | expr =>
      rw [PT] at h
      split at h
      · obtain ⟨y, h1, h⟩ := Option.bind_eq_some_iff.1 h
        obtain ⟨l2, h2, h⟩ := Option.bind_eq_some_iff.1 h
        obtain ⟨r1, h3, h⟩ := Option.bind_eq_some_iff.1 h
        obtain ⟨l3, h4, h⟩ := Option.bind_eq_some_iff.1 h
        obtain ⟨q, h5, h⟩ := Option.bind_eq_some_iff.1 h
        cases h
        exact tr (tl (en h1)) (tr (ea h2) (tr (ih _ _ _ r1.1 r1.2 h3) (tr (ea h4) (ih _ _ _ q.1 q.2 h5))))
      · split at h
        · obtain ⟨y, h1, h⟩ := Option.bind_eq_some_iff.1 h
          obtain ⟨l2, h2, h⟩ := Option.bind_eq_some_iff.1 h
          obtain ⟨r1, h3, h⟩ := Option.bind_eq_some_iff.1 h
          cases h
          exact tr (tl (en h1)) (tr (ea h2) (ih _ _ _ r1.1 r1.2 h3))
        · split at h
          · obtain ⟨r1, h1, h⟩ := Option.bind_eq_some_iff.1 h
            obtain ⟨l2, h2, h⟩ := Option.bind_eq_some_iff.1 h
            obtain ⟨q, h3, h⟩ := Option.bind_eq_some_iff.1 h
            obtain ⟨l3, h4, h⟩ := Option.bind_eq_some_iff.1 h
            obtain ⟨p, h5, h⟩ := Option.bind_eq_some_iff.1 h
            cases h
            exact tr (tl (ih _ _ _ r1.1 r1.2 h1)) (tr (ea h2) (tr (ih _ _ _ q.1 q.2 h3) (tr (ea h4) (ih _ _ _ p.1 p.2 h5))))
          · exact ih _ _ _ _ _ h
    | list =>
      rw [PT] at h
      obtain ⟨r1, h1, h⟩ := Option.bind_eq_some_iff.1 h
      have a := ih _ _ _ r1.1 r1.2 h1
      split at h
      · obtain ⟨q, h2, h⟩ := Option.bind_eq_some_iff.1 h
        cases h
        exact tr a (tl (ih _ _ _ q.1 q.2 h2))
      · cases h; exact a
    | order =>
      rw [PT] at h
      obtain ⟨r1, h1, h⟩ := Option.bind_eq_some_iff.1 h
      have a := ih _ _ _ r1.1 r1.2 h1
      split at h
      · obtain ⟨q, h2, h⟩ := Option.bind_eq_some_iff.1 h
        cases h
        exact tr a (tl (ih _ _ _ q.1 q.2 h2))
      · cases h; exact a
    | sum =>
      rw [PT] at h
      obtain ⟨r1, h1, h⟩ := Option.bind_eq_some_iff.1 h
      exact tr (ih _ _ _ r1.1 r1.2 h1) (ih _ _ _ _ _ h)
    | prod =>
      rw [PT] at h
      obtain ⟨r1, h1, h⟩ := Option.bind_eq_some_iff.1 h
      exact tr (ih _ _ _ r1.1 r1.2 h1) (ih _ _ _ _ _ h)
    | use =>
      rw [PT] at h
      obtain ⟨r1, h1, h⟩ := Option.bind_eq_some_iff.1 h
      exact tr (ih _ _ _ r1.1 r1.2 h1) (ih _ _ _ _ _ h)
    | sumL a =>
      rw [PT] at h
      split at h
      · obtain ⟨r1, h1, h⟩ := Option.bind_eq_some_iff.1 h
        exact tr (tl (ih _ _ _ r1.1 r1.2 h1)) (ih _ _ _ _ _ h)
      · cases h; exact ⟨[], rfl⟩
    | prodL a =>
      rw [PT] at h
      split at h
      · obtain ⟨r1, h1, h⟩ := Option.bind_eq_some_iff.1 h
        exact tr (tl (ih _ _ _ r1.1 r1.2 h1)) (ih _ _ _ _ _ h)
      · cases h; exact ⟨[], rfl⟩
    | useL a =>
      rw [PT] at h
      split at h
      · obtain ⟨r1, h1, h⟩ := Option.bind_eq_some_iff.1 h
        exact tr (ih _ _ _ r1.1 r1.2 h1) (ih _ _ _ _ _ h)
      · cases h; exact ⟨[], rfl⟩
    | atom =>
      cases l with
      | nil => simp [PT] at h
      | cons k l =>
        cases k with
        | num x => simp only [PT, Option.some.injEq, Prod.mk.injEq] at h; obtain ⟨_, rfl⟩ := h; exact ⟨[_], rfl⟩
        | tree x => simp only [PT, Option.some.injEq, Prod.mk.injEq] at h; obtain ⟨_, rfl⟩ := h; exact ⟨[_], rfl⟩
        | bad => simp [PT] at h
        | name x =>
          simp only [PT] at h
          obtain ⟨i, h1, h⟩ := Option.bind_eq_some_iff.1 h
          cases h; exact ⟨[_], rfl⟩
        | sym x =>
          simp only [PT] at h
          split at h
          · cases h; exact ⟨[_], rfl⟩
          · split at h
            · obtain ⟨r1, h1, h⟩ := Option.bind_eq_some_iff.1 h
              obtain ⟨l2, h2, h⟩ := Option.bind_eq_some_iff.1 h
              cases h
              exact tl (tr (ih _ _ _ r1.1 r1.2 h1) (ea h2))
            · split at h
              · obtain ⟨r1, h1, h⟩ := Option.bind_eq_some_iff.1 h
                cases h
                exact tl (ih _ _ _ r1.1 r1.2 h1)
              · cases h

theorem ne_of_suf {l l' : List Tk} (h : ∃ p, l = p ++ l') (hn : l' ≠ []) : l ≠ [] := by
  obtain ⟨p, rfl⟩ := h
  simp [hn]
theorem hd_ne {l : List Tk} (h : l ≠ []) (x : ByteArray) (r : List Tk) : hd x (l ++ r) = hd x l ∧ beg (l ++ r) = beg l ∧ (l ++ r).tail = l.tail ++ r ∧ opT (l ++ r) = opT l := by
  cases l with
  | nil => exact absurd rfl h
  | cons k l => cases k <;> exact ⟨rfl, rfl, rfl, rfl⟩

/-- Signs behind are left as they are, if something is left ahead of them or an atom was read. -/
theorem PT_any (e : List Tk) : ∀ (n : Nat) (nt : NT) (g : List ByteArray) (l : List Tk) (t : T) (l' : List Tk), PT n nt g l = some (t, l') → (l' ≠ [] ∨ nt = .atom) → PT n nt g (l ++ e) = some (t, l' ++ e) := by
  intro n
  induction n with
  | zero => intro nt g l t l' h; simp [PT] at h
  | succ n ih =>
    intro nt g l t l' h hne
    have hl : l ≠ [] := by
      rcases hne with h1 | rfl
      · exact ne_of_suf (PT_suf _ _ _ _ _ _ h) h1
      · rintro rfl; simp [PT] at h
    have hh := fun x => (hd_ne hl x e).1
    have ht := (hd_ne hl ⟨#[]⟩ e).2.2.1
    have ho := (hd_ne hl ⟨#[]⟩ e).2.2.2
    have hbg := (hd_ne hl ⟨#[]⟩ e).2.1
    cases nt with
    | expr =>
      have hn : l' ≠ [] := by rcases hne with h1 | h1 <;> first | exact h1 | cases h1
      rw [PT] at h ⊢
      rw [hh, hh, hh, ht]
      split at h
      · rename_i hx
        rw [if_pos hx]
        obtain ⟨y, h1, h⟩ := Option.bind_eq_some_iff.1 h
        obtain ⟨l2, h2, h⟩ := Option.bind_eq_some_iff.1 h
        obtain ⟨r1, h3, h⟩ := Option.bind_eq_some_iff.1 h
        obtain ⟨l3, h4, h⟩ := Option.bind_eq_some_iff.1 h
        obtain ⟨q, h5, h⟩ := Option.bind_eq_some_iff.1 h
        cases h
        have n3 : r1.2 ≠ [] := by
          rintro e0; rw [e0] at h4; cases h4
        rw [eatName_app h1, Option.bind_some, eat_app h2, Option.bind_some, ih _ _ _ r1.1 r1.2 h3 (.inl n3), Option.bind_some, eat_app h4, Option.bind_some, ih _ _ _ q.1 q.2 h5 (.inl hn)]; rfl
      · rename_i hx
        rw [if_neg hx]
        split at h
        · rename_i hx
          rw [if_pos hx]
          obtain ⟨y, h1, h⟩ := Option.bind_eq_some_iff.1 h
          obtain ⟨l2, h2, h⟩ := Option.bind_eq_some_iff.1 h
          obtain ⟨r1, h3, h⟩ := Option.bind_eq_some_iff.1 h
          cases h
          rw [eatName_app h1, Option.bind_some, eat_app h2, Option.bind_some, ih _ _ _ r1.1 r1.2 h3 (.inl hn)]; rfl
        · rename_i hx
          rw [if_neg hx]
          split at h
          · rename_i hx
            rw [if_pos hx]
            obtain ⟨r1, h1, h⟩ := Option.bind_eq_some_iff.1 h
            obtain ⟨l2, h2, h⟩ := Option.bind_eq_some_iff.1 h
            obtain ⟨q, h3, h⟩ := Option.bind_eq_some_iff.1 h
            obtain ⟨l3, h4, h⟩ := Option.bind_eq_some_iff.1 h
            obtain ⟨p, h5, h⟩ := Option.bind_eq_some_iff.1 h
            cases h
            have n1 : r1.2 ≠ [] := by rintro e0; rw [e0] at h2; cases h2
            have n3 : q.2 ≠ [] := by rintro e0; rw [e0] at h4; cases h4
            rw [ih _ _ _ r1.1 r1.2 h1 (.inl n1), Option.bind_some, eat_app h2, Option.bind_some, ih _ _ _ q.1 q.2 h3 (.inl n3), Option.bind_some, eat_app h4, Option.bind_some, ih _ _ _ p.1 p.2 h5 (.inl hn)]; rfl
          · rename_i hx
            rw [if_neg hx]
            exact ih _ _ _ _ _ h (.inl hn)
    | list =>
      have hn : l' ≠ [] := by rcases hne with h1 | h1 <;> first | exact h1 | cases h1
      rw [PT] at h ⊢
      obtain ⟨r1, h1, h⟩ := Option.bind_eq_some_iff.1 h
      split at h
      · rename_i hx
        obtain ⟨q, h2, h⟩ := Option.bind_eq_some_iff.1 h
        cases h
        have n1 : r1.2 ≠ [] := by rintro e0; rw [e0] at hx; cases hx
        rw [ih _ _ _ r1.1 r1.2 h1 (.inl n1), Option.bind_some]
        simp only [(hd_ne n1 _ e).1, (hd_ne n1 ⟨#[]⟩ e).2.2.1, hx, if_true]
        rw [ih _ _ _ q.1 q.2 h2 (.inl hn)]; rfl
      · rename_i hx
        cases h
        rw [ih _ _ _ _ _ h1 (.inl hn), Option.bind_some]
        simp only [(hd_ne hn _ e).1, hx]; rfl
    | order =>
      have hn : l' ≠ [] := by rcases hne with h1 | h1 <;> first | exact h1 | cases h1
      rw [PT] at h ⊢
      obtain ⟨r1, h1, h⟩ := Option.bind_eq_some_iff.1 h
      split at h
      · rename_i hx
        obtain ⟨q, h2, h⟩ := Option.bind_eq_some_iff.1 h
        cases h
        have n1 : r1.2 ≠ [] := by rintro e0; rw [e0] at hx; cases hx
        rw [ih _ _ _ r1.1 r1.2 h1 (.inl n1), Option.bind_some]
        simp only [(hd_ne n1 _ e).1, (hd_ne n1 ⟨#[]⟩ e).2.2.1, (hd_ne n1 ⟨#[]⟩ e).2.2.2, hx, if_true]
        rw [ih _ _ _ q.1 q.2 h2 (.inl hn)]; rfl
      · rename_i hx
        cases h
        rw [ih _ _ _ _ _ h1 (.inl hn), Option.bind_some]
        simp only [(hd_ne hn _ e).1, hx]; rfl
    | sum =>
      have hn : l' ≠ [] := by rcases hne with h1 | h1 <;> first | exact h1 | cases h1
      rw [PT] at h ⊢
      obtain ⟨r1, h1, h⟩ := Option.bind_eq_some_iff.1 h
      rw [ih _ _ _ r1.1 r1.2 h1 (.inl (ne_of_suf (PT_suf _ _ _ _ _ _ h) hn)), Option.bind_some]; exact ih _ _ _ _ _ h (.inl hn)
    | prod =>
      have hn : l' ≠ [] := by rcases hne with h1 | h1 <;> first | exact h1 | cases h1
      rw [PT] at h ⊢
      obtain ⟨r1, h1, h⟩ := Option.bind_eq_some_iff.1 h
      rw [ih _ _ _ r1.1 r1.2 h1 (.inl (ne_of_suf (PT_suf _ _ _ _ _ _ h) hn)), Option.bind_some]; exact ih _ _ _ _ _ h (.inl hn)
    | use =>
      have hn : l' ≠ [] := by rcases hne with h1 | h1 <;> first | exact h1 | cases h1
      rw [PT] at h ⊢
      obtain ⟨r1, h1, h⟩ := Option.bind_eq_some_iff.1 h
      rw [ih _ _ _ r1.1 r1.2 h1 (.inl (ne_of_suf (PT_suf _ _ _ _ _ _ h) hn)), Option.bind_some]; exact ih _ _ _ _ _ h (.inl hn)
    | sumL a =>
      have hn : l' ≠ [] := by rcases hne with h1 | h1 <;> first | exact h1 | cases h1
      rw [PT] at h ⊢
      rw [hh, hh, ht, ho]
      split at h
      · rename_i hx
        rw [if_pos hx]
        obtain ⟨r1, h1, h⟩ := Option.bind_eq_some_iff.1 h
        rw [ih _ _ _ r1.1 r1.2 h1 (.inl (ne_of_suf (PT_suf _ _ _ _ _ _ h) hn)), Option.bind_some]; exact ih _ _ _ _ _ h (.inl hn)
      · rename_i hx
        rw [if_neg hx]; cases h; rfl
    | prodL a =>
      have hn : l' ≠ [] := by rcases hne with h1 | h1 <;> first | exact h1 | cases h1
      rw [PT] at h ⊢
      rw [hh, ht]
      split at h
      · rename_i hx
        rw [if_pos hx]
        obtain ⟨r1, h1, h⟩ := Option.bind_eq_some_iff.1 h
        rw [ih _ _ _ r1.1 r1.2 h1 (.inl (ne_of_suf (PT_suf _ _ _ _ _ _ h) hn)), Option.bind_some]; exact ih _ _ _ _ _ h (.inl hn)
      · rename_i hx
        rw [if_neg hx]; cases h; rfl
    | useL a =>
      have hn : l' ≠ [] := by rcases hne with h1 | h1 <;> first | exact h1 | cases h1
      rw [PT] at h ⊢
      rw [hbg]
      split at h
      · rename_i hx
        rw [if_pos hx]
        obtain ⟨r1, h1, h⟩ := Option.bind_eq_some_iff.1 h
        rw [ih _ _ _ r1.1 r1.2 h1 (.inr rfl), Option.bind_some]; exact ih _ _ _ _ _ h (.inl hn)
      · rename_i hx
        rw [if_neg hx]; cases h; rfl
    | atom =>
      cases l with
      | nil => simp [PT] at h
      | cons k l =>
        cases k with
        | num x => simp only [PT, List.cons_append] at h ⊢; cases h; rfl
        | name x =>
          simp only [PT, List.cons_append] at h ⊢
          obtain ⟨i, h1, h⟩ := Option.bind_eq_some_iff.1 h
          cases h; rw [h1]; rfl
        | tree x => simp only [PT, List.cons_append] at h ⊢; cases h; rfl
        | bad => simp [PT] at h
        | sym x =>
          simp only [PT, List.cons_append] at h ⊢
          split at h
          · rename_i hx
            rw [if_pos hx]; cases h; rfl
          · rename_i hx
            rw [if_neg hx]
            split at h
            · rename_i hx
              rw [if_pos hx]
              obtain ⟨r1, h1, h⟩ := Option.bind_eq_some_iff.1 h
              obtain ⟨l2, h2, h⟩ := Option.bind_eq_some_iff.1 h
              cases h
              have n1 : r1.2 ≠ [] := by rintro e0; rw [e0] at h2; cases h2
              rw [ih _ _ _ r1.1 r1.2 h1 (.inl n1), Option.bind_some, eat_app h2]; rfl
            · rename_i hx
              rw [if_neg hx]
              split at h
              · rename_i hx
                rw [if_pos hx]
                obtain ⟨r1, h1, h⟩ := Option.bind_eq_some_iff.1 h
                cases h
                rw [ih _ _ _ r1.1 r1.2 h1 (.inr rfl)]; rfl
              · cases h

theorem sub_nil {l : List Tk} (h : Sub [] l) : l = [] := by cases h; rfl

/-- Signs that are an atom, whatever names are given. -/
theorem Rd.of {e : List Tk} {t : T} {n : Nat} (h : ∀ g, PT n .atom g e = some (t, [])) (hb : beg e = true) (hk : ∀ x, hd x e = true → eqb ⟨#[40]⟩ x = true) : Rd e t := by
  have hn : e ≠ [] := by rintro rfl; cases hb
  refine ⟨fun g => ⟨n, fun k hk r => ?_⟩, fun r => by rw [(hd_ne hn ⟨#[]⟩ r).2.1]; exact hb, fun x r hx => hk x (by rw [(hd_ne hn x r).1] at hx; exact hx)⟩
  have := PT_any r _ _ _ _ _ _ (PT_more (h g) hk) (.inr rfl)
  simpa using this
/-- Brackets about something that is read with trees for its atoms. -/
theorem Rd.sub {l e : List Tk} {t : T} {n : Nat} (hs : Sub l (.sym ⟨#[40]⟩ :: e)) (h : ∀ g, PT n .atom g l = some (t, [])) : Rd (.sym ⟨#[40]⟩ :: e) t := by
  refine ⟨fun g => ?_, fun r => rfl, fun x r hx => hx⟩
  obtain ⟨N, l1, h1, h2⟩ := PT_sub _ _ _ _ _ _ (h g) _ hs
  rw [sub_nil h1] at h2
  refine ⟨N, fun k hk r => ?_⟩
  have := PT_any r _ _ _ _ _ _ (h2 k hk) (.inr rfl)
  simpa using this

theorem sub_app {l e : List Tk} {t : T} (h : Rd e t) {r r' : List Tk} (hs : Sub r r') (e0 : l = e ++ r') : Sub (.tree t :: r) l := by
  rw [e0]; exact .tree h hs

/-- An expression of numbers is an atom. -/
theorem X.rd : ∀ x : X, x.ok → Rd (tks x.pcs) x.tree := by
  intro x
  induction x with
  | num ds => intro h; exact Rd.of (n := 1) (fun g => rfl) rfl (fun x hx => by cases hx)
  | op sp o a b ia ib =>
    intro h
    have e : tks (X.op sp o a b).pcs = .sym ⟨#[40]⟩ :: (tks a.pcs ++ (.sym ⟨#[o]⟩ :: (tks b.pcs ++ [.sym ⟨#[41]⟩]))) := by
      cases sp <;> simp [X.pcs, tks, Pc.tk]
    rw [e]
    refine Rd.sub (l := [.sym ⟨#[40]⟩, .tree a.tree, .sym ⟨#[o]⟩, .tree b.tree, .sym ⟨#[41]⟩]) (n := 20) (.same _ (.tree (ia h.2.1) (.same _ (.tree (ib h.2.2) (.same _ .nil))))) fun g => ?_
    rcases h.1 with rfl | rfl | rfl | rfl | rfl <;> rfl
  | ite a b ia ib =>
    intro h
    have e : tks (X.ite a b).pcs = .sym ⟨#[40]⟩ :: .sym ⟨#[105, 102]⟩ :: (tks a.pcs ++ (.sym ⟨#[116, 104, 101, 110]⟩ :: (tks b.pcs ++ (.sym ⟨#[101, 108, 115, 101]⟩ :: (tks a.pcs ++ [.sym ⟨#[41]⟩]))))) := by
      have w1 : mem words ⟨#[105, 102]⟩ = true := by decide
      have w2 : mem words ⟨#[116, 104, 101, 110]⟩ = true := by decide
      have w3 : mem words ⟨#[101, 108, 115, 101]⟩ = true := by decide
      simp [X.pcs, tks, Pc.tk, w1, w2, w3]
    rw [e]
    exact Rd.sub (l := [.sym ⟨#[40]⟩, .sym ⟨#[105, 102]⟩, .tree a.tree, .sym ⟨#[116, 104, 101, 110]⟩, .tree b.tree, .sym ⟨#[101, 108, 115, 101]⟩, .tree a.tree, .sym ⟨#[41]⟩]) (n := 20)
      (.same _ (.same _ (.tree (ia h.1) (.same _ (.tree (ib h.2) (.same _ (.tree (ia h.1) (.same _ .nil)))))))) fun g => rfl
end Skein

namespace Go.Proofs.YtjjlgjmebnkdjaaGreatDoor
open Go Go.Proofs Go.RowKit Skein

theorem runs_steps {L : Nat} {t : T} {a : Except Int ByteArray} {k : Nat} (h : Runs L t a k) : k ≤ L ∧ (a = .error 8 → k = L) := by
  obtain ⟨n, r, he, h⟩ := h
  have h1 := ev_steps L n _ _ _ he (Nat.zero_le _)
  rcases h with ⟨z, hz, rfl, rfl⟩ | ⟨v, j, q, hv, hq, rfl, rfl⟩
  · refine ⟨h1.2, fun e => ?_⟩
    cases e
    have := ev_8 L n _ _ r he hz
    omega
  · have h2 := tell_steps L numT fnText j _ _ _ hq h1.2
    refine ⟨h2.2, fun e => ?_⟩
    have := tell_8 L numT fnText j _ _ q hq e
    omega
theorem runs_lim {L M : Nat} (hLM : L < M) {t : T} {a : Except Int ByteArray} {k : Nat} (h : Runs M t a k) : (k ≤ L ∧ Runs L t a k) ∨ (L < k ∧ Runs L t (.error 8) L) := by
  obtain ⟨n, r, he, h⟩ := h
  have hs := ev_steps M n _ _ _ he (Nat.zero_le _)
  rcases ev_lim L M hLM n _ _ _ he (Nat.zero_le _) with ⟨k1, k2⟩ | ⟨k1, S', k2, k3⟩
  · rcases h with ⟨z, hz, rfl, rfl⟩ | ⟨v, j, q, hv, hq, rfl, rfl⟩
    · exact .inl ⟨k1, n, r, k2, .inl ⟨z, hz, rfl, rfl⟩⟩
    · rcases tell_lim L M hLM numT fnText j _ _ _ hq k1 with ⟨m1, m2⟩ | ⟨m1, S', m2, m3⟩
      · exact .inl ⟨m1, n, r, k2, .inr ⟨v, j, q, hv, m2, rfl, rfl⟩⟩
      · exact .inr ⟨m1, n, r, k2, .inr ⟨v, j, _, hv, m2, rfl, m3.symm⟩⟩
  · have hk : L < k := by
      rcases h with ⟨z, hz, rfl, rfl⟩ | ⟨v, j, q, hv, hq, rfl, rfl⟩
      · exact k1
      · have := (tell_steps M numT fnText j _ _ _ hq hs.2).1; omega
    exact .inr ⟨hk, n, _, k2, .inl ⟨8, rfl, rfl, k3.symm⟩⟩
theorem runs_le {L M : Nat} (hLM : L ≤ M) {t : T} {a : Except Int ByteArray} {k : Nat} (h : Runs M t a k) : (k ≤ L ∧ Runs L t a k) ∨ (L < k ∧ Runs L t (.error 8) L) := by
  rcases Nat.lt_or_ge L M with h1 | h1
  · exact runs_lim h1 h
  · obtain rfl : L = M := by omega
    exact .inl ⟨(runs_steps h).1, h⟩

set_option maxRecDepth 100000 in
set_option maxHeartbeats 1000000 in
theorem pick_ok (c : Int) (hc : Int64 c) (n : Nat) (h0 : 0 < n) (h1 : n ≤ 1099511627776) (w : World) : Calls Tryz.prog 24 #[.int .i64 c, .int .i64 n] w fun e w' => ∃ k : Nat, k < n ∧ e = .returned (.int .i64 k) ∧ w' = w := by
  obtain ⟨c1, c2⟩ := hc
  have hn0 : ((n : Int) == 0) = false := by simp; omega
  by_cases hneg : c < 0
  · have hd : decide (c < 0) = true := by simpa using hneg
    go_enter Tryz.func24, Tryz.ntmps24
    go_wp2_with fail
    go_ret
    obtain ⟨d, hdd⟩ : ∃ d : Nat, c + 1 = -(d : Int) := ⟨(-(c + 1)).toNat, by omega⟩
    refine ⟨d % n, Nat.mod_lt _ h0, ret_int ?_, rfl⟩
    rw [hdd, Int.neg_tmod, Int.neg_neg, Int.tmod_eq_emod_of_nonneg (by omega)]; norm_cast
  · have hd : decide (c < 0) = false := by simpa using hneg
    go_enter Tryz.func24, Tryz.ntmps24
    go_wp2_with fail
    go_ret
    obtain ⟨d, rfl⟩ := Int.eq_ofNat_of_zero_le hneg
    exact ⟨d % n, Nat.mod_lt _ h0, ret_int (by norm_cast), rfl⟩

set_option maxRecDepth 100000 in
set_option maxHeartbeats 4000000 in
theorem kdigits (n : Nat) (hn : n ≤ 9223372036854775807) (w : World) :
    Calls Tryz.prog 22 #[.int .i64 n] w fun e w' => e = .returned (.string (dig n)) ∧ w' = w := by
  have h2 : decide ((n : Int) < 0) = false := by simp
  go_enter Tryz.func22, Tryz.ntmps22
  go_wp2_with fail
  go_loop [0, 3] (fun x a => ∃ (k : Nat) (acc : ByteArray), x = .int .i64 k ∧ a = .string acc ∧ k ≤ 9223372036854775807 ∧ acc.size + k ≤ 9223372036854775807 ∧ (acc.size = 0 ∨ 1 ≤ k) ∧ Hid (dig n = ⟨(Lib.decDigits k ++ acc.data.toList).toArray⟩)) (fun x a => (intOf x).toNat)
  case atStart => exact ⟨n, ⟨#[]⟩, rfl, rfl, hn, by show 0 + n ≤ _; omega, .inl rfl, by unfold Hid dig; simp⟩
  case round =>
    obtain ⟨k, acc, rfl, rfl, hk, hsz, hz, H⟩ := hrel
    have hac : acc.size + 1 ≤ 9223372036854775807 := by omega
    go_wp2_with fail
    case roundEnd =>
      rename_i h0
      have hk10 : 10 ≤ k := by
        have : ¬ ((k : Int) / 10 = 0) := by simpa using h0
        omega
      have hd := digit_add (k % 10) (Nat.mod_lt _ (by omega)) acc
      refine ⟨⟨k / 10, _, by norm_cast, rfl, by omega, ?_, .inr (by omega), ?_⟩, by simp only [intOf]; omega⟩
      · have e := congrArg List.length hd
        rw [Array.length_toList, List.length_cons, Array.length_toList] at e
        have e' : ((⟨#[48, 49, 50, 51, 52, 53, 54, 55, 56, 57]⟩ : ByteArray).extract (k % 10) (k % 10 + 1) ++ acc).size = acc.size + 1 := e
        omega
      · unfold Hid
        rw [H.out, hd, Lib.decDigits, dif_neg (by omega)]; simp
    rename_i h0 _
    have hk10 : k < 10 := by
      have : ((k : Int) / 10 = 0) := by simpa using h0
      omega
    have hd := digit_add (k % 10) (Nat.mod_lt _ (by omega)) acc
    have he : (⟨#[48, 49, 50, 51, 52, 53, 54, 55, 56, 57]⟩ : ByteArray).extract (k % 10) (k % 10 + 1) ++ acc = ⟨(Lib.decDigits k ++ acc.data.toList).toArray⟩ := by
      apply ByteArray.ext
      apply Array.toList_inj.1
      rw [hd, Lib.decDigits, dif_pos hk10, Nat.mod_eq_of_lt hk10]
      rfl
    go_ret
    refine ⟨?_, rfl⟩
    rw [H.out, ← he]
    rfl

set_option maxRecDepth 100000 in
set_option maxHeartbeats 4000000 in
theorem ksdigits (n : Int) (hn : Int64 n) (w : World) :
    Calls Tryz.prog 22 #[.int .i64 n] w fun e w' => e = .returned (.string (sdig n)) ∧ w' = w := by
  obtain ⟨l1, l2⟩ := hn
  by_cases h0 : 0 ≤ n
  · obtain ⟨k, rfl⟩ := Int.eq_ofNat_of_zero_le h0
    refine (kdigits k (by omega) w).mono ?_
    rintro e w' ⟨rfl, rfl⟩
    refine ⟨?_, rfl⟩
    have : sdig (k : Int) = dig k := by unfold sdig dig; rw [Lib.itoa_nonneg]
    rw [← this]
  · by_cases hm : n = -9223372036854775808
    · subst hm
      rw [sdig_least]
      go_enter Tryz.func22, Tryz.ntmps22
      go_wp2_with fail
      go_ret
      exact ⟨rfl, rfl⟩
    · have hlt : n < 0 := by omega
      have hgt : -9223372036854775808 < n := by omega
      have hk2 : n.natAbs ≤ 9223372036854775807 := by omega
      have hs : Hid (sdig n = ⟨#[45]⟩ ++ dig n.natAbs) := by
        unfold Hid sdig dig
        have e : Lib.itoa n = 45 :: Lib.decDigits n.natAbs := by
          have h := Lib.itoa_neg n.natAbs (by omega)
          rw [show -((n.natAbs : Nat) : Int) = n by omega] at h
          exact h
        rw [e]; rfl
      have HD : Hid (Calls Tryz.prog 22 #[.int .i64 (-n)] w fun e w' => e = .returned (.string (dig n.natAbs)) ∧ w' = w) := by
        have := kdigits n.natAbs hk2 w
        rw [show ((n.natAbs : Nat) : Int) = -n by omega] at this
        exact this
      have hsz := dig_size2 n.natAbs hk2
      generalize dig n.natAbs = dn at hs HD hsz
      clear hm l1 l2 h0 hk2
      go_enter Tryz.func22, Tryz.ntmps22
      go_wp2_with fail
      refine HD.out.mono ?_
      rintro e w' ⟨rfl, rfl⟩
      go_wp2_with fail
      go_ret
      exact ⟨ret_str hs.out.symm, rfl⟩

set_option maxRecDepth 100000 in
set_option maxHeartbeats 4000000 in
theorem is_true (t : ByteArray) (n : Int) (w : World) : Calls Tryz.prog 21 #[.agg #[.string t, .int .i64 n, .int .i64 0], .string t, .int .i64 n] w fun e w' => e = .returned (.bool true) ∧ World.grownBy w w' none := by
  have q0 : (t.toList == t.toList) = true := by simp
  have q1 : (n == n) = true := by simp
  have hy := alloc_at w (.cells #[.string t, .int .i64 n, .int .i64 0] 30 (0, 0)) _ rfl
  obtain ⟨c0, c1, c2⟩ := ans3 hy
  go_enter Tryz.func21, Tryz.ntmps21
  go_wp2_with fail
  go_ret
  exact ⟨rfl, grown_alloc (grown_refl _ _) _⟩
end Go.Proofs.YtjjlgjmebnkdjaaGreatDoor
