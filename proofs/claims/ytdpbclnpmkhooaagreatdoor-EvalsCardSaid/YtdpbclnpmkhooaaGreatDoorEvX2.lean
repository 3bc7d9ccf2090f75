/-
  The plain model of what an expression is: where nothing is of lists, no value is a list.
-/
import Derived.Test.YtdpbclnpmkhooaaGreatDoorEvA
namespace Skein
open Go

def Nls : T → Prop
  | .letE _ a b => Nls a ∧ Nls b
  | .fn _ a => Nls a
  | .ite a b c => Nls a ∧ Nls b ∧ Nls c
  | .app a b => Nls a ∧ Nls b
  | .un _ _ => False
  | .nil => False
  | .bin op a b => (op == 58) = false ∧ Nls a ∧ Nls b
  | _ => True
theorem nls_of : ∀ (t : T) (d : Nat), Tidy d t → Nls t := by
  intro t
  induction t with
  | junk => exact fun _ h => h.elim
  | free => exact fun _ h => h.elim
  | nil => exact fun _ h => h.elim
  | num n => exact fun _ _ => trivial
  | var n => exact fun _ _ => trivial
  | letE n a b ia ib => exact fun _ h => ⟨ia _ h.2.1, ib _ h.2.2⟩
  | fn n a ia => exact fun _ h => ia _ h.2
  | ite a b c ia ib ic => exact fun _ h => ⟨ia _ h.1, ib _ h.2.1, ic _ h.2.2⟩
  | app a b ia ib => exact fun _ h => ⟨ia _ h.1, ib _ h.2⟩
  | un op a _ => exact fun _ h => h.elim
  | bin op a b ia ib =>
    intro d h
    refine ⟨?_, ia _ h.2.1, ib _ h.2.2⟩
    rcases h.1 with rfl | rfl | rfl | rfl | rfl <;> rfl
def VNl : V → Prop
  | .num _ => True
  | .fn b _ => Nls b
  | _ => False
def CNl : C → Prop
  | .wait x _ => Nls x
  | .known v => VNl v
  | .busy => True
def HNl (S : E) : Prop := ∀ c ∈ S.heap, CNl c
def RNl : R → Prop
  | .ok v => VNl v
  | .err _ => True

theorem HNl.set {S : E} (h : HNl S) (i : Nat) (c : C) (hc : CNl c) (n : Nat) : HNl ⟨S.heap.set i c, n⟩ := by
  intro d hd
  rcases List.mem_or_eq_of_mem_set hd with hd | rfl
  · exact h d hd
  · exact hc
theorem HNl.app {S : E} (h : HNl S) (l : List C) (hl : ∀ c ∈ l, CNl c) (n : Nat) : HNl ⟨S.heap ++ l, n⟩ := by
  intro d hd
  rcases List.mem_append.1 hd with hd | hd
  · exact h d hd
  · exact hl d hd
theorem fn_nl {r : R} {f : T × List Nat} (h : RNl r) (e : r.fn = .ok f) : Nls f.1 := by
  cases r with
  | err z => cases e
  | ok v => cases v with
    | fn b env => cases e; exact h
    | _ => cases e

def JNl : J → Prop
  | .need x _ => Nls x
  | .force _ => True

theorem ev_nl (L : Nat) : ∀ (n : Nat) (j : J) (S : E) (r : R × E), ev L n j S = some r → HNl S → JNl j → HNl r.2 ∧ RNl r.1 := by
  intro n
  induction n with
  | zero => intro j S r h; simp [ev] at h
  | succ n ih =>
    intro j S r h hS hj
    cases j with
    | force i =>
      simp only [ev] at h
      cases hc : S.heap[i]? with
      | none => rw [hc] at h; cases h
      | some c =>
        rw [hc] at h
        have hci := hS c (List.mem_of_getElem? hc)
        cases c with
        | known v => cases h; exact ⟨hS, hci⟩
        | busy => cases h; exact ⟨hS, trivial⟩
        | wait x env =>
          obtain ⟨⟨rr, S1⟩, h1, h2⟩ := Option.bind_eq_some_iff.1 h
          obtain ⟨k1, k2⟩ := ih _ _ _ h1 (hS.set i .busy trivial _) hci
          cases rr with
          | ok v => cases h2; exact ⟨k1.set i (.known v) k2 _, k2⟩
          | err e => cases h2; exact ⟨k1, trivial⟩
    | need x env =>
      cases x with
      | junk => cases h
      | free => cases h
      | nil => exact hj.elim
      | num k => cases h; exact ⟨hS, trivial⟩
      | fn k b => cases h; exact ⟨hS, hj⟩
      | var i =>
        simp only [ev] at h
        cases he : env[i]? with
        | none => rw [he] at h; cases h
        | some k => rw [he] at h; exact ih _ _ _ h hS trivial
      | letE k a b =>
        simp only [ev] at h
        exact ih _ _ _ h (hS.app _ (by intro c hc; rw [List.mem_singleton.1 hc]; exact hj.1) _) hj.2
      | ite a b c =>
        simp only [ev] at h
        obtain ⟨r1, h1, h2⟩ := Option.bind_eq_some_iff.1 h
        obtain ⟨k1, k2⟩ := ih _ _ _ h1 hS hj.1
        cases hr : r1.1.num with
        | error e => rw [hr] at h2; cases h2; exact ⟨k1, trivial⟩
        | ok k =>
          rw [hr] at h2
          simp only at h2
          split at h2
          · exact ih _ _ _ h2 k1 hj.2.2
          · exact ih _ _ _ h2 k1 hj.2.1
      | app a b =>
        simp only [ev] at h
        obtain ⟨r1, h1, h2⟩ := Option.bind_eq_some_iff.1 h
        obtain ⟨k1, k2⟩ := ih _ _ _ h1 hS hj.1
        cases hr : r1.1.fn with
        | error e => rw [hr] at h2; cases h2; exact ⟨k1, trivial⟩
        | ok f =>
          rw [hr] at h2
          simp only at h2
          split at h2
          · cases h2; exact ⟨k1, trivial⟩
          · exact ih _ _ _ h2 (k1.app _ (by intro c hc; rw [List.mem_singleton.1 hc]; exact hj.2) _) (fn_nl k2 hr)
      | un op a => exact hj.elim
      | bin op a b =>
        simp only [ev] at h
        rw [hj.1] at h
        simp only [Bool.false_eq_true, if_false] at h
        obtain ⟨r1, h1, h2⟩ := Option.bind_eq_some_iff.1 h
        obtain ⟨k1, k2⟩ := ih _ _ _ h1 hS hj.2.1
        cases hr : r1.1.num with
        | error e => rw [hr] at h2; cases h2; exact ⟨k1, trivial⟩
        | ok i =>
          rw [hr] at h2
          obtain ⟨r2, h3, h4⟩ := Option.bind_eq_some_iff.1 h2
          obtain ⟨q1, q2⟩ := ih _ _ _ h3 k1 hj.2.2
          cases hr2 : r2.1.num with
          | error e => rw [hr2] at h4; cases h4; exact ⟨q1, trivial⟩
          | ok j => rw [hr2] at h4; cases h4; exact ⟨q1, trivial⟩
end Skein
