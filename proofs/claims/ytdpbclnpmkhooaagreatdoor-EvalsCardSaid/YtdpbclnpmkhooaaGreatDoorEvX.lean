/-
  The plain model of what an expression is: numbers stay within 64 bits.
-/
import Derived.Test.YtdpbclnpmkhooaaGreatDoorEvA
import Derived.IntWalk
namespace Skein
open Go

def Int64 (n : Int) : Prop := -9223372036854775808 ≤ n ∧ n ≤ 9223372036854775807
def Small : T → Prop
  | .num n => n < 10 ^ 9
  | .letE _ a b => Small a ∧ Small b
  | .fn _ a => Small a
  | .ite a b c => Small a ∧ Small b ∧ Small c
  | .app a b => Small a ∧ Small b
  | .un _ a => Small a
  | .bin _ a b => Small a ∧ Small b
  | _ => True
def VIn : V → Prop
  | .num n => Int64 n
  | .fn b _ => Small b
  | _ => True
def CIn : C → Prop
  | .wait x _ => Small x
  | .known v => VIn v
  | .busy => True
def HIn (S : E) : Prop := ∀ c ∈ S.heap, CIn c
def RIn : R → Prop
  | .ok v => VIn v
  | .err _ => True

theorem wrap_in (z : Int) : Int64 (IntKind.wrap .i64 z) := by
  have : IntKind.wrap .i64 z = (z + 9223372036854775808) % 18446744073709551616 - 9223372036854775808 := IntKind.wrap_i64 z
  rw [this]; unfold Int64; omega
theorem tr_in (b : Bool) : Int64 (tr b) := by cases b <;> simp [tr, Int64]
theorem reck_in (op : UInt8) (x y : Int) : Int64 (reck op x y) := by
  unfold reck
  repeat' split
  all_goals first | exact wrap_in _ | exact tr_in _

theorem HIn.set {S : E} (h : HIn S) (i : Nat) (c : C) (hc : CIn c) (n : Nat) : HIn ⟨S.heap.set i c, n⟩ := by
  intro d hd
  rcases List.mem_or_eq_of_mem_set hd with hd | rfl
  · exact h d hd
  · exact hc
theorem HIn.app {S : E} (h : HIn S) (l : List C) (hl : ∀ c ∈ l, CIn c) (n : Nat) : HIn ⟨S.heap ++ l, n⟩ := by
  intro d hd
  rcases List.mem_append.1 hd with hd | hd
  · exact h d hd
  · exact hl d hd
theorem num_in {r : R} {k : Int} (h : RIn r) (e : r.num = .ok k) : Int64 k := by
  cases r with
  | err z => cases e
  | ok v => cases v with
    | num n => cases e; exact h
    | _ => cases e
theorem fn_in {r : R} {f : T × List Nat} (h : RIn r) (e : r.fn = .ok f) : Small f.1 := by
  cases r with
  | err z => cases e
  | ok v => cases v with
    | fn b env => cases e; exact h
    | _ => cases e

def JIn : J → Prop
  | .need x _ => Small x
  | .force _ => True

theorem ev_in (L : Nat) : ∀ (n : Nat) (j : J) (S : E) (r : R × E), ev L n j S = some r → HIn S → JIn j → HIn r.2 ∧ RIn r.1 := by
  intro n
  induction n with
  | zero => intro j S r h; simp [ev] at h
  | succ n ih =>
    intro j S r h hS hj
    cases j with
    | force i =>
      simp only [ev] at h
      cases hc : S.heap[i]? with
      | none => rw [hc] at h; cases h
      | some c =>
        rw [hc] at h
        have hci := hS c (List.mem_of_getElem? hc)
        cases c with
        | known v => cases h; exact ⟨hS, hci⟩
        | busy => cases h; exact ⟨hS, trivial⟩
        | wait x env =>
          obtain ⟨⟨rr, S1⟩, h1, h2⟩ := Option.bind_eq_some_iff.1 h
          obtain ⟨k1, k2⟩ := ih _ _ _ h1 (hS.set i .busy trivial _) hci
          cases rr with
          | ok v => cases h2; exact ⟨k1.set i (.known v) k2 _, k2⟩
          | err e => cases h2; exact ⟨k1, trivial⟩
    | need x env =>
      cases x with
      | junk => cases h
      | free => cases h
      | nil => cases h; exact ⟨hS, trivial⟩
      | num k =>
        cases h
        have hk : k < 10 ^ 9 := hj
        exact ⟨hS, by show Int64 (k : Int); unfold Int64; omega⟩
      | fn k b => cases h; exact ⟨hS, hj⟩
      | var i =>
        simp only [ev] at h
        cases he : env[i]? with
        | none => rw [he] at h; cases h
        | some k => rw [he] at h; exact ih _ _ _ h hS trivial
      | letE k a b =>
        simp only [ev] at h
        exact ih _ _ _ h (hS.app _ (by intro c hc; rw [List.mem_singleton.1 hc]; exact hj.1) _) hj.2
      | ite a b c =>
        simp only [ev] at h
        obtain ⟨r1, h1, h2⟩ := Option.bind_eq_some_iff.1 h
        obtain ⟨k1, k2⟩ := ih _ _ _ h1 hS hj.1
        cases hr : r1.1.num with
        | error e => rw [hr] at h2; cases h2; exact ⟨k1, trivial⟩
        | ok k =>
          rw [hr] at h2
          simp only at h2
          split at h2
          · exact ih _ _ _ h2 k1 hj.2.2
          · exact ih _ _ _ h2 k1 hj.2.1
      | app a b =>
        simp only [ev] at h
        obtain ⟨r1, h1, h2⟩ := Option.bind_eq_some_iff.1 h
        obtain ⟨k1, k2⟩ := ih _ _ _ h1 hS hj.1
        cases hr : r1.1.fn with
        | error e => rw [hr] at h2; cases h2; exact ⟨k1, trivial⟩
        | ok f =>
          rw [hr] at h2
          simp only at h2
          split at h2
          · cases h2; exact ⟨k1, trivial⟩
          · exact ih _ _ _ h2 (k1.app _ (by intro c hc; rw [List.mem_singleton.1 hc]; exact hj.2) _) (fn_in k2 hr)
      | un op a =>
        simp only [ev] at h
        obtain ⟨r1, h1, h2⟩ := Option.bind_eq_some_iff.1 h
        obtain ⟨k1, k2⟩ := ih _ _ _ h1 hS hj
        cases hr : r1.1.list with
        | error e => rw [hr] at h2; cases h2; exact ⟨k1, trivial⟩
        | ok o =>
          rw [hr] at h2
          cases o with
          | none =>
            simp only at h2
            split at h2
            · cases h2; exact ⟨k1, by show Int64 1; unfold Int64; omega⟩
            · cases h2; exact ⟨k1, trivial⟩
          | some p =>
            simp only at h2
            split at h2
            · cases h2; exact ⟨k1, by show Int64 0; unfold Int64; omega⟩
            · split at h2
              · exact ih _ _ _ h2 k1 trivial
              · exact ih _ _ _ h2 k1 trivial
      | bin op a b =>
        simp only [ev] at h
        split at h
        · cases h
          refine ⟨hS.app _ (by intro c hc; rcases List.mem_cons.1 hc with rfl | hc; · exact hj.1
                               · rw [List.mem_singleton.1 hc]; exact hj.2) _, trivial⟩
        · obtain ⟨r1, h1, h2⟩ := Option.bind_eq_some_iff.1 h
          obtain ⟨k1, k2⟩ := ih _ _ _ h1 hS hj.1
          cases hr : r1.1.num with
          | error e => rw [hr] at h2; cases h2; exact ⟨k1, trivial⟩
          | ok i =>
            rw [hr] at h2
            obtain ⟨r2, h3, h4⟩ := Option.bind_eq_some_iff.1 h2
            obtain ⟨q1, q2⟩ := ih _ _ _ h3 k1 hj.2
            cases hr2 : r2.1.num with
            | error e => rw [hr2] at h4; cases h4; exact ⟨q1, trivial⟩
            | ok j => rw [hr2] at h4; cases h4; exact ⟨q1, reck_in op i j⟩
end Skein
