/-
  What a text that is an expression comes to: how great its tree is; no part of it is junk.
  The plain model of what an expression is: what is needed, and in which order; that it ends. It imports nothing of the program.
  The plain model of what an expression is: numbers stay within 64 bits.
  The plain model of what an expression is: where nothing is of lists, no value is a list.
-/
import Derived.Test.YtjjlgjmebnkdjaaGreatDoorRefI
import Derived.Test.YtjjlgjmebnkdjaaGreatDoorPrgI
import GoSem.Core.View
import Derived.Test.YtjjlgjmebnkdjaaGreatDoorPure
import Derived.IntWalk
namespace Go.Proofs.YtjjlgjmebnkdjaaGreatDoor
open Go Go.Proofs Go.RowKit Skein

def nodes : T → Nat
  | .junk => 1 | .free => 1 | .nil => 1 | .num _ => 1 | .var _ => 1
  | .letE _ a b => 1 + nodes a + nodes b
  | .fn _ a => 1 + nodes a
  | .ite a b c => 1 + nodes a + nodes b + nodes c
  | .app a b => 1 + nodes a + nodes b
  | .un _ a => 1 + nodes a
  | .bin _ a b => 1 + nodes a + nodes b

def Clean : T → Prop
  | .junk => False | .free => False | .nil => True
  | .num n => n < 10 ^ 9
  | .var n => n ≤ 300
  | .letE n a b => n ≤ 300 ∧ Clean a ∧ Clean b
  | .fn n a => n ≤ 300 ∧ Clean a
  | .ite a b c => Clean a ∧ Clean b ∧ Clean c
  | .app a b => Clean a ∧ Clean b
  | .un op a => (op = 104 ∨ op = 116 ∨ op = 110) ∧ Clean a
  | .bin op a b => (op = 58 ∨ op = 61 ∨ op = 60 ∨ op = 43 ∨ op = 45 ∨ op = 42) ∧ Clean a ∧ Clean b

def accN : NT → Nat
  | .sumL a => nodes a | .prodL a => nodes a | .useL a => nodes a | _ => 0
def accC : NT → Prop
  | .sumL a => Clean a | .prodL a => Clean a | .useL a => Clean a | _ => True
def lone1 : NT → Nat
  | .sumL _ => 0 | .prodL _ => 0 | .useL _ => 0 | _ => 1

theorem some_of_ne {o : Option Nat} (h : o.isSome = true) : o ≠ none := by cases o <;> simp_all
theorem bad_back {m m' : M} (h : m.bad.isSome = true → m'.bad.isSome = true) (hb : m'.bad = none) : m.bad = none := by
  cases e : m.bad with
  | none => rfl
  | some q => have := h (by rw [e]; rfl); rw [hb] at this; cases this
theorem want_free (s x : ByteArray) (m : M) : (m.want s x).free = m.free := by unfold M.want; split <;> rfl
theorem gives_free (s : ByteArray) (m : M) : (m.gives s).2.free = m.free := by unfold M.gives; split <;> rfl
theorem want_back {s x : ByteArray} {m : M} (h : (m.want s x).bad = none) : m.bad = none := bad_back (want_bad s x m) h
theorem gives_back {s : ByteArray} {m : M} (h : (m.gives s).2.bad = none) : m.bad = none := bad_back (gives_bad s m) h
theorem PM_back {s : ByteArray} {n : Nat} {nt : NT} {m : M} {r : T × M} (h : PM s n nt m = some r) (hb : r.2.bad = none) : m.bad = none := bad_back (PM_sticky s n nt m r h) hb

theorem opOf_has {m : M} {c : UInt8} (h : m.has ⟨#[c]⟩ = true) : opOf m.tok.text = c := by
  unfold M.has at h
  simp only [Bool.and_eq_true] at h
  rw [eqb_iff.1 h.2]; rfl

theorem lastIdx_lt (x : ByteArray) : ∀ (l : List ByteArray) (i : Nat), lastIdx x l = some i → i < l.length := by
  intro l
  induction l with
  | nil => intro i h; cases h
  | cons y r ih =>
    intro i h
    unfold lastIdx at h
    split at h
    · rename_i j hj
      cases h
      have := ih j hj
      simp; exact this
    · split at h
      · cases h; simp
      · cases h

structure Fine (s : ByteArray) (nt : NT) (m : M) (r : T × M) : Prop where
  free : 0 ≤ m.free → 0 ≤ r.2.free
  clean : r.2.free < 0 → accC nt → Clean r.1
  size : nodes r.1 + 2 * m.tok.at_ + lone1 nt ≤ 2 * r.2.tok.at_ + accN nt

theorem PM_good (s : ByteArray) (hs : s.size ≤ 300) : ∀ (n : Nat) (nt : NT) (m : M) (r : T × M), PM s n nt m = some r → Inv s m → m.given.length ≤ m.tok.at_ → r.2.bad = none → Fine s nt m r := by
  intro n
  induction n with
  | zero => intro nt m r h; simp [PM] at h
  | succ n ih =>
    intro nt m r h hi hg hb
    have hat := hi.at_le
    have ha := adv_b s m
    cases nt with
    | expr =>
      have h0 := h
      simp only [PM] at h
      split at h
      · rename_i hx; cases h; exact absurd hb (some_of_ne hx)
      split at h
      · rename_i hq
        have hsz : m.tok.text.size = 3 := eqb_size hq
        obtain ⟨r1, h1, h⟩ := Option.bind_eq_some_iff.1 h
        obtain ⟨q, h2, h⟩ := Option.bind_eq_some_iff.1 h
        cases h
        have b2 := PM_back h2 hb
        have b1 := want_back b2
        have g1 := gives_b s (m.adv s)
        have g2 := want_b s ⟨#[61]⟩ ((m.adv s).gives s).2
        have k1 := PM_keeps s n _ _ _ h1
        have f1 := ih _ _ _ h1 hi.adv.gives.want.push (by simp only [push_given, push_tok, want_given, gives_given, adv_given, List.length_append, List.length_singleton]; omega) b1
        have i1 := k1.1 hi.adv.gives.want.push
        have z1 := f1.size
        simp only [lone1, accN, push_tok] at z1
        have g3 := want_b s ⟨#[105, 110]⟩ r1.2
        have f2 := ih _ _ _ h2 i1.want (by simp only [want_given, k1.2, push_given, gives_given, adv_given, List.length_append, List.length_singleton]; omega) hb
        have z2 := f2.size
        simp only [lone1, accN] at z2
        refine ⟨fun hf => ?_, fun hf _ => ?_, ?_⟩
        · apply f2.free; rw [want_free]; apply f1.free
          show 0 ≤ (((m.adv s).gives s).2.want s ⟨#[61]⟩).free
          rw [want_free, gives_free]; exact hf
        · have hf' : q.2.free < 0 := hf
          have hf1 : r1.2.free < 0 := by
            rcases Int.lt_or_le r1.2.free 0 with h | h
            · exact h
            · have := f2.free (by rw [want_free]; exact h); omega
          exact ⟨by omega, f1.clean hf1 trivial, f2.clean hf' trivial⟩
        · simp only [nodes, lone1, accN, pop_tok]; omega
      split at h
      · rename_i hq
        have hsz : m.tok.text.size = 1 := eqb_size hq
        obtain ⟨r1, h1, h⟩ := Option.bind_eq_some_iff.1 h
        cases h
        have g1 := gives_b s (m.adv s)
        have g2 := want_b s ⟨#[46]⟩ ((m.adv s).gives s).2
        have f1 := ih _ _ _ h1 hi.adv.gives.want.push (by simp only [push_given, push_tok, want_given, gives_given, adv_given, List.length_append, List.length_singleton]; omega) hb
        have z1 := f1.size
        simp only [lone1, accN, push_tok] at z1
        refine ⟨fun hf => ?_, fun hf _ => ?_, ?_⟩
        · apply f1.free
          show 0 ≤ (((m.adv s).gives s).2.want s ⟨#[46]⟩).free
          rw [want_free, gives_free]; exact hf
        · exact ⟨by omega, f1.clean hf trivial⟩
        · simp only [nodes, lone1, accN, pop_tok]; omega
      split at h
      · rename_i hq
        have hsz : m.tok.text.size = 2 := eqb_size hq
        obtain ⟨r1, h1, h⟩ := Option.bind_eq_some_iff.1 h
        obtain ⟨q, h2, h⟩ := Option.bind_eq_some_iff.1 h
        obtain ⟨p, h3, h⟩ := Option.bind_eq_some_iff.1 h
        cases h
        have b3 := PM_back h3 hb
        have b2 := PM_back h2 (want_back b3)
        have k1 := PM_keeps s n _ _ _ h1
        have k2 := PM_keeps s n _ _ _ h2
        have f1 := ih _ _ _ h1 hi.adv (by rw [adv_given]; omega) (want_back b2)
        have z1 := f1.size
        simp only [lone1, accN] at z1
        have i1 := k1.1 hi.adv
        have g3 := want_b s ⟨#[116, 104, 101, 110]⟩ r1.2
        have f2 := ih _ _ _ h2 i1.want (by rw [want_given, k1.2, adv_given]; omega) (want_back b3)
        have z2 := f2.size
        simp only [lone1, accN] at z2
        have i2 := k2.1 i1.want
        have g4 := want_b s ⟨#[101, 108, 115, 101]⟩ q.2
        have f3 := ih _ _ _ h3 i2.want (by rw [want_given, k2.2, want_given, k1.2, adv_given]; omega) hb
        have z3 := f3.size
        simp only [lone1, accN] at z3
        refine ⟨fun hf => ?_, fun hf _ => ?_, ?_⟩
        · apply f3.free; rw [want_free]; apply f2.free; rw [want_free]; exact f1.free hf
        · have hf2 : q.2.free < 0 := by
            rcases Int.lt_or_le q.2.free 0 with h | h
            · exact h
            · have := f3.free (by rw [want_free]; exact h); have hf' : p.2.free < 0 := hf; omega
          have hf1 : r1.2.free < 0 := by
            rcases Int.lt_or_le r1.2.free 0 with h | h
            · exact h
            · have := f2.free (by rw [want_free]; exact h); omega
          exact ⟨f1.clean hf1 trivial, f2.clean hf2 trivial, f3.clean hf trivial⟩
        · simp only [nodes, lone1, accN]; omega
      · have f := ih _ _ _ h hi hg hb
        exact ⟨f.free, f.clean, f.size⟩
    | list =>
      simp only [PM] at h
      split at h
      · rename_i hx; cases h; exact absurd hb (some_of_ne hx)
      obtain ⟨r1, h1, h⟩ := Option.bind_eq_some_iff.1 h
      have k1 := PM_keeps s n _ _ _ h1
      split at h
      · rename_i hq
        obtain ⟨q, h2, h⟩ := Option.bind_eq_some_iff.1 h
        cases h
        have b1 : r1.2.bad = none := (PM_back h2 hb : (r1.2.adv s).bad = none)
        have f1 := ih _ _ _ h1 hi hg b1
        have z1 := f1.size
        simp only [lone1, accN] at z1
        have ha1 := adv_b s r1.2
        have f2 := ih _ _ _ h2 (k1.1 hi).adv (by rw [adv_given, k1.2]; omega) hb
        have z2 := f2.size
        simp only [lone1, accN] at z2
        refine ⟨fun hf => f2.free (f1.free hf), fun hf _ => ?_, ?_⟩
        · have hf1 : r1.2.free < 0 := by
            rcases Int.lt_or_le r1.2.free 0 with h | h
            · exact h
            · exact absurd (f2.free h) (Int.not_le.2 hf)
          exact ⟨.inl rfl, f1.clean hf1 trivial, f2.clean hf trivial⟩
        · simp only [nodes, lone1, accN]; omega
      · cases h
        have f := ih _ _ _ h1 hi hg hb
        exact ⟨f.free, f.clean, f.size⟩
    | order =>
      simp only [PM] at h
      split at h
      · rename_i hx; cases h; exact absurd hb (some_of_ne hx)
      obtain ⟨r1, h1, h⟩ := Option.bind_eq_some_iff.1 h
      have k1 := PM_keeps s n _ _ _ h1
      split at h
      · rename_i hq
        obtain ⟨q, h2, h⟩ := Option.bind_eq_some_iff.1 h
        cases h
        have b1 : r1.2.bad = none := (PM_back h2 hb : (r1.2.adv s).bad = none)
        have f1 := ih _ _ _ h1 hi hg b1
        have z1 := f1.size
        simp only [lone1, accN] at z1
        have ha1 := adv_b s r1.2
        have f2 := ih _ _ _ h2 (k1.1 hi).adv (by rw [adv_given, k1.2]; omega) hb
        have z2 := f2.size
        simp only [lone1, accN] at z2
        refine ⟨fun hf => f2.free (f1.free hf), fun hf _ => ?_, ?_⟩
        · have hf1 : r1.2.free < 0 := by
            rcases Int.lt_or_le r1.2.free 0 with h | h
            · exact h
            · exact absurd (f2.free h) (Int.not_le.2 hf)
          refine ⟨?_, f1.clean hf1 trivial, f2.clean hf trivial⟩
          rcases Bool.or_eq_true _ _ ▸ hq with hq | hq
          · rw [opOf_has hq]; decide
          · rw [opOf_has hq]; decide
        · simp only [nodes, lone1, accN]; omega
      · cases h
        have f := ih _ _ _ h1 hi hg hb
        exact ⟨f.free, f.clean, f.size⟩
    | sum =>
      simp only [PM] at h
      split at h
      · rename_i hx; cases h; exact absurd hb (some_of_ne hx)
      obtain ⟨r1, h1, h⟩ := Option.bind_eq_some_iff.1 h
      have k1 := PM_keeps s n _ _ _ h1
      have b1 : r1.2.bad = none := PM_back h hb
      have f1 := ih _ _ _ h1 hi hg b1
      have z1 := f1.size
      simp only [lone1, accN] at z1
      have f2 := ih _ _ _ h (k1.1 hi) (by rw [k1.2]; omega) hb
      have z2 := f2.size
      simp only [lone1, accN] at z2
      refine ⟨fun hf => f2.free (f1.free hf), fun hf _ => ?_, ?_⟩
      · have hf1 : r1.2.free < 0 := by
          rcases Int.lt_or_le r1.2.free 0 with h | h
          · exact h
          · exact absurd (f2.free h) (Int.not_le.2 hf)
        exact f2.clean hf (f1.clean hf1 trivial)
      · simp only [lone1, accN]; omega
    | prod =>
      simp only [PM] at h
      split at h
      · rename_i hx; cases h; exact absurd hb (some_of_ne hx)
      obtain ⟨r1, h1, h⟩ := Option.bind_eq_some_iff.1 h
      have k1 := PM_keeps s n _ _ _ h1
      have b1 : r1.2.bad = none := PM_back h hb
      have f1 := ih _ _ _ h1 hi hg b1
      have z1 := f1.size
      simp only [lone1, accN] at z1
      have f2 := ih _ _ _ h (k1.1 hi) (by rw [k1.2]; omega) hb
      have z2 := f2.size
      simp only [lone1, accN] at z2
      refine ⟨fun hf => f2.free (f1.free hf), fun hf _ => ?_, ?_⟩
      · have hf1 : r1.2.free < 0 := by
          rcases Int.lt_or_le r1.2.free 0 with h | h
          · exact h
          · exact absurd (f2.free h) (Int.not_le.2 hf)
        exact f2.clean hf (f1.clean hf1 trivial)
      · simp only [lone1, accN]; omega
    | use =>
      simp only [PM] at h
      split at h
      · rename_i hx; cases h; exact absurd hb (some_of_ne hx)
      obtain ⟨r1, h1, h⟩ := Option.bind_eq_some_iff.1 h
      have k1 := PM_keeps s n _ _ _ h1
      have b1 : r1.2.bad = none := PM_back h hb
      have f1 := ih _ _ _ h1 hi hg b1
      have z1 := f1.size
      simp only [lone1, accN] at z1
      have f2 := ih _ _ _ h (k1.1 hi) (by rw [k1.2]; omega) hb
      have z2 := f2.size
      simp only [lone1, accN] at z2
      refine ⟨fun hf => f2.free (f1.free hf), fun hf _ => ?_, ?_⟩
      · have hf1 : r1.2.free < 0 := by
          rcases Int.lt_or_le r1.2.free 0 with h | h
          · exact h
          · exact absurd (f2.free h) (Int.not_le.2 hf)
        exact f2.clean hf (f1.clean hf1 trivial)
      · simp only [lone1, accN]; omega
    | sumL a =>
      simp only [PM] at h
      split at h
      · rename_i hq
        obtain ⟨r1, h1, h⟩ := Option.bind_eq_some_iff.1 h
        have k1 := PM_keeps s n _ _ _ h1
        have b1 : r1.2.bad = none := PM_back h hb
        have f1 := ih _ _ _ h1 hi.adv (by rw [adv_given]; omega) b1
        have z1 := f1.size
        simp only [lone1, accN] at z1
        have f2 := ih _ _ _ h (k1.1 hi.adv) (by rw [k1.2, adv_given]; omega) hb
        have z2 := f2.size
        simp only [lone1, accN, nodes] at z2
        refine ⟨fun hf => f2.free (f1.free hf), fun hf hc => ?_, ?_⟩
        · have hf1 : r1.2.free < 0 := by
            rcases Int.lt_or_le r1.2.free 0 with h | h
            · exact h
            · exact absurd (f2.free h) (Int.not_le.2 hf)
          refine f2.clean hf ⟨?_, hc, f1.clean hf1 trivial⟩
          rcases Bool.or_eq_true _ _ ▸ hq with hq | hq
          · rw [opOf_has hq]; decide
          · rw [opOf_has hq]; decide
        · simp only [lone1, accN]; omega
      · cases h; exact ⟨id, fun _ hc => hc, by simp only [lone1, accN]; omega⟩
    | prodL a =>
      simp only [PM] at h
      split at h
      · rename_i hq
        obtain ⟨r1, h1, h⟩ := Option.bind_eq_some_iff.1 h
        have k1 := PM_keeps s n _ _ _ h1
        have b1 : r1.2.bad = none := PM_back h hb
        have f1 := ih _ _ _ h1 hi.adv (by rw [adv_given]; omega) b1
        have z1 := f1.size
        simp only [lone1, accN] at z1
        have f2 := ih _ _ _ h (k1.1 hi.adv) (by rw [k1.2, adv_given]; omega) hb
        have z2 := f2.size
        simp only [lone1, accN, nodes] at z2
        refine ⟨fun hf => f2.free (f1.free hf), fun hf hc => ?_, ?_⟩
        · have hf1 : r1.2.free < 0 := by
            rcases Int.lt_or_le r1.2.free 0 with h | h
            · exact h
            · exact absurd (f2.free h) (Int.not_le.2 hf)
          exact f2.clean hf ⟨by decide, hc, f1.clean hf1 trivial⟩
        · simp only [lone1, accN]; omega
      · cases h; exact ⟨id, fun _ hc => hc, by simp only [lone1, accN]; omega⟩
    | useL a =>
      simp only [PM] at h
      split at h
      · obtain ⟨r1, h1, h⟩ := Option.bind_eq_some_iff.1 h
        have k1 := PM_keeps s n _ _ _ h1
        have b1 : r1.2.bad = none := PM_back h hb
        have f1 := ih _ _ _ h1 hi hg b1
        have z1 := f1.size
        simp only [lone1, accN] at z1
        have f2 := ih _ _ _ h (k1.1 hi) (by rw [k1.2]; omega) hb
        have z2 := f2.size
        simp only [lone1, accN, nodes] at z2
        refine ⟨fun hf => f2.free (f1.free hf), fun hf hc => ?_, ?_⟩
        · have hf1 : r1.2.free < 0 := by
            rcases Int.lt_or_le r1.2.free 0 with h | h
            · exact h
            · exact absurd (f2.free h) (Int.not_le.2 hf)
          exact f2.clean hf ⟨hc, f1.clean hf1 trivial⟩
        · simp only [lone1, accN]; omega
      · cases h; exact ⟨id, fun _ hc => hc, by simp only [lone1, accN]; omega⟩
    | atom =>
      simp only [PM] at h
      split at h
      · rename_i hbg
        have hpos := begins_pos hi hbg
        split at h
        · rename_i hk
          cases h
          refine ⟨id, fun _ _ => ?_, by simp only [nodes, lone1, accN]; omega⟩
          have hk' : m.tok.k = .num := by simpa using hk
          obtain ⟨hn1, hn2⟩ := num_text hi hk'
          have hv := valL_lt m.tok.text.data.toList hn1
          have h10 : 10 ^ m.tok.text.data.toList.length ≤ 10 ^ 9 := Nat.pow_le_pow_right (by omega) (by rw [Array.length_toList]; exact hn2)
          show val m.tok.text < 10 ^ 9
          rw [val_valL]; omega
        split at h
        · cases h
          unfold named
          split
          · rename_i i hidx
            refine ⟨id, fun _ _ => ?_, by simp only [nodes, lone1, accN]; omega⟩
            have := lastIdx_lt _ _ _ hidx
            rw [adv_given] at this
            show i ≤ 300
            omega
          · refine ⟨fun hf => ?_, fun hf _ => ?_, by simp only [nodes, lone1, accN]; omega⟩
            · show 0 ≤ (if (m.adv s).free < 0 then (m.tok.at_ : Int) else (m.adv s).free)
              split <;> omega
            · exfalso
              have hf' : (if (m.adv s).free < 0 then (m.tok.at_ : Int) else (m.adv s).free) < 0 := hf
              split at hf' <;> omega
        split at h
        · cases h
          exact ⟨id, fun _ _ => trivial, by simp only [nodes, lone1, accN]; omega⟩
        split at h
        · obtain ⟨r1, h1, h⟩ := Option.bind_eq_some_iff.1 h
          cases h
          have f1 := ih _ _ _ h1 hi.adv (by rw [adv_given]; omega) (want_back hb)
          have z1 := f1.size
          simp only [lone1, accN] at z1
          have g3 := want_b s ⟨#[41]⟩ r1.2
          refine ⟨fun hf => ?_, fun hf _ => f1.clean (by rw [← want_free s ⟨#[41]⟩ r1.2]; exact hf) trivial, by simp only [lone1, accN]; omega⟩
          show 0 ≤ (r1.2.want s ⟨#[41]⟩).free
          rw [want_free]; exact f1.free hf
        · rename_i hn1 hn2 hn3 hn4
          obtain ⟨r1, h1, h⟩ := Option.bind_eq_some_iff.1 h
          cases h
          have f1 := ih _ _ _ h1 hi.adv (by rw [adv_given]; omega) hb
          have z1 := f1.size
          simp only [lone1, accN] at z1
          refine ⟨f1.free, fun hf _ => ⟨?_, f1.clean hf trivial⟩, by simp only [nodes, lone1, accN]; omega⟩
          unfold M.begins at hbg
          simp only [Bool.and_eq_true, Bool.or_eq_true] at hbg
          have hmem : mem openers m.tok.text = true := by
            rcases hbg.2 with (h | h) | h
            · exact absurd h hn1
            · exact absurd h hn2
            · exact h
          have := mem_iff.1 hmem
          simp only [openers, List.mem_cons, List.not_mem_nil, or_false] at this
          rcases this with e | e | e | e | e
          · rw [e] at hn3; exact absurd rfl hn3
          · rw [e] at hn4; exact absurd rfl hn4
          · rw [e]; decide
          · rw [e]; decide
          · rw [e]; decide
      · cases h; cases hb

/-- Of a whole text. -/
theorem whole_good {s : ByteArray} (hs : s.size ≤ 300) {n : Nat} {t : T} {m : M} (h : PM s n .expr (Skein.start s) = some (t, m)) (hf : finish m = (0, 0)) : Clean t ∧ nodes t ≤ 600 := by
  have hi := (PM_keeps s n _ _ _ h).1 (Inv.start s)
  have hb : m.bad = none := by
    cases e : m.bad with
    | none => rfl
    | some q =>
      exfalso
      unfold finish M.isBad at hf
      rw [e] at hf
      simp at hf
  have hfr : m.free < 0 := by
    rcases Int.lt_or_le m.free 0 with h | h
    · exact h
    · exfalso
      unfold finish at hf
      split at hf
      · simp at hf
      split at hf
      · simp at hf
      · first | (simp at hf; done) | (split at hf <;> first | (simp at hf; done) | omega)
  have f := PM_good s hs n _ _ _ h (Inv.start s) (Nat.zero_le _) hb
  have z := f.size
  simp only [lone1, accN] at z
  have := hi.at_le
  exact ⟨f.clean hfr trivial, by simp only at this; omega⟩
end Go.Proofs.YtjjlgjmebnkdjaaGreatDoor

namespace Skein
open Go

/-- A value: functions and lists name cells by their number. -/
inductive V where
  | num (n : Int)
  | fn (b : T) (env : List Nat)
  | nil
  | cons (a b : Nat)

/-- What a name stands for. -/
inductive C where
  | wait (x : T) (env : List Nat)
  | busy
  | known (v : V)

structure E where
  heap : List C
  steps : Nat

inductive R where
  | ok (v : V)
  | err (e : Int)

def R.num : R → Except Int Int
  | .ok (.num n) => .ok n
  | .ok _ => .error 5
  | .err e => .error e
def R.fn : R → Except Int (T × List Nat)
  | .ok (.fn b env) => .ok (b, env)
  | .ok _ => .error 5
  | .err e => .error e
def R.list : R → Except Int (Option (Nat × Nat))
  | .ok .nil => .ok none
  | .ok (.cons a b) => .ok (some (a, b))
  | .ok _ => .error 5
  | .err e => .error e

def tr (b : Bool) : Int := if b then 1 else 0
def reck (op : UInt8) (x y : Int) : Int :=
  if op == 43 then IntKind.wrap .i64 (x + y) else if op == 45 then IntKind.wrap .i64 (x - y) else if op == 42 then IntKind.wrap .i64 (x * y)
  else if op == 61 then tr (x == y) else tr (decide (x < y))

inductive J where
  | need (x : T) (env : List Nat)
  | force (i : Nat)

def ev (L : Nat) : Nat → J → E → Option (R × E)
  | 0, _, _ => none
  | n + 1, .force i, S =>
    match S.heap[i]? with
    | none => none
    | some (.known v) => some (.ok v, S)
    | some .busy => some (.err 7, S)
    | some (.wait x env) => (ev L n (.need x env) ⟨S.heap.set i .busy, S.steps⟩).bind fun r =>
      match r.1 with
      | .ok v => some (.ok v, ⟨r.2.heap.set i (.known v), r.2.steps⟩)
      | .err e => some (.err e, r.2)
  | n + 1, .need x env, S =>
    match x with
    | .junk => none
    | .free => none
    | .nil => some (.ok .nil, S)
    | .num k => some (.ok (.num k), S)
    | .fn _ b => some (.ok (.fn b env), S)
    | .var i => match env[i]? with
      | none => none
      | some j => ev L n (.force j) S
    | .letE _ a b => ev L n (.need b (env ++ [S.heap.length])) ⟨S.heap ++ [.wait a (env ++ [S.heap.length])], S.steps⟩
    | .ite a b c => (ev L n (.need a env) S).bind fun r =>
      match r.1.num with
      | .ok k => if k == 0 then ev L n (.need c env) r.2 else ev L n (.need b env) r.2
      | .error e => some (.err e, r.2)
    | .app a b => (ev L n (.need a env) S).bind fun r =>
      match r.1.fn with
      | .ok f => if L ≤ r.2.steps then some (.err 8, r.2)
        else ev L n (.need f.1 (f.2 ++ [r.2.heap.length])) ⟨r.2.heap ++ [.wait b env], r.2.steps + 1⟩
      | .error e => some (.err e, r.2)
    | .un op a => (ev L n (.need a env) S).bind fun r =>
      match r.1.list with
      | .ok none => if op == 110 then some (.ok (.num 1), r.2) else some (.err 6, r.2)
      | .ok (some p) => if op == 110 then some (.ok (.num 0), r.2) else if op == 104 then ev L n (.force p.1) r.2 else ev L n (.force p.2) r.2
      | .error e => some (.err e, r.2)
    | .bin op a b =>
      if op == 58 then some (.ok (.cons S.heap.length (S.heap.length + 1)), ⟨S.heap ++ [.wait a env, .wait b env], S.steps⟩)
      else (ev L n (.need a env) S).bind fun r =>
        match r.1.num with
        | .ok x => (ev L n (.need b env) r.2).bind fun q =>
          match q.1.num with
          | .ok y => some (.ok (.num (reck op x y)), q.2)
          | .error e => some (.err e, q.2)
        | .error e => some (.err e, r.2)

/-- No junk; names stand where they are given. -/
def Tidy : Nat → T → Prop
  | _, .junk => False | _, .free => False | _, .nil => True | _, .num _ => True
  | d, .var i => i < d
  | d, .letE n a b => n = d ∧ Tidy (d + 1) a ∧ Tidy (d + 1) b
  | d, .fn n a => n = d ∧ Tidy (d + 1) a
  | d, .ite a b c => Tidy d a ∧ Tidy d b ∧ Tidy d c
  | d, .app a b => Tidy d a ∧ Tidy d b
  | d, .un op a => (op = 104 ∨ op = 116 ∨ op = 110) ∧ Tidy d a
  | d, .bin op a b => (op = 58 ∨ op = 43 ∨ op = 45 ∨ op = 42 ∨ op = 61 ∨ op = 60) ∧ Tidy d a ∧ Tidy d b

def sz : T → Nat
  | .junk => 2 | .free => 2 | .nil => 2 | .num _ => 2 | .var _ => 2
  | .letE _ a b => sz a + sz b + 3
  | .fn _ a => sz a + 1
  | .ite a b c => sz a + sz b + sz c + 1
  | .app a b => sz a + sz b + 3
  | .un _ a => sz a + 2
  | .bin _ a b => sz a + sz b + 3

def csz : C → Nat
  | .wait x _ => sz x + 1 | .busy => 0 | .known _ => 0
def hsz (h : List C) : Nat := (h.map csz).sum
def pot (L B : Nat) (S : E) : Nat := (L - S.steps) * (B + 1) + hsz S.heap
def cost : J → Nat
  | .need x _ => sz x | .force _ => 1

theorem hsz_set : ∀ (h : List C) (i : Nat) (c c' : C), h[i]? = some c → hsz (h.set i c') + csz c = hsz h + csz c' := by
  intro h
  induction h with
  | nil => intro i c c' e; simp at e
  | cons a r ih =>
    intro i c c' e
    cases i with
    | zero => simp at e; subst e; simp [hsz]; omega
    | succ i =>
      simp at e
      have := ih i c c' e
      simp [hsz] at this ⊢; omega
theorem hsz_app (h k : List C) : hsz (h ++ k) = hsz h + hsz k := by simp [hsz]

def EnvOk (N : Nat) (env : List Nat) : Prop := ∀ i ∈ env, i < N
def VOk (B N : Nat) : V → Prop
  | .num _ => True | .nil => True
  | .fn b env => Tidy (env.length + 1) b ∧ sz b ≤ B ∧ EnvOk N env
  | .cons a b => a < N ∧ b < N
def COk (B N : Nat) : C → Prop
  | .busy => True
  | .known v => VOk B N v
  | .wait x env => Tidy env.length x ∧ sz x ≤ B ∧ EnvOk N env
def HOk (B : Nat) (S : E) : Prop := ∀ (i : Nat) (c : C), S.heap[i]? = some c → COk B S.heap.length c
def ROk (B N : Nat) : R → Prop
  | .ok v => VOk B N v
  | .err _ => True
def JOk (B N : Nat) : J → Prop
  | .need x env => Tidy env.length x ∧ sz x ≤ B ∧ EnvOk N env
  | .force i => i < N

theorem EnvOk.mono {N M : Nat} {env : List Nat} (h : EnvOk N env) (hm : N ≤ M) : EnvOk M env := fun i hi => Nat.lt_of_lt_of_le (h i hi) hm
theorem EnvOk.snoc {N M i : Nat} {env : List Nat} (h : EnvOk N env) (hm : N ≤ M) (hi : i < M) : EnvOk M (env ++ [i]) := by
  intro j hj
  rcases List.mem_append.1 hj with hj | hj
  · exact Nat.lt_of_lt_of_le (h j hj) hm
  · rw [List.mem_singleton.1 hj]; exact hi
theorem VOk.mono {B N M : Nat} {v : V} (h : VOk B N v) (hm : N ≤ M) : VOk B M v := by
  cases v with
  | num _ => trivial
  | nil => trivial
  | fn b env => exact ⟨h.1, h.2.1, h.2.2.mono hm⟩
  | cons a b => exact ⟨Nat.lt_of_lt_of_le h.1 hm, Nat.lt_of_lt_of_le h.2 hm⟩
theorem COk.mono {B N M : Nat} {c : C} (h : COk B N c) (hm : N ≤ M) : COk B M c := by
  cases c with
  | busy => trivial
  | known v => exact VOk.mono h hm
  | wait x env => exact ⟨h.1, h.2.1, h.2.2.mono hm⟩
theorem HOk.set {B : Nat} {S : E} (h : HOk B S) (i : Nat) (c : C) (hc : COk B S.heap.length c) (n : Nat) : HOk B ⟨S.heap.set i c, n⟩ := by
  intro j d hj
  simp only [List.length_set]
  simp only [List.getElem?_set] at hj
  split at hj
  · split at hj
    · cases hj; exact hc
    · cases hj
  · exact h j d hj
theorem HOk.app {B : Nat} {S : E} (h : HOk B S) (k : List C) (hk : ∀ c ∈ k, COk B (S.heap.length + k.length) c) (n : Nat) : HOk B ⟨S.heap ++ k, n⟩ := by
  intro j d hj
  simp only [List.length_append]
  simp only [List.getElem?_append] at hj
  split at hj
  · exact COk.mono (h j d hj) (by omega)
  · exact hk d (List.mem_of_getElem? hj)

structure Ends (L B : Nat) (n : Nat) (j : J) (S : E) (r : R × E) : Prop where
  run : ev L n j S = some r
  pot : pot L B r.2 ≤ pot L B S + cost j
  ok : HOk B r.2
  len : S.heap.length ≤ r.2.heap.length
  val : ROk B r.2.heap.length r.1

theorem sz_pos (x : T) : 1 ≤ sz x := by cases x <;> simp [sz] <;> omega

theorem R.num_ok {B N : Nat} {r : R} (_ : ROk B N r) : (∃ n, r = .ok (.num n) ∧ r.num = .ok n) ∨ ∃ e, r.num = .error e := by
  cases r with
  | err e => exact .inr ⟨e, rfl⟩
  | ok v => cases v with
    | num n => exact .inl ⟨n, rfl, rfl⟩
    | _ => exact .inr ⟨5, rfl⟩

theorem ev_ends (L B : Nat) : ∀ (n : Nat) (j : J) (S : E), HOk B S → JOk B S.heap.length j → Skein.pot L B S + cost j < n → ∃ r, Ends L B n j S r := by
  intro n
  induction n with
  | zero => intro j S _ _ h; omega
  | succ n ih =>
    intro j S hS hj hn
    cases j with
    | force i =>
      have hi : i < S.heap.length := hj
      have e0 : S.heap[i]? = some S.heap[i] := List.getElem?_eq_getElem hi
      have c0 := hS i _ e0
      cases hc : S.heap[i] with
      | known v =>
        rw [hc] at e0 c0
        exact ⟨(.ok v, S), by simp only [ev, e0], by simp, hS, Nat.le_refl _, c0⟩
      | busy =>
        rw [hc] at e0 c0
        exact ⟨(.err 7, S), by simp only [ev, e0], by simp, hS, Nat.le_refl _, trivial⟩
      | wait x env =>
        rw [hc] at e0 c0
        have hz := hsz_set S.heap i _ C.busy e0
        simp only [csz] at hz
        have hp : Skein.pot L B ⟨S.heap.set i .busy, S.steps⟩ + sz x + 1 = Skein.pot L B S := by simp only [Skein.pot]; omega
        obtain ⟨r, h1⟩ := ih (.need x env) ⟨S.heap.set i .busy, S.steps⟩ (hS.set i .busy trivial _) (by simp only [JOk, List.length_set]; exact c0) (by simp only [cost] at hn ⊢; omega)
        obtain ⟨rr, S1⟩ := r
        have hl := h1.len
        simp only [List.length_set] at hl
        have hp1 := h1.pot
        simp only [cost] at hp1
        cases rr with
        | err e => exact ⟨(.err e, S1), by simp only [ev, e0, h1.run]; rfl, by simp only [cost]; omega, h1.ok, hl, trivial⟩
        | ok v =>
          refine ⟨(.ok v, ⟨S1.heap.set i (.known v), S1.steps⟩), by simp only [ev, e0, h1.run]; rfl, ?_, h1.ok.set i (.known v) h1.val _, by simpa using hl, by simpa using h1.val⟩
          have hi1 : i < S1.heap.length := by omega
          have := hsz_set S1.heap i _ (.known v) (List.getElem?_eq_getElem hi1)
          simp only [csz] at this
          simp only [Skein.pot, cost] at hp1 hp ⊢; omega
    | need x env =>
      obtain ⟨ht, hb, he⟩ := hj
      simp only [cost] at hn
      have same : ∀ r : R, ev L (n + 1) (.need x env) S = some (r, S) → ROk B S.heap.length r → ∃ r, Ends L B (n + 1) (.need x env) S r := fun r h1 h2 => ⟨(r, S), h1, by simp, hS, Nat.le_refl _, h2⟩
      cases x with
      | junk => exact ht.elim
      | free => exact ht.elim
      | nil => exact same _ rfl trivial
      | num k => exact same _ rfl trivial
      | fn k b => simp only [sz] at hb; exact same _ rfl ⟨ht.2, by omega, he⟩
      | var i =>
        have hi : i < env.length := ht
        have e1 : env[i]? = some env[i] := List.getElem?_eq_getElem hi
        obtain ⟨r, h1⟩ := ih (.force env[i]) S hS (he _ (List.getElem_mem hi)) (by simp only [sz, cost] at hn ⊢; omega)
        exact ⟨r, by simp only [ev, e1]; exact h1.run, by have := h1.pot; simp only [cost, sz] at this ⊢; omega, h1.ok, h1.len, h1.val⟩
      | letE k a b =>
        obtain ⟨_, ta, tb⟩ := ht
        simp only [sz] at hb hn
        have he' : EnvOk (S.heap.length + 1) (env ++ [S.heap.length]) := he.snoc (by omega) (by omega)
        obtain ⟨r, h1⟩ := ih (.need b (env ++ [S.heap.length])) ⟨S.heap ++ [.wait a (env ++ [S.heap.length])], S.steps⟩
          (hS.app _ (by intro c hc; rw [List.mem_singleton.1 hc]; exact ⟨by simpa using ta, by omega, he'⟩) _)
          ⟨by simpa using tb, by omega, by simpa using he'⟩
          (by simp only [Skein.pot, cost, hsz_app] at hn ⊢; simp only [hsz, List.map_cons, List.map_nil, List.sum_cons, List.sum_nil, csz] at hn ⊢; omega)
        refine ⟨r, by simp only [ev]; exact h1.run, ?_, h1.ok, by have := h1.len; simp at this; omega, h1.val⟩
        have hp := h1.pot
        simp only [Skein.pot, cost, hsz_app, sz] at hp ⊢
        simp only [hsz, List.map_cons, List.map_nil, List.sum_cons, List.sum_nil, csz] at hp ⊢
        omega
      | ite a b c =>
        obtain ⟨ta, tb, tc⟩ := ht
        simp only [sz] at hb hn
        obtain ⟨r, h1⟩ := ih (.need a env) S hS ⟨ta, by omega, he⟩ (by simp only [cost]; omega)
        have hp := h1.pot
        simp only [cost] at hp
        cases hr : r.1.num with
        | error e => exact ⟨(.err e, r.2), by simp only [ev, h1.run, Option.bind_some, hr], by simp only [cost, sz]; omega, h1.ok, h1.len, trivial⟩
        | ok k =>
          cases hk : k == 0
          · obtain ⟨q, h2⟩ := ih (.need b env) r.2 h1.ok ⟨tb, by omega, he.mono h1.len⟩ (by simp only [cost]; omega)
            have hp2 := h2.pot
            simp only [cost] at hp2
            exact ⟨q, by simp only [ev, h1.run, Option.bind_some, hr, hk]; exact h2.run, by simp only [cost, sz]; omega, h2.ok, Nat.le_trans h1.len h2.len, h2.val⟩
          · obtain ⟨q, h2⟩ := ih (.need c env) r.2 h1.ok ⟨tc, by omega, he.mono h1.len⟩ (by simp only [cost]; omega)
            have hp2 := h2.pot
            simp only [cost] at hp2
            exact ⟨q, by simp only [ev, h1.run, Option.bind_some, hr, hk]; exact h2.run, by simp only [cost, sz]; omega, h2.ok, Nat.le_trans h1.len h2.len, h2.val⟩
      | app a b =>
        obtain ⟨ta, tb⟩ := ht
        simp only [sz] at hb hn
        obtain ⟨r, h1⟩ := ih (.need a env) S hS ⟨ta, by omega, he⟩ (by simp only [cost]; omega)
        have hp := h1.pot
        simp only [cost] at hp
        cases hr : r.1.fn with
        | error e => exact ⟨(.err e, r.2), by simp only [ev, h1.run, Option.bind_some, hr], by simp only [cost, sz]; omega, h1.ok, h1.len, trivial⟩
        | ok f =>
          by_cases hl : L ≤ r.2.steps
          · exact ⟨(.err 8, r.2), by simp only [ev, h1.run, Option.bind_some, hr, if_pos hl], by simp only [cost, sz]; omega, h1.ok, h1.len, trivial⟩
          · have hv : VOk B r.2.heap.length (.fn f.1 f.2) := by
              have hv := h1.val
              cases h1r : r.1 with
              | err e => rw [h1r] at hr; cases hr
              | ok v =>
                rw [h1r] at hr hv
                cases v with
                | fn b' e' => cases hr; exact hv
                | _ => cases hr
            obtain ⟨t1, t2, t3⟩ := hv
            have hd : (L - r.2.steps) * (B + 1) = (L - (r.2.steps + 1)) * (B + 1) + (B + 1) := by
              rw [← Nat.succ_mul]; congr 1; omega
            have hpn : Skein.pot L B ⟨r.2.heap ++ [.wait b env], r.2.steps + 1⟩ + B = Skein.pot L B r.2 + sz b := by
              simp only [Skein.pot, hsz_app, hd]
              simp only [hsz, List.map_cons, List.map_nil, List.sum_cons, List.sum_nil, csz]; omega
            obtain ⟨q, h2⟩ := ih (.need f.1 (f.2 ++ [r.2.heap.length])) ⟨r.2.heap ++ [.wait b env], r.2.steps + 1⟩
              (h1.ok.app _ (by intro c hc; rw [List.mem_singleton.1 hc]; exact ⟨tb, by omega, he.mono (by have := h1.len; simp; omega)⟩) _)
              ⟨by simpa using t1, t2, by simpa using t3.snoc (Nat.le_succ _) (Nat.lt_succ_self _)⟩
              (by simp only [cost]; omega)
            have hp2 := h2.pot
            simp only [cost] at hp2
            refine ⟨q, by simp only [ev, h1.run, Option.bind_some, hr, if_neg hl]; exact h2.run, by simp only [cost, sz]; omega, h2.ok, ?_, h2.val⟩
            have := h2.len; have := h1.len; simp at *; omega
      | un op a =>
        simp only [sz] at hb hn
        obtain ⟨r, h1⟩ := ih (.need a env) S hS ⟨ht.2, by omega, he⟩ (by simp only [cost]; omega)
        have hp := h1.pot
        simp only [cost] at hp
        cases hr : r.1.list with
        | error e => exact ⟨(.err e, r.2), by simp only [ev, h1.run, Option.bind_some, hr], by simp only [cost, sz]; omega, h1.ok, h1.len, trivial⟩
        | ok o =>
          cases o with
          | none =>
            cases ho : op == 110
            · exact ⟨(.err 6, r.2), by simp only [ev, h1.run, Option.bind_some, hr, ho]; rfl, by simp only [cost, sz]; omega, h1.ok, h1.len, trivial⟩
            · exact ⟨(.ok (.num 1), r.2), by simp only [ev, h1.run, Option.bind_some, hr, ho]; rfl, by simp only [cost, sz]; omega, h1.ok, h1.len, trivial⟩
          | some p =>
            have hv : p.1 < r.2.heap.length ∧ p.2 < r.2.heap.length := by
              have hv := h1.val
              cases h1r : r.1 with
              | err e => rw [h1r] at hr; cases hr
              | ok v =>
                rw [h1r] at hr hv
                cases v with
                | cons b' e' => cases hr; exact hv
                | _ => cases hr
            cases ho : op == 110
            · cases ho2 : op == 104
              · obtain ⟨q, h2⟩ := ih (.force p.2) r.2 h1.ok hv.2 (by simp only [cost]; omega)
                have hp2 := h2.pot
                simp only [cost] at hp2
                exact ⟨q, by simp only [ev, h1.run, Option.bind_some, hr, ho, ho2]; exact h2.run, by simp only [cost, sz]; omega, h2.ok, Nat.le_trans h1.len h2.len, h2.val⟩
              · obtain ⟨q, h2⟩ := ih (.force p.1) r.2 h1.ok hv.1 (by simp only [cost]; omega)
                have hp2 := h2.pot
                simp only [cost] at hp2
                exact ⟨q, by simp only [ev, h1.run, Option.bind_some, hr, ho, ho2]; exact h2.run, by simp only [cost, sz]; omega, h2.ok, Nat.le_trans h1.len h2.len, h2.val⟩
            · exact ⟨(.ok (.num 0), r.2), by simp only [ev, h1.run, Option.bind_some, hr, ho]; rfl, by simp only [cost, sz]; omega, h1.ok, h1.len, trivial⟩
      | bin op a b =>
        obtain ⟨_, ta, tb⟩ := ht
        simp only [sz] at hb hn
        cases ho : op == 58
        · obtain ⟨r, h1⟩ := ih (.need a env) S hS ⟨ta, by omega, he⟩ (by simp only [cost]; omega)
          have hp := h1.pot
          simp only [cost] at hp
          cases hr : r.1.num with
          | error e => exact ⟨(.err e, r.2), by simp only [ev, ho, h1.run, Option.bind_some, hr]; rfl, by simp only [cost, sz]; omega, h1.ok, h1.len, trivial⟩
          | ok k =>
            obtain ⟨q, h2⟩ := ih (.need b env) r.2 h1.ok ⟨tb, by omega, he.mono h1.len⟩ (by simp only [cost]; omega)
            have hp2 := h2.pot
            simp only [cost] at hp2
            cases hq : q.1.num with
            | error e => exact ⟨(.err e, q.2), by simp only [ev, ho, h1.run, Option.bind_some, hr, h2.run, hq]; rfl, by simp only [cost, sz]; omega, h2.ok, Nat.le_trans h1.len h2.len, trivial⟩
            | ok k' => exact ⟨(.ok (.num (reck op k k')), q.2), by simp only [ev, ho, h1.run, Option.bind_some, hr, h2.run, hq]; rfl, by simp only [cost, sz]; omega, h2.ok, Nat.le_trans h1.len h2.len, trivial⟩
        · refine ⟨(.ok (.cons S.heap.length (S.heap.length + 1)), ⟨S.heap ++ [.wait a env, .wait b env], S.steps⟩), by simp only [ev, ho]; rfl, ?_, ?_, by simp, ?_⟩
          · simp only [Skein.pot, cost, hsz_app, sz]
            simp only [hsz, List.map_cons, List.map_nil, List.sum_cons, List.sum_nil, csz]; omega
          · refine hS.app _ ?_ _
            intro c hc
            rcases List.mem_cons.1 hc with rfl | hc
            · exact ⟨ta, by omega, he.mono (by simp)⟩
            · rw [List.mem_singleton.1 hc]; exact ⟨tb, by omega, he.mono (by simp)⟩
          · simp [ROk, VOk]

/-- The whole expression ends. -/
theorem ev_whole (L : Nat) (x : T) (h : Tidy 0 x) : ∃ n r, ev L n (.need x []) ⟨[], 0⟩ = some r ∧ ROk (sz x) r.2.heap.length r.1 := by
  obtain ⟨r, h1⟩ := ev_ends L (sz x) _ (.need x []) ⟨[], 0⟩ (by intro i c h; simp at h) ⟨h, Nat.le_refl _, by intro i hi; cases hi⟩ (Nat.lt_succ_self _)
  exact ⟨_, r, h1.run, h1.val⟩
end Skein

namespace Skein
open Go

def Int64 (n : Int) : Prop := -9223372036854775808 ≤ n ∧ n ≤ 9223372036854775807
def Small : T → Prop
  | .num n => n < 10 ^ 9
  | .letE _ a b => Small a ∧ Small b
  | .fn _ a => Small a
  | .ite a b c => Small a ∧ Small b ∧ Small c
  | .app a b => Small a ∧ Small b
  | .un _ a => Small a
  | .bin _ a b => Small a ∧ Small b
  | _ => True
def VIn : V → Prop
  | .num n => Int64 n
  | .fn b _ => Small b
  | _ => True
def CIn : C → Prop
  | .wait x _ => Small x
  | .known v => VIn v
  | .busy => True
def HIn (S : E) : Prop := ∀ c ∈ S.heap, CIn c
def RIn : R → Prop
  | .ok v => VIn v
  | .err _ => True

theorem wrap_in (z : Int) : Int64 (IntKind.wrap .i64 z) := by
  have : IntKind.wrap .i64 z = (z + 9223372036854775808) % 18446744073709551616 - 9223372036854775808 := IntKind.wrap_i64 z
  rw [this]; unfold Int64; omega
theorem tr_in (b : Bool) : Int64 (tr b) := by cases b <;> simp [tr, Int64]
theorem reck_in (op : UInt8) (x y : Int) : Int64 (reck op x y) := by
  unfold reck
  repeat' split
  all_goals first | exact wrap_in _ | exact tr_in _

theorem HIn.set {S : E} (h : HIn S) (i : Nat) (c : C) (hc : CIn c) (n : Nat) : HIn ⟨S.heap.set i c, n⟩ := by
  intro d hd
  rcases List.mem_or_eq_of_mem_set hd with hd | rfl
  · exact h d hd
  · exact hc
theorem HIn.app {S : E} (h : HIn S) (l : List C) (hl : ∀ c ∈ l, CIn c) (n : Nat) : HIn ⟨S.heap ++ l, n⟩ := by
  intro d hd
  rcases List.mem_append.1 hd with hd | hd
  · exact h d hd
  · exact hl d hd
theorem num_in {r : R} {k : Int} (h : RIn r) (e : r.num = .ok k) : Int64 k := by
  cases r with
  | err z => cases e
  | ok v => cases v with
    | num n => cases e; exact h
    | _ => cases e
theorem fn_in {r : R} {f : T × List Nat} (h : RIn r) (e : r.fn = .ok f) : Small f.1 := by
  cases r with
  | err z => cases e
  | ok v => cases v with
    | fn b env => cases e; exact h
    | _ => cases e

def JIn : J → Prop
  | .need x _ => Small x
  | .force _ => True

theorem ev_in (L : Nat) : ∀ (n : Nat) (j : J) (S : E) (r : R × E), ev L n j S = some r → HIn S → JIn j → HIn r.2 ∧ RIn r.1 := by
  intro n
  induction n with
  | zero => intro j S r h; simp [ev] at h
  | succ n ih =>
    intro j S r h hS hj
    cases j with
    | force i =>
      simp only [ev] at h
      cases hc : S.heap[i]? with
      | none => rw [hc] at h; cases h
      | some c =>
        rw [hc] at h
        have hci := hS c (List.mem_of_getElem? hc)
        cases c with
        | known v => cases h; exact ⟨hS, hci⟩
        | busy => cases h; exact ⟨hS, trivial⟩
        | wait x env =>
          obtain ⟨⟨rr, S1⟩, h1, h2⟩ := Option.bind_eq_some_iff.1 h
          obtain ⟨k1, k2⟩ := ih _ _ _ h1 (hS.set i .busy trivial _) hci
          cases rr with
          | ok v => cases h2; exact ⟨k1.set i (.known v) k2 _, k2⟩
          | err e => cases h2; exact ⟨k1, trivial⟩
    | need x env =>
      cases x with
      | junk => cases h
      | free => cases h
      | nil => cases h; exact ⟨hS, trivial⟩
      | num k =>
        cases h
        have hk : k < 10 ^ 9 := hj
        exact ⟨hS, by show Int64 (k : Int); unfold Int64; omega⟩
      | fn k b => cases h; exact ⟨hS, hj⟩
      | var i =>
        simp only [ev] at h
        cases he : env[i]? with
        | none => rw [he] at h; cases h
        | some k => rw [he] at h; exact ih _ _ _ h hS trivial
      | letE k a b =>
        simp only [ev] at h
        exact ih _ _ _ h (hS.app _ (by intro c hc; rw [List.mem_singleton.1 hc]; exact hj.1) _) hj.2
      | ite a b c =>
        simp only [ev] at h
        obtain ⟨r1, h1, h2⟩ := Option.bind_eq_some_iff.1 h
        obtain ⟨k1, k2⟩ := ih _ _ _ h1 hS hj.1
        cases hr : r1.1.num with
        | error e => rw [hr] at h2; cases h2; exact ⟨k1, trivial⟩
        | ok k =>
          rw [hr] at h2
          simp only at h2
          split at h2
          · exact ih _ _ _ h2 k1 hj.2.2
          · exact ih _ _ _ h2 k1 hj.2.1
      | app a b =>
        simp only [ev] at h
        obtain ⟨r1, h1, h2⟩ := Option.bind_eq_some_iff.1 h
        obtain ⟨k1, k2⟩ := ih _ _ _ h1 hS hj.1
        cases hr : r1.1.fn with
        | error e => rw [hr] at h2; cases h2; exact ⟨k1, trivial⟩
        | ok f =>
          rw [hr] at h2
          simp only at h2
          split at h2
          · cases h2; exact ⟨k1, trivial⟩
          · exact ih _ _ _ h2 (k1.app _ (by intro c hc; rw [List.mem_singleton.1 hc]; exact hj.2) _) (fn_in k2 hr)
      | un op a =>
        simp only [ev] at h
        obtain ⟨r1, h1, h2⟩ := Option.bind_eq_some_iff.1 h
        obtain ⟨k1, k2⟩ := ih _ _ _ h1 hS hj
        cases hr : r1.1.list with
        | error e => rw [hr] at h2; cases h2; exact ⟨k1, trivial⟩
        | ok o =>
          rw [hr] at h2
          cases o with
          | none =>
            simp only at h2
            split at h2
            · cases h2; exact ⟨k1, by show Int64 1; unfold Int64; omega⟩
            · cases h2; exact ⟨k1, trivial⟩
          | some p =>
            simp only at h2
            split at h2
            · cases h2; exact ⟨k1, by show Int64 0; unfold Int64; omega⟩
            · split at h2
              · exact ih _ _ _ h2 k1 trivial
              · exact ih _ _ _ h2 k1 trivial
      | bin op a b =>
        simp only [ev] at h
        split at h
        · cases h
          refine ⟨hS.app _ (by intro c hc; rcases List.mem_cons.1 hc with rfl | hc; · exact hj.1
                               · rw [List.mem_singleton.1 hc]; exact hj.2) _, trivial⟩
        · obtain ⟨r1, h1, h2⟩ := Option.bind_eq_some_iff.1 h
          obtain ⟨k1, k2⟩ := ih _ _ _ h1 hS hj.1
          cases hr : r1.1.num with
          | error e => rw [hr] at h2; cases h2; exact ⟨k1, trivial⟩
          | ok i =>
            rw [hr] at h2
            obtain ⟨r2, h3, h4⟩ := Option.bind_eq_some_iff.1 h2
            obtain ⟨q1, q2⟩ := ih _ _ _ h3 k1 hj.2
            cases hr2 : r2.1.num with
            | error e => rw [hr2] at h4; cases h4; exact ⟨q1, trivial⟩
            | ok j => rw [hr2] at h4; cases h4; exact ⟨q1, reck_in op i j⟩
end Skein

namespace Skein
open Go

def Nls : T → Prop
  | .letE _ a b => Nls a ∧ Nls b
  | .fn _ a => Nls a
  | .ite a b c => Nls a ∧ Nls b ∧ Nls c
  | .app a b => Nls a ∧ Nls b
  | .un _ _ => False
  | .nil => False
  | .bin op a b => (op == 58) = false ∧ Nls a ∧ Nls b
  | _ => True
def VNl : V → Prop
  | .num _ => True
  | .fn b _ => Nls b
  | _ => False
def CNl : C → Prop
  | .wait x _ => Nls x
  | .known v => VNl v
  | .busy => True
def HNl (S : E) : Prop := ∀ c ∈ S.heap, CNl c
def RNl : R → Prop
  | .ok v => VNl v
  | .err _ => True

theorem HNl.set {S : E} (h : HNl S) (i : Nat) (c : C) (hc : CNl c) (n : Nat) : HNl ⟨S.heap.set i c, n⟩ := by
  intro d hd
  rcases List.mem_or_eq_of_mem_set hd with hd | rfl
  · exact h d hd
  · exact hc
theorem HNl.app {S : E} (h : HNl S) (l : List C) (hl : ∀ c ∈ l, CNl c) (n : Nat) : HNl ⟨S.heap ++ l, n⟩ := by
  intro d hd
  rcases List.mem_append.1 hd with hd | hd
  · exact h d hd
  · exact hl d hd
theorem fn_nl {r : R} {f : T × List Nat} (h : RNl r) (e : r.fn = .ok f) : Nls f.1 := by
  cases r with
  | err z => cases e
  | ok v => cases v with
    | fn b env => cases e; exact h
    | _ => cases e

def JNl : J → Prop
  | .need x _ => Nls x
  | .force _ => True

theorem ev_nl (L : Nat) : ∀ (n : Nat) (j : J) (S : E) (r : R × E), ev L n j S = some r → HNl S → JNl j → HNl r.2 ∧ RNl r.1 := by
  intro n
  induction n with
  | zero => intro j S r h; simp [ev] at h
  | succ n ih =>
    intro j S r h hS hj
    cases j with
    | force i =>
      simp only [ev] at h
      cases hc : S.heap[i]? with
      | none => rw [hc] at h; cases h
      | some c =>
        rw [hc] at h
        have hci := hS c (List.mem_of_getElem? hc)
        cases c with
        | known v => cases h; exact ⟨hS, hci⟩
        | busy => cases h; exact ⟨hS, trivial⟩
        | wait x env =>
          obtain ⟨⟨rr, S1⟩, h1, h2⟩ := Option.bind_eq_some_iff.1 h
          obtain ⟨k1, k2⟩ := ih _ _ _ h1 (hS.set i .busy trivial _) hci
          cases rr with
          | ok v => cases h2; exact ⟨k1.set i (.known v) k2 _, k2⟩
          | err e => cases h2; exact ⟨k1, trivial⟩
    | need x env =>
      cases x with
      | junk => cases h
      | free => cases h
      | nil => exact hj.elim
      | num k => cases h; exact ⟨hS, trivial⟩
      | fn k b => cases h; exact ⟨hS, hj⟩
      | var i =>
        simp only [ev] at h
        cases he : env[i]? with
        | none => rw [he] at h; cases h
        | some k => rw [he] at h; exact ih _ _ _ h hS trivial
      | letE k a b =>
        simp only [ev] at h
        exact ih _ _ _ h (hS.app _ (by intro c hc; rw [List.mem_singleton.1 hc]; exact hj.1) _) hj.2
      | ite a b c =>
        simp only [ev] at h
        obtain ⟨r1, h1, h2⟩ := Option.bind_eq_some_iff.1 h
        obtain ⟨k1, k2⟩ := ih _ _ _ h1 hS hj.1
        cases hr : r1.1.num with
        | error e => rw [hr] at h2; cases h2; exact ⟨k1, trivial⟩
        | ok k =>
          rw [hr] at h2
          simp only at h2
          split at h2
          · exact ih _ _ _ h2 k1 hj.2.2
          · exact ih _ _ _ h2 k1 hj.2.1
      | app a b =>
        simp only [ev] at h
        obtain ⟨r1, h1, h2⟩ := Option.bind_eq_some_iff.1 h
        obtain ⟨k1, k2⟩ := ih _ _ _ h1 hS hj.1
        cases hr : r1.1.fn with
        | error e => rw [hr] at h2; cases h2; exact ⟨k1, trivial⟩
        | ok f =>
          rw [hr] at h2
          simp only at h2
          split at h2
          · cases h2; exact ⟨k1, trivial⟩
          · exact ih _ _ _ h2 (k1.app _ (by intro c hc; rw [List.mem_singleton.1 hc]; exact hj.2) _) (fn_nl k2 hr)
      | un op a => exact hj.elim
      | bin op a b =>
        simp only [ev] at h
        rw [hj.1] at h
        simp only [Bool.false_eq_true, if_false] at h
        obtain ⟨r1, h1, h2⟩ := Option.bind_eq_some_iff.1 h
        obtain ⟨k1, k2⟩ := ih _ _ _ h1 hS hj.2.1
        cases hr : r1.1.num with
        | error e => rw [hr] at h2; cases h2; exact ⟨k1, trivial⟩
        | ok i =>
          rw [hr] at h2
          obtain ⟨r2, h3, h4⟩ := Option.bind_eq_some_iff.1 h2
          obtain ⟨q1, q2⟩ := ih _ _ _ h3 k1 hj.2.2
          cases hr2 : r2.1.num with
          | error e => rw [hr2] at h4; cases h4; exact ⟨q1, trivial⟩
          | ok j => rw [hr2] at h4; cases h4; exact ⟨q1, trivial⟩
end Skein
