/-
  What a text that is an expression comes to: how great its tree is; no part of it is junk.
-/
import Derived.Test.YtjjlgjmebnkdjaaGreatDoorRefI
import Derived.Test.YtjjlgjmebnkdjaaGreatDoorPrgI
namespace Go.Proofs.YtjjlgjmebnkdjaaGreatDoor
open Go Go.Proofs Go.RowKit Skein

def nodes : T → Nat
  | .junk => 1 | .free => 1 | .nil => 1 | .num _ => 1 | .var _ => 1
  | .letE _ a b => 1 + nodes a + nodes b
  | .fn _ a => 1 + nodes a
  | .ite a b c => 1 + nodes a + nodes b + nodes c
  | .app a b => 1 + nodes a + nodes b
  | .un _ a => 1 + nodes a
  | .bin _ a b => 1 + nodes a + nodes b

def Clean : T → Prop
  | .junk => False | .free => False | .nil => True
  | .num n => n < 10 ^ 9
  | .var n => n ≤ 300
  | .letE n a b => n ≤ 300 ∧ Clean a ∧ Clean b
  | .fn n a => n ≤ 300 ∧ Clean a
  | .ite a b c => Clean a ∧ Clean b ∧ Clean c
  | .app a b => Clean a ∧ Clean b
  | .un op a => (op = 104 ∨ op = 116 ∨ op = 110) ∧ Clean a
  | .bin op a b => (op = 58 ∨ op = 61 ∨ op = 60 ∨ op = 43 ∨ op = 45 ∨ op = 42) ∧ Clean a ∧ Clean b

def accN : NT → Nat
  | .sumL a => nodes a | .prodL a => nodes a | .useL a => nodes a | _ => 0
def accC : NT → Prop
  | .sumL a => Clean a | .prodL a => Clean a | .useL a => Clean a | _ => True
def lone1 : NT → Nat
  | .sumL _ => 0 | .prodL _ => 0 | .useL _ => 0 | _ => 1

theorem some_of_ne {o : Option Nat} (h : o.isSome = true) : o ≠ none := by cases o <;> simp_all
theorem bad_back {m m' : M} (h : m.bad.isSome = true → m'.bad.isSome = true) (hb : m'.bad = none) : m.bad = none := by
  cases e : m.bad with
  | none => rfl
  | some q => have := h (by rw [e]; rfl); rw [hb] at this; cases this
theorem want_free (s x : ByteArray) (m : M) : (m.want s x).free = m.free := by unfold M.want; split <;> rfl
theorem gives_free (s : ByteArray) (m : M) : (m.gives s).2.free = m.free := by unfold M.gives; split <;> rfl
theorem want_back {s x : ByteArray} {m : M} (h : (m.want s x).bad = none) : m.bad = none := bad_back (want_bad s x m) h
theorem gives_back {s : ByteArray} {m : M} (h : (m.gives s).2.bad = none) : m.bad = none := bad_back (gives_bad s m) h
theorem PM_back {s : ByteArray} {n : Nat} {nt : NT} {m : M} {r : T × M} (h : PM s n nt m = some r) (hb : r.2.bad = none) : m.bad = none := bad_back (PM_sticky s n nt m r h) hb

theorem opOf_has {m : M} {c : UInt8} (h : m.has ⟨#[c]⟩ = true) : opOf m.tok.text = c := by
  unfold M.has at h
  simp only [Bool.and_eq_true] at h
  rw [eqb_iff.1 h.2]; rfl

theorem lastIdx_lt (x : ByteArray) : ∀ (l : List ByteArray) (i : Nat), lastIdx x l = some i → i < l.length := by
  intro l
  induction l with
  | nil => intro i h; cases h
  | cons y r ih =>
    intro i h
    unfold lastIdx at h
    split at h
    · rename_i j hj
      cases h
      have := ih j hj
      simp; exact this
    · split at h
      · cases h; simp
      · cases h

structure Fine (s : ByteArray) (nt : NT) (m : M) (r : T × M) : Prop where
  free : 0 ≤ m.free → 0 ≤ r.2.free
  clean : r.2.free < 0 → accC nt → Clean r.1
  size : nodes r.1 + 2 * m.tok.at_ + lone1 nt ≤ 2 * r.2.tok.at_ + accN nt

theorem PM_good (s : ByteArray) (hs : s.size ≤ 300) : ∀ (n : Nat) (nt : NT) (m : M) (r : T × M), PM s n nt m = some r → Inv s m → m.given.length ≤ m.tok.at_ → r.2.bad = none → Fine s nt m r := by
  intro n
  induction n with
  | zero => intro nt m r h; simp [PM] at h
  | succ n ih =>
    intro nt m r h hi hg hb
    have hat := hi.at_le
    have ha := adv_b s m
    cases nt with
    | expr =>
      have h0 := h
      simp only [PM] at h
      split at h
      · rename_i hx; cases h; exact absurd hb (some_of_ne hx)
      split at h
      · rename_i hq
        have hsz : m.tok.text.size = 3 := eqb_size hq
        obtain ⟨r1, h1, h⟩ := Option.bind_eq_some_iff.1 h
        obtain ⟨q, h2, h⟩ := Option.bind_eq_some_iff.1 h
        cases h
        have b2 := PM_back h2 hb
        have b1 := want_back b2
        have g1 := gives_b s (m.adv s)
        have g2 := want_b s ⟨#[61]⟩ ((m.adv s).gives s).2
        have k1 := PM_keeps s n _ _ _ h1
        have f1 := ih _ _ _ h1 hi.adv.gives.want.push (by simp only [push_given, push_tok, want_given, gives_given, adv_given, List.length_append, List.length_singleton]; omega) b1
        have i1 := k1.1 hi.adv.gives.want.push
        have z1 := f1.size
        simp only [lone1, accN, push_tok] at z1
        have g3 := want_b s ⟨#[105, 110]⟩ r1.2
        have f2 := ih _ _ _ h2 i1.want (by simp only [want_given, k1.2, push_given, gives_given, adv_given, List.length_append, List.length_singleton]; omega) hb
        have z2 := f2.size
        simp only [lone1, accN] at z2
        refine ⟨fun hf => ?_, fun hf _ => ?_, ?_⟩
        · apply f2.free; rw [want_free]; apply f1.free
          show 0 ≤ (((m.adv s).gives s).2.want s ⟨#[61]⟩).free
          rw [want_free, gives_free]; exact hf
        · have hf' : q.2.free < 0 := hf
          have hf1 : r1.2.free < 0 := by
            rcases Int.lt_or_le r1.2.free 0 with h | h
            · exact h
            · have := f2.free (by rw [want_free]; exact h); omega
          exact ⟨by omega, f1.clean hf1 trivial, f2.clean hf' trivial⟩
        · simp only [nodes, lone1, accN, pop_tok]; omega
      split at h
      · rename_i hq
        have hsz : m.tok.text.size = 1 := eqb_size hq
        obtain ⟨r1, h1, h⟩ := Option.bind_eq_some_iff.1 h
        cases h
        have g1 := gives_b s (m.adv s)
        have g2 := want_b s ⟨#[46]⟩ ((m.adv s).gives s).2
        have f1 := ih _ _ _ h1 hi.adv.gives.want.push (by simp only [push_given, push_tok, want_given, gives_given, adv_given, List.length_append, List.length_singleton]; omega) hb
        have z1 := f1.size
        simp only [lone1, accN, push_tok] at z1
        refine ⟨fun hf => ?_, fun hf _ => ?_, ?_⟩
        · apply f1.free
          show 0 ≤ (((m.adv s).gives s).2.want s ⟨#[46]⟩).free
          rw [want_free, gives_free]; exact hf
        · exact ⟨by omega, f1.clean hf trivial⟩
        · simp only [nodes, lone1, accN, pop_tok]; omega
      split at h
      · rename_i hq
        have hsz : m.tok.text.size = 2 := eqb_size hq
        obtain ⟨r1, h1, h⟩ := Option.bind_eq_some_iff.1 h
        obtain ⟨q, h2, h⟩ := Option.bind_eq_some_iff.1 h
        obtain ⟨p, h3, h⟩ := Option.bind_eq_some_iff.1 h
        cases h
        have b3 := PM_back h3 hb
        have b2 := PM_back h2 (want_back b3)
        have k1 := PM_keeps s n _ _ _ h1
        have k2 := PM_keeps s n _ _ _ h2
        have f1 := ih _ _ _ h1 hi.adv (by rw [adv_given]; omega) (want_back b2)
        have z1 := f1.size
        simp only [lone1, accN] at z1
        have i1 := k1.1 hi.adv
        have g3 := want_b s ⟨#[116, 104, 101, 110]⟩ r1.2
        have f2 := ih _ _ _ h2 i1.want (by rw [want_given, k1.2, adv_given]; omega) (want_back b3)
        have z2 := f2.size
        simp only [lone1, accN] at z2
        have i2 := k2.1 i1.want
        have g4 := want_b s ⟨#[101, 108, 115, 101]⟩ q.2
        have f3 := ih _ _ _ h3 i2.want (by rw [want_given, k2.2, want_given, k1.2, adv_given]; omega) hb
        have z3 := f3.size
        simp only [lone1, accN] at z3
        refine ⟨fun hf => ?_, fun hf _ => ?_, ?_⟩
        · apply f3.free; rw [want_free]; apply f2.free; rw [want_free]; exact f1.free hf
        · have hf2 : q.2.free < 0 := by
            rcases Int.lt_or_le q.2.free 0 with h | h
            · exact h
            · have := f3.free (by rw [want_free]; exact h); have hf' : p.2.free < 0 := hf; omega
          have hf1 : r1.2.free < 0 := by
            rcases Int.lt_or_le r1.2.free 0 with h | h
            · exact h
            · have := f2.free (by rw [want_free]; exact h); omega
          exact ⟨f1.clean hf1 trivial, f2.clean hf2 trivial, f3.clean hf trivial⟩
        · simp only [nodes, lone1, accN]; omega
      · have f := ih _ _ _ h hi hg hb
        exact ⟨f.free, f.clean, f.size⟩
    | list =>
      simp only [PM] at h
      split at h
      · rename_i hx; cases h; exact absurd hb (some_of_ne hx)
      obtain ⟨r1, h1, h⟩ := Option.bind_eq_some_iff.1 h
      have k1 := PM_keeps s n _ _ _ h1
      split at h
      · rename_i hq
        obtain ⟨q, h2, h⟩ := Option.bind_eq_some_iff.1 h
        cases h
        have b1 : r1.2.bad = none := (PM_back h2 hb : (r1.2.adv s).bad = none)
        have f1 := ih _ _ _ h1 hi hg b1
        have z1 := f1.size
        simp only [lone1, accN] at z1
        have ha1 := adv_b s r1.2
        have f2 := ih _ _ _ h2 (k1.1 hi).adv (by rw [adv_given, k1.2]; omega) hb
        have z2 := f2.size
        simp only [lone1, accN] at z2
        refine ⟨fun hf => f2.free (f1.free hf), fun hf _ => ?_, ?_⟩
        · have hf1 : r1.2.free < 0 := by
            rcases Int.lt_or_le r1.2.free 0 with h | h
            · exact h
            · exact absurd (f2.free h) (Int.not_le.2 hf)
          exact ⟨.inl rfl, f1.clean hf1 trivial, f2.clean hf trivial⟩
        · simp only [nodes, lone1, accN]; omega
      · cases h
        have f := ih _ _ _ h1 hi hg hb
        exact ⟨f.free, f.clean, f.size⟩
    | order =>
      simp only [PM] at h
      split at h
      · rename_i hx; cases h; exact absurd hb (some_of_ne hx)
      obtain ⟨r1, h1, h⟩ := Option.bind_eq_some_iff.1 h
      have k1 := PM_keeps s n _ _ _ h1
      split at h
      · rename_i hq
        obtain ⟨q, h2, h⟩ := Option.bind_eq_some_iff.1 h
        cases h
        have b1 : r1.2.bad = none := (PM_back h2 hb : (r1.2.adv s).bad = none)
        have f1 := ih _ _ _ h1 hi hg b1
        have z1 := f1.size
        simp only [lone1, accN] at z1
        have ha1 := adv_b s r1.2
        have f2 := ih _ _ _ h2 (k1.1 hi).adv (by rw [adv_given, k1.2]; omega) hb
        have z2 := f2.size
        simp only [lone1, accN] at z2
        refine ⟨fun hf => f2.free (f1.free hf), fun hf _ => ?_, ?_⟩
        · have hf1 : r1.2.free < 0 := by
            rcases Int.lt_or_le r1.2.free 0 with h | h
            · exact h
            · exact absurd (f2.free h) (Int.not_le.2 hf)
          refine ⟨?_, f1.clean hf1 trivial, f2.clean hf trivial⟩
          rcases Bool.or_eq_true _ _ ▸ hq with hq | hq
          · rw [opOf_has hq]; decide
          · rw [opOf_has hq]; decide
        · simp only [nodes, lone1, accN]; omega
      · cases h
        have f := ih _ _ _ h1 hi hg hb
        exact ⟨f.free, f.clean, f.size⟩
    | sum =>
      simp only [PM] at h
      split at h
      · rename_i hx; cases h; exact absurd hb (some_of_ne hx)
      obtain ⟨r1, h1, h⟩ := Option.bind_eq_some_iff.1 h
      have k1 := PM_keeps s n _ _ _ h1
      have b1 : r1.2.bad = none := PM_back h hb
      have f1 := ih _ _ _ h1 hi hg b1
      have z1 := f1.size
      simp only [lone1, accN] at z1
      have f2 := ih _ _ _ h (k1.1 hi) (by rw [k1.2]; omega) hb
      have z2 := f2.size
      simp only [lone1, accN] at z2
      refine ⟨fun hf => f2.free (f1.free hf), fun hf _ => ?_, ?_⟩
      · have hf1 : r1.2.free < 0 := by
          rcases Int.lt_or_le r1.2.free 0 with h | h
          · exact h
          · exact absurd (f2.free h) (Int.not_le.2 hf)
        exact f2.clean hf (f1.clean hf1 trivial)
      · simp only [lone1, accN]; omega
    | prod =>
      simp only [PM] at h
      split at h
      · rename_i hx; cases h; exact absurd hb (some_of_ne hx)
      obtain ⟨r1, h1, h⟩ := Option.bind_eq_some_iff.1 h
      have k1 := PM_keeps s n _ _ _ h1
      have b1 : r1.2.bad = none := PM_back h hb
      have f1 := ih _ _ _ h1 hi hg b1
      have z1 := f1.size
      simp only [lone1, accN] at z1
      have f2 := ih _ _ _ h (k1.1 hi) (by rw [k1.2]; omega) hb
      have z2 := f2.size
      simp only [lone1, accN] at z2
      refine ⟨fun hf => f2.free (f1.free hf), fun hf _ => ?_, ?_⟩
      · have hf1 : r1.2.free < 0 := by
          rcases Int.lt_or_le r1.2.free 0 with h | h
          · exact h
          · exact absurd (f2.free h) (Int.not_le.2 hf)
        exact f2.clean hf (f1.clean hf1 trivial)
      · simp only [lone1, accN]; omega
    | use =>
      simp only [PM] at h
      split at h
      · rename_i hx; cases h; exact absurd hb (some_of_ne hx)
      obtain ⟨r1, h1, h⟩ := Option.bind_eq_some_iff.1 h
      have k1 := PM_keeps s n _ _ _ h1
      have b1 : r1.2.bad = none := PM_back h hb
      have f1 := ih _ _ _ h1 hi hg b1
      have z1 := f1.size
      simp only [lone1, accN] at z1
      have f2 := ih _ _ _ h (k1.1 hi) (by rw [k1.2]; omega) hb
      have z2 := f2.size
      simp only [lone1, accN] at z2
      refine ⟨fun hf => f2.free (f1.free hf), fun hf _ => ?_, ?_⟩
      · have hf1 : r1.2.free < 0 := by
          rcases Int.lt_or_le r1.2.free 0 with h | h
          · exact h
          · exact absurd (f2.free h) (Int.not_le.2 hf)
        exact f2.clean hf (f1.clean hf1 trivial)
      · simp only [lone1, accN]; omega
    | sumL a =>
      simp only [PM] at h
      split at h
      · rename_i hq
        obtain ⟨r1, h1, h⟩ := Option.bind_eq_some_iff.1 h
        have k1 := PM_keeps s n _ _ _ h1
        have b1 : r1.2.bad = none := PM_back h hb
        have f1 := ih _ _ _ h1 hi.adv (by rw [adv_given]; omega) b1
        have z1 := f1.size
        simp only [lone1, accN] at z1
        have f2 := ih _ _ _ h (k1.1 hi.adv) (by rw [k1.2, adv_given]; omega) hb
        have z2 := f2.size
        simp only [lone1, accN, nodes] at z2
        refine ⟨fun hf => f2.free (f1.free hf), fun hf hc => ?_, ?_⟩
        · have hf1 : r1.2.free < 0 := by
            rcases Int.lt_or_le r1.2.free 0 with h | h
            · exact h
            · exact absurd (f2.free h) (Int.not_le.2 hf)
          refine f2.clean hf ⟨?_, hc, f1.clean hf1 trivial⟩
          rcases Bool.or_eq_true _ _ ▸ hq with hq | hq
          · rw [opOf_has hq]; decide
          · rw [opOf_has hq]; decide
        · simp only [lone1, accN]; omega
      · cases h; exact ⟨id, fun _ hc => hc, by simp only [lone1, accN]; omega⟩
    | prodL a =>
      simp only [PM] at h
      split at h
      · rename_i hq
        obtain ⟨r1, h1, h⟩ := Option.bind_eq_some_iff.1 h
        have k1 := PM_keeps s n _ _ _ h1
        have b1 : r1.2.bad = none := PM_back h hb
        have f1 := ih _ _ _ h1 hi.adv (by rw [adv_given]; omega) b1
        have z1 := f1.size
        simp only [lone1, accN] at z1
        have f2 := ih _ _ _ h (k1.1 hi.adv) (by rw [k1.2, adv_given]; omega) hb
        have z2 := f2.size
        simp only [lone1, accN, nodes] at z2
        refine ⟨fun hf => f2.free (f1.free hf), fun hf hc => ?_, ?_⟩
        · have hf1 : r1.2.free < 0 := by
            rcases Int.lt_or_le r1.2.free 0 with h | h
            · exact h
            · exact absurd (f2.free h) (Int.not_le.2 hf)
          exact f2.clean hf ⟨by decide, hc, f1.clean hf1 trivial⟩
        · simp only [lone1, accN]; omega
      · cases h; exact ⟨id, fun _ hc => hc, by simp only [lone1, accN]; omega⟩
    | useL a =>
      simp only [PM] at h
      split at h
      · obtain ⟨r1, h1, h⟩ := Option.bind_eq_some_iff.1 h
        have k1 := PM_keeps s n _ _ _ h1
        have b1 : r1.2.bad = none := PM_back h hb
        have f1 := ih _ _ _ h1 hi hg b1
        have z1 := f1.size
        simp only [lone1, accN] at z1
        have f2 := ih _ _ _ h (k1.1 hi) (by rw [k1.2]; omega) hb
        have z2 := f2.size
        simp only [lone1, accN, nodes] at z2
        refine ⟨fun hf => f2.free (f1.free hf), fun hf hc => ?_, ?_⟩
        · have hf1 : r1.2.free < 0 := by
            rcases Int.lt_or_le r1.2.free 0 with h | h
            · exact h
            · exact absurd (f2.free h) (Int.not_le.2 hf)
          exact f2.clean hf ⟨hc, f1.clean hf1 trivial⟩
        · simp only [lone1, accN]; omega
      · cases h; exact ⟨id, fun _ hc => hc, by simp only [lone1, accN]; omega⟩
    | atom =>
      simp only [PM] at h
      split at h
      · rename_i hbg
        have hpos := begins_pos hi hbg
        split at h
        · rename_i hk
          cases h
          refine ⟨id, fun _ _ => ?_, by simp only [nodes, lone1, accN]; omega⟩
          have hk' : m.tok.k = .num := by simpa using hk
          obtain ⟨hn1, hn2⟩ := num_text hi hk'
          have hv := valL_lt m.tok.text.data.toList hn1
          have h10 : 10 ^ m.tok.text.data.toList.length ≤ 10 ^ 9 := Nat.pow_le_pow_right (by omega) (by rw [Array.length_toList]; exact hn2)
          show val m.tok.text < 10 ^ 9
          rw [val_valL]; omega
        split at h
        · cases h
          unfold named
          split
          · rename_i i hidx
            refine ⟨id, fun _ _ => ?_, by simp only [nodes, lone1, accN]; omega⟩
            have := lastIdx_lt _ _ _ hidx
            rw [adv_given] at this
            show i ≤ 300
            omega
          · refine ⟨fun hf => ?_, fun hf _ => ?_, by simp only [nodes, lone1, accN]; omega⟩
            · show 0 ≤ (if (m.adv s).free < 0 then (m.tok.at_ : Int) else (m.adv s).free)
              split <;> omega
            · exfalso
              have hf' : (if (m.adv s).free < 0 then (m.tok.at_ : Int) else (m.adv s).free) < 0 := hf
              split at hf' <;> omega
        split at h
        · cases h
          exact ⟨id, fun _ _ => trivial, by simp only [nodes, lone1, accN]; omega⟩
        split at h
        · obtain ⟨r1, h1, h⟩ := Option.bind_eq_some_iff.1 h
          cases h
          have f1 := ih _ _ _ h1 hi.adv (by rw [adv_given]; omega) (want_back hb)
          have z1 := f1.size
          simp only [lone1, accN] at z1
          have g3 := want_b s ⟨#[41]⟩ r1.2
          refine ⟨fun hf => ?_, fun hf _ => f1.clean (by rw [← want_free s ⟨#[41]⟩ r1.2]; exact hf) trivial, by simp only [lone1, accN]; omega⟩
          show 0 ≤ (r1.2.want s ⟨#[41]⟩).free
          rw [want_free]; exact f1.free hf
        · rename_i hn1 hn2 hn3 hn4
          obtain ⟨r1, h1, h⟩ := Option.bind_eq_some_iff.1 h
          cases h
          have f1 := ih _ _ _ h1 hi.adv (by rw [adv_given]; omega) hb
          have z1 := f1.size
          simp only [lone1, accN] at z1
          refine ⟨f1.free, fun hf _ => ⟨?_, f1.clean hf trivial⟩, by simp only [nodes, lone1, accN]; omega⟩
          unfold M.begins at hbg
          simp only [Bool.and_eq_true, Bool.or_eq_true] at hbg
          have hmem : mem openers m.tok.text = true := by
            rcases hbg.2 with (h | h) | h
            · exact absurd h hn1
            · exact absurd h hn2
            · exact h
          have := mem_iff.1 hmem
          simp only [openers, List.mem_cons, List.not_mem_nil, or_false] at this
          rcases this with e | e | e | e | e
          · rw [e] at hn3; exact absurd rfl hn3
          · rw [e] at hn4; exact absurd rfl hn4
          · rw [e]; decide
          · rw [e]; decide
          · rw [e]; decide
      · cases h; cases hb

/-- Of a whole text. -/
theorem whole_good {s : ByteArray} (hs : s.size ≤ 300) {n : Nat} {t : T} {m : M} (h : PM s n .expr (Skein.start s) = some (t, m)) (hf : finish m = (0, 0)) : Clean t ∧ nodes t ≤ 600 := by
  have hi := (PM_keeps s n _ _ _ h).1 (Inv.start s)
  have hb : m.bad = none := by
    cases e : m.bad with
    | none => rfl
    | some q =>
      exfalso
      unfold finish M.isBad at hf
      rw [e] at hf
      simp at hf
  have hfr : m.free < 0 := by
    rcases Int.lt_or_le m.free 0 with h | h
    · exact h
    · exfalso
      unfold finish at hf
      split at hf
      · simp at hf
      split at hf
      · simp at hf
      · first | (simp at hf; done) | (split at hf <;> first | (simp at hf; done) | omega)
  have f := PM_good s hs n _ _ _ h (Inv.start s) (Nat.zero_le _) hb
  have z := f.size
  simp only [lone1, accN] at z
  have := hi.at_le
  exact ⟨f.clean hfr trivial, by simp only at this; omega⟩
end Go.Proofs.YtjjlgjmebnkdjaaGreatDoor
