/-
  The program's reckoning: what lies in memory for closures, scopes, what is held, and values.
  A text that speaks of no list: its tree has none; names stand where they are given.
  The program's reckoning: what a value must be; a step.
  The program's reckoning: a scope with one name more.
-/
import Derived.Test.YtdpbclnpmkhooaaGreatDoorEwB
import Derived.Test.YtdpbclnpmkhooaaGreatDoorPrgD
import Derived.Test.YtdpbclnpmkhooaaGreatDoorGood
import Derived.Test.YtdpbclnpmkhooaaGreatDoorEwA
import Derived.Deep.RegionHeld
import Derived.ArgAppend
namespace Go.Proofs.YtdpbclnpmkhooaaGreatDoor
open Go Go.Proofs Go.RowKit Skein

def workOf (op : UInt8) : Nat := if op == 43 then 83 else if op == 45 then 84 else if op == 42 then 85 else if op == 61 then 86 else 88
abbrev fnv (f : Nat) (c : Array Value) : Value := .func (.func f) #[] c
def Is1 (w : World) (k : Nat) (v : Value) (T : Nat) : Prop := w.heap[k]? = some (.cells #[v] T (0, 0))

/-- An expression's closure: its function and what it has caught. -/
def CodeAt (st : Nat) (w : World) : T → Nat → Array Value → Prop
  | .num n, f, c => f = 113 ∧ ∃ k, c = #[ptr k] ∧ Is1 w k (.int .i64 n) 127
  | .var i, f, c => f = 114 ∧ ∃ k, c = #[ptr k] ∧ Is1 w k (.int .i64 i) 136
  | .fn _ a, f, c => f = 116 ∧ ∃ k f1 c1, c = #[ptr k] ∧ Is1 w k (fnv f1 c1) 112 ∧ CodeAt st w a f1 c1
  | .app a d, f, c => f = 119 ∧ ∃ k1 k2 k3 f1 c1 f2 c2 sg, c = #[ptr k1, ptr k2, ptr k3] ∧ Is1 w k1 (fnv f1 c1) 112 ∧ w.heap[k2]? = some (.cells #[ptr st, sg] 108 (0, 0)) ∧ Is1 w k3 (fnv f2 c2) 112 ∧ CodeAt st w a f1 c1 ∧ CodeAt st w d f2 c2
  | .letE _ a d, f, c => f = 122 ∧ ∃ k1 k2 f1 c1 f2 c2, c = #[ptr k1, ptr k2] ∧ Is1 w k1 (fnv f1 c1) 112 ∧ Is1 w k2 (fnv f2 c2) 112 ∧ CodeAt st w a f1 c1 ∧ CodeAt st w d f2 c2
  | .ite a d g, f, c => f = 123 ∧ ∃ k1 k2 k3 f1 c1 f2 c2 f3 c3, c = #[ptr k1, ptr k2, ptr k3] ∧ Is1 w k1 (fnv f1 c1) 112 ∧ Is1 w k2 (fnv f2 c2) 112 ∧ Is1 w k3 (fnv f3 c3) 112 ∧ CodeAt st w a f1 c1 ∧ CodeAt st w d f2 c2 ∧ CodeAt st w g f3 c3
  | .bin op a d, f, c => (op = 43 ∨ op = 45 ∨ op = 42 ∨ op = 61 ∨ op = 60) ∧ f = 126 ∧ ∃ k1 k2 k3 f1 c1 f2 c2, c = #[ptr k1, ptr k2, ptr k3] ∧ Is1 w k1 (fnv f1 c1) 112 ∧ Is1 w k2 (fnv f2 c2) 112 ∧ Is1 w k3 (fnv (workOf op) #[]) 128 ∧ CodeAt st w a f1 c1 ∧ CodeAt st w d f2 c2
  | _, _, _ => False

/-- What stays: all but what is held, and the steps. -/
abbrev FP (b : Nat) (w w' : World) : Prop := Fr 181 74 b w w'
theorem Is1.fr {b w w' k v T} (h : Is1 w k v T) (hk : FP b w w') (h1 : T ≠ 181) (h2 : T ≠ 74) : Is1 w' k v T := hk.keep _ _ _ h1 h2 h
theorem CodeAt.fr {st b w w'} (hk : FP b w w') : ∀ {x : T} {f : Nat} {c : Array Value}, CodeAt st w x f c → CodeAt st w' x f c := by
  intro x
  induction x with
  | num n => rintro f c ⟨e, k, ec, h⟩; exact ⟨e, k, ec, h.fr hk (by decide) (by decide)⟩
  | var n => rintro f c ⟨e, k, ec, h⟩; exact ⟨e, k, ec, h.fr hk (by decide) (by decide)⟩
  | fn n a ia => rintro f c ⟨e, k, f1, c1, ec, h, ha⟩; exact ⟨e, k, f1, c1, ec, h.fr hk (by decide) (by decide), ia ha⟩
  | app a d ia id => rintro f c ⟨e, k1, k2, k3, f1, c1, f2, c2, sg, ec, h1, h2, h3, ha, hd⟩; exact ⟨e, k1, k2, k3, f1, c1, f2, c2, sg, ec, h1.fr hk (by decide) (by decide), hk.keep _ _ 108 (by decide) (by decide) h2, h3.fr hk (by decide) (by decide), ia ha, id hd⟩
  | letE n a d ia id => rintro f c ⟨e, k1, k2, f1, c1, f2, c2, ec, h1, h2, ha, hd⟩; exact ⟨e, k1, k2, f1, c1, f2, c2, ec, h1.fr hk (by decide) (by decide), h2.fr hk (by decide) (by decide), ia ha, id hd⟩
  | ite a d g ia id ig => rintro f c ⟨e, k1, k2, k3, f1, c1, f2, c2, f3, c3, ec, h1, h2, h3, ha, hd, hg⟩; exact ⟨e, k1, k2, k3, f1, c1, f2, c2, f3, c3, ec, h1.fr hk (by decide) (by decide), h2.fr hk (by decide) (by decide), h3.fr hk (by decide) (by decide), ia ha, id hd, ig hg⟩
  | bin op a d ia id => rintro f c ⟨eo, e, k1, k2, k3, f1, c1, f2, c2, ec, h1, h2, h3, ha, hd⟩; exact ⟨eo, e, k1, k2, k3, f1, c1, f2, c2, ec, h1.fr hk (by decide) (by decide), h2.fr hk (by decide) (by decide), h3.fr hk (by decide) (by decide), ia ha, id hd⟩
  | _ => rintro f c h; exact h.elim

/-- What the names stand for, by their levels. -/
def ScAt (w : World) (B : List Nat) (env : List Nat) (v : Value) : Prop :=
  (env = [] ∧ v = .slice none 0 0) ∨
  (∃ g cs cap, v = .slice (some ⟨g, 0, none⟩) env.length cap ∧ env ≠ [] ∧ env.length ≤ cap ∧ cap ≤ cs.size ∧ w.heap[g]? = some (.cells cs 173 (0, 0)) ∧ ∀ (j i : Nat), env[j]? = some i → ∃ a, B[i]? = some a ∧ cs[j]? = some (ptr a))
theorem ScAt.fr {b w w' B B' env v} (h : ScAt w B env v) (hk : FP b w w') (hB : Ext B B') : ScAt w' B' env v := by
  rcases h with h | ⟨g, cs, cap, e, hn, h1, h2, hh, ha⟩
  · exact .inl h
  · refine .inr ⟨g, cs, cap, e, hn, h1, h2, hk.keep _ _ 173 (by decide) (by decide) hh, fun j i hj => ?_⟩
    obtain ⟨a, h3, h4⟩ := ha j i hj
    exact ⟨a, hB _ _ h3, h4⟩
theorem ScAt.shape {w B env v} (h : ScAt w B env v) : ∃ o cap, v = .slice o env.length cap := by
  rcases h with ⟨rfl, rfl⟩ | ⟨g, cs, cap, e, _⟩
  · exact ⟨none, 0, rfl⟩
  · exact ⟨_, _, e⟩

/-- How deep names are given within. -/
def dep : T → Nat
  | .letE _ a d => 1 + max (dep a) (dep d)
  | .fn _ a => 1 + dep a
  | .ite a d g => max (dep a) (max (dep d) (dep g))
  | .app a d => max (dep a) (dep d)
  | .un _ a => dep a
  | .bin _ a d => max (dep a) (dep d)
  | _ => 0

def VP (st : Nat) (w : World) (B : List Nat) : V → Value → Prop
  | .num n, v => v = .iface 127 (.int .i64 n)
  | .fn x env, v => env.length + 1 + dep x ≤ 1000 ∧ ∃ k1 k2 f1 c1 sc, v = .iface 176 (fnv 117 #[ptr k1, ptr k2]) ∧ Is1 w k1 (fnv f1 c1) 112 ∧ Is1 w k2 sc 172 ∧ CodeAt st w x f1 c1 ∧ ScAt w B env sc
  | _, _ => False
theorem VP.fr {st b w w' B B'} (hk : FP b w w') (hB : Ext B B') {v : V} {x : Value} (h : VP st w B v x) : VP st w' B' v x := by
  cases v with
  | num n => exact h
  | fn y env => obtain ⟨hd, k1, k2, f1, c1, sc, e, h1, h2, h3, h4⟩ := h; exact ⟨hd, k1, k2, f1, c1, sc, e, h1.fr hk (by decide) (by decide), h2.fr hk (by decide) (by decide), h3.fr hk, h4.fr hk hB⟩
  | nil => exact h.elim
  | cons i j => exact h.elim
theorem VP.shape {st w B v x} (h : VP st w B v x) : ∃ T y, x = .iface T y := by
  cases v with
  | num n => exact ⟨_, _, h⟩
  | fn y env => obtain ⟨_, k1, k2, f1, c1, sc, e, _⟩ := h; exact ⟨_, _, e⟩
  | nil => exact h.elim
  | cons i j => exact h.elim

def HdAt (st : Nat) (w : World) (B : List Nat) : C → Nat → Prop
  | .wait x env, a => env.length + dep x ≤ 1000 ∧ ∃ f c sc, w.heap[a]? = some (.cells #[.int .i64 0, fnv f c, sc, .nilIface] 181 (0, 0)) ∧ CodeAt st w x f c ∧ ScAt w B env sc
  | .busy, a => ∃ x y z, w.heap[a]? = some (.cells #[.int .i64 1, x, y, z] 181 (0, 0))
  | .known v, a => ∃ x y z, w.heap[a]? = some (.cells #[.int .i64 2, x, y, z] 181 (0, 0)) ∧ VP st w B v z
theorem HdAt.fr {st b w w' B B'} (hk : FP b w w') (hB : Ext B B') {c : C} {a : Nat} (h : HdAt st w B c a) (he : w'.heap[a]? = w.heap[a]?) : HdAt st w' B' c a := by
  cases c with
  | wait x env => obtain ⟨hd, f, c, sc, hh, h1, h2⟩ := h; exact ⟨hd, f, c, sc, he.trans hh, h1.fr hk, h2.fr hk hB⟩
  | busy => obtain ⟨x, y, z, hh⟩ := h; exact ⟨x, y, z, he.trans hh⟩
  | known v => obtain ⟨x, y, z, hh, hv⟩ := h; exact ⟨x, y, z, he.trans hh, hv.fr hk hB⟩
theorem HdAt.cells {st w B c a} (h : HdAt st w B c a) : ∃ s x y z, w.heap[a]? = some (.cells #[s, x, y, z] 181 (0, 0)) := by
  cases c with
  | wait x env => obtain ⟨_, f, c, sc, hh, _⟩ := h; exact ⟨_, _, _, _, hh⟩
  | busy => obtain ⟨x, y, z, hh⟩ := h; exact ⟨_, _, _, _, hh⟩
  | known v => obtain ⟨x, y, z, hh, _⟩ := h; exact ⟨_, _, _, _, hh⟩

/-- The steps' block. -/
def SB (w : World) (st : Nat) (L n : Int) : Prop := w.heap[st]? = some (.cells #[.int .i64 L, .int .i64 n] 74 (0, 0))
theorem SB.cells {w st L n} (h : SB w st L n) : w.cell? ⟨st, 0, none⟩ = some (.int .i64 L) ∧ w.cell? ⟨st, 1, none⟩ = some (.int .i64 n) ∧ (∀ o, w.frozen? ⟨st, o, none⟩ = false) ∧ st < w.heap.size := by
  unfold SB at h
  refine ⟨?_, ?_, fun o => ?_, heap_lt h⟩
  all_goals simp [World.cell?, World.frozen?, h]

structure PE (b : Nat) (w : World) (B : List Nat) (st L : Nat) (S : E) : Prop where
  steps : SB w st L S.steps
  len : B.length = S.heap.length
  hd : ∀ (i : Nat) (c : C) (a : Nat), S.heap[i]? = some c → B[i]? = some a → HdAt st w B c a
  inj : ∀ (i j a : Nat), B[i]? = some a → B[j]? = some a → i = j
  lo : ∀ a ∈ B, b ≤ a
  slo : b ≤ st
  lim : L ≤ 500

theorem PE.blt {b w B st L S} (h : PE b w B st L S) : b ≤ w.heap.size := Nat.le_trans h.slo (Nat.le_of_lt (heap_lt h.steps))
theorem PE.grown {b w w' B st L S} (h : PE b w B st L S) (hg : w.grownBy w' none) : PE b w' B st L S := by
  have hk : FP b w w' := Fr.grown h.blt hg
  refine ⟨?_, h.len, fun i c a h1 h2 => ?_, h.inj, h.lo, h.slo, h.lim⟩
  · have := h.steps
    unfold SB at this ⊢
    rw [hg.block st (heap_lt this) (by simp)]; exact this
  · have ht := h.hd i c a h1 h2
    obtain ⟨s, x, y, z, hh⟩ := ht.cells
    exact ht.fr hk (Ext.refl _) (hg.block a (heap_lt hh) (by simp))
theorem PE.ne {b w B st L S} (h : PE b w B st L S) {i a : Nat} (hi : B[i]? = some a) : st ≠ a := by
  rintro rfl
  have hw := h.steps
  unfold SB at hw
  have hi' := (List.getElem?_eq_some_iff.1 hi).1
  obtain ⟨s, x, y, z, hh⟩ := (h.hd i _ st (List.getElem?_eq_getElem (by rw [← h.len]; exact hi')) hi).cells
  rw [hw] at hh
  simp at hh
theorem PE.more {b w w' B st L S} (h : PE b w B st L S) (hg : w.grownBy w' none) (c : C) (a : Nat) (ha : w.heap.size ≤ a) (hc : HdAt st w' (B ++ [a]) c a) : PE b w' (B ++ [a]) st L ⟨S.heap ++ [c], S.steps⟩ := by
  have h' := h.grown hg
  have hk : FP b w w' := Fr.grown h.blt hg
  refine ⟨h'.steps, by simp [h.len], fun i d x h1 h2 => ?_, fun i j x h1 h2 => ?_, fun x hx => ?_, h.slo, h.lim⟩
  · by_cases hi : i < B.length
    · rw [List.getElem?_append_left (by rw [← h.len]; exact hi)] at h1
      rw [List.getElem?_append_left hi] at h2
      have ht := h.hd i d x h1 h2
      obtain ⟨s, y, z, u, hh⟩ := ht.cells
      exact ht.fr hk (Ext.app _ _) (hg.block x (heap_lt hh) (by simp))
    · have hi' : i = B.length := by
        have := (List.getElem?_eq_some_iff.1 h2).1
        simp at this; omega
      subst hi'
      rw [h.len] at h1
      simp at h1 h2
      subst h1; subst h2; exact hc
  · have key : ∀ (i : Nat), (B ++ [a])[i]? = some x → (i < B.length ∧ B[i]? = some x ∧ x < w.heap.size) ∨ (i = B.length ∧ x = a) := fun i hx => by
      by_cases hi : i < B.length
      · rw [List.getElem?_append_left hi] at hx
        obtain ⟨s, y, z, u, hh⟩ := (h.hd i _ x (List.getElem?_eq_getElem (by rw [← h.len]; exact hi)) hx).cells
        exact .inl ⟨hi, hx, heap_lt hh⟩
      · have := (List.getElem?_eq_some_iff.1 hx).1
        simp at this
        have e : i = B.length := by omega
        subst e
        simp at hx
        exact .inr ⟨rfl, hx.symm⟩
    rcases key i h1 with ⟨hi, e1, l1⟩ | ⟨e1, rfl⟩ <;> rcases key j h2 with ⟨hj, e2, l2⟩ | ⟨e2, e3⟩
    · exact h.inj i j x e1 e2
    · omega
    · omega
    · omega
  · rcases List.mem_append.1 hx with hx | hx
    · exact h.lo x hx
    · rw [List.mem_singleton.1 hx]; exact Nat.le_trans h.blt ha
theorem PE.turn {b w w' B st L S} (h : PE b w B st L S) (hk : FP b w w') {i a : Nat} (hi : B[i]? = some a) (hb : ∀ k, k ≠ a → k < w.heap.size → w'.heap[k]? = w.heap[k]?) (c : C) (hc : HdAt st w' B c a) : PE b w' B st L ⟨S.heap.set i c, S.steps⟩ := by
  have hw := h.ne hi
  refine ⟨?_, by simp [h.len], fun j d x h1 h2 => ?_, h.inj, h.lo, h.slo, h.lim⟩
  · have := h.steps
    unfold SB at this ⊢
    rw [hb st hw (heap_lt this)]; exact this
  · by_cases hj : j = i
    · subst hj
      rw [hi] at h2
      cases h2
      have hl := (List.getElem?_eq_some_iff.1 hi).1
      rw [List.getElem?_set_self (by rw [← h.len]; exact hl)] at h1
      cases h1
      exact hc
    · rw [List.getElem?_set_ne (by omega)] at h1
      have ht := h.hd j d x h1 h2
      have hx : x ≠ a := by rintro rfl; exact hj (h.inj _ _ _ h2 hi)
      obtain ⟨s, y, z, u, hh⟩ := ht.cells
      exact ht.fr hk (Ext.refl _) (hb x hx (heap_lt hh))
theorem PE.stepped {b w B st L S} (h : PE b w B st L S) : PE b (w.setCell ⟨st, 1, none⟩ (.int .i64 ((S.steps : Int) + 1))) B st L ⟨S.heap, S.steps + 1⟩ := by
  have hk : FP b w (w.setCell ⟨st, 1, none⟩ (.int .i64 ((S.steps : Int) + 1))) := Fr.set h.steps (.inr rfl) h.slo _ _
  refine ⟨?_, h.len, fun i c a h1 h2 => ?_, h.inj, h.lo, h.slo, h.lim⟩
  · have := RB.set h.steps 1 (.int .i64 ((S.steps : Int) + 1))
    unfold SB
    rw [this]; rfl
  · exact (h.hd i c a h1 h2).fr hk (Ext.refl _) (Below.heap_setCell _ _ _ _ (by have := h.ne h2; show a ≠ st; omega))

/-- What a fault leaves: how many steps were counted. -/
def oops (z : Int) : List PanicEntry := [{ v := flt z 0, recovered := false }]
def GP (b : Nat) (w : World) (B : List Nat) (st L : Nat) (r : R × E) (e : Ending) (w' : World) : Prop :=
  (∃ v B' x, r.1 = .ok v ∧ e = .returned x ∧ FP b w w' ∧ Ext B B' ∧ PE b w' B' st L r.2 ∧ VP st w' B' v x) ∨
  (∃ z, r.1 = .err z ∧ e = .panicked (oops z) ∧ Below b w w' ∧ SB w' st L r.2.steps)
def GPV (b : Nat) (w : World) (B : List Nat) (st L : Nat) (v : V) (S : E) (e : Ending) (w' : World) : Prop :=
  ∃ B' T x, e = .returned (.iface T x) ∧ FP b w w' ∧ Ext B B' ∧ PE b w' B' st L S ∧ VP st w' B' v (.iface T x)
def GPX (b : Nat) (w : World) (st L : Nat) (z : Int) (m : Nat) (e : Ending) (w' : World) : Prop :=
  e = .panicked (oops z) ∧ Below b w w' ∧ SB w' st L m
theorem GP.v {b w B st L r v e w'} (hr : r.1 = .ok v) (h : GP b w B st L r e w') : GPV b w B st L v r.2 e w' := by
  rcases h with ⟨v', B', x, h1, h2, h3, h4, h5, h6⟩ | ⟨z, h1, _⟩
  · rw [hr] at h1
    cases h1
    obtain ⟨T, y, rfl⟩ := h6.shape
    exact ⟨B', T, y, h2, h3, h4, h5, h6⟩
  · rw [hr] at h1; cases h1
theorem GP.x {b w B st L r z e w'} (hr : r.1 = .err z) (h : GP b w B st L r e w') : GPX b w st L z r.2.steps e w' := by
  rcases h with ⟨v', B', x, h1, h2, h3, h4, h5, h6⟩ | ⟨z, h1, h2, h3, h4⟩
  · rw [hr] at h1; cases h1
  · rw [hr] at h1
    cases h1
    exact ⟨h2, h3, h4⟩
theorem GPV.got {b w B st L v S e w'} (h : GPV b w B st L v S e w') : GP b w B st L (.ok v, S) e w' := by
  obtain ⟨B', T, x, rfl, hk, hB, h1, hv⟩ := h
  exact .inl ⟨v, B', _, rfl, rfl, hk, hB, h1, hv⟩
theorem GPX.got {b w B st L z S e w'} (h : GPX b w st L z S.steps e w') : GP b w B st L (.err z, S) e w' := by
  obtain ⟨rfl, hk, h1⟩ := h
  exact .inr ⟨z, rfl, rfl, hk, h1⟩

def CC (n : Nat) : Prop := ∀ (L : Nat) (x : T) (env : List Nat) (S : E) (r : R × E) (b : Nat) (w : World) (B : List Nat) (st f : Nat) (c : Array Value) (sc : Value), ev L n (.need x env) S = some r → PE b w B st L S → CodeAt st w x f c → ScAt w B env sc → env.length + dep x ≤ 1000 →
  Calls Tryz.prog f (#[sc] ++ c) w (GP b w B st L r)
def CH (n : Nat) : Prop := ∀ (L i : Nat) (S : E) (r : R × E) (b : Nat) (w : World) (B : List Nat) (st a : Nat), ev L n (.force i) S = some r → PE b w B st L S → B[i]? = some a →
  Calls Tryz.prog 115 #[ptr a] w (GP b w B st L r)
end Go.Proofs.YtdpbclnpmkhooaaGreatDoor

namespace Go.Proofs.YtdpbclnpmkhooaaGreatDoor
open Go Go.Proofs Go.RowKit Skein

def lw : List ByteArray := [⟨#[91]⟩, ⟨#[58]⟩, ⟨#[104, 101, 97, 100]⟩, ⟨#[116, 97, 105, 108]⟩, ⟨#[110, 117, 108, 108]⟩]
def NoSub (s : ByteArray) : Prop := ∀ (a : Nat) (x : ByteArray), x ∈ lw → a + x.size ≤ s.size → s.extract a (a + x.size) ≠ x
def NoTok (s : ByteArray) : Prop := ∀ i, i ≤ s.size → (tok s i).text ≠ ⟨#[91, 93]⟩ ∧ (tok s i).text ≠ ⟨#[58]⟩ ∧ (tok s i).text ≠ ⟨#[104, 101, 97, 100]⟩ ∧ (tok s i).text ≠ ⟨#[116, 97, 105, 108]⟩ ∧ (tok s i).text ≠ ⟨#[110, 117, 108, 108]⟩

theorem tok_cut (s : ByteArray) (i : Nat) (h : i ≤ s.size) : (tok s i).text = ⟨#[]⟩ ∨ ∃ a b, a ≤ b ∧ b ≤ s.size ∧ (tok s i).text = s.extract a b := by
  have h1 := skip_le s i h
  have r1 := runLen_le s false (skip s i) h1
  have r2 := runLen_le s true (skip s i) h1
  unfold tok tokAt
  split
  · rename_i hlt
    split
    · split
      · exact .inl rfl
      · exact .inr ⟨_, _, by omega, r1, rfl⟩
    · split
      · split
        · exact .inl rfl
        · split
          · exact .inr ⟨_, _, by omega, r2, rfl⟩
          · exact .inr ⟨_, _, by omega, r2, rfl⟩
      · split
        · split
          · split
            · exact .inr ⟨_, _, by omega, by omega, rfl⟩
            · exact .inl rfl
          · exact .inl rfl
        · split
          · exact .inr ⟨_, _, by omega, by omega, rfl⟩
          · exact .inl rfl
  · exact .inl rfl

theorem tok_not {s : ByteArray} (hN : NoSub s) {i : Nat} (hi : i ≤ s.size) (x : ByteArray) (hx : x ∈ lw) (hp : 0 < x.size) : (tok s i).text ≠ x := by
  intro e
  rcases tok_cut s i hi with h | ⟨a, b, hab, hb, h⟩
  · rw [e] at h; rw [h] at hp; exact absurd hp (by decide)
  · rw [e] at h
    have hs : x.size = b - a := by rw [h, ByteArray.size_extract]; omega
    refine hN a x hx (by omega) ?_
    rw [show a + x.size = b by omega]
    exact h.symm

theorem noTok_of {s : ByteArray} (hN : NoSub s) : NoTok s := by
  intro i hi
  refine ⟨fun e => ?_, tok_not hN hi _ (by simp [lw]) (by decide), tok_not hN hi _ (by simp [lw]) (by decide), tok_not hN hi _ (by simp [lw]) (by decide), tok_not hN hi _ (by simp [lw]) (by decide)⟩
  rcases tok_cut s i hi with h | ⟨a, b, hab, hb, h⟩
  · rw [e] at h; cases h
  · rw [e] at h
    have hs : (2 : Nat) = b - a := by
      have : (ByteArray.mk #[91, 93]).size = (s.extract a b).size := by rw [h]
      rw [ByteArray.size_extract] at this
      have e2 : (ByteArray.mk #[91, 93]).size = 2 := rfl
      omega
    refine hN a ⟨#[91]⟩ (by simp [lw]) (by show a + 1 ≤ s.size; omega) ?_
    show s.extract a (a + 1) = _
    have e3 : s.extract a (a + 1) = (s.extract a b).extract 0 1 := by
      rw [ByteArray.extract_extract]
      congr 1
      omega
    rw [e3, ← h]
    rfl

def Ok2 : Nat → T → Prop
  | d, .var i => i < d
  | d, .letE n a b => n = d ∧ Ok2 (d + 1) a ∧ Ok2 (d + 1) b
  | d, .fn n a => n = d ∧ Ok2 (d + 1) a
  | d, .ite a b c => Ok2 d a ∧ Ok2 d b ∧ Ok2 d c
  | d, .app a b => Ok2 d a ∧ Ok2 d b
  | _, .un _ _ => False
  | _, .nil => False
  | d, .bin op a b => op ≠ 58 ∧ Ok2 d a ∧ Ok2 d b
  | _, _ => True
def acc2 (d : Nat) : NT → Prop
  | .sumL a => Ok2 d a | .prodL a => Ok2 d a | .useL a => Ok2 d a | _ => True

theorem tidy_of : ∀ (t : T) (d : Nat), Clean t → Ok2 d t → Tidy d t := by
  intro t
  induction t with
  | junk => intro d h; exact h.elim
  | free => intro d h; exact h.elim
  | nil => intro d _ h; exact h.elim
  | num n => intro d _ _; trivial
  | var n => intro d _ h; exact h
  | letE n a b ia ib => rintro d ⟨_, ha, hb⟩ ⟨e, ka, kb⟩; exact ⟨e, ia _ ha ka, ib _ hb kb⟩
  | fn n a ia => rintro d ⟨_, ha⟩ ⟨e, ka⟩; exact ⟨e, ia _ ha ka⟩
  | ite a b c ia ib ic => rintro d ⟨ha, hb, hc⟩ ⟨ka, kb, kc⟩; exact ⟨ia _ ha ka, ib _ hb kb, ic _ hc kc⟩
  | app a b ia ib => rintro d ⟨ha, hb⟩ ⟨ka, kb⟩; exact ⟨ia _ ha ka, ib _ hb kb⟩
  | un op a _ => intro d _ h; exact h.elim
  | bin op a b ia ib =>
    rintro d ⟨ho, ha, hb⟩ ⟨hne, ka, kb⟩
    refine ⟨?_, ia _ ha ka, ib _ hb kb⟩
    rcases ho with rfl | rfl | rfl | rfl | rfl | rfl
    · exact absurd rfl hne
    all_goals simp
theorem small_of : ∀ (t : T), Clean t → Small t := by
  intro t
  induction t with
  | num n => exact fun h => h
  | letE n a b ia ib => rintro ⟨_, ha, hb⟩; exact ⟨ia ha, ib hb⟩
  | fn n a ia => rintro ⟨_, ha⟩; exact ia ha
  | ite a b c ia ib ic => rintro ⟨ha, hb, hc⟩; exact ⟨ia ha, ib hb, ic hc⟩
  | app a b ia ib => rintro ⟨ha, hb⟩; exact ⟨ia ha, ib hb⟩
  | un op a ia => rintro ⟨_, ha⟩; exact ia ha
  | bin op a b ia ib => rintro ⟨_, ha, hb⟩; exact ⟨ia ha, ib hb⟩
  | _ => intro _; trivial
theorem dep_le : ∀ (t : T), dep t ≤ nodes t := by
  intro t
  induction t with
  | letE n a b ia ib => simp only [dep, nodes]; omega
  | fn n a ia => simp only [dep, nodes]; omega
  | ite a b c ia ib ic => simp only [dep, nodes]; omega
  | app a b ia ib => simp only [dep, nodes]; omega
  | un op a ia => simp only [dep, nodes]; omega
  | bin op a b ia ib => simp only [dep, nodes]; omega
  | _ => simp [dep]

theorem has_text {m : M} {x : ByteArray} (h : m.has x = true) : m.tok.text = x := by
  unfold M.has at h
  simp only [Bool.and_eq_true] at h
  exact eqb_iff.1 h.2

theorem PM_ok2 (s : ByteArray) (hN : NoTok s) : ∀ (n : Nat) (nt : NT) (m : M) (r : T × M), PM s n nt m = some r → Inv s m → acc2 m.given.length nt → Ok2 m.given.length r.1 := by
  intro n
  induction n with
  | zero => intro nt m r h; simp [PM] at h
  | succ n ih =>
    intro nt m r h hi ha
    obtain ⟨i0, hi0, ht0⟩ := hi.ex
    have hno := hN i0 hi0
    rw [← ht0] at hno
    have op_ne : ∀ {m : M}, m.has ⟨#[61]⟩ = true ∨ m.has ⟨#[60]⟩ = true ∨ m.has ⟨#[43]⟩ = true ∨ m.has ⟨#[45]⟩ = true → opOf m.tok.text ≠ 58 := by
      rintro m (h | h | h | h)
      all_goals rw [opOf_has h]; decide
    cases nt with
    | expr =>
      simp only [PM] at h
      split at h
      · cases h; trivial
      split at h
      · obtain ⟨r1, h1, h⟩ := Option.bind_eq_some_iff.1 h
        obtain ⟨q, h2, h⟩ := Option.bind_eq_some_iff.1 h
        cases h
        have k1 := PM_keeps s n _ _ _ h1
        have a := ih _ _ _ h1 hi.adv.gives.want.push trivial
        have b := ih _ _ _ h2 (k1.1 hi.adv.gives.want.push).want trivial
        simp only [want_given, k1.2, push_given, gives_given, adv_given, List.length_append, List.length_singleton] at a b
        exact ⟨rfl, a, b⟩
      split at h
      · obtain ⟨r1, h1, h⟩ := Option.bind_eq_some_iff.1 h
        cases h
        have a := ih _ _ _ h1 hi.adv.gives.want.push trivial
        simp only [want_given, push_given, gives_given, adv_given, List.length_append, List.length_singleton] at a
        exact ⟨rfl, a⟩
      split at h
      · obtain ⟨r1, h1, h⟩ := Option.bind_eq_some_iff.1 h
        obtain ⟨q, h2, h⟩ := Option.bind_eq_some_iff.1 h
        obtain ⟨p, h3, h⟩ := Option.bind_eq_some_iff.1 h
        cases h
        have k1 := PM_keeps s n _ _ _ h1
        have k2 := PM_keeps s n _ _ _ h2
        have i1 := k1.1 hi.adv
        have i2 := k2.1 i1.want
        have a := ih _ _ _ h1 hi.adv trivial
        have b := ih _ _ _ h2 i1.want trivial
        have c := ih _ _ _ h3 i2.want trivial
        simp only [want_given, k1.2, k2.2, adv_given] at a b c
        exact ⟨a, b, c⟩
      · exact ih _ _ _ h hi trivial
    | list =>
      simp only [PM] at h
      split at h
      · cases h; trivial
      obtain ⟨r1, h1, h⟩ := Option.bind_eq_some_iff.1 h
      have a := ih _ _ _ h1 hi trivial
      split at h
      · rename_i hh
        obtain ⟨j, hj, e⟩ := ((PM_keeps s n _ _ _ h1).1 hi).ex
        have := (hN j hj).2.1
        rw [← e] at this
        exact absurd (has_text hh) this
      · cases h; exact a
    | order =>
      simp only [PM] at h
      split at h
      · cases h; trivial
      obtain ⟨r1, h1, h⟩ := Option.bind_eq_some_iff.1 h
      have k1 := PM_keeps s n _ _ _ h1
      have a := ih _ _ _ h1 hi trivial
      split at h
      · rename_i hh
        obtain ⟨q, h2, h⟩ := Option.bind_eq_some_iff.1 h
        cases h
        have b := ih _ _ _ h2 (k1.1 hi).adv trivial
        simp only [k1.2, adv_given] at b
        rw [Bool.or_eq_true] at hh
        exact ⟨op_ne (by rcases hh with hh | hh <;> simp [hh]), a, b⟩
      · cases h; exact a
    | sum =>
      simp only [PM] at h
      split at h
      · cases h; trivial
      obtain ⟨r1, h1, h⟩ := Option.bind_eq_some_iff.1 h
      have k1 := PM_keeps s n _ _ _ h1
      have a := ih _ _ _ h1 hi trivial
      have b := ih _ _ _ h (k1.1 hi) (by rw [k1.2]; exact a)
      rw [k1.2] at b; exact b
    | sumL x =>
      simp only [PM] at h
      split at h
      · rename_i hh
        obtain ⟨r1, h1, h⟩ := Option.bind_eq_some_iff.1 h
        have k1 := PM_keeps s n _ _ _ h1
        have a := ih _ _ _ h1 hi.adv trivial
        simp only [adv_given] at a
        rw [Bool.or_eq_true] at hh
        have b := ih _ _ _ h (k1.1 hi.adv) (by rw [k1.2]; exact ⟨op_ne (by rcases hh with hh | hh <;> simp [hh]), ha, a⟩)
        rw [k1.2] at b; exact b
      · cases h; exact ha
    | prod =>
      simp only [PM] at h
      split at h
      · cases h; trivial
      obtain ⟨r1, h1, h⟩ := Option.bind_eq_some_iff.1 h
      have k1 := PM_keeps s n _ _ _ h1
      have a := ih _ _ _ h1 hi trivial
      have b := ih _ _ _ h (k1.1 hi) (by rw [k1.2]; exact a)
      rw [k1.2] at b; exact b
    | prodL x =>
      simp only [PM] at h
      split at h
      · obtain ⟨r1, h1, h⟩ := Option.bind_eq_some_iff.1 h
        have k1 := PM_keeps s n _ _ _ h1
        have a := ih _ _ _ h1 hi.adv trivial
        simp only [adv_given] at a
        have b := ih _ _ _ h (k1.1 hi.adv) (by rw [k1.2]; exact ⟨by decide, ha, a⟩)
        rw [k1.2] at b; exact b
      · cases h; exact ha
    | use =>
      simp only [PM] at h
      split at h
      · cases h; trivial
      obtain ⟨r1, h1, h⟩ := Option.bind_eq_some_iff.1 h
      have k1 := PM_keeps s n _ _ _ h1
      have a := ih _ _ _ h1 hi trivial
      have b := ih _ _ _ h (k1.1 hi) (by rw [k1.2]; exact a)
      rw [k1.2] at b; exact b
    | useL x =>
      simp only [PM] at h
      split at h
      · obtain ⟨r1, h1, h⟩ := Option.bind_eq_some_iff.1 h
        have k1 := PM_keeps s n _ _ _ h1
        have a := ih _ _ _ h1 hi trivial
        have b := ih _ _ _ h (k1.1 hi) (by rw [k1.2]; exact ⟨ha, a⟩)
        rw [k1.2] at b; exact b
      · cases h; exact ha
    | atom =>
      simp only [PM] at h
      split at h
      · rename_i hb
        split at h
        · cases h; trivial
        rename_i hk1
        split at h
        · rename_i hk
          cases h
          unfold named
          split
          · rename_i i he
            exact lastIdx_lt _ _ _ he
          · trivial
        rename_i hk2
        split at h
        · rename_i hq; exact absurd (eqb_iff.1 hq) hno.1
        rename_i hq1
        split at h
        · obtain ⟨r1, h1, h⟩ := Option.bind_eq_some_iff.1 h
          cases h
          have a := ih _ _ _ h1 hi.adv trivial
          simp only [adv_given] at a
          exact a
        · rename_i hq2
          exfalso
          unfold M.begins at hb
          simp only [Bool.and_eq_true, Bool.or_eq_true] at hb
          rcases hb.2 with (h3 | h3) | h3
          · exact hk1 h3
          · exact hk2 h3
          · unfold mem openers at h3
            simp only [List.any_cons, List.any_nil, Bool.or_false, Bool.or_eq_true, eqb_iff] at h3
            rcases h3 with h3 | h3 | h3 | h3 | h3
            · exact hno.1 h3.symm
            · exact hq2 (eqb_iff.2 h3.symm)
            · exact hno.2.2.1 h3.symm
            · exact hno.2.2.2.1 h3.symm
            · exact hno.2.2.2.2 h3.symm
      · cases h; trivial
end Go.Proofs.YtdpbclnpmkhooaaGreatDoor

namespace Go.Proofs.YtdpbclnpmkhooaaGreatDoor
open Go Go.Proofs Go.RowKit Skein

set_option maxRecDepth 100000 in
set_option maxHeartbeats 1000000 in
theorem as_fn (f : Nat) (c : Array Value) (w : World) :
    Calls Tryz.prog 120 #[.iface 176 (fnv f c)] w fun e w' => e = .returned (fnv f c) ∧ w' = w := by
  have hta : ∀ (w : World), (Instr.typeAssert (.iface 176 (fnv f c)) 110 176 true).run Tryz.prog w = .ok (.tuple #[fnv f c, .bool true]) w := fun _ => by kernel_rfl
  go_enter Tryz.func120, Tryz.ntmps120
  go_wp2_with fail
  go_ret
  exact ⟨rfl, rfl⟩

set_option maxRecDepth 100000 in
set_option maxHeartbeats 1000000 in
theorem as_fn_no (n : Int) (w : World) :
    Calls Tryz.prog 120 #[.iface 127 (.int .i64 n)] w fun e w' => e = .panicked (oops 5) ∧ w' = w := by
  have hta : ∀ (w : World), (Instr.typeAssert (.iface 127 (.int .i64 n)) 110 176 true).run Tryz.prog w = .ok (.tuple #[.nilFunc, .bool false]) w := fun _ => by kernel_rfl
  go_enter Tryz.func120, Tryz.ntmps120
  go_wp2_with fail
  exact ⟨rfl, rfl, rfl⟩

set_option maxRecDepth 100000 in
set_option maxHeartbeats 1000000 in
theorem as_num (n : Int) (w : World) :
    Calls Tryz.prog 124 #[.iface 127 (.int .i64 n)] w fun e w' => e = .returned (.int .i64 n) ∧ w' = w := by
  have hta : ∀ (w : World), (Instr.typeAssert (.iface 127 (.int .i64 n)) 110 127 true).run Tryz.prog w = .ok (.tuple #[.int .i64 n, .bool true]) w := fun _ => by kernel_rfl
  go_enter Tryz.func124, Tryz.ntmps124
  go_wp2_with fail
  go_ret
  exact ⟨rfl, rfl⟩

set_option maxRecDepth 100000 in
set_option maxHeartbeats 1000000 in
theorem as_num_no (f : Nat) (c : Array Value) (w : World) :
    Calls Tryz.prog 124 #[.iface 176 (fnv f c)] w fun e w' => e = .panicked (oops 5) ∧ w' = w := by
  have hta : ∀ (w : World), (Instr.typeAssert (.iface 176 (fnv f c)) 110 127 true).run Tryz.prog w = .ok (.tuple #[.int .i64 0, .bool false]) w := fun _ => by kernel_rfl
  go_enter Tryz.func124, Tryz.ntmps124
  go_wp2_with fail
  exact ⟨rfl, rfl, rfl⟩

set_option maxRecDepth 100000 in
set_option maxHeartbeats 1000000 in
theorem count_ok {b w B st L S} (h : PE b w B st L S) (hl : ¬ L ≤ S.steps) :
    Calls Tryz.prog 121 #[ptr st] w fun e w' => e = .returned (.tuple #[]) ∧ FP b w w' ∧ PE b w' B st L ⟨S.heap, S.steps + 1⟩ := by
  obtain ⟨c0, c1, cf, hlt⟩ := h.steps.cells
  have hk : FP b w (w.setCell ⟨st, 1, none⟩ (.int .i64 ((S.steps : Int) + 1))) := Fr.set h.steps (.inr rfl) h.slo _ _
  have h' := h.stepped
  have hL := h.lim
  have hd : decide ((L : Int) ≤ (S.steps : Int)) = false := by simp; omega
  go_enter Tryz.func121, Tryz.ntmps121
  go_wp2_with fail
  go_quiet (fail)
  go_wp2_with fail
  go_end0
  exact ⟨rfl, ⟨⟨hk.below.os, hk.below.tape, hk.below.output, hk.below.size, hk.below.block⟩, hk.keep⟩, h'.grown (grown_same (grown_refl _ _) rfl rfl rfl rfl)⟩

set_option maxRecDepth 100000 in
set_option maxHeartbeats 1000000 in
theorem count_no {b w B st L S} (h : PE b w B st L S) (hl : L ≤ S.steps) :
    Calls Tryz.prog 121 #[ptr st] w fun e w' => e = .panicked (oops 8) ∧ Below b w w' ∧ SB w' st L S.steps := by
  obtain ⟨c0, c1, cf, hlt⟩ := h.steps.cells
  have hs := h.steps
  have hd : decide ((L : Int) ≤ (S.steps : Int)) = true := by simp; omega
  go_enter Tryz.func121, Tryz.ntmps121
  go_wp2_with fail
  go_quiet (fail)
  go_wp2_with fail
  exact ⟨rfl, rfl, ⟨rfl, rfl, rfl, Nat.le_refl _, fun _ _ => rfl⟩, hs⟩
end Go.Proofs.YtdpbclnpmkhooaaGreatDoor

namespace Go.Proofs.YtdpbclnpmkhooaaGreatDoor
open Go Go.Proofs Go.RowKit Skein

set_option maxRecDepth 100000 in
set_option maxHeartbeats 1000000 in
theorem clip_none (w : World) : Calls Tryz.prog 135 #[.slice none 0 0] w fun e w' => e = .returned (.slice none 0 0) ∧ w' = w := by
  go_enter Tryz.func135, Tryz.ntmps135
  go_wp2_with fail
  go_ret
  exact ⟨rfl, rfl⟩

set_option maxRecDepth 100000 in
set_option maxHeartbeats 1000000 in
theorem clip_some (g n cap : Nat) (hn : n ≤ cap) (w : World) : Calls Tryz.prog 135 #[.slice (some ⟨g, 0, none⟩) n cap] w fun e w' => e = .returned (.slice (some ⟨g, 0, none⟩) n n) ∧ w' = w := by
  go_enter Tryz.func135, Tryz.ntmps135
  go_wp2_with fail
  go_ret
  exact ⟨rfl, rfl⟩

theorem info173 : (Tryz.prog.info? 173).map (fun i => (i.zero, i.size, i.bytes)) = some (some (.pointer none), 1, 8) := by kernel_rfl

/-- The cells that a scope names. -/
def addrs (B : List Nat) (env : List Nat) : List Value := env.map fun i => ptr (B.getD i 0)
theorem ScAt.snoc {w w' : World} {B env : List Nat} {i a : Nat} {v : Value} (hi : B[i]? = some a) (hB : ∀ j ∈ env, ∃ x, B[j]? = some x) (h : w'.ownsRow w.heap.size 173 1 v (env.length + 1) (addrs B env ++ [ptr a])) : ScAt w' B (env ++ [i]) v := by
  obtain ⟨hl, ⟨_, h0⟩ | ⟨g, cap, cur, rfl, hg, hh, h1, h2, h3, h4⟩⟩ := h
  · omega
  · refine .inr ⟨g, cur, cap, by simp, by simp, by simpa using h1, by omega, hh, fun j k hj => ?_⟩
    have hjl := (List.getElem?_eq_some_iff.1 hj).1
    simp at hjl
    have hc : cur[j]? = (addrs B env ++ [ptr a])[j]? := by
      rw [← h4, List.getElem?_take]
      rw [if_pos (by omega)]
      simp
    by_cases hje : j < env.length
    · rw [List.getElem?_append_left hje] at hj
      obtain ⟨x, hx⟩ := hB k (List.mem_of_getElem? hj)
      refine ⟨x, hx, ?_⟩
      rw [hc, List.getElem?_append_left (by simp [addrs]; exact hje)]
      have hx' : B.getD k 0 = x := by simp [List.getD, hx]
      have hq : (addrs B env)[j]? = some (ptr (B.getD k 0)) := by unfold addrs; rw [List.getElem?_map, hj]; rfl
      rw [hq, hx']
    · have e : j = env.length := by omega
      subst e
      rw [List.getElem?_append_right (by omega)] at hj
      simp at hj
      subst hj
      refine ⟨a, hi, ?_⟩
      rw [hc, List.getElem?_append_right (by simp [addrs])]
      simp [addrs]

set_option maxRecDepth 100000 in
set_option maxHeartbeats 2000000 in
theorem with_ok {w : World} {B env : List Nat} {i a : Nat} {sc : Value} (h : ScAt w B env sc) (hi : B[i]? = some a) (hl : env.length ≤ 999) :
    Calls Tryz.prog 118 #[sc, ptr a] w fun e w' => ∃ o n c, e = .returned (.slice o n c) ∧ w.grownBy w' none ∧ ScAt w' B (env ++ [i]) (.slice o n c) := by
  obtain ⟨i0, hi0, hz0, hz1, hz2⟩ := info_parts info173
  have hcl : ∃ o cap, sc = .slice o env.length cap ∧ (∀ w, Calls Tryz.prog 135 #[sc] w fun e w' => e = .returned (.slice o env.length env.length) ∧ w' = w) ∧ (o = none → env.length = 0) ∧ (∀ b, o = some b → ∀ j u, (addrs B env)[j]? = some u → w.cell? (b.add j) = some u) ∧ ∀ j ∈ env, ∃ x, B[j]? = some x := by
    rcases h with ⟨rfl, rfl⟩ | ⟨g, cs, cap, rfl, hn, h1, h2, hh, ha⟩
    · exact ⟨none, 0, rfl, fun w => clip_none w, fun _ => rfl, (fun b e => by cases e), (fun j hj => by cases hj)⟩
    · refine ⟨some ⟨g, 0, none⟩, cap, rfl, fun w => clip_some g _ cap h1 w, fun e => (by cases e), fun b e j u hj => ?_, fun j hj => ?_⟩
      · cases e
        simp only [addrs, List.getElem?_map, Option.map_eq_some_iff] at hj
        obtain ⟨k, hk, rfl⟩ := hj
        obtain ⟨x, hx, hc⟩ := ha j k hk
        have e2 : B.getD k 0 = x := by simp [List.getD, hx]
        rw [e2]
        have e3 : (⟨g, 0, none⟩ : Addr).add j = ⟨g, j, none⟩ := by
          by_cases hj : j = 0
          · subst hj; simp [Addr.add]
          · simp [Addr.add, hj]
        rw [e3]
        simp [World.cell?, hh, hc]
      · obtain ⟨k, hk, e⟩ := List.mem_iff_getElem.1 hj
        obtain ⟨x, hx, _⟩ := ha k j (by rw [List.getElem?_eq_getElem hk, e])
        exact ⟨x, hx⟩
  obtain ⟨o, cap, rfl, hC, hno, hold, hB⟩ := hcl
  have HC : Hid (∀ w, Calls Tryz.prog 135 #[.slice o env.length cap] w fun e w' => e = .returned (.slice o env.length env.length) ∧ w' = w) := hC
  clear hC h
  go_enter Tryz.func118, Tryz.ntmps118
  go_wp2_with fail
  refine (HC.out _).mono ?_
  rintro e w1 ⟨rfl, rfl⟩
  have hold2 : ∀ b, o = some b → ∀ j u, (addrs B env)[j]? = some u → (w1.alloc (.cells #[ptr a] 173)).cell? (b.add j) = some u := fun b e j u hj => by
    have := hold b e j u hj
    rw [World.cell?_alloc_some _ _ _ (by rw [this]; rfl)]; exact this
  go_wp2_with (at_builtin; refine wpList_append_grows _ rfl _ _ 172 rfl 173 i0 (.pointer none) 1 8 Tryz.underlying172 hi0 hz0 hz1 hz2 rfl (by decide) o env.length env.length (addrs B env) rfl (fun e => ⟨hno e, hno e⟩) (by simp [addrs]) hold2 ⟨w1.heap.size, 0, none⟩ 1 1 [ptr a] rfl rfl (cell_one_new _ _ _) (fun u hu => by simp at hu; subst hu; rfl) (by omega) (by unfold maxLen; omega) (by omega) ?_; intro v' w4 hown hgr)
  have hs := ScAt.snoc (w := w1.alloc (.cells #[ptr a] 173)) hi hB hown
  obtain ⟨o', c', rfl⟩ := hs.shape
  go_ret
  exact ⟨o', _, c', rfl, grown_trans (grown_alloc (grown_refl _ _) _) hgr, hs⟩
end Go.Proofs.YtdpbclnpmkhooaaGreatDoor
