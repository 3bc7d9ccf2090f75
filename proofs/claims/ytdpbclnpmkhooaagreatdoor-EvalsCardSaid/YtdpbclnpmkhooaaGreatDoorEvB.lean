/-
  The program's reckoning: what lies in memory for closures, scopes, what is held, and values.
-/
import Derived.Test.YtdpbclnpmkhooaaGreatDoorRefM
import Derived.Test.YtdpbclnpmkhooaaGreatDoorPrgD
namespace Go.Proofs.YtdpbclnpmkhooaaGreatDoor
open Go Go.Proofs Go.RowKit Skein

def workOf (op : UInt8) : Nat := if op == 43 then 83 else if op == 45 then 84 else if op == 42 then 85 else if op == 61 then 86 else 88
abbrev fnv (f : Nat) (c : Array Value) : Value := .func (.func f) #[] c
def Is1 (w : World) (k : Nat) (v : Value) (T : Nat) : Prop := w.heap[k]? = some (.cells #[v] T (0, 0))

/-- An expression's closure: its function and what it has caught. -/
def CodeAt (st : Nat) (w : World) : T → Nat → Array Value → Prop
  | .num n, f, c => f = 113 ∧ ∃ k, c = #[ptr k] ∧ Is1 w k (.int .i64 n) 127
  | .var i, f, c => f = 114 ∧ ∃ k, c = #[ptr k] ∧ Is1 w k (.int .i64 i) 136
  | .fn _ a, f, c => f = 116 ∧ ∃ k f1 c1, c = #[ptr k] ∧ Is1 w k (fnv f1 c1) 112 ∧ CodeAt st w a f1 c1
  | .app a d, f, c => f = 119 ∧ ∃ k1 k2 k3 f1 c1 f2 c2 sg, c = #[ptr k1, ptr k2, ptr k3] ∧ Is1 w k1 (fnv f1 c1) 112 ∧ w.heap[k2]? = some (.cells #[ptr st, sg] 108 (0, 0)) ∧ Is1 w k3 (fnv f2 c2) 112 ∧ CodeAt st w a f1 c1 ∧ CodeAt st w d f2 c2
  | .letE _ a d, f, c => f = 122 ∧ ∃ k1 k2 f1 c1 f2 c2, c = #[ptr k1, ptr k2] ∧ Is1 w k1 (fnv f1 c1) 112 ∧ Is1 w k2 (fnv f2 c2) 112 ∧ CodeAt st w a f1 c1 ∧ CodeAt st w d f2 c2
  | .ite a d g, f, c => f = 123 ∧ ∃ k1 k2 k3 f1 c1 f2 c2 f3 c3, c = #[ptr k1, ptr k2, ptr k3] ∧ Is1 w k1 (fnv f1 c1) 112 ∧ Is1 w k2 (fnv f2 c2) 112 ∧ Is1 w k3 (fnv f3 c3) 112 ∧ CodeAt st w a f1 c1 ∧ CodeAt st w d f2 c2 ∧ CodeAt st w g f3 c3
  | .bin op a d, f, c => (op = 43 ∨ op = 45 ∨ op = 42 ∨ op = 61 ∨ op = 60) ∧ f = 126 ∧ ∃ k1 k2 k3 f1 c1 f2 c2, c = #[ptr k1, ptr k2, ptr k3] ∧ Is1 w k1 (fnv f1 c1) 112 ∧ Is1 w k2 (fnv f2 c2) 112 ∧ Is1 w k3 (fnv (workOf op) #[]) 128 ∧ CodeAt st w a f1 c1 ∧ CodeAt st w d f2 c2
  | _, _, _ => False

/-- What stays: all but what is held, and the steps. -/
abbrev FP (b : Nat) (w w' : World) : Prop := Fr 181 74 b w w'
theorem Is1.fr {b w w' k v T} (h : Is1 w k v T) (hk : FP b w w') (h1 : T ≠ 181) (h2 : T ≠ 74) : Is1 w' k v T := hk.keep _ _ _ h1 h2 h
theorem CodeAt.fr {st b w w'} (hk : FP b w w') : ∀ {x : T} {f : Nat} {c : Array Value}, CodeAt st w x f c → CodeAt st w' x f c := by
  intro x
  induction x with
  | num n => rintro f c ⟨e, k, ec, h⟩; exact ⟨e, k, ec, h.fr hk (by decide) (by decide)⟩
  | var n => rintro f c ⟨e, k, ec, h⟩; exact ⟨e, k, ec, h.fr hk (by decide) (by decide)⟩
  | fn n a ia => rintro f c ⟨e, k, f1, c1, ec, h, ha⟩; exact ⟨e, k, f1, c1, ec, h.fr hk (by decide) (by decide), ia ha⟩
  | app a d ia id => rintro f c ⟨e, k1, k2, k3, f1, c1, f2, c2, sg, ec, h1, h2, h3, ha, hd⟩; exact ⟨e, k1, k2, k3, f1, c1, f2, c2, sg, ec, h1.fr hk (by decide) (by decide), hk.keep _ _ 108 (by decide) (by decide) h2, h3.fr hk (by decide) (by decide), ia ha, id hd⟩
  | letE n a d ia id => rintro f c ⟨e, k1, k2, f1, c1, f2, c2, ec, h1, h2, ha, hd⟩; exact ⟨e, k1, k2, f1, c1, f2, c2, ec, h1.fr hk (by decide) (by decide), h2.fr hk (by decide) (by decide), ia ha, id hd⟩
  | ite a d g ia id ig => rintro f c ⟨e, k1, k2, k3, f1, c1, f2, c2, f3, c3, ec, h1, h2, h3, ha, hd, hg⟩; exact ⟨e, k1, k2, k3, f1, c1, f2, c2, f3, c3, ec, h1.fr hk (by decide) (by decide), h2.fr hk (by decide) (by decide), h3.fr hk (by decide) (by decide), ia ha, id hd, ig hg⟩
  | bin op a d ia id => rintro f c ⟨eo, e, k1, k2, k3, f1, c1, f2, c2, ec, h1, h2, h3, ha, hd⟩; exact ⟨eo, e, k1, k2, k3, f1, c1, f2, c2, ec, h1.fr hk (by decide) (by decide), h2.fr hk (by decide) (by decide), h3.fr hk (by decide) (by decide), ia ha, id hd⟩
  | _ => rintro f c h; exact h.elim

/-- What the names stand for, by their levels. -/
def ScAt (w : World) (B : List Nat) (env : List Nat) (v : Value) : Prop :=
  (env = [] ∧ v = .slice none 0 0) ∨
  (∃ g cs cap, v = .slice (some ⟨g, 0, none⟩) env.length cap ∧ env ≠ [] ∧ env.length ≤ cap ∧ cap ≤ cs.size ∧ w.heap[g]? = some (.cells cs 173 (0, 0)) ∧ ∀ (j i : Nat), env[j]? = some i → ∃ a, B[i]? = some a ∧ cs[j]? = some (ptr a))
theorem ScAt.fr {b w w' B B' env v} (h : ScAt w B env v) (hk : FP b w w') (hB : Ext B B') : ScAt w' B' env v := by
  rcases h with h | ⟨g, cs, cap, e, hn, h1, h2, hh, ha⟩
  · exact .inl h
  · refine .inr ⟨g, cs, cap, e, hn, h1, h2, hk.keep _ _ 173 (by decide) (by decide) hh, fun j i hj => ?_⟩
    obtain ⟨a, h3, h4⟩ := ha j i hj
    exact ⟨a, hB _ _ h3, h4⟩
theorem ScAt.shape {w B env v} (h : ScAt w B env v) : ∃ o cap, v = .slice o env.length cap := by
  rcases h with ⟨rfl, rfl⟩ | ⟨g, cs, cap, e, _⟩
  · exact ⟨none, 0, rfl⟩
  · exact ⟨_, _, e⟩

/-- How deep names are given within. -/
def dep : T → Nat
  | .letE _ a d => 1 + max (dep a) (dep d)
  | .fn _ a => 1 + dep a
  | .ite a d g => max (dep a) (max (dep d) (dep g))
  | .app a d => max (dep a) (dep d)
  | .un _ a => dep a
  | .bin _ a d => max (dep a) (dep d)
  | _ => 0

def VP (st : Nat) (w : World) (B : List Nat) : V → Value → Prop
  | .num n, v => v = .iface 127 (.int .i64 n)
  | .fn x env, v => env.length + 1 + dep x ≤ 1000 ∧ ∃ k1 k2 f1 c1 sc, v = .iface 176 (fnv 117 #[ptr k1, ptr k2]) ∧ Is1 w k1 (fnv f1 c1) 112 ∧ Is1 w k2 sc 172 ∧ CodeAt st w x f1 c1 ∧ ScAt w B env sc
  | _, _ => False
theorem VP.fr {st b w w' B B'} (hk : FP b w w') (hB : Ext B B') {v : V} {x : Value} (h : VP st w B v x) : VP st w' B' v x := by
  cases v with
  | num n => exact h
  | fn y env => obtain ⟨hd, k1, k2, f1, c1, sc, e, h1, h2, h3, h4⟩ := h; exact ⟨hd, k1, k2, f1, c1, sc, e, h1.fr hk (by decide) (by decide), h2.fr hk (by decide) (by decide), h3.fr hk, h4.fr hk hB⟩
  | nil => exact h.elim
  | cons i j => exact h.elim
theorem VP.shape {st w B v x} (h : VP st w B v x) : ∃ T y, x = .iface T y := by
  cases v with
  | num n => exact ⟨_, _, h⟩
  | fn y env => obtain ⟨_, k1, k2, f1, c1, sc, e, _⟩ := h; exact ⟨_, _, e⟩
  | nil => exact h.elim
  | cons i j => exact h.elim

def HdAt (st : Nat) (w : World) (B : List Nat) : C → Nat → Prop
  | .wait x env, a => env.length + dep x ≤ 1000 ∧ ∃ f c sc, w.heap[a]? = some (.cells #[.int .i64 0, fnv f c, sc, .nilIface] 181 (0, 0)) ∧ CodeAt st w x f c ∧ ScAt w B env sc
  | .busy, a => ∃ x y z, w.heap[a]? = some (.cells #[.int .i64 1, x, y, z] 181 (0, 0))
  | .known v, a => ∃ x y z, w.heap[a]? = some (.cells #[.int .i64 2, x, y, z] 181 (0, 0)) ∧ VP st w B v z
theorem HdAt.fr {st b w w' B B'} (hk : FP b w w') (hB : Ext B B') {c : C} {a : Nat} (h : HdAt st w B c a) (he : w'.heap[a]? = w.heap[a]?) : HdAt st w' B' c a := by
  cases c with
  | wait x env => obtain ⟨hd, f, c, sc, hh, h1, h2⟩ := h; exact ⟨hd, f, c, sc, he.trans hh, h1.fr hk, h2.fr hk hB⟩
  | busy => obtain ⟨x, y, z, hh⟩ := h; exact ⟨x, y, z, he.trans hh⟩
  | known v => obtain ⟨x, y, z, hh, hv⟩ := h; exact ⟨x, y, z, he.trans hh, hv.fr hk hB⟩
theorem HdAt.cells {st w B c a} (h : HdAt st w B c a) : ∃ s x y z, w.heap[a]? = some (.cells #[s, x, y, z] 181 (0, 0)) := by
  cases c with
  | wait x env => obtain ⟨_, f, c, sc, hh, _⟩ := h; exact ⟨_, _, _, _, hh⟩
  | busy => obtain ⟨x, y, z, hh⟩ := h; exact ⟨_, _, _, _, hh⟩
  | known v => obtain ⟨x, y, z, hh, _⟩ := h; exact ⟨_, _, _, _, hh⟩

/-- The steps' block. -/
def SB (w : World) (st : Nat) (L n : Int) : Prop := w.heap[st]? = some (.cells #[.int .i64 L, .int .i64 n] 74 (0, 0))
theorem SB.cells {w st L n} (h : SB w st L n) : w.cell? ⟨st, 0, none⟩ = some (.int .i64 L) ∧ w.cell? ⟨st, 1, none⟩ = some (.int .i64 n) ∧ (∀ o, w.frozen? ⟨st, o, none⟩ = false) ∧ st < w.heap.size := by
  unfold SB at h
  refine ⟨?_, ?_, fun o => ?_, heap_lt h⟩
  all_goals simp [World.cell?, World.frozen?, h]

structure PE (b : Nat) (w : World) (B : List Nat) (st L : Nat) (S : E) : Prop where
  steps : SB w st L S.steps
  len : B.length = S.heap.length
  hd : ∀ (i : Nat) (c : C) (a : Nat), S.heap[i]? = some c → B[i]? = some a → HdAt st w B c a
  inj : ∀ (i j a : Nat), B[i]? = some a → B[j]? = some a → i = j
  lo : ∀ a ∈ B, b ≤ a
  slo : b ≤ st
  lim : L ≤ 500

theorem PE.blt {b w B st L S} (h : PE b w B st L S) : b ≤ w.heap.size := Nat.le_trans h.slo (Nat.le_of_lt (heap_lt h.steps))
theorem PE.grown {b w w' B st L S} (h : PE b w B st L S) (hg : w.grownBy w' none) : PE b w' B st L S := by
  have hk : FP b w w' := Fr.grown h.blt hg
  refine ⟨?_, h.len, fun i c a h1 h2 => ?_, h.inj, h.lo, h.slo, h.lim⟩
  · have := h.steps
    unfold SB at this ⊢
    rw [hg.block st (heap_lt this) (by simp)]; exact this
  · have ht := h.hd i c a h1 h2
    obtain ⟨s, x, y, z, hh⟩ := ht.cells
    exact ht.fr hk (Ext.refl _) (hg.block a (heap_lt hh) (by simp))
theorem PE.ne {b w B st L S} (h : PE b w B st L S) {i a : Nat} (hi : B[i]? = some a) : st ≠ a := by
  rintro rfl
  have hw := h.steps
  unfold SB at hw
  have hi' := (List.getElem?_eq_some_iff.1 hi).1
  obtain ⟨s, x, y, z, hh⟩ := (h.hd i _ st (List.getElem?_eq_getElem (by rw [← h.len]; exact hi')) hi).cells
  rw [hw] at hh
  simp at hh
theorem PE.more {b w w' B st L S} (h : PE b w B st L S) (hg : w.grownBy w' none) (c : C) (a : Nat) (ha : w.heap.size ≤ a) (hc : HdAt st w' (B ++ [a]) c a) : PE b w' (B ++ [a]) st L ⟨S.heap ++ [c], S.steps⟩ := by
  have h' := h.grown hg
  have hk : FP b w w' := Fr.grown h.blt hg
  refine ⟨h'.steps, by simp [h.len], fun i d x h1 h2 => ?_, fun i j x h1 h2 => ?_, fun x hx => ?_, h.slo, h.lim⟩
  · by_cases hi : i < B.length
    · rw [List.getElem?_append_left (by rw [← h.len]; exact hi)] at h1
      rw [List.getElem?_append_left hi] at h2
      have ht := h.hd i d x h1 h2
      obtain ⟨s, y, z, u, hh⟩ := ht.cells
      exact ht.fr hk (Ext.app _ _) (hg.block x (heap_lt hh) (by simp))
    · have hi' : i = B.length := by
        have := (List.getElem?_eq_some_iff.1 h2).1
        simp at this; omega
      subst hi'
      rw [h.len] at h1
      simp at h1 h2
      subst h1; subst h2; exact hc
  · have key : ∀ (i : Nat), (B ++ [a])[i]? = some x → (i < B.length ∧ B[i]? = some x ∧ x < w.heap.size) ∨ (i = B.length ∧ x = a) := fun i hx => by
      by_cases hi : i < B.length
      · rw [List.getElem?_append_left hi] at hx
        obtain ⟨s, y, z, u, hh⟩ := (h.hd i _ x (List.getElem?_eq_getElem (by rw [← h.len]; exact hi)) hx).cells
        exact .inl ⟨hi, hx, heap_lt hh⟩
      · have := (List.getElem?_eq_some_iff.1 hx).1
        simp at this
        have e : i = B.length := by omega
        subst e
        simp at hx
        exact .inr ⟨rfl, hx.symm⟩
    rcases key i h1 with ⟨hi, e1, l1⟩ | ⟨e1, rfl⟩ <;> rcases key j h2 with ⟨hj, e2, l2⟩ | ⟨e2, e3⟩
    · exact h.inj i j x e1 e2
    · omega
    · omega
    · omega
  · rcases List.mem_append.1 hx with hx | hx
    · exact h.lo x hx
    · rw [List.mem_singleton.1 hx]; exact Nat.le_trans h.blt ha
theorem PE.turn {b w w' B st L S} (h : PE b w B st L S) (hk : FP b w w') {i a : Nat} (hi : B[i]? = some a) (hb : ∀ k, k ≠ a → k < w.heap.size → w'.heap[k]? = w.heap[k]?) (c : C) (hc : HdAt st w' B c a) : PE b w' B st L ⟨S.heap.set i c, S.steps⟩ := by
  have hw := h.ne hi
  refine ⟨?_, by simp [h.len], fun j d x h1 h2 => ?_, h.inj, h.lo, h.slo, h.lim⟩
  · have := h.steps
    unfold SB at this ⊢
    rw [hb st hw (heap_lt this)]; exact this
  · by_cases hj : j = i
    · subst hj
      rw [hi] at h2
      cases h2
      have hl := (List.getElem?_eq_some_iff.1 hi).1
      rw [List.getElem?_set_self (by rw [← h.len]; exact hl)] at h1
      cases h1
      exact hc
    · rw [List.getElem?_set_ne (by omega)] at h1
      have ht := h.hd j d x h1 h2
      have hx : x ≠ a := by rintro rfl; exact hj (h.inj _ _ _ h2 hi)
      obtain ⟨s, y, z, u, hh⟩ := ht.cells
      exact ht.fr hk (Ext.refl _) (hb x hx (heap_lt hh))
theorem PE.stepped {b w B st L S} (h : PE b w B st L S) : PE b (w.setCell ⟨st, 1, none⟩ (.int .i64 ((S.steps : Int) + 1))) B st L ⟨S.heap, S.steps + 1⟩ := by
  have hk : FP b w (w.setCell ⟨st, 1, none⟩ (.int .i64 ((S.steps : Int) + 1))) := Fr.set h.steps (.inr rfl) h.slo _ _
  refine ⟨?_, h.len, fun i c a h1 h2 => ?_, h.inj, h.lo, h.slo, h.lim⟩
  · have := RB.set h.steps 1 (.int .i64 ((S.steps : Int) + 1))
    unfold SB
    rw [this]; rfl
  · exact (h.hd i c a h1 h2).fr hk (Ext.refl _) (Below.heap_setCell _ _ _ _ (by have := h.ne h2; show a ≠ st; omega))

/-- What a fault leaves: how many steps were counted. -/
def oops (z : Int) : List PanicEntry := [{ v := flt z 0, recovered := false }]
def GP (b : Nat) (w : World) (B : List Nat) (st L : Nat) (r : R × E) (e : Ending) (w' : World) : Prop :=
  (∃ v B' x, r.1 = .ok v ∧ e = .returned x ∧ FP b w w' ∧ Ext B B' ∧ PE b w' B' st L r.2 ∧ VP st w' B' v x) ∨
  (∃ z, r.1 = .err z ∧ e = .panicked (oops z) ∧ Below b w w' ∧ SB w' st L r.2.steps)
def GPV (b : Nat) (w : World) (B : List Nat) (st L : Nat) (v : V) (S : E) (e : Ending) (w' : World) : Prop :=
  ∃ B' T x, e = .returned (.iface T x) ∧ FP b w w' ∧ Ext B B' ∧ PE b w' B' st L S ∧ VP st w' B' v (.iface T x)
def GPX (b : Nat) (w : World) (st L : Nat) (z : Int) (m : Nat) (e : Ending) (w' : World) : Prop :=
  e = .panicked (oops z) ∧ Below b w w' ∧ SB w' st L m
theorem GP.v {b w B st L r v e w'} (hr : r.1 = .ok v) (h : GP b w B st L r e w') : GPV b w B st L v r.2 e w' := by
  rcases h with ⟨v', B', x, h1, h2, h3, h4, h5, h6⟩ | ⟨z, h1, _⟩
  · rw [hr] at h1
    cases h1
    obtain ⟨T, y, rfl⟩ := h6.shape
    exact ⟨B', T, y, h2, h3, h4, h5, h6⟩
  · rw [hr] at h1; cases h1
theorem GP.x {b w B st L r z e w'} (hr : r.1 = .err z) (h : GP b w B st L r e w') : GPX b w st L z r.2.steps e w' := by
  rcases h with ⟨v', B', x, h1, h2, h3, h4, h5, h6⟩ | ⟨z, h1, h2, h3, h4⟩
  · rw [hr] at h1; cases h1
  · rw [hr] at h1
    cases h1
    exact ⟨h2, h3, h4⟩
theorem GPV.got {b w B st L v S e w'} (h : GPV b w B st L v S e w') : GP b w B st L (.ok v, S) e w' := by
  obtain ⟨B', T, x, rfl, hk, hB, h1, hv⟩ := h
  exact .inl ⟨v, B', _, rfl, rfl, hk, hB, h1, hv⟩
theorem GPX.got {b w B st L z S e w'} (h : GPX b w st L z S.steps e w') : GP b w B st L (.err z, S) e w' := by
  obtain ⟨rfl, hk, h1⟩ := h
  exact .inr ⟨z, rfl, rfl, hk, h1⟩

def CC (n : Nat) : Prop := ∀ (L : Nat) (x : T) (env : List Nat) (S : E) (r : R × E) (b : Nat) (w : World) (B : List Nat) (st f : Nat) (c : Array Value) (sc : Value), ev L n (.need x env) S = some r → PE b w B st L S → CodeAt st w x f c → ScAt w B env sc → env.length + dep x ≤ 1000 →
  Calls Tryz.prog f (#[sc] ++ c) w (GP b w B st L r)
def CH (n : Nat) : Prop := ∀ (L i : Nat) (S : E) (r : R × E) (b : Nat) (w : World) (B : List Nat) (st a : Nat), ev L n (.force i) S = some r → PE b w B st L S → B[i]? = some a →
  Calls Tryz.prog 115 #[ptr a] w (GP b w B st L r)
end Go.Proofs.YtdpbclnpmkhooaaGreatDoor
