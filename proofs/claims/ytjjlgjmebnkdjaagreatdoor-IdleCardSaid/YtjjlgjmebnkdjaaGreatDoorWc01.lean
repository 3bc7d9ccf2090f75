/-
  The document's walk: what lies in memory for thunks, names and values.
  The program's reckoning: what lies in memory for closures, scopes, what is held, and values.
  A text that speaks of no list: its tree has none; names stand where they are given.
-/
import Derived.Test.YtjjlgjmebnkdjaaGreatDoorRefD
import Derived.Test.YtjjlgjmebnkdjaaGreatDoorWc00
import Derived.Test.YtjjlgjmebnkdjaaGreatDoorPrgD
namespace Go.Proofs.YtjjlgjmebnkdjaaGreatDoor
open Go Go.Proofs Go.RowKit Skein

/-- Blocks of two types may be written; all others stay. -/
structure Fr (d1 d2 b : Nat) (w w' : World) : Prop where
  below : Below b w w'
  keep : ∀ (k : Nat) (cs : Array Value) (T : TypeId), T ≠ d1 → T ≠ d2 → w.heap[k]? = some (.cells cs T (0, 0)) → w'.heap[k]? = some (.cells cs T (0, 0))

theorem heap_lt {w : World} {k : Nat} {o : Obj} (h : w.heap[k]? = some o) : k < w.heap.size := (Array.getElem?_eq_some_iff.1 h).1
theorem Fr.refl (d1 d2 b : Nat) (w : World) : Fr d1 d2 b w w := ⟨Below.refl _ _, fun _ _ _ _ _ h => h⟩
theorem Fr.trans {d1 d2 b : Nat} {w w1 w2 : World} (h : Fr d1 d2 b w w1) (k : Fr d1 d2 b w1 w2) : Fr d1 d2 b w w2 :=
  ⟨h.below.trans k.below, fun j cs T h1 h2 e => k.keep j cs T h1 h2 (h.keep j cs T h1 h2 e)⟩
theorem Fr.grown {d1 d2 b : Nat} {w w' : World} (hb : b ≤ w.heap.size) (h : w.grownBy w' none) : Fr d1 d2 b w w' :=
  ⟨⟨h.os, h.tape, h.output, h.size, fun k hk => h.block k (by omega) (by simp)⟩, fun k _ _ _ _ e => by rw [h.block k (heap_lt e) (by simp)]; exact e⟩
theorem Fr.alloc {d1 d2 b : Nat} {w : World} (hb : b ≤ w.heap.size) (o : Obj) : Fr d1 d2 b w (w.alloc o) := Fr.grown hb (grown_alloc (grown_refl _ _) o)
theorem Fr.set {d1 d2 b : Nat} {w : World} {a T : Nat} {cs : Array Value} (h : w.heap[a]? = some (.cells cs T (0, 0))) (hT : T = d1 ∨ T = d2) (hb : b ≤ a) (o : Nat) (v : Value) : Fr d1 d2 b w (w.setCell ⟨a, o, none⟩ v) :=
  ⟨(Below.refl b w).setCell hb v, fun k cs' T' h1 h2 e => by
    rw [Below.heap_setCell _ _ _ _ (by
      show k ≠ a
      rintro rfl
      rw [h] at e
      simp only [Option.some.injEq, Obj.cells.injEq] at e
      rcases hT with hT | hT <;> simp_all)]
    exact e⟩
theorem Fr.size {d1 d2 b : Nat} {w w' : World} (h : Fr d1 d2 b w w') : w.heap.size ≤ w'.heap.size := h.below.size
theorem Fr.drewN {d1 d2 b : Nat} {w w' : World} (h : Fr d1 d2 b w w') (n : Nat) : Fr d1 d2 b w (w'.drewN n) := ⟨⟨h.below.os, h.below.tape, h.below.output, h.below.size, h.below.block⟩, h.keep⟩
theorem Fr.drew {d1 d2 b : Nat} {w w' : World} (h : Fr d1 d2 b w w') : Fr d1 d2 b w w'.drew := ⟨⟨h.below.os, h.below.tape, h.below.output, h.below.size, h.below.block⟩, h.keep⟩

abbrev rv (k n : Int) (p q r s : Value) : Value := .agg #[.int .u8 k, .int .i64 n, p, q, r, s]
abbrev nilp : Value := .pointer none
abbrev ptr (a : Nat) : Value := .pointer (some ⟨a, 0, none⟩)

/- Nodes stay. -/
theorem IsN.fr {b w w' v op n x y z} (h : IsN b w v op n x y z) (hk : Fr 89 68 b w w') : IsN b w' v op n x y z := by
  obtain ⟨k, e, hb, hh⟩ := h
  exact ⟨k, e, hb, hk.keep k _ 86 (by decide) (by decide) hh⟩
theorem NodeAt.fr {b w w'} (hk : Fr 89 68 b w w') : ∀ (t : T) (v : Value), NodeAt b w t v → NodeAt b w' t v := by
  intro t
  induction t with
  | junk => exact fun v h => h
  | free => exact fun v h => h
  | nil => exact fun v h => IsN.fr h hk
  | num n => exact fun v h => IsN.fr h hk
  | var n => exact fun v h => IsN.fr h hk
  | letE n p q ip iq => rintro v ⟨x, y, h, hp, hq⟩; exact ⟨x, y, h.fr hk, ip _ hp, iq _ hq⟩
  | fn n p ip => rintro v ⟨x, h, hp⟩; exact ⟨x, h.fr hk, ip _ hp⟩
  | ite p q r ip iq ir => rintro v ⟨x, y, z, h, hp, hq, hr⟩; exact ⟨x, y, z, h.fr hk, ip _ hp, iq _ hq, ir _ hr⟩
  | app p q ip iq => rintro v ⟨x, y, h, hp, hq⟩; exact ⟨x, y, h.fr hk, ip _ hp, iq _ hq⟩
  | un op p ip => rintro v ⟨x, h, hp⟩; exact ⟨x, h.fr hk, ip _ hp⟩
  | bin op p q ip iq => rintro v ⟨x, y, h, hp, hq⟩; exact ⟨x, y, h.fr hk, ip _ hp, iq _ hq⟩

/-- Which block is which cell: those that are known stay. -/
def Ext (A A' : List Nat) : Prop := ∀ (i a : Nat), A[i]? = some a → A'[i]? = some a
theorem Ext.refl (A : List Nat) : Ext A A := fun _ _ h => h
theorem Ext.trans {A B C : List Nat} (h : Ext A B) (k : Ext B C) : Ext A C := fun i a e => k i a (h i a e)
theorem Ext.app (A B : List Nat) : Ext A (A ++ B) := fun i a e => by
  rw [List.getElem?_append_left (List.getElem?_eq_some_iff.1 e).1]; exact e
theorem Ext.mem {A B : List Nat} (h : Ext A B) {a : Nat} (ha : a ∈ A) : a ∈ B := by
  obtain ⟨i, hi, e⟩ := List.mem_iff_getElem.1 ha
  exact List.mem_of_getElem? (h i a (by rw [List.getElem?_eq_getElem hi, e]))

/-- What the names stand for, innermost first. -/
def NmR (w : World) (A : List Nat) : List Nat → Value → Prop
  | [], v => v = nilp
  | i :: r, v => ∃ k a up, v = ptr k ∧ A[i]? = some a ∧ w.heap[k]? = some (.cells #[.int .i64 r.length, ptr a, up] 91 (0, 0)) ∧ NmR w A r up
def NmAt (w : World) (A : List Nat) (env : List Nat) (v : Value) : Prop := NmR w A env.reverse v
theorem NmR.fr {b w w' A A'} (hk : Fr 89 68 b w w') (hA : Ext A A') : ∀ env v, NmR w A env v → NmR w' A' env v := by
  intro env
  induction env with
  | nil => exact fun v h => h
  | cons i r ih => rintro v ⟨k, a, up, e, ha, hh, hr⟩; exact ⟨k, a, up, e, hA _ _ ha, hk.keep _ _ 91 (by decide) (by decide) hh, ih _ hr⟩
theorem NmAt.fr {b w w' A A' env v} (h : NmAt w A env v) (hk : Fr 89 68 b w w') (hA : Ext A A') : NmAt w' A' env v := NmR.fr hk hA _ _ h
theorem NmR.ptr {w A env v} (h : NmR w A env v) : ∃ a, v = .pointer a := by
  cases env with
  | nil => exact ⟨none, h⟩
  | cons i r => obtain ⟨k, a, up, e, _⟩ := h; exact ⟨_, e⟩
theorem NmAt.ptr {w A env v} (h : NmAt w A env v) : ∃ a, v = .pointer a := NmR.ptr h
theorem NmAt.snoc {w A env i k a v} (h : NmAt w A env v) (ha : A[i]? = some a) (hh : w.heap[k]? = some (.cells #[.int .i64 env.length, Go.Proofs.YtjjlgjmebnkdjaaGreatDoor.ptr a, v] 91 (0, 0))) : NmAt w A (env ++ [i]) (Go.Proofs.YtjjlgjmebnkdjaaGreatDoor.ptr k) := by
  unfold NmAt
  rw [List.reverse_append]
  refine ⟨k, a, v, rfl, ha, ?_, h⟩
  have e : ([].append env.reverse).length = env.length := by simp
  rw [e]; exact hh

def VR (b : Nat) (w : World) (A : List Nat) : V → Value → Prop
  | .num n, v => v = rv 110 n nilp nilp nilp nilp
  | .nil, v => v = rv 101 0 nilp nilp nilp nilp
  | .fn x env, v => Tidy (env.length + 1) x ∧ ∃ p q, v = rv 102 env.length p q nilp nilp ∧ NodeAt b w x p ∧ NmAt w A env q
  | .cons i j, v => ∃ a c, A[i]? = some a ∧ A[j]? = some c ∧ v = rv 99 0 nilp nilp (ptr a) (ptr c)
theorem VR.fr {b w w' A A'} (hk : Fr 89 68 b w w') (hA : Ext A A') {v : V} {x : Value} (h : VR b w A v x) : VR b w' A' v x := by
  cases v with
  | num n => exact h
  | nil => exact h
  | fn y env => obtain ⟨ht, p, q, e, hp, hq⟩ := h; exact ⟨ht, p, q, e, NodeAt.fr hk _ _ hp, hq.fr hk hA⟩
  | cons i j => obtain ⟨a, c, h1, h2, e⟩ := h; exact ⟨a, c, hA _ _ h1, hA _ _ h2, e⟩

def thunk (p q : Value) (bu kn : Bool) (k n : Int) (p1 p2 p3 p4 : Value) : Array Value :=
  #[p, q, .bool bu, .bool kn, .int .u8 k, .int .i64 n, p1, p2, p3, p4]
def TkAt (b : Nat) (w : World) (A : List Nat) : C → Nat → Prop
  | .wait x env, a => Tidy env.length x ∧ ∃ p q, w.heap[a]? = some (.cells (thunk p q false false 0 0 nilp nilp nilp nilp) 89 (0, 0)) ∧ NodeAt b w x p ∧ NmAt w A env q
  | .busy, a => ∃ p q, w.heap[a]? = some (.cells (thunk p q true false 0 0 nilp nilp nilp nilp) 89 (0, 0))
  | .known v, a => ∃ p q k n p1 p2 p3 p4, w.heap[a]? = some (.cells (thunk p q false true k n p1 p2 p3 p4) 89 (0, 0)) ∧ VR b w A v (rv k n p1 p2 p3 p4)
theorem TkAt.fr {b w w' A A'} (hk : Fr 89 68 b w w') (hA : Ext A A') {c : C} {a : Nat} (h : TkAt b w A c a) (he : w'.heap[a]? = w.heap[a]?) : TkAt b w' A' c a := by
  cases c with
  | wait x env => obtain ⟨ht, p, q, hh, hp, hq⟩ := h; exact ⟨ht, p, q, he.trans hh, NodeAt.fr hk _ _ hp, hq.fr hk hA⟩
  | busy => obtain ⟨p, q, hh⟩ := h; exact ⟨p, q, he.trans hh⟩
  | known v => obtain ⟨p, q, k, n, p1, p2, p3, p4, hh, hv⟩ := h; exact ⟨p, q, k, n, p1, p2, p3, p4, he.trans hh, hv.fr hk hA⟩
theorem TkAt.cells {b w A c a} (h : TkAt b w A c a) : ∃ cs, w.heap[a]? = some (.cells cs 89 (0, 0)) ∧ cs.size = 10 := by
  cases c with
  | wait x env => obtain ⟨ht, p, q, hh, _⟩ := h; exact ⟨_, hh, rfl⟩
  | busy => obtain ⟨p, q, hh⟩ := h; exact ⟨_, hh, rfl⟩
  | known v => obtain ⟨p, q, k, n, p1, p2, p3, p4, hh, hv⟩ := h; exact ⟨_, hh, rfl⟩

/-- The walk's block. -/
def WB (w : World) (wb : Nat) (n L e : Int) : Prop := w.heap[wb]? = some (.cells #[.int .i64 n, .int .i64 L, .int .i64 e] 68 (0, 0))
theorem WB.cells {w wb n L e} (h : WB w wb n L e) : w.cell? ⟨wb, 0, none⟩ = some (.int .i64 n) ∧ w.cell? ⟨wb, 1, none⟩ = some (.int .i64 L) ∧ w.cell? ⟨wb, 2, none⟩ = some (.int .i64 e) ∧ (∀ o, w.frozen? ⟨wb, o, none⟩ = false) ∧ wb < w.heap.size := by
  unfold WB at h
  refine ⟨?_, ?_, ?_, fun o => ?_, heap_lt h⟩
  all_goals simp [World.cell?, World.frozen?, h]
theorem WB.grown {w w' wb n L e} (h : WB w wb n L e) (hg : w.grownBy w' none) : WB w' wb n L e := by
  unfold WB at h ⊢
  rw [hg.block wb (heap_lt h) (by simp)]; exact h

/-- All is well. -/
structure RE (b : Nat) (w : World) (A : List Nat) (wb L : Nat) (S : E) : Prop where
  walk : WB w wb S.steps L 0
  len : A.length = S.heap.length
  tk : ∀ (i : Nat) (c : C) (a : Nat), S.heap[i]? = some c → A[i]? = some a → TkAt b w A c a
  inj : ∀ (i j a : Nat), A[i]? = some a → A[j]? = some a → i = j
  lo : ∀ a ∈ A, b ≤ a
  wlo : b ≤ wb
  lim : L ≤ 500

/-- Something has gone wrong. -/
structure RX (b : Nat) (w : World) (A : List Nat) (wb L : Nat) (n : Nat) (e : Int) : Prop where
  walk : WB w wb n L e
  ne : e ≠ 0
  tk : ∀ a ∈ A, ∃ cs, w.heap[a]? = some (.cells cs 89 (0, 0)) ∧ cs.size = 10
  lo : ∀ a ∈ A, b ≤ a
  wlo : b ≤ wb

theorem RE.blt {b w A wb L S} (h : RE b w A wb L S) : b ≤ w.heap.size := Nat.le_trans h.wlo (Nat.le_of_lt (heap_lt h.walk))
theorem RX.blt {b w A wb L n e} (h : RX b w A wb L n e) : b ≤ w.heap.size := Nat.le_trans h.wlo (Nat.le_of_lt (heap_lt h.walk))
theorem RE.grown {b w w' A wb L S} (h : RE b w A wb L S) (hg : w.grownBy w' none) : RE b w' A wb L S := by
  have hk : Fr 89 68 b w w' := Fr.grown h.blt hg
  refine ⟨h.walk.grown hg, h.len, fun i c a h1 h2 => ?_, h.inj, h.lo, h.wlo, h.lim⟩
  have ht := h.tk i c a h1 h2
  obtain ⟨cs, hh, _⟩ := ht.cells
  exact ht.fr hk (Ext.refl _) (hg.block a (heap_lt hh) (by simp))
theorem RX.grown {b w w' A wb L n e} (h : RX b w A wb L n e) (hg : w.grownBy w' none) : RX b w' A wb L n e := by
  refine ⟨h.walk.grown hg, h.ne, fun a ha => ?_, h.lo, h.wlo⟩
  obtain ⟨cs, hh, hs⟩ := h.tk a ha
  exact ⟨cs, by rw [hg.block a (heap_lt hh) (by simp)]; exact hh, hs⟩
theorem RX.sub {b w A A' wb L n e} (h : RX b w A' wb L n e) (hA : Ext A A') : RX b w A wb L n e :=
  ⟨h.walk, h.ne, fun a ha => h.tk a (hA.mem ha), fun a ha => h.lo a (hA.mem ha), h.wlo⟩

/-- What an expression that is needed comes to. -/
def Got (b : Nat) (w : World) (A : List Nat) (wb L : Nat) (r : R × E) (e : Ending) (w' : World) : Prop :=
  Fr 89 68 b w w' ∧
  ((∃ v A' x, r.1 = .ok v ∧ e = .returned x ∧ Ext A A' ∧ RE b w' A' wb L r.2 ∧ VR b w' A' v x) ∨
   (∃ z k n a1 a2 a3 a4, r.1 = .err z ∧ e = .returned (rv k n (.pointer a1) (.pointer a2) (.pointer a3) (.pointer a4)) ∧ RX b w' A wb L r.2.steps z))
theorem VR.shape {b w A v x} (h : VR b w A v x) : ∃ k n a1 a2 a3 a4, x = rv k n (.pointer a1) (.pointer a2) (.pointer a3) (.pointer a4) := by
  cases v with
  | num n => exact ⟨_, _, _, _, _, _, h⟩
  | nil => exact ⟨_, _, _, _, _, _, h⟩
  | fn y env =>
    obtain ⟨ht, p, q, e, hp, hq⟩ := h
    obtain ⟨a1, rfl⟩ := NodeAt.ptr _ _ hp
    obtain ⟨a2, rfl⟩ := hq.ptr
    exact ⟨_, _, _, _, _, _, e⟩
  | cons i j => obtain ⟨a, c, h1, h2, e⟩ := h; exact ⟨_, _, _, _, _, _, e⟩

def CN (n : Nat) : Prop := ∀ (L : Nat) (x : T) (env : List Nat) (S : E) (r : R × E) (b : Nat) (w : World) (A : List Nat) (wb : Nat) (p q : Value), ev L n (.need x env) S = some r → RE b w A wb L S → Tidy env.length x → NodeAt b w x p → NmAt w A env q →
  Calls Tryz.prog 37 #[ptr wb, p, q] w (Got b w A wb L r)
def CF (n : Nat) : Prop := ∀ (L i : Nat) (S : E) (r : R × E) (b : Nat) (w : World) (A : List Nat) (wb a : Nat), ev L n (.force i) S = some r → RE b w A wb L S → A[i]? = some a →
  Calls Tryz.prog 53 #[ptr wb, ptr a] w (Got b w A wb L r)

/-- A new thunk, and what else is new. -/
theorem RE.more {b w w' A wb L S} (h : RE b w A wb L S) (hg : w.grownBy w' none) (c : C) (a : Nat) (ha : w.heap.size ≤ a) (hc : TkAt b w' (A ++ [a]) c a) : RE b w' (A ++ [a]) wb L ⟨S.heap ++ [c], S.steps⟩ := by
  have h' := h.grown hg
  have hk : Fr 89 68 b w w' := Fr.grown h.blt hg
  refine ⟨h'.walk, by simp [h.len], fun i d x h1 h2 => ?_, fun i j x h1 h2 => ?_, fun x hx => ?_, h.wlo, h.lim⟩
  · by_cases hi : i < A.length
    · rw [List.getElem?_append_left (by rw [← h.len]; exact hi)] at h1
      rw [List.getElem?_append_left hi] at h2
      have ht := h.tk i d x h1 h2
      obtain ⟨cs, hh, _⟩ := ht.cells
      exact ht.fr hk (Ext.app _ _) (hg.block x (heap_lt hh) (by simp))
    · have hi' : i = A.length := by
        have := (List.getElem?_eq_some_iff.1 h2).1
        simp at this; omega
      subst hi'
      rw [h.len] at h1
      simp at h1 h2
      subst h1; subst h2; exact hc
  · have key : ∀ (i : Nat), (A ++ [a])[i]? = some x → (i < A.length ∧ A[i]? = some x ∧ x < w.heap.size) ∨ (i = A.length ∧ x = a) := fun i hx => by
      by_cases hi : i < A.length
      · rw [List.getElem?_append_left hi] at hx
        obtain ⟨cs, hh, _⟩ := (h.tk i _ x (List.getElem?_eq_getElem (by rw [← h.len]; exact hi)) hx).cells
        exact .inl ⟨hi, hx, heap_lt hh⟩
      · have := (List.getElem?_eq_some_iff.1 hx).1
        simp at this
        have e : i = A.length := by omega
        subst e
        simp at hx
        exact .inr ⟨rfl, hx.symm⟩
    rcases key i h1 with ⟨hi, e1, l1⟩ | ⟨e1, rfl⟩ <;> rcases key j h2 with ⟨hj, e2, l2⟩ | ⟨e2, e3⟩
    · exact h.inj i j x e1 e2
    · omega
    · omega
    · omega
  · rcases List.mem_append.1 hx with hx | hx
    · exact h.lo x hx
    · rw [List.mem_singleton.1 hx]; exact Nat.le_trans h.blt ha

/-- One thunk turns. -/
theorem RE.turn {b w w' A wb L S} (h : RE b w A wb L S) (hk : Fr 89 68 b w w') {i a : Nat} (hi : A[i]? = some a) (hb : ∀ k, k ≠ a → k < w.heap.size → w'.heap[k]? = w.heap[k]?) (c : C) (hc : TkAt b w' A c a) : RE b w' A wb L ⟨S.heap.set i c, S.steps⟩ := by
  have hw : wb ≠ a := by
    rintro rfl
    have hw := h.walk
    unfold WB at hw
    have hi' := (List.getElem?_eq_some_iff.1 hi).1
    obtain ⟨cs, hh, _⟩ := (h.tk i _ wb (List.getElem?_eq_getElem (by rw [← h.len]; exact hi')) hi).cells
    rw [hw] at hh
    simp at hh
  refine ⟨?_, by simp [h.len], fun j d x h1 h2 => ?_, h.inj, h.lo, h.wlo, h.lim⟩
  · have := h.walk
    unfold WB at this ⊢
    rw [hb wb hw (heap_lt this)]; exact this
  · by_cases hj : j = i
    · subst hj
      rw [hi] at h2
      cases h2
      have hl := (List.getElem?_eq_some_iff.1 hi).1
      rw [List.getElem?_set_self (by rw [← h.len]; exact hl)] at h1
      cases h1
      exact hc
    · rw [List.getElem?_set_ne (by omega)] at h1
      have ht := h.tk j d x h1 h2
      have hx : x ≠ a := by rintro rfl; exact hj (h.inj _ _ _ h2 hi)
      obtain ⟨cs, hh, _⟩ := ht.cells
      exact ht.fr hk (Ext.refl _) (hb x hx (heap_lt hh))
theorem RE.ne {b w A wb L S} (h : RE b w A wb L S) {i a : Nat} (hi : A[i]? = some a) : wb ≠ a := by
  rintro rfl
  have hw := h.walk
  unfold WB at hw
  have hi' := (List.getElem?_eq_some_iff.1 hi).1
  obtain ⟨cs, hh, _⟩ := (h.tk i _ wb (List.getElem?_eq_getElem (by rw [← h.len]; exact hi')) hi).cells
  rw [hw] at hh
  simp at hh
theorem RE.fine {b w A wb L S} (h : RE b w A wb L S) : ∀ a ∈ A, ∃ cs, w.heap[a]? = some (.cells cs 89 (0, 0)) ∧ cs.size = 10 := by
  intro a ha
  obtain ⟨i, hi, e⟩ := List.mem_iff_getElem.1 ha
  exact (h.tk i _ a (List.getElem?_eq_getElem (by rw [← h.len]; exact hi)) (by rw [List.getElem?_eq_getElem hi, e])).cells
end Go.Proofs.YtjjlgjmebnkdjaaGreatDoor

namespace Go.Proofs.YtjjlgjmebnkdjaaGreatDoor
open Go Go.Proofs Go.RowKit Skein

def workOf (op : UInt8) : Nat := if op == 43 then 90 else if op == 45 then 91 else if op == 42 then 92 else if op == 61 then 93 else 95
/-- What a word asks. -/
def askOf (op : UInt8) : Nat := if op == 104 then 96 else if op == 116 then 99 else 100
abbrev fnv (f : Nat) (c : Array Value) : Value := .func (.func f) #[] c
def Is1 (w : World) (k : Nat) (v : Value) (T : Nat) : Prop := w.heap[k]? = some (.cells #[v] T (0, 0))

/-- An expression's closure: its function and what it has caught. -/
def CodeAt (st : Nat) (w : World) : T → Nat → Array Value → Prop
  | .num n, f, c => f = 128 ∧ ∃ k, c = #[ptr k] ∧ Is1 w k (.int .i64 n) 134
  | .var i, f, c => f = 129 ∧ ∃ k, c = #[ptr k] ∧ Is1 w k (.int .i64 i) 152
  | .fn _ a, f, c => f = 130 ∧ ∃ k f1 c1, c = #[ptr k] ∧ Is1 w k (fnv f1 c1) 118 ∧ CodeAt st w a f1 c1
  | .app a d, f, c => f = 133 ∧ ∃ k1 k2 k3 f1 c1 f2 c2 sg pg, c = #[ptr k1, ptr k2, ptr k3] ∧ Is1 w k1 (fnv f1 c1) 118 ∧ w.heap[k2]? = some (.cells #[ptr st, sg, pg] 114 (0, 0)) ∧ Is1 w k3 (fnv f2 c2) 118 ∧ CodeAt st w a f1 c1 ∧ CodeAt st w d f2 c2
  | .letE _ a d, f, c => f = 136 ∧ ∃ k1 k2 f1 c1 f2 c2, c = #[ptr k1, ptr k2] ∧ Is1 w k1 (fnv f1 c1) 118 ∧ Is1 w k2 (fnv f2 c2) 118 ∧ CodeAt st w a f1 c1 ∧ CodeAt st w d f2 c2
  | .ite a d g, f, c => f = 137 ∧ ∃ k1 k2 k3 f1 c1 f2 c2 f3 c3, c = #[ptr k1, ptr k2, ptr k3] ∧ Is1 w k1 (fnv f1 c1) 118 ∧ Is1 w k2 (fnv f2 c2) 118 ∧ Is1 w k3 (fnv f3 c3) 118 ∧ CodeAt st w a f1 c1 ∧ CodeAt st w d f2 c2 ∧ CodeAt st w g f3 c3
  | .nil, f, c => f = 141 ∧ c = #[]
  | .un op a, f, c => (op = 104 ∨ op = 116 ∨ op = 110) ∧ f = 144 ∧ ∃ k1 k2 f1 c1, c = #[ptr k1, ptr k2] ∧ Is1 w k1 (fnv (askOf op) #[]) 144 ∧ Is1 w k2 (fnv f1 c1) 118 ∧ CodeAt st w a f1 c1
  | .bin op a d, f, c => (op = 58 ∧ f = 142 ∧ ∃ k1 k2 f1 c1 f2 c2, c = #[ptr k1, ptr k2] ∧ Is1 w k1 (fnv f1 c1) 118 ∧ Is1 w k2 (fnv f2 c2) 118 ∧ CodeAt st w a f1 c1 ∧ CodeAt st w d f2 c2) ∨
    ((op = 43 ∨ op = 45 ∨ op = 42 ∨ op = 61 ∨ op = 60) ∧ f = 140 ∧ ∃ k1 k2 k3 f1 c1 f2 c2, c = #[ptr k1, ptr k2, ptr k3] ∧ Is1 w k1 (fnv f1 c1) 118 ∧ Is1 w k2 (fnv f2 c2) 118 ∧ Is1 w k3 (fnv (workOf op) #[]) 135 ∧ CodeAt st w a f1 c1 ∧ CodeAt st w d f2 c2)
  | _, _, _ => False

/-- What stays: all but what is held, and the steps. -/
abbrev FP (b : Nat) (w w' : World) : Prop := Fr 194 78 b w w'
theorem Is1.fr {b w w' k v T} (h : Is1 w k v T) (hk : FP b w w') (h1 : T ≠ 194) (h2 : T ≠ 78) : Is1 w' k v T := hk.keep _ _ _ h1 h2 h
theorem CodeAt.fr {st b w w'} (hk : FP b w w') : ∀ {x : T} {f : Nat} {c : Array Value}, CodeAt st w x f c → CodeAt st w' x f c := by
  intro x
  induction x with
  | num n => rintro f c ⟨e, k, ec, h⟩; exact ⟨e, k, ec, h.fr hk (by decide) (by decide)⟩
  | var n => rintro f c ⟨e, k, ec, h⟩; exact ⟨e, k, ec, h.fr hk (by decide) (by decide)⟩
  | fn n a ia => rintro f c ⟨e, k, f1, c1, ec, h, ha⟩; exact ⟨e, k, f1, c1, ec, h.fr hk (by decide) (by decide), ia ha⟩
  | app a d ia id => rintro f c ⟨e, k1, k2, k3, f1, c1, f2, c2, sg, pg, ec, h1, h2, h3, ha, hd⟩; exact ⟨e, k1, k2, k3, f1, c1, f2, c2, sg, pg, ec, h1.fr hk (by decide) (by decide), hk.keep _ _ 114 (by decide) (by decide) h2, h3.fr hk (by decide) (by decide), ia ha, id hd⟩
  | letE n a d ia id => rintro f c ⟨e, k1, k2, f1, c1, f2, c2, ec, h1, h2, ha, hd⟩; exact ⟨e, k1, k2, f1, c1, f2, c2, ec, h1.fr hk (by decide) (by decide), h2.fr hk (by decide) (by decide), ia ha, id hd⟩
  | ite a d g ia id ig => rintro f c ⟨e, k1, k2, k3, f1, c1, f2, c2, f3, c3, ec, h1, h2, h3, ha, hd, hg⟩; exact ⟨e, k1, k2, k3, f1, c1, f2, c2, f3, c3, ec, h1.fr hk (by decide) (by decide), h2.fr hk (by decide) (by decide), h3.fr hk (by decide) (by decide), ia ha, id hd, ig hg⟩
  | nil => rintro f c h; exact h
  | un op a ia => rintro f c ⟨eo, e, k1, k2, f1, c1, ec, h1, h2, ha⟩; exact ⟨eo, e, k1, k2, f1, c1, ec, h1.fr hk (by decide) (by decide), h2.fr hk (by decide) (by decide), ia ha⟩
  | bin op a d ia id =>
    rintro f c (⟨eo, e, k1, k2, f1, c1, f2, c2, ec, h1, h2, ha, hd⟩ | ⟨eo, e, k1, k2, k3, f1, c1, f2, c2, ec, h1, h2, h3, ha, hd⟩)
    · exact .inl ⟨eo, e, k1, k2, f1, c1, f2, c2, ec, h1.fr hk (by decide) (by decide), h2.fr hk (by decide) (by decide), ia ha, id hd⟩
    · exact .inr ⟨eo, e, k1, k2, k3, f1, c1, f2, c2, ec, h1.fr hk (by decide) (by decide), h2.fr hk (by decide) (by decide), h3.fr hk (by decide) (by decide), ia ha, id hd⟩
  | _ => rintro f c h; exact h.elim

/-- What the names stand for, by their levels. -/
def ScAt (w : World) (B : List Nat) (env : List Nat) (v : Value) : Prop :=
  (env = [] ∧ v = .slice none 0 0) ∨
  (∃ g cs cap, v = .slice (some ⟨g, 0, none⟩) env.length cap ∧ env ≠ [] ∧ env.length ≤ cap ∧ cap ≤ cs.size ∧ w.heap[g]? = some (.cells cs 139 (0, 0)) ∧ ∀ (j i : Nat), env[j]? = some i → ∃ a, B[i]? = some a ∧ cs[j]? = some (ptr a))
theorem ScAt.fr {b w w' B B' env v} (h : ScAt w B env v) (hk : FP b w w') (hB : Ext B B') : ScAt w' B' env v := by
  rcases h with h | ⟨g, cs, cap, e, hn, h1, h2, hh, ha⟩
  · exact .inl h
  · refine .inr ⟨g, cs, cap, e, hn, h1, h2, hk.keep _ _ 139 (by decide) (by decide) hh, fun j i hj => ?_⟩
    obtain ⟨a, h3, h4⟩ := ha j i hj
    exact ⟨a, hB _ _ h3, h4⟩
theorem ScAt.shape {w B env v} (h : ScAt w B env v) : ∃ o cap, v = .slice o env.length cap := by
  rcases h with ⟨rfl, rfl⟩ | ⟨g, cs, cap, e, _⟩
  · exact ⟨none, 0, rfl⟩
  · exact ⟨_, _, e⟩

/-- How deep names are given within. -/
def dep : T → Nat
  | .letE _ a d => 1 + max (dep a) (dep d)
  | .fn _ a => 1 + dep a
  | .ite a d g => max (dep a) (max (dep d) (dep g))
  | .app a d => max (dep a) (dep d)
  | .un _ a => dep a
  | .bin _ a d => max (dep a) (dep d)
  | _ => 0

def VP (st : Nat) (w : World) (B : List Nat) : V → Value → Prop
  | .num n, v => v = .iface 134 (.int .i64 n)
  | .fn x env, v => env.length + 1 + dep x ≤ 1000 ∧ ∃ k1 k2 f1 c1 sc, v = .iface 196 (fnv 131 #[ptr k1, ptr k2]) ∧ Is1 w k1 (fnv f1 c1) 118 ∧ Is1 w k2 sc 192 ∧ CodeAt st w x f1 c1 ∧ ScAt w B env sc
  | .nil, v => v = .iface 141 (.agg #[.pointer none, .pointer none])
  | .cons i j, v => ∃ a c, v = .iface 141 (.agg #[ptr a, ptr c]) ∧ B[i]? = some a ∧ B[j]? = some c
theorem VP.fr {st b w w' B B'} (hk : FP b w w') (hB : Ext B B') {v : V} {x : Value} (h : VP st w B v x) : VP st w' B' v x := by
  cases v with
  | num n => exact h
  | fn y env => obtain ⟨hd, k1, k2, f1, c1, sc, e, h1, h2, h3, h4⟩ := h; exact ⟨hd, k1, k2, f1, c1, sc, e, h1.fr hk (by decide) (by decide), h2.fr hk (by decide) (by decide), h3.fr hk, h4.fr hk hB⟩
  | nil => exact h
  | cons i j => obtain ⟨a, c, e, h1, h2⟩ := h; exact ⟨a, c, e, hB _ _ h1, hB _ _ h2⟩
theorem VP.shape {st w B v x} (h : VP st w B v x) : ∃ T y, x = .iface T y := by
  cases v with
  | num n => exact ⟨_, _, h⟩
  | fn y env => obtain ⟨_, k1, k2, f1, c1, sc, e, _⟩ := h; exact ⟨_, _, e⟩
  | nil => exact ⟨_, _, h⟩
  | cons i j => obtain ⟨a, c, e, _⟩ := h; exact ⟨_, _, e⟩

def HdAt (st : Nat) (w : World) (B : List Nat) : C → Nat → Prop
  | .wait x env, a => env.length + dep x ≤ 1000 ∧ ∃ f c sc, w.heap[a]? = some (.cells #[.int .i64 0, fnv f c, sc, .nilIface] 194 (0, 0)) ∧ CodeAt st w x f c ∧ ScAt w B env sc
  | .busy, a => ∃ x y z, w.heap[a]? = some (.cells #[.int .i64 1, x, y, z] 194 (0, 0))
  | .known v, a => ∃ x y z, w.heap[a]? = some (.cells #[.int .i64 2, x, y, z] 194 (0, 0)) ∧ VP st w B v z
theorem HdAt.fr {st b w w' B B'} (hk : FP b w w') (hB : Ext B B') {c : C} {a : Nat} (h : HdAt st w B c a) (he : w'.heap[a]? = w.heap[a]?) : HdAt st w' B' c a := by
  cases c with
  | wait x env => obtain ⟨hd, f, c, sc, hh, h1, h2⟩ := h; exact ⟨hd, f, c, sc, he.trans hh, h1.fr hk, h2.fr hk hB⟩
  | busy => obtain ⟨x, y, z, hh⟩ := h; exact ⟨x, y, z, he.trans hh⟩
  | known v => obtain ⟨x, y, z, hh, hv⟩ := h; exact ⟨x, y, z, he.trans hh, hv.fr hk hB⟩
theorem HdAt.cells {st w B c a} (h : HdAt st w B c a) : ∃ s x y z, w.heap[a]? = some (.cells #[s, x, y, z] 194 (0, 0)) := by
  cases c with
  | wait x env => obtain ⟨_, f, c, sc, hh, _⟩ := h; exact ⟨_, _, _, _, hh⟩
  | busy => obtain ⟨x, y, z, hh⟩ := h; exact ⟨_, _, _, _, hh⟩
  | known v => obtain ⟨x, y, z, hh, _⟩ := h; exact ⟨_, _, _, _, hh⟩

/-- The steps' block. -/
def SB (w : World) (st : Nat) (L n : Int) : Prop := w.heap[st]? = some (.cells #[.int .i64 L, .int .i64 n] 78 (0, 0))
theorem SB.cells {w st L n} (h : SB w st L n) : w.cell? ⟨st, 0, none⟩ = some (.int .i64 L) ∧ w.cell? ⟨st, 1, none⟩ = some (.int .i64 n) ∧ (∀ o, w.frozen? ⟨st, o, none⟩ = false) ∧ st < w.heap.size := by
  unfold SB at h
  refine ⟨?_, ?_, fun o => ?_, heap_lt h⟩
  all_goals simp [World.cell?, World.frozen?, h]

structure PE (b : Nat) (w : World) (B : List Nat) (st L : Nat) (S : E) : Prop where
  steps : SB w st L S.steps
  len : B.length = S.heap.length
  hd : ∀ (i : Nat) (c : C) (a : Nat), S.heap[i]? = some c → B[i]? = some a → HdAt st w B c a
  inj : ∀ (i j a : Nat), B[i]? = some a → B[j]? = some a → i = j
  lo : ∀ a ∈ B, b ≤ a
  slo : b ≤ st
  lim : L ≤ 500

theorem PE.blt {b w B st L S} (h : PE b w B st L S) : b ≤ w.heap.size := Nat.le_trans h.slo (Nat.le_of_lt (heap_lt h.steps))
theorem PE.grown {b w w' B st L S} (h : PE b w B st L S) (hg : w.grownBy w' none) : PE b w' B st L S := by
  have hk : FP b w w' := Fr.grown h.blt hg
  refine ⟨?_, h.len, fun i c a h1 h2 => ?_, h.inj, h.lo, h.slo, h.lim⟩
  · have := h.steps
    unfold SB at this ⊢
    rw [hg.block st (heap_lt this) (by simp)]; exact this
  · have ht := h.hd i c a h1 h2
    obtain ⟨s, x, y, z, hh⟩ := ht.cells
    exact ht.fr hk (Ext.refl _) (hg.block a (heap_lt hh) (by simp))
theorem PE.ne {b w B st L S} (h : PE b w B st L S) {i a : Nat} (hi : B[i]? = some a) : st ≠ a := by
  rintro rfl
  have hw := h.steps
  unfold SB at hw
  have hi' := (List.getElem?_eq_some_iff.1 hi).1
  obtain ⟨s, x, y, z, hh⟩ := (h.hd i _ st (List.getElem?_eq_getElem (by rw [← h.len]; exact hi')) hi).cells
  rw [hw] at hh
  simp at hh
theorem PE.more {b w w' B st L S} (h : PE b w B st L S) (hg : w.grownBy w' none) (c : C) (a : Nat) (ha : w.heap.size ≤ a) (hc : HdAt st w' (B ++ [a]) c a) : PE b w' (B ++ [a]) st L ⟨S.heap ++ [c], S.steps⟩ := by
  have h' := h.grown hg
  have hk : FP b w w' := Fr.grown h.blt hg
  refine ⟨h'.steps, by simp [h.len], fun i d x h1 h2 => ?_, fun i j x h1 h2 => ?_, fun x hx => ?_, h.slo, h.lim⟩
  · by_cases hi : i < B.length
    · rw [List.getElem?_append_left (by rw [← h.len]; exact hi)] at h1
      rw [List.getElem?_append_left hi] at h2
      have ht := h.hd i d x h1 h2
      obtain ⟨s, y, z, u, hh⟩ := ht.cells
      exact ht.fr hk (Ext.app _ _) (hg.block x (heap_lt hh) (by simp))
    · have hi' : i = B.length := by
        have := (List.getElem?_eq_some_iff.1 h2).1
        simp at this; omega
      subst hi'
      rw [h.len] at h1
      simp at h1 h2
      subst h1; subst h2; exact hc
  · have key : ∀ (i : Nat), (B ++ [a])[i]? = some x → (i < B.length ∧ B[i]? = some x ∧ x < w.heap.size) ∨ (i = B.length ∧ x = a) := fun i hx => by
      by_cases hi : i < B.length
      · rw [List.getElem?_append_left hi] at hx
        obtain ⟨s, y, z, u, hh⟩ := (h.hd i _ x (List.getElem?_eq_getElem (by rw [← h.len]; exact hi)) hx).cells
        exact .inl ⟨hi, hx, heap_lt hh⟩
      · have := (List.getElem?_eq_some_iff.1 hx).1
        simp at this
        have e : i = B.length := by omega
        subst e
        simp at hx
        exact .inr ⟨rfl, hx.symm⟩
    rcases key i h1 with ⟨hi, e1, l1⟩ | ⟨e1, rfl⟩ <;> rcases key j h2 with ⟨hj, e2, l2⟩ | ⟨e2, e3⟩
    · exact h.inj i j x e1 e2
    · omega
    · omega
    · omega
  · rcases List.mem_append.1 hx with hx | hx
    · exact h.lo x hx
    · rw [List.mem_singleton.1 hx]; exact Nat.le_trans h.blt ha
theorem PE.more2 {b w w' B st L S} (h : PE b w B st L S) (hg : w.grownBy w' none) (c1 c2 : C) (a1 a2 : Nat) (ha1 : w.heap.size ≤ a1) (ha2 : w.heap.size ≤ a2) (hne : a1 ≠ a2) (hc1 : HdAt st w' (B ++ [a1, a2]) c1 a1) (hc2 : HdAt st w' (B ++ [a1, a2]) c2 a2) : PE b w' (B ++ [a1, a2]) st L ⟨S.heap ++ [c1, c2], S.steps⟩ := by
  have h' := h.grown hg
  have hk : FP b w w' := Fr.grown h.blt hg
  have key : ∀ (i x : Nat), (B ++ [a1, a2])[i]? = some x → (i < B.length ∧ B[i]? = some x ∧ x < w.heap.size) ∨ (i = B.length ∧ x = a1) ∨ (i = B.length + 1 ∧ x = a2) := fun i x hx => by
    by_cases hi : i < B.length
    · rw [List.getElem?_append_left hi] at hx
      obtain ⟨s, y, z, u, hh⟩ := (h.hd i _ x (List.getElem?_eq_getElem (by rw [← h.len]; exact hi)) hx).cells
      exact .inl ⟨hi, hx, heap_lt hh⟩
    · have hl := (List.getElem?_eq_some_iff.1 hx).1
      simp at hl
      rw [List.getElem?_append_right (by omega)] at hx
      have : i - B.length = 0 ∨ i - B.length = 1 := by omega
      rcases this with e | e
      · rw [e] at hx; simp at hx; exact .inr (.inl ⟨by omega, hx.symm⟩)
      · rw [e] at hx; simp at hx; exact .inr (.inr ⟨by omega, hx.symm⟩)
  refine ⟨h'.steps, by simp [h.len], fun i d x h1 h2 => ?_, fun i j x h1 h2 => ?_, fun x hx => ?_, h.slo, h.lim⟩
  · rcases key i x h2 with ⟨hi, e1, l1⟩ | ⟨e1, rfl⟩ | ⟨e1, rfl⟩
    · rw [List.getElem?_append_left (by rw [← h.len]; exact hi)] at h1
      have ht := h.hd i d x h1 e1
      obtain ⟨s, y, z, u, hh⟩ := ht.cells
      exact ht.fr hk (Ext.app _ _) (hg.block x (heap_lt hh) (by simp))
    · subst e1
      rw [h.len] at h1
      simp at h1
      subst h1; exact hc1
    · subst e1
      rw [h.len] at h1
      simp at h1
      subst h1; exact hc2
  · rcases key i x h1 with ⟨hi, e1, l1⟩ | ⟨e1, q1⟩ | ⟨e1, q1⟩ <;> rcases key j x h2 with ⟨hj, e2, l2⟩ | ⟨e2, q2⟩ | ⟨e2, q2⟩
    · exact h.inj i j x e1 e2
    all_goals omega
  · rcases List.mem_append.1 hx with hx | hx
    · exact h.lo x hx
    · have hb := h.blt
      simp at hx
      rcases hx with rfl | rfl <;> omega
theorem PE.turn {b w w' B st L S} (h : PE b w B st L S) (hk : FP b w w') {i a : Nat} (hi : B[i]? = some a) (hb : ∀ k, k ≠ a → k < w.heap.size → w'.heap[k]? = w.heap[k]?) (c : C) (hc : HdAt st w' B c a) : PE b w' B st L ⟨S.heap.set i c, S.steps⟩ := by
  have hw := h.ne hi
  refine ⟨?_, by simp [h.len], fun j d x h1 h2 => ?_, h.inj, h.lo, h.slo, h.lim⟩
  · have := h.steps
    unfold SB at this ⊢
    rw [hb st hw (heap_lt this)]; exact this
  · by_cases hj : j = i
    · subst hj
      rw [hi] at h2
      cases h2
      have hl := (List.getElem?_eq_some_iff.1 hi).1
      rw [List.getElem?_set_self (by rw [← h.len]; exact hl)] at h1
      cases h1
      exact hc
    · rw [List.getElem?_set_ne (by omega)] at h1
      have ht := h.hd j d x h1 h2
      have hx : x ≠ a := by rintro rfl; exact hj (h.inj _ _ _ h2 hi)
      obtain ⟨s, y, z, u, hh⟩ := ht.cells
      exact ht.fr hk (Ext.refl _) (hb x hx (heap_lt hh))
theorem PE.stepped {b w B st L S} (h : PE b w B st L S) : PE b (w.setCell ⟨st, 1, none⟩ (.int .i64 ((S.steps : Int) + 1))) B st L ⟨S.heap, S.steps + 1⟩ := by
  have hk : FP b w (w.setCell ⟨st, 1, none⟩ (.int .i64 ((S.steps : Int) + 1))) := Fr.set h.steps (.inr rfl) h.slo _ _
  refine ⟨?_, h.len, fun i c a h1 h2 => ?_, h.inj, h.lo, h.slo, h.lim⟩
  · have := RB.set h.steps 1 (.int .i64 ((S.steps : Int) + 1))
    unfold SB
    rw [this]; rfl
  · exact (h.hd i c a h1 h2).fr hk (Ext.refl _) (Below.heap_setCell _ _ _ _ (by have := h.ne h2; show a ≠ st; omega))

/-- What a fault leaves: how many steps were counted. -/
def oops (z : Int) : List PanicEntry := [{ v := flt z 0, recovered := false }]
def GP (b : Nat) (w : World) (B : List Nat) (st L : Nat) (r : R × E) (e : Ending) (w' : World) : Prop :=
  (∃ v B' x, r.1 = .ok v ∧ e = .returned x ∧ FP b w w' ∧ Ext B B' ∧ PE b w' B' st L r.2 ∧ VP st w' B' v x) ∨
  (∃ z, r.1 = .err z ∧ e = .panicked (oops z) ∧ Below b w w' ∧ SB w' st L r.2.steps)
def GPV (b : Nat) (w : World) (B : List Nat) (st L : Nat) (v : V) (S : E) (e : Ending) (w' : World) : Prop :=
  ∃ B' T x, e = .returned (.iface T x) ∧ FP b w w' ∧ Ext B B' ∧ PE b w' B' st L S ∧ VP st w' B' v (.iface T x)
def GPX (b : Nat) (w : World) (st L : Nat) (z : Int) (m : Nat) (e : Ending) (w' : World) : Prop :=
  e = .panicked (oops z) ∧ Below b w w' ∧ SB w' st L m
theorem GP.v {b w B st L r v e w'} (hr : r.1 = .ok v) (h : GP b w B st L r e w') : GPV b w B st L v r.2 e w' := by
  rcases h with ⟨v', B', x, h1, h2, h3, h4, h5, h6⟩ | ⟨z, h1, _⟩
  · rw [hr] at h1
    cases h1
    obtain ⟨T, y, rfl⟩ := h6.shape
    exact ⟨B', T, y, h2, h3, h4, h5, h6⟩
  · rw [hr] at h1; cases h1
theorem GP.x {b w B st L r z e w'} (hr : r.1 = .err z) (h : GP b w B st L r e w') : GPX b w st L z r.2.steps e w' := by
  rcases h with ⟨v', B', x, h1, h2, h3, h4, h5, h6⟩ | ⟨z, h1, h2, h3, h4⟩
  · rw [hr] at h1; cases h1
  · rw [hr] at h1
    cases h1
    exact ⟨h2, h3, h4⟩
theorem GPV.got {b w B st L v S e w'} (h : GPV b w B st L v S e w') : GP b w B st L (.ok v, S) e w' := by
  obtain ⟨B', T, x, rfl, hk, hB, h1, hv⟩ := h
  exact .inl ⟨v, B', _, rfl, rfl, hk, hB, h1, hv⟩
theorem GPX.got {b w B st L z S e w'} (h : GPX b w st L z S.steps e w') : GP b w B st L (.err z, S) e w' := by
  obtain ⟨rfl, hk, h1⟩ := h
  exact .inr ⟨z, rfl, rfl, hk, h1⟩

def CC (n : Nat) : Prop := ∀ (L : Nat) (x : T) (env : List Nat) (S : E) (r : R × E) (b : Nat) (w : World) (B : List Nat) (st f : Nat) (c : Array Value) (sc : Value), ev L n (.need x env) S = some r → PE b w B st L S → CodeAt st w x f c → ScAt w B env sc → env.length + dep x ≤ 1000 →
  Calls Tryz.prog f (#[sc] ++ c) w (GP b w B st L r)
def CH (n : Nat) : Prop := ∀ (L i : Nat) (S : E) (r : R × E) (b : Nat) (w : World) (B : List Nat) (st a : Nat), ev L n (.force i) S = some r → PE b w B st L S → B[i]? = some a →
  Calls Tryz.prog 98 #[ptr a] w (GP b w B st L r)
end Go.Proofs.YtjjlgjmebnkdjaaGreatDoor

namespace Go.Proofs.YtjjlgjmebnkdjaaGreatDoor
open Go Go.Proofs Go.RowKit Skein

def lw : List ByteArray := [⟨#[91]⟩, ⟨#[58]⟩, ⟨#[104, 101, 97, 100]⟩, ⟨#[116, 97, 105, 108]⟩, ⟨#[110, 117, 108, 108]⟩]
def NoSub (s : ByteArray) : Prop := ∀ (a : Nat) (x : ByteArray), x ∈ lw → a + x.size ≤ s.size → s.extract a (a + x.size) ≠ x
def NoTok (s : ByteArray) : Prop := ∀ i, i ≤ s.size → (tok s i).text ≠ ⟨#[91, 93]⟩ ∧ (tok s i).text ≠ ⟨#[58]⟩ ∧ (tok s i).text ≠ ⟨#[104, 101, 97, 100]⟩ ∧ (tok s i).text ≠ ⟨#[116, 97, 105, 108]⟩ ∧ (tok s i).text ≠ ⟨#[110, 117, 108, 108]⟩

theorem tok_cut (s : ByteArray) (i : Nat) (h : i ≤ s.size) : (tok s i).text = ⟨#[]⟩ ∨ ∃ a b, a ≤ b ∧ b ≤ s.size ∧ (tok s i).text = s.extract a b := by
  have h1 := skip_le s i h
  have r1 := runLen_le s false (skip s i) h1
  have r2 := runLen_le s true (skip s i) h1
  unfold tok tokAt
  split
  · rename_i hlt
    split
    · split
      · exact .inl rfl
      · exact .inr ⟨_, _, by omega, r1, rfl⟩
    · split
      · split
        · exact .inl rfl
        · split
          · exact .inr ⟨_, _, by omega, r2, rfl⟩
          · exact .inr ⟨_, _, by omega, r2, rfl⟩
      · split
        · split
          · split
            · exact .inr ⟨_, _, by omega, by omega, rfl⟩
            · exact .inl rfl
          · exact .inl rfl
        · split
          · exact .inr ⟨_, _, by omega, by omega, rfl⟩
          · exact .inl rfl
  · exact .inl rfl

theorem tok_not {s : ByteArray} (hN : NoSub s) {i : Nat} (hi : i ≤ s.size) (x : ByteArray) (hx : x ∈ lw) (hp : 0 < x.size) : (tok s i).text ≠ x := by
  intro e
  rcases tok_cut s i hi with h | ⟨a, b, hab, hb, h⟩
  · rw [e] at h; rw [h] at hp; exact absurd hp (by decide)
  · rw [e] at h
    have hs : x.size = b - a := by rw [h, ByteArray.size_extract]; omega
    refine hN a x hx (by omega) ?_
    rw [show a + x.size = b by omega]
    exact h.symm

theorem noTok_of {s : ByteArray} (hN : NoSub s) : NoTok s := by
  intro i hi
  refine ⟨fun e => ?_, tok_not hN hi _ (by simp [lw]) (by decide), tok_not hN hi _ (by simp [lw]) (by decide), tok_not hN hi _ (by simp [lw]) (by decide), tok_not hN hi _ (by simp [lw]) (by decide)⟩
  rcases tok_cut s i hi with h | ⟨a, b, hab, hb, h⟩
  · rw [e] at h; cases h
  · rw [e] at h
    have hs : (2 : Nat) = b - a := by
      have : (ByteArray.mk #[91, 93]).size = (s.extract a b).size := by rw [h]
      rw [ByteArray.size_extract] at this
      have e2 : (ByteArray.mk #[91, 93]).size = 2 := rfl
      omega
    refine hN a ⟨#[91]⟩ (by simp [lw]) (by show a + 1 ≤ s.size; omega) ?_
    show s.extract a (a + 1) = _
    have e3 : s.extract a (a + 1) = (s.extract a b).extract 0 1 := by
      rw [ByteArray.extract_extract]
      congr 1
      omega
    rw [e3, ← h]
    rfl

def Ok2 : Nat → T → Prop
  | d, .var i => i < d
  | d, .letE n a b => n = d ∧ Ok2 (d + 1) a ∧ Ok2 (d + 1) b
  | d, .fn n a => n = d ∧ Ok2 (d + 1) a
  | d, .ite a b c => Ok2 d a ∧ Ok2 d b ∧ Ok2 d c
  | d, .app a b => Ok2 d a ∧ Ok2 d b
  | _, .un _ _ => False
  | _, .nil => False
  | d, .bin op a b => op ≠ 58 ∧ Ok2 d a ∧ Ok2 d b
  | _, _ => True
def acc2 (d : Nat) : NT → Prop
  | .sumL a => Ok2 d a | .prodL a => Ok2 d a | .useL a => Ok2 d a | _ => True

theorem tidy_of : ∀ (t : T) (d : Nat), Clean t → Ok2 d t → Tidy d t := by
  intro t
  induction t with
  | junk => intro d h; exact h.elim
  | free => intro d h; exact h.elim
  | nil => intro d _ h; exact h.elim
  | num n => intro d _ _; trivial
  | var n => intro d _ h; exact h
  | letE n a b ia ib => rintro d ⟨_, ha, hb⟩ ⟨e, ka, kb⟩; exact ⟨e, ia _ ha ka, ib _ hb kb⟩
  | fn n a ia => rintro d ⟨_, ha⟩ ⟨e, ka⟩; exact ⟨e, ia _ ha ka⟩
  | ite a b c ia ib ic => rintro d ⟨ha, hb, hc⟩ ⟨ka, kb, kc⟩; exact ⟨ia _ ha ka, ib _ hb kb, ic _ hc kc⟩
  | app a b ia ib => rintro d ⟨ha, hb⟩ ⟨ka, kb⟩; exact ⟨ia _ ha ka, ib _ hb kb⟩
  | un op a _ => intro d _ h; exact h.elim
  | bin op a b ia ib =>
    rintro d ⟨ho, ha, hb⟩ ⟨_, ka, kb⟩
    refine ⟨?_, ia _ ha ka, ib _ hb kb⟩
    rcases ho with rfl | rfl | rfl | rfl | rfl | rfl <;> simp
theorem nls_of : ∀ (t : T) (d : Nat), Ok2 d t → Nls t := by
  intro t
  induction t with
  | junk => exact fun _ _ => trivial
  | free => exact fun _ _ => trivial
  | nil => exact fun _ h => h.elim
  | num n => exact fun _ _ => trivial
  | var n => exact fun _ _ => trivial
  | letE n a b ia ib => exact fun _ h => ⟨ia _ h.2.1, ib _ h.2.2⟩
  | fn n a ia => exact fun _ h => ia _ h.2
  | ite a b c ia ib ic => exact fun _ h => ⟨ia _ h.1, ib _ h.2.1, ic _ h.2.2⟩
  | app a b ia ib => exact fun _ h => ⟨ia _ h.1, ib _ h.2⟩
  | un op a _ => exact fun _ h => h.elim
  | bin op a b ia ib => exact fun _ h => ⟨by simpa using h.1, ia _ h.2.1, ib _ h.2.2⟩
theorem small_of : ∀ (t : T), Clean t → Small t := by
  intro t
  induction t with
  | num n => exact fun h => h
  | letE n a b ia ib => rintro ⟨_, ha, hb⟩; exact ⟨ia ha, ib hb⟩
  | fn n a ia => rintro ⟨_, ha⟩; exact ia ha
  | ite a b c ia ib ic => rintro ⟨ha, hb, hc⟩; exact ⟨ia ha, ib hb, ic hc⟩
  | app a b ia ib => rintro ⟨ha, hb⟩; exact ⟨ia ha, ib hb⟩
  | un op a ia => rintro ⟨_, ha⟩; exact ia ha
  | bin op a b ia ib => rintro ⟨_, ha, hb⟩; exact ⟨ia ha, ib hb⟩
  | _ => intro _; trivial
theorem dep_le : ∀ (t : T), dep t ≤ nodes t := by
  intro t
  induction t with
  | letE n a b ia ib => simp only [dep, nodes]; omega
  | fn n a ia => simp only [dep, nodes]; omega
  | ite a b c ia ib ic => simp only [dep, nodes]; omega
  | app a b ia ib => simp only [dep, nodes]; omega
  | un op a ia => simp only [dep, nodes]; omega
  | bin op a b ia ib => simp only [dep, nodes]; omega
  | _ => simp [dep]

theorem has_text {m : M} {x : ByteArray} (h : m.has x = true) : m.tok.text = x := by
  unfold M.has at h
  simp only [Bool.and_eq_true] at h
  exact eqb_iff.1 h.2

theorem PM_ok2 (s : ByteArray) (hN : NoTok s) : ∀ (n : Nat) (nt : NT) (m : M) (r : T × M), PM s n nt m = some r → Inv s m → acc2 m.given.length nt → Ok2 m.given.length r.1 := by
  intro n
  induction n with
  | zero => intro nt m r h; simp [PM] at h
  | succ n ih =>
    intro nt m r h hi ha
    obtain ⟨i0, hi0, ht0⟩ := hi.ex
    have hno := hN i0 hi0
    rw [← ht0] at hno
    have op_ne : ∀ {m : M}, m.has ⟨#[61]⟩ = true ∨ m.has ⟨#[60]⟩ = true ∨ m.has ⟨#[43]⟩ = true ∨ m.has ⟨#[45]⟩ = true → opOf m.tok.text ≠ 58 := by
      rintro m (h | h | h | h)
      all_goals rw [opOf_has h]; decide
    cases nt with
    | expr =>
      simp only [PM] at h
      split at h
      · cases h; trivial
      split at h
      · obtain ⟨r1, h1, h⟩ := Option.bind_eq_some_iff.1 h
        obtain ⟨q, h2, h⟩ := Option.bind_eq_some_iff.1 h
        cases h
        have k1 := PM_keeps s n _ _ _ h1
        have a := ih _ _ _ h1 hi.adv.gives.want.push trivial
        have b := ih _ _ _ h2 (k1.1 hi.adv.gives.want.push).want trivial
        simp only [want_given, k1.2, push_given, gives_given, adv_given, List.length_append, List.length_singleton] at a b
        exact ⟨rfl, a, b⟩
      split at h
      · obtain ⟨r1, h1, h⟩ := Option.bind_eq_some_iff.1 h
        cases h
        have a := ih _ _ _ h1 hi.adv.gives.want.push trivial
        simp only [want_given, push_given, gives_given, adv_given, List.length_append, List.length_singleton] at a
        exact ⟨rfl, a⟩
      split at h
      · obtain ⟨r1, h1, h⟩ := Option.bind_eq_some_iff.1 h
        obtain ⟨q, h2, h⟩ := Option.bind_eq_some_iff.1 h
        obtain ⟨p, h3, h⟩ := Option.bind_eq_some_iff.1 h
        cases h
        have k1 := PM_keeps s n _ _ _ h1
        have k2 := PM_keeps s n _ _ _ h2
        have i1 := k1.1 hi.adv
        have i2 := k2.1 i1.want
        have a := ih _ _ _ h1 hi.adv trivial
        have b := ih _ _ _ h2 i1.want trivial
        have c := ih _ _ _ h3 i2.want trivial
        simp only [want_given, k1.2, k2.2, adv_given] at a b c
        exact ⟨a, b, c⟩
      · exact ih _ _ _ h hi trivial
    | list =>
      simp only [PM] at h
      split at h
      · cases h; trivial
      obtain ⟨r1, h1, h⟩ := Option.bind_eq_some_iff.1 h
      have a := ih _ _ _ h1 hi trivial
      split at h
      · rename_i hh
        obtain ⟨j, hj, e⟩ := ((PM_keeps s n _ _ _ h1).1 hi).ex
        have := (hN j hj).2.1
        rw [← e] at this
        exact absurd (has_text hh) this
      · cases h; exact a
    | order =>
      simp only [PM] at h
      split at h
      · cases h; trivial
      obtain ⟨r1, h1, h⟩ := Option.bind_eq_some_iff.1 h
      have k1 := PM_keeps s n _ _ _ h1
      have a := ih _ _ _ h1 hi trivial
      split at h
      · rename_i hh
        obtain ⟨q, h2, h⟩ := Option.bind_eq_some_iff.1 h
        cases h
        have b := ih _ _ _ h2 (k1.1 hi).adv trivial
        simp only [k1.2, adv_given] at b
        rw [Bool.or_eq_true] at hh
        exact ⟨op_ne (by rcases hh with hh | hh <;> simp [hh]), a, b⟩
      · cases h; exact a
    | sum =>
      simp only [PM] at h
      split at h
      · cases h; trivial
      obtain ⟨r1, h1, h⟩ := Option.bind_eq_some_iff.1 h
      have k1 := PM_keeps s n _ _ _ h1
      have a := ih _ _ _ h1 hi trivial
      have b := ih _ _ _ h (k1.1 hi) (by rw [k1.2]; exact a)
      rw [k1.2] at b; exact b
    | sumL x =>
      simp only [PM] at h
      split at h
      · rename_i hh
        obtain ⟨r1, h1, h⟩ := Option.bind_eq_some_iff.1 h
        have k1 := PM_keeps s n _ _ _ h1
        have a := ih _ _ _ h1 hi.adv trivial
        simp only [adv_given] at a
        rw [Bool.or_eq_true] at hh
        have b := ih _ _ _ h (k1.1 hi.adv) (by rw [k1.2]; exact ⟨op_ne (by rcases hh with hh | hh <;> simp [hh]), ha, a⟩)
        rw [k1.2] at b; exact b
      · cases h; exact ha
    | prod =>
      simp only [PM] at h
      split at h
      · cases h; trivial
      obtain ⟨r1, h1, h⟩ := Option.bind_eq_some_iff.1 h
      have k1 := PM_keeps s n _ _ _ h1
      have a := ih _ _ _ h1 hi trivial
      have b := ih _ _ _ h (k1.1 hi) (by rw [k1.2]; exact a)
      rw [k1.2] at b; exact b
    | prodL x =>
      simp only [PM] at h
      split at h
      · obtain ⟨r1, h1, h⟩ := Option.bind_eq_some_iff.1 h
        have k1 := PM_keeps s n _ _ _ h1
        have a := ih _ _ _ h1 hi.adv trivial
        simp only [adv_given] at a
        have b := ih _ _ _ h (k1.1 hi.adv) (by rw [k1.2]; exact ⟨by decide, ha, a⟩)
        rw [k1.2] at b; exact b
      · cases h; exact ha
    | use =>
      simp only [PM] at h
      split at h
      · cases h; trivial
      obtain ⟨r1, h1, h⟩ := Option.bind_eq_some_iff.1 h
      have k1 := PM_keeps s n _ _ _ h1
      have a := ih _ _ _ h1 hi trivial
      have b := ih _ _ _ h (k1.1 hi) (by rw [k1.2]; exact a)
      rw [k1.2] at b; exact b
    | useL x =>
      simp only [PM] at h
      split at h
      · obtain ⟨r1, h1, h⟩ := Option.bind_eq_some_iff.1 h
        have k1 := PM_keeps s n _ _ _ h1
        have a := ih _ _ _ h1 hi trivial
        have b := ih _ _ _ h (k1.1 hi) (by rw [k1.2]; exact ⟨ha, a⟩)
        rw [k1.2] at b; exact b
      · cases h; exact ha
    | atom =>
      simp only [PM] at h
      split at h
      · rename_i hb
        split at h
        · cases h; trivial
        rename_i hk1
        split at h
        · rename_i hk
          cases h
          unfold named
          split
          · rename_i i he
            exact lastIdx_lt _ _ _ he
          · trivial
        rename_i hk2
        split at h
        · rename_i hq; exact absurd (eqb_iff.1 hq) hno.1
        rename_i hq1
        split at h
        · obtain ⟨r1, h1, h⟩ := Option.bind_eq_some_iff.1 h
          cases h
          have a := ih _ _ _ h1 hi.adv trivial
          simp only [adv_given] at a
          exact a
        · rename_i hq2
          exfalso
          unfold M.begins at hb
          simp only [Bool.and_eq_true, Bool.or_eq_true] at hb
          rcases hb.2 with (h3 | h3) | h3
          · exact hk1 h3
          · exact hk2 h3
          · unfold mem openers at h3
            simp only [List.any_cons, List.any_nil, Bool.or_false, Bool.or_eq_true, eqb_iff] at h3
            rcases h3 with h3 | h3 | h3 | h3 | h3
            · exact hno.1 h3.symm
            · exact hq2 (eqb_iff.2 h3.symm)
            · exact hno.2.2.1 h3.symm
            · exact hno.2.2.2.1 h3.symm
            · exact hno.2.2.2.2 h3.symm
      · cases h; trivial
end Go.Proofs.YtjjlgjmebnkdjaaGreatDoor
