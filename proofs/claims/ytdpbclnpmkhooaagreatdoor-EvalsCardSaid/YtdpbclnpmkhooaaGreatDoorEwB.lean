/-
  The document's walk: what lies in memory for thunks, names and values.
  The document's walk: fails, step, truth, number.
-/
import Derived.Test.YtdpbclnpmkhooaaGreatDoorRefD
import Derived.Test.YtdpbclnpmkhooaaGreatDoorEwA
namespace Go.Proofs.YtdpbclnpmkhooaaGreatDoor
open Go Go.Proofs Go.RowKit Skein

/-- Blocks of two types may be written; all others stay. -/
structure Fr (d1 d2 b : Nat) (w w' : World) : Prop where
  below : Below b w w'
  keep : ∀ (k : Nat) (cs : Array Value) (T : TypeId), T ≠ d1 → T ≠ d2 → w.heap[k]? = some (.cells cs T (0, 0)) → w'.heap[k]? = some (.cells cs T (0, 0))

theorem heap_lt {w : World} {k : Nat} {o : Obj} (h : w.heap[k]? = some o) : k < w.heap.size := (Array.getElem?_eq_some_iff.1 h).1
theorem Fr.refl (d1 d2 b : Nat) (w : World) : Fr d1 d2 b w w := ⟨Below.refl _ _, fun _ _ _ _ _ h => h⟩
theorem Fr.trans {d1 d2 b : Nat} {w w1 w2 : World} (h : Fr d1 d2 b w w1) (k : Fr d1 d2 b w1 w2) : Fr d1 d2 b w w2 :=
  ⟨h.below.trans k.below, fun j cs T h1 h2 e => k.keep j cs T h1 h2 (h.keep j cs T h1 h2 e)⟩
theorem Fr.grown {d1 d2 b : Nat} {w w' : World} (hb : b ≤ w.heap.size) (h : w.grownBy w' none) : Fr d1 d2 b w w' :=
  ⟨⟨h.os, h.tape, h.output, h.size, fun k hk => h.block k (by omega) (by simp)⟩, fun k _ _ _ _ e => by rw [h.block k (heap_lt e) (by simp)]; exact e⟩
theorem Fr.alloc {d1 d2 b : Nat} {w : World} (hb : b ≤ w.heap.size) (o : Obj) : Fr d1 d2 b w (w.alloc o) := Fr.grown hb (grown_alloc (grown_refl _ _) o)
theorem Fr.set {d1 d2 b : Nat} {w : World} {a T : Nat} {cs : Array Value} (h : w.heap[a]? = some (.cells cs T (0, 0))) (hT : T = d1 ∨ T = d2) (hb : b ≤ a) (o : Nat) (v : Value) : Fr d1 d2 b w (w.setCell ⟨a, o, none⟩ v) :=
  ⟨(Below.refl b w).setCell hb v, fun k cs' T' h1 h2 e => by
    rw [Below.heap_setCell _ _ _ _ (by
      show k ≠ a
      rintro rfl
      rw [h] at e
      simp only [Option.some.injEq, Obj.cells.injEq] at e
      rcases hT with hT | hT <;> simp_all)]
    exact e⟩
theorem Fr.size {d1 d2 b : Nat} {w w' : World} (h : Fr d1 d2 b w w') : w.heap.size ≤ w'.heap.size := h.below.size
theorem Fr.drewN {d1 d2 b : Nat} {w w' : World} (h : Fr d1 d2 b w w') (n : Nat) : Fr d1 d2 b w (w'.drewN n) := ⟨⟨h.below.os, h.below.tape, h.below.output, h.below.size, h.below.block⟩, h.keep⟩
theorem Fr.drew {d1 d2 b : Nat} {w w' : World} (h : Fr d1 d2 b w w') : Fr d1 d2 b w w'.drew := ⟨⟨h.below.os, h.below.tape, h.below.output, h.below.size, h.below.block⟩, h.keep⟩

abbrev rv (k n : Int) (p q r s : Value) : Value := .agg #[.int .u8 k, .int .i64 n, p, q, r, s]
abbrev nilp : Value := .pointer none
abbrev ptr (a : Nat) : Value := .pointer (some ⟨a, 0, none⟩)

/- Nodes stay. -/
theorem IsN.fr {b w w' v op n x y z} (h : IsN b w v op n x y z) (hk : Fr 85 64 b w w') : IsN b w' v op n x y z := by
  obtain ⟨k, e, hb, hh⟩ := h
  exact ⟨k, e, hb, hk.keep k _ 82 (by decide) (by decide) hh⟩
theorem NodeAt.fr {b w w'} (hk : Fr 85 64 b w w') : ∀ (t : T) (v : Value), NodeAt b w t v → NodeAt b w' t v := by
  intro t
  induction t with
  | junk => exact fun v h => h
  | free => exact fun v h => h
  | nil => exact fun v h => IsN.fr h hk
  | num n => exact fun v h => IsN.fr h hk
  | var n => exact fun v h => IsN.fr h hk
  | letE n p q ip iq => rintro v ⟨x, y, h, hp, hq⟩; exact ⟨x, y, h.fr hk, ip _ hp, iq _ hq⟩
  | fn n p ip => rintro v ⟨x, h, hp⟩; exact ⟨x, h.fr hk, ip _ hp⟩
  | ite p q r ip iq ir => rintro v ⟨x, y, z, h, hp, hq, hr⟩; exact ⟨x, y, z, h.fr hk, ip _ hp, iq _ hq, ir _ hr⟩
  | app p q ip iq => rintro v ⟨x, y, h, hp, hq⟩; exact ⟨x, y, h.fr hk, ip _ hp, iq _ hq⟩
  | un op p ip => rintro v ⟨x, h, hp⟩; exact ⟨x, h.fr hk, ip _ hp⟩
  | bin op p q ip iq => rintro v ⟨x, y, h, hp, hq⟩; exact ⟨x, y, h.fr hk, ip _ hp, iq _ hq⟩

/-- Which block is which cell: those that are known stay. -/
def Ext (A A' : List Nat) : Prop := ∀ (i a : Nat), A[i]? = some a → A'[i]? = some a
theorem Ext.refl (A : List Nat) : Ext A A := fun _ _ h => h
theorem Ext.trans {A B C : List Nat} (h : Ext A B) (k : Ext B C) : Ext A C := fun i a e => k i a (h i a e)
theorem Ext.app (A B : List Nat) : Ext A (A ++ B) := fun i a e => by
  rw [List.getElem?_append_left (List.getElem?_eq_some_iff.1 e).1]; exact e
theorem Ext.mem {A B : List Nat} (h : Ext A B) {a : Nat} (ha : a ∈ A) : a ∈ B := by
  obtain ⟨i, hi, e⟩ := List.mem_iff_getElem.1 ha
  exact List.mem_of_getElem? (h i a (by rw [List.getElem?_eq_getElem hi, e]))

/-- What the names stand for, innermost first. -/
def NmR (w : World) (A : List Nat) : List Nat → Value → Prop
  | [], v => v = nilp
  | i :: r, v => ∃ k a up, v = ptr k ∧ A[i]? = some a ∧ w.heap[k]? = some (.cells #[.int .i64 r.length, ptr a, up] 87 (0, 0)) ∧ NmR w A r up
def NmAt (w : World) (A : List Nat) (env : List Nat) (v : Value) : Prop := NmR w A env.reverse v
theorem NmR.fr {b w w' A A'} (hk : Fr 85 64 b w w') (hA : Ext A A') : ∀ env v, NmR w A env v → NmR w' A' env v := by
  intro env
  induction env with
  | nil => exact fun v h => h
  | cons i r ih => rintro v ⟨k, a, up, e, ha, hh, hr⟩; exact ⟨k, a, up, e, hA _ _ ha, hk.keep _ _ 87 (by decide) (by decide) hh, ih _ hr⟩
theorem NmAt.fr {b w w' A A' env v} (h : NmAt w A env v) (hk : Fr 85 64 b w w') (hA : Ext A A') : NmAt w' A' env v := NmR.fr hk hA _ _ h
theorem NmR.ptr {w A env v} (h : NmR w A env v) : ∃ a, v = .pointer a := by
  cases env with
  | nil => exact ⟨none, h⟩
  | cons i r => obtain ⟨k, a, up, e, _⟩ := h; exact ⟨_, e⟩
theorem NmAt.ptr {w A env v} (h : NmAt w A env v) : ∃ a, v = .pointer a := NmR.ptr h
theorem NmAt.snoc {w A env i k a v} (h : NmAt w A env v) (ha : A[i]? = some a) (hh : w.heap[k]? = some (.cells #[.int .i64 env.length, Go.Proofs.YtdpbclnpmkhooaaGreatDoor.ptr a, v] 87 (0, 0))) : NmAt w A (env ++ [i]) (Go.Proofs.YtdpbclnpmkhooaaGreatDoor.ptr k) := by
  unfold NmAt
  rw [List.reverse_append]
  refine ⟨k, a, v, rfl, ha, ?_, h⟩
  have e : ([].append env.reverse).length = env.length := by simp
  rw [e]; exact hh

def VR (b : Nat) (w : World) (A : List Nat) : V → Value → Prop
  | .num n, v => v = rv 110 n nilp nilp nilp nilp
  | .nil, v => v = rv 101 0 nilp nilp nilp nilp
  | .fn x env, v => Tidy (env.length + 1) x ∧ ∃ p q, v = rv 102 env.length p q nilp nilp ∧ NodeAt b w x p ∧ NmAt w A env q
  | .cons i j, v => ∃ a c, A[i]? = some a ∧ A[j]? = some c ∧ v = rv 99 0 nilp nilp (ptr a) (ptr c)
theorem VR.fr {b w w' A A'} (hk : Fr 85 64 b w w') (hA : Ext A A') {v : V} {x : Value} (h : VR b w A v x) : VR b w' A' v x := by
  cases v with
  | num n => exact h
  | nil => exact h
  | fn y env => obtain ⟨ht, p, q, e, hp, hq⟩ := h; exact ⟨ht, p, q, e, NodeAt.fr hk _ _ hp, hq.fr hk hA⟩
  | cons i j => obtain ⟨a, c, h1, h2, e⟩ := h; exact ⟨a, c, hA _ _ h1, hA _ _ h2, e⟩

def thunk (p q : Value) (bu kn : Bool) (k n : Int) (p1 p2 p3 p4 : Value) : Array Value :=
  #[p, q, .bool bu, .bool kn, .int .u8 k, .int .i64 n, p1, p2, p3, p4]
def TkAt (b : Nat) (w : World) (A : List Nat) : C → Nat → Prop
  | .wait x env, a => Tidy env.length x ∧ ∃ p q, w.heap[a]? = some (.cells (thunk p q false false 0 0 nilp nilp nilp nilp) 85 (0, 0)) ∧ NodeAt b w x p ∧ NmAt w A env q
  | .busy, a => ∃ p q, w.heap[a]? = some (.cells (thunk p q true false 0 0 nilp nilp nilp nilp) 85 (0, 0))
  | .known v, a => ∃ p q k n p1 p2 p3 p4, w.heap[a]? = some (.cells (thunk p q false true k n p1 p2 p3 p4) 85 (0, 0)) ∧ VR b w A v (rv k n p1 p2 p3 p4)
theorem TkAt.fr {b w w' A A'} (hk : Fr 85 64 b w w') (hA : Ext A A') {c : C} {a : Nat} (h : TkAt b w A c a) (he : w'.heap[a]? = w.heap[a]?) : TkAt b w' A' c a := by
  cases c with
  | wait x env => obtain ⟨ht, p, q, hh, hp, hq⟩ := h; exact ⟨ht, p, q, he.trans hh, NodeAt.fr hk _ _ hp, hq.fr hk hA⟩
  | busy => obtain ⟨p, q, hh⟩ := h; exact ⟨p, q, he.trans hh⟩
  | known v => obtain ⟨p, q, k, n, p1, p2, p3, p4, hh, hv⟩ := h; exact ⟨p, q, k, n, p1, p2, p3, p4, he.trans hh, hv.fr hk hA⟩
theorem TkAt.cells {b w A c a} (h : TkAt b w A c a) : ∃ cs, w.heap[a]? = some (.cells cs 85 (0, 0)) ∧ cs.size = 10 := by
  cases c with
  | wait x env => obtain ⟨ht, p, q, hh, _⟩ := h; exact ⟨_, hh, rfl⟩
  | busy => obtain ⟨p, q, hh⟩ := h; exact ⟨_, hh, rfl⟩
  | known v => obtain ⟨p, q, k, n, p1, p2, p3, p4, hh, hv⟩ := h; exact ⟨_, hh, rfl⟩

/-- The walk's block. -/
def WB (w : World) (wb : Nat) (n L e : Int) : Prop := w.heap[wb]? = some (.cells #[.int .i64 n, .int .i64 L, .int .i64 e] 64 (0, 0))
theorem WB.cells {w wb n L e} (h : WB w wb n L e) : w.cell? ⟨wb, 0, none⟩ = some (.int .i64 n) ∧ w.cell? ⟨wb, 1, none⟩ = some (.int .i64 L) ∧ w.cell? ⟨wb, 2, none⟩ = some (.int .i64 e) ∧ (∀ o, w.frozen? ⟨wb, o, none⟩ = false) ∧ wb < w.heap.size := by
  unfold WB at h
  refine ⟨?_, ?_, ?_, fun o => ?_, heap_lt h⟩
  all_goals simp [World.cell?, World.frozen?, h]
theorem WB.grown {w w' wb n L e} (h : WB w wb n L e) (hg : w.grownBy w' none) : WB w' wb n L e := by
  unfold WB at h ⊢
  rw [hg.block wb (heap_lt h) (by simp)]; exact h

/-- All is well. -/
structure RE (b : Nat) (w : World) (A : List Nat) (wb L : Nat) (S : E) : Prop where
  walk : WB w wb S.steps L 0
  len : A.length = S.heap.length
  tk : ∀ (i : Nat) (c : C) (a : Nat), S.heap[i]? = some c → A[i]? = some a → TkAt b w A c a
  inj : ∀ (i j a : Nat), A[i]? = some a → A[j]? = some a → i = j
  lo : ∀ a ∈ A, b ≤ a
  wlo : b ≤ wb
  lim : L ≤ 500

/-- Something has gone wrong. -/
structure RX (b : Nat) (w : World) (A : List Nat) (wb L : Nat) (n : Nat) (e : Int) : Prop where
  walk : WB w wb n L e
  ne : e ≠ 0
  tk : ∀ a ∈ A, ∃ cs, w.heap[a]? = some (.cells cs 85 (0, 0)) ∧ cs.size = 10
  lo : ∀ a ∈ A, b ≤ a
  wlo : b ≤ wb

theorem RE.blt {b w A wb L S} (h : RE b w A wb L S) : b ≤ w.heap.size := Nat.le_trans h.wlo (Nat.le_of_lt (heap_lt h.walk))
theorem RX.blt {b w A wb L n e} (h : RX b w A wb L n e) : b ≤ w.heap.size := Nat.le_trans h.wlo (Nat.le_of_lt (heap_lt h.walk))
theorem RE.grown {b w w' A wb L S} (h : RE b w A wb L S) (hg : w.grownBy w' none) : RE b w' A wb L S := by
  have hk : Fr 85 64 b w w' := Fr.grown h.blt hg
  refine ⟨h.walk.grown hg, h.len, fun i c a h1 h2 => ?_, h.inj, h.lo, h.wlo, h.lim⟩
  have ht := h.tk i c a h1 h2
  obtain ⟨cs, hh, _⟩ := ht.cells
  exact ht.fr hk (Ext.refl _) (hg.block a (heap_lt hh) (by simp))
theorem RX.grown {b w w' A wb L n e} (h : RX b w A wb L n e) (hg : w.grownBy w' none) : RX b w' A wb L n e := by
  refine ⟨h.walk.grown hg, h.ne, fun a ha => ?_, h.lo, h.wlo⟩
  obtain ⟨cs, hh, hs⟩ := h.tk a ha
  exact ⟨cs, by rw [hg.block a (heap_lt hh) (by simp)]; exact hh, hs⟩
theorem RX.sub {b w A A' wb L n e} (h : RX b w A' wb L n e) (hA : Ext A A') : RX b w A wb L n e :=
  ⟨h.walk, h.ne, fun a ha => h.tk a (hA.mem ha), fun a ha => h.lo a (hA.mem ha), h.wlo⟩

/-- What an expression that is needed comes to. -/
def Got (b : Nat) (w : World) (A : List Nat) (wb L : Nat) (r : R × E) (e : Ending) (w' : World) : Prop :=
  Fr 85 64 b w w' ∧
  ((∃ v A' x, r.1 = .ok v ∧ e = .returned x ∧ Ext A A' ∧ RE b w' A' wb L r.2 ∧ VR b w' A' v x) ∨
   (∃ z k n a1 a2 a3 a4, r.1 = .err z ∧ e = .returned (rv k n (.pointer a1) (.pointer a2) (.pointer a3) (.pointer a4)) ∧ RX b w' A wb L r.2.steps z))
theorem VR.shape {b w A v x} (h : VR b w A v x) : ∃ k n a1 a2 a3 a4, x = rv k n (.pointer a1) (.pointer a2) (.pointer a3) (.pointer a4) := by
  cases v with
  | num n => exact ⟨_, _, _, _, _, _, h⟩
  | nil => exact ⟨_, _, _, _, _, _, h⟩
  | fn y env =>
    obtain ⟨ht, p, q, e, hp, hq⟩ := h
    obtain ⟨a1, rfl⟩ := NodeAt.ptr _ _ hp
    obtain ⟨a2, rfl⟩ := hq.ptr
    exact ⟨_, _, _, _, _, _, e⟩
  | cons i j => obtain ⟨a, c, h1, h2, e⟩ := h; exact ⟨_, _, _, _, _, _, e⟩

def CN (n : Nat) : Prop := ∀ (L : Nat) (x : T) (env : List Nat) (S : E) (r : R × E) (b : Nat) (w : World) (A : List Nat) (wb : Nat) (p q : Value), ev L n (.need x env) S = some r → RE b w A wb L S → Tidy env.length x → NodeAt b w x p → NmAt w A env q →
  Calls Tryz.prog 31 #[ptr wb, p, q] w (Got b w A wb L r)
def CF (n : Nat) : Prop := ∀ (L i : Nat) (S : E) (r : R × E) (b : Nat) (w : World) (A : List Nat) (wb a : Nat), ev L n (.force i) S = some r → RE b w A wb L S → A[i]? = some a →
  Calls Tryz.prog 47 #[ptr wb, ptr a] w (Got b w A wb L r)

/-- A new thunk, and what else is new. -/
theorem RE.more {b w w' A wb L S} (h : RE b w A wb L S) (hg : w.grownBy w' none) (c : C) (a : Nat) (ha : w.heap.size ≤ a) (hc : TkAt b w' (A ++ [a]) c a) : RE b w' (A ++ [a]) wb L ⟨S.heap ++ [c], S.steps⟩ := by
  have h' := h.grown hg
  have hk : Fr 85 64 b w w' := Fr.grown h.blt hg
  refine ⟨h'.walk, by simp [h.len], fun i d x h1 h2 => ?_, fun i j x h1 h2 => ?_, fun x hx => ?_, h.wlo, h.lim⟩
  · by_cases hi : i < A.length
    · rw [List.getElem?_append_left (by rw [← h.len]; exact hi)] at h1
      rw [List.getElem?_append_left hi] at h2
      have ht := h.tk i d x h1 h2
      obtain ⟨cs, hh, _⟩ := ht.cells
      exact ht.fr hk (Ext.app _ _) (hg.block x (heap_lt hh) (by simp))
    · have hi' : i = A.length := by
        have := (List.getElem?_eq_some_iff.1 h2).1
        simp at this; omega
      subst hi'
      rw [h.len] at h1
      simp at h1 h2
      subst h1; subst h2; exact hc
  · have key : ∀ (i : Nat), (A ++ [a])[i]? = some x → (i < A.length ∧ A[i]? = some x ∧ x < w.heap.size) ∨ (i = A.length ∧ x = a) := fun i hx => by
      by_cases hi : i < A.length
      · rw [List.getElem?_append_left hi] at hx
        obtain ⟨cs, hh, _⟩ := (h.tk i _ x (List.getElem?_eq_getElem (by rw [← h.len]; exact hi)) hx).cells
        exact .inl ⟨hi, hx, heap_lt hh⟩
      · have := (List.getElem?_eq_some_iff.1 hx).1
        simp at this
        have e : i = A.length := by omega
        subst e
        simp at hx
        exact .inr ⟨rfl, hx.symm⟩
    rcases key i h1 with ⟨hi, e1, l1⟩ | ⟨e1, rfl⟩ <;> rcases key j h2 with ⟨hj, e2, l2⟩ | ⟨e2, e3⟩
    · exact h.inj i j x e1 e2
    · omega
    · omega
    · omega
  · rcases List.mem_append.1 hx with hx | hx
    · exact h.lo x hx
    · rw [List.mem_singleton.1 hx]; exact Nat.le_trans h.blt ha

/-- One thunk turns. -/
theorem RE.turn {b w w' A wb L S} (h : RE b w A wb L S) (hk : Fr 85 64 b w w') {i a : Nat} (hi : A[i]? = some a) (hb : ∀ k, k ≠ a → k < w.heap.size → w'.heap[k]? = w.heap[k]?) (c : C) (hc : TkAt b w' A c a) : RE b w' A wb L ⟨S.heap.set i c, S.steps⟩ := by
  have hw : wb ≠ a := by
    rintro rfl
    have hw := h.walk
    unfold WB at hw
    have hi' := (List.getElem?_eq_some_iff.1 hi).1
    obtain ⟨cs, hh, _⟩ := (h.tk i _ wb (List.getElem?_eq_getElem (by rw [← h.len]; exact hi')) hi).cells
    rw [hw] at hh
    simp at hh
  refine ⟨?_, by simp [h.len], fun j d x h1 h2 => ?_, h.inj, h.lo, h.wlo, h.lim⟩
  · have := h.walk
    unfold WB at this ⊢
    rw [hb wb hw (heap_lt this)]; exact this
  · by_cases hj : j = i
    · subst hj
      rw [hi] at h2
      cases h2
      have hl := (List.getElem?_eq_some_iff.1 hi).1
      rw [List.getElem?_set_self (by rw [← h.len]; exact hl)] at h1
      cases h1
      exact hc
    · rw [List.getElem?_set_ne (by omega)] at h1
      have ht := h.tk j d x h1 h2
      have hx : x ≠ a := by rintro rfl; exact hj (h.inj _ _ _ h2 hi)
      obtain ⟨cs, hh, _⟩ := ht.cells
      exact ht.fr hk (Ext.refl _) (hb x hx (heap_lt hh))
theorem RE.ne {b w A wb L S} (h : RE b w A wb L S) {i a : Nat} (hi : A[i]? = some a) : wb ≠ a := by
  rintro rfl
  have hw := h.walk
  unfold WB at hw
  have hi' := (List.getElem?_eq_some_iff.1 hi).1
  obtain ⟨cs, hh, _⟩ := (h.tk i _ wb (List.getElem?_eq_getElem (by rw [← h.len]; exact hi')) hi).cells
  rw [hw] at hh
  simp at hh
theorem RE.fine {b w A wb L S} (h : RE b w A wb L S) : ∀ a ∈ A, ∃ cs, w.heap[a]? = some (.cells cs 85 (0, 0)) ∧ cs.size = 10 := by
  intro a ha
  obtain ⟨i, hi, e⟩ := List.mem_iff_getElem.1 ha
  exact (h.tk i _ a (List.getElem?_eq_getElem (by rw [← h.len]; exact hi)) (by rw [List.getElem?_eq_getElem hi, e])).cells
end Go.Proofs.YtdpbclnpmkhooaaGreatDoor

namespace Go.Proofs.YtdpbclnpmkhooaaGreatDoor
open Go Go.Proofs Go.RowKit Skein

theorem belowSame {b : Nat} {w w1 w2 : World} (h : Below b w w1) (e1 : w2.heap = w1.heap) (e2 : w2.os = w1.os) (e3 : w2.tape = w1.tape) (e4 : w2.output = w1.output) : Below b w w2 :=
  ⟨e2.trans h.os, e3.trans h.tape, e4.trans h.output, by rw [e1]; exact h.size, fun k hk => by rw [e1]; exact h.block k hk⟩
theorem grown_same {w w1 w2 : World} {r : Option Nat} (h : w.grownBy w1 r) (e1 : w2.heap = w1.heap) (e2 : w2.os = w1.os) (e3 : w2.tape = w1.tape) (e4 : w2.output = w1.output) : w.grownBy w2 r :=
  ⟨e2.trans h.os, e3.trans h.tape, e4.trans h.output, by rw [e1]; exact h.size, fun k hk hn => by rw [e1]; exact h.block k hk hn⟩
theorem Fr.same {d1 d2 b : Nat} {w w1 w2 : World} (h : Fr d1 d2 b w w1) (e1 : w2.heap = w1.heap) (e2 : w2.os = w1.os) (e3 : w2.tape = w1.tape) (e4 : w2.output = w1.output) : Fr d1 d2 b w w2 :=
  ⟨belowSame h.below e1 e2 e3 e4, fun k cs T h1 h2 h3 => by rw [e1]; exact h.keep k cs T h1 h2 h3⟩
theorem NodeAt.same {b w w'} (e : w'.heap = w.heap) : ∀ {t : T} {v : Value}, NodeAt b w t v → NodeAt b w' t v := by
  have hI : ∀ {v op n x y z}, IsN b w v op n x y z → IsN b w' v op n x y z := by
    rintro v op n x y z ⟨k, h1, h2, h3⟩; exact ⟨k, h1, h2, by rw [e]; exact h3⟩
  intro t
  induction t with
  | junk => exact fun h => h
  | free => exact fun h => h
  | nil => exact fun h => hI h
  | num n => exact fun h => hI h
  | var n => exact fun h => hI h
  | letE n p q ip iq => rintro v ⟨x, y, h, hp, hq⟩; exact ⟨x, y, hI h, ip hp, iq hq⟩
  | fn n p ip => rintro v ⟨x, h, hp⟩; exact ⟨x, hI h, ip hp⟩
  | ite p q r ip iq ir => rintro v ⟨x, y, z, h, hp, hq, hr⟩; exact ⟨x, y, z, hI h, ip hp, iq hq, ir hr⟩
  | app p q ip iq => rintro v ⟨x, y, h, hp, hq⟩; exact ⟨x, y, hI h, ip hp, iq hq⟩
  | un op p ip => rintro v ⟨x, h, hp⟩; exact ⟨x, hI h, ip hp⟩
  | bin op p q ip iq => rintro v ⟨x, y, h, hp, hq⟩; exact ⟨x, y, hI h, ip hp, iq hq⟩
theorem NmR.same {w w' : World} {A} (e : w'.heap = w.heap) : ∀ {env v}, NmR w A env v → NmR w' A env v := by
  intro env
  induction env with
  | nil => exact fun h => h
  | cons i r ih => rintro v ⟨k, a, up, h1, ha, hh, hr⟩; exact ⟨k, a, up, h1, ha, by rw [e]; exact hh, ih hr⟩
theorem VR.same {b w w' A} (e : w'.heap = w.heap) {v : V} {x : Value} (h : VR b w A v x) : VR b w' A v x := by
  cases v with
  | num n => exact h
  | nil => exact h
  | fn y env => obtain ⟨ht, p, q, h1, hp, hq⟩ := h; exact ⟨ht, p, q, h1, NodeAt.same e hp, NmR.same e hq⟩
  | cons i j => exact h
theorem TkAt.same {b w w' A} (e : w'.heap = w.heap) {c : C} {a : Nat} (h : TkAt b w A c a) : TkAt b w' A c a := by
  cases c with
  | wait x env => obtain ⟨ht, p, q, hh, hp, hq⟩ := h; exact ⟨ht, p, q, by rw [e]; exact hh, NodeAt.same e hp, NmR.same e hq⟩
  | busy => obtain ⟨p, q, hh⟩ := h; exact ⟨p, q, by rw [e]; exact hh⟩
  | known v => obtain ⟨p, q, k, n, p1, p2, p3, p4, hh, hv⟩ := h; exact ⟨p, q, k, n, p1, p2, p3, p4, by rw [e]; exact hh, hv.same e⟩
theorem WB.same {w w' wb n L x} (e : w'.heap = w.heap) (h : WB w wb n L x) : WB w' wb n L x := by unfold WB; rw [e]; exact h
theorem RE.same {b w w' A wb L S} (h : RE b w A wb L S) (e : w'.heap = w.heap) : RE b w' A wb L S :=
  ⟨h.walk.same e, h.len, fun i c a h1 h2 => (h.tk i c a h1 h2).same e, h.inj, h.lo, h.wlo, h.lim⟩
theorem RX.same {b w w' A wb L n x} (h : RX b w A wb L n x) (e : w'.heap = w.heap) : RX b w' A wb L n x :=
  ⟨h.walk.same e, h.ne, fun a ha => by rw [e]; exact h.tk a ha, h.lo, h.wlo⟩

set_option maxRecDepth 100000 in
set_option maxHeartbeats 1000000 in
theorem rtruth (c : Bool) (w : World) :
    Calls Tryz.prog 62 #[.bool c] w fun e w' => e = .returned (rv 110 (tr c) nilp nilp nilp nilp) ∧ w.grownBy w' none := by
  cases c
  · go_enter Tryz.func62, Tryz.ntmps62
    go_wp2_with fail
    exact bodyPost_ret (v := rv 110 0 nilp nilp nilp nilp) (by simp [results, Tryz.results62, go_sem, rv]) rfl ⟨rfl, grown_alloc (grown_refl _ _) _⟩
  · go_enter Tryz.func62, Tryz.ntmps62
    go_wp2_with fail
    exact bodyPost_ret (v := rv 110 1 nilp nilp nilp nilp) (by simp [results, Tryz.results62, go_sem, rv]) rfl ⟨rfl, grown_alloc (grown_refl _ _) _⟩

theorem WB.fault {w wb n L e} (h : WB w wb n L e) (x : Int) : WB (w.setCell ⟨wb, 2, none⟩ (.int .i64 x)) wb n L x := by
  have := RB.set h 2 (.int .i64 x)
  unfold WB at h ⊢
  rw [this]; rfl

theorem RE.fault {b w A wb L S} (h : RE b w A wb L S) (x : Int) (hx : x ≠ 0) : RX b (w.setCell ⟨wb, 2, none⟩ (.int .i64 x)) A wb L S.steps x := by
  refine ⟨h.walk.fault x, hx, fun a ha => ?_, h.lo, h.wlo⟩
  obtain ⟨i, hi, e⟩ := List.mem_iff_getElem.1 ha
  have hne := h.ne (i := i) (a := a) (by rw [List.getElem?_eq_getElem hi, e])
  obtain ⟨cs, hh, hs⟩ := h.fine a ha
  exact ⟨cs, by rw [Below.heap_setCell _ _ _ _ (by show a ≠ wb; omega)]; exact hh, hs⟩

set_option maxRecDepth 100000 in
set_option maxHeartbeats 1000000 in
theorem rfails {b w A wb L S} (h : RE b w A wb L S) (x : Int) (hx : x ≠ 0) :
    Calls Tryz.prog 49 #[ptr wb, .int .i64 x] w fun e w' => e = .returned (rv 0 0 nilp nilp nilp nilp) ∧ Fr 85 64 b w w' ∧ RX b w' A wb L S.steps x := by
  obtain ⟨c0, c1, c2, cf, hlt⟩ := h.walk.cells
  have hk : Fr 85 64 b w (w.setCell ⟨wb, 2, none⟩ (.int .i64 x)) := Fr.set h.walk (.inr rfl) h.wlo _ _
  have h' := h.fault x hx
  have hx' : Hid (x ≠ 0) := hx
  clear hx
  go_enter Tryz.func49, Tryz.ntmps49
  go_wp2_with fail
  exact bodyPost_ret (v := rv 0 0 nilp nilp nilp nilp) (by simp [results, Tryz.results49, go_sem, rv]) rfl ⟨rfl, hk.trans (Fr.alloc h'.blt _), h'.grown (grown_alloc (grown_refl _ _) _)⟩

theorem RE.stepped {b w A wb L S} (h : RE b w A wb L S) : RE b (w.setCell ⟨wb, 0, none⟩ (.int .i64 ((S.steps : Int) + 1))) A wb L ⟨S.heap, S.steps + 1⟩ := by
  have hk : Fr 85 64 b w (w.setCell ⟨wb, 0, none⟩ (.int .i64 ((S.steps : Int) + 1))) := Fr.set h.walk (.inr rfl) h.wlo _ _
  refine ⟨?_, h.len, fun i c a h1 h2 => ?_, h.inj, h.lo, h.wlo, h.lim⟩
  · have := RB.set h.walk 0 (.int .i64 ((S.steps : Int) + 1))
    unfold WB
    rw [this]; rfl
  · exact (h.tk i c a h1 h2).fr hk (Ext.refl _) (Below.heap_setCell _ _ _ _ (by have := h.ne h2; show a ≠ wb; omega))

set_option maxRecDepth 100000 in
set_option maxHeartbeats 1000000 in
theorem rstep_ok {b w A wb L S} (h : RE b w A wb L S) (hl : ¬ L ≤ S.steps) :
    Calls Tryz.prog 50 #[ptr wb] w fun e w' => e = .returned (.tuple #[]) ∧ Fr 85 64 b w w' ∧ RE b w' A wb L ⟨S.heap, S.steps + 1⟩ := by
  obtain ⟨c0, c1, c2, cf, hlt⟩ := h.walk.cells
  have hk : Fr 85 64 b w (w.setCell ⟨wb, 0, none⟩ (.int .i64 ((S.steps : Int) + 1))) := Fr.set h.walk (.inr rfl) h.wlo _ _
  have h' := h.stepped
  have hL := h.lim
  have hd : decide ((L : Int) ≤ (S.steps : Int)) = false := by simp; omega
  go_enter Tryz.func50, Tryz.ntmps50
  go_wp2_with fail
  go_quiet (fail)
  go_wp2_with fail
  go_end0
  exact ⟨rfl, ⟨belowSame hk.below rfl rfl rfl rfl, hk.keep⟩, h'.same rfl⟩

set_option maxRecDepth 100000 in
set_option maxHeartbeats 1000000 in
theorem rstep_no {b w A wb L S} (h : RE b w A wb L S) (hl : L ≤ S.steps) :
    Calls Tryz.prog 50 #[ptr wb] w fun e w' => e = .returned (.tuple #[]) ∧ Fr 85 64 b w w' ∧ RX b w' A wb L S.steps 8 := by
  obtain ⟨c0, c1, c2, cf, hlt⟩ := h.walk.cells
  have hd : decide ((L : Int) ≤ (S.steps : Int)) = true := by simp; omega
  go_enter Tryz.func50, Tryz.ntmps50
  go_wp2_with fail
  go_quiet (fail)
  go_wp2_with fail
  refine (rfails (h.grown (grown_drewN (grown_refl w none) _)) 8 (by decide)).mono ?_
  rintro e w2 ⟨rfl, hk4, h3⟩
  go_wp2_with fail
  refine bodyPost_ret (v := .tuple #[]) (by simp [results, Tryz.results50, go_sem]) rfl ?_
  exact ⟨rfl, ⟨⟨hk4.below.os, hk4.below.tape, hk4.below.output, hk4.below.size, hk4.below.block⟩, hk4.keep⟩, h3⟩

theorem VR.num_or {b w A v k n p1 p2 p3 p4} (h : VR b w A v (rv k n p1 p2 p3 p4)) : (k = 110 ∧ v = .num n) ∨ ((k == 110) = false ∧ R.num (.ok v) = .error 5) := by
  cases v with
  | num m => simp only [VR, rv, Value.agg.injEq] at h; simp at h; obtain ⟨rfl, rfl, _⟩ := h; exact .inl ⟨rfl, rfl⟩
  | nil => simp only [VR, rv, Value.agg.injEq] at h; simp at h; obtain ⟨rfl, _⟩ := h; exact .inr ⟨rfl, rfl⟩
  | fn x env => obtain ⟨ht, p, q, h, _⟩ := h; simp only [rv, Value.agg.injEq] at h; simp at h; obtain ⟨rfl, _⟩ := h; exact .inr ⟨rfl, rfl⟩
  | cons i j => obtain ⟨a, c, _, _, h⟩ := h; simp only [rv, Value.agg.injEq] at h; simp at h; obtain ⟨rfl, _⟩ := h; exact .inr ⟨rfl, rfl⟩

set_option maxRecDepth 100000 in
set_option maxHeartbeats 1000000 in
theorem rnumber {n : Nat} (hN : CN n) {L : Nat} {x : T} {env : List Nat} {S : E} {r : R × E} {b : Nat} {w : World} {A : List Nat} {wb : Nat} {p q : Value} (he : ev L n (.need x env) S = some r) (h : RE b w A wb L S) (ht : Tidy env.length x) (hp : NodeAt b w x p) (hq : NmAt w A env q) :
    Calls Tryz.prog 48 #[ptr wb, p, q] w fun e w' => Fr 85 64 b w w' ∧
      ((∃ k A', r.1.num = .ok k ∧ e = .returned (.int .i64 k) ∧ Ext A A' ∧ RE b w' A' wb L r.2) ∨
       (∃ z k, r.1.num = .error z ∧ e = .returned (.int .i64 k) ∧ RX b w' A wb L r.2.steps z)) := by
  obtain ⟨ap, rfl⟩ := NodeAt.ptr _ _ hp
  obtain ⟨aq, rfl⟩ := hq.ptr
  have HN : Hid (Calls Tryz.prog 31 #[ptr wb, .pointer (some ap), .pointer aq] w (Got b w A wb L r)) := hN L x env S r b w A wb _ _ he h ht hp hq
  have hb := h.blt
  clear hp hq he
  go_enter Tryz.func48, Tryz.ntmps48
  go_wp2_with fail
  refine HN.out.mono ?_
  rintro e w1 ⟨hk, ⟨v, A', x, hr, rfl, hA, h1, hv⟩ | ⟨z, k, n, a1, a2, a3, a4, hr, rfl, h1⟩⟩
  · obtain ⟨k, n, a1, a2, a3, a4, rfl⟩ := hv.shape
    obtain ⟨c0, c1, c2, cf, hlt⟩ := h1.walk.cells
    have hg := grown_alloc (grown_refl w1 none) (.cells #[.int .u8 k, .int .i64 n, .pointer a1, .pointer a2, .pointer a3, .pointer a4] 68 (0, 0))
    have h2 := h1.grown hg
    have hk2 := hk.trans (Fr.grown h1.blt hg)
    rcases hv.num_or with ⟨rfl, hv1⟩ | ⟨hk1, hv1⟩
    · have HV : Hid (r.1.num = .ok n) := by rw [hr, hv1]; rfl
      clear hr hv1 hv
      go_wp2_with fail
      go_ret
      exact ⟨hk2, .inl ⟨n, A', HV.out, rfl, hA, h2⟩⟩
    · have HV : Hid (r.1.num = .error 5) := by unfold Hid; rw [hr, hv1]
      have hk3 : (k != 110) = true := by simp [bne, hk1]
      clear hr hv1 hv
      go_wp2_with fail
      refine (rfails h2 5 (by decide)).mono ?_
      rintro e w2 ⟨rfl, hk4, h3⟩
      have hx := hk4.keep w1.heap.size _ 68 (by decide) (by decide) (alloc_at w1 _ _ rfl)
      have d1 : w2.cell? ⟨w1.heap.size, 1, none⟩ = some (.int .i64 n) := by simp [World.cell?, hx]
      clear hx
      go_wp2_with fail
      go_ret
      exact ⟨hk2.trans hk4, .inr ⟨5, n, HV.out, rfl, h3.sub hA⟩⟩
  · obtain ⟨c0, c1, c2, cf, hlt⟩ := h1.walk.cells
    have hg := grown_alloc (grown_refl w1 none) (.cells #[.int .u8 k, .int .i64 n, .pointer a1, .pointer a2, .pointer a3, .pointer a4] 68 (0, 0))
    have h2 := h1.grown hg
    have hk2 := hk.trans (Fr.grown h1.blt hg)
    have hz : (z == 0) = false := by simpa using h1.ne
    have HV : Hid (r.1.num = .error z) := by rw [hr]; rfl
    clear hr
    go_wp2_with fail
    go_ret
    exact ⟨hk2, .inr ⟨z, n, HV.out, rfl, h2⟩⟩
end Go.Proofs.YtdpbclnpmkhooaaGreatDoor
