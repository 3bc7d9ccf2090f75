/-
  A region that makes closures of two parts, in whatever order its cells are made: one proof for all orders.
  The program's plain form: what a node says.
  The document's plain form.
  The program's plain form: a number, a name, the empty list.
  The program: the value told as text; what is answered.
  The document's digits of any number; a value as text.
-/
import Derived.Test.YtjjlgjmebnkdjaaGreatDoorWc05
import Derived.Test.YtjjlgjmebnkdjaaGreatDoorPrgJ
import Derived.Test.YtjjlgjmebnkdjaaGreatDoorWc04
import Derived.Deep.RegionWith
import Derived.Test.YtjjlgjmebnkdjaaGreatDoorWc00
import Derived.Lib.ItoaLen
import Derived.Laws.IdiomStrings
import Derived.Test.YtjjlgjmebnkdjaaGreatDoorShelf
import Derived.Shelf.Strconv.Itoa3
import Derived.Test.YtjjlgjmebnkdjaaGreatDoorPrgU
namespace Go.Proofs.YtjjlgjmebnkdjaaGreatDoor
open Go Go.Proofs Go.RowKit Skein

abbrev act (t : Array Value) : Act := { tmps := t, defers := [] }
abbrev lst2 (c1 c2 a5 a6 s1 s2 : Bool) : Array Bool := #[true, true, true, c1, true, true, true, c2, a5, a6, s1, s2]

/-- What has been done of it. -/
structure Iv (W0 : World) (t1 t2 : Nat) (P1 P2 : World → Nat → Array Value → Prop) (c1 c2 a5 a6 s1 s2 : Bool) (v1 v2 p q : Value) (w : World) : Prop where
  grown : World.grownBy W0 w none
  kc1 : (c1 = true ∧ ∃ f c, v1 = fnv f c ∧ P1 w f c) ∨ (c1 = false ∧ v1 = undef)
  kc2 : (c2 = true ∧ ∃ f c, v2 = fnv f c ∧ P2 w f c) ∨ (c2 = false ∧ v2 = undef)
  ka5 : (a5 = true ∧ ∃ k z, p = ptr k ∧ W0.heap.size ≤ k ∧ w.heap[k]? = some (.cells #[z] t1 (0, 0)) ∧ (s1 = true → z = v1) ∧ (s1 = false → z = .nilFunc)) ∨ (a5 = false ∧ p = undef)
  ka6 : (a6 = true ∧ ∃ k z, q = ptr k ∧ W0.heap.size ≤ k ∧ w.heap[k]? = some (.cells #[z] t2 (0, 0)) ∧ (s2 = true → z = v2) ∧ (s2 = false → z = .nilFunc)) ∨ (a6 = false ∧ q = undef)
  ne : a5 = true → a6 = true → p ≠ q
  o1 : c2 = true → c1 = true
  o2 : s1 = true → c2 = true ∧ a5 = true ∧ a6 = true
  o3 : s2 = true → s1 = true

theorem undef_ptr (k : Nat) : undef ≠ ptr k := by unfold undef; simp

theorem bfalse {b c : Bool} (h : b = true → c = true) (hc : c = false) : b = false := by
  cases b with
  | false => rfl
  | true => rw [h rfl] at hc; cases hc
theorem orl {A B : Prop} (h : (true = true ∧ A) ∨ (true = false ∧ B)) : A := by
  rcases h with ⟨_, h⟩ | ⟨h, _⟩
  · exact h
  · cases h
theorem orr {A B : Prop} (h : (false = true ∧ A) ∨ (false = false ∧ B)) : B := by
  rcases h with ⟨h, _⟩ | ⟨_, h⟩
  · cases h
  · exact h
/-- A cell that holds nothing yet is no closure's. -/
theorem CodeAt.apart {st : Nat} {w w' : World} (hk : ∀ (j : Nat) (cs : Array Value) (T : TypeId), cs ≠ #[.nilFunc] → w.heap[j]? = some (.cells cs T (0, 0)) → w'.heap[j]? = some (.cells cs T (0, 0))) : ∀ {x : T} {f : Nat} {c : Array Value}, CodeAt st w x f c → CodeAt st w' x f c := by
  intro x
  induction x with
  | num n => rintro f c ⟨e, k, ec, h⟩; exact ⟨e, k, ec, hk _ _ _ (by simp) h⟩
  | var n => rintro f c ⟨e, k, ec, h⟩; exact ⟨e, k, ec, hk _ _ _ (by simp) h⟩
  | fn n a ia => rintro f c ⟨e, k, f1, c1, ec, h, ha⟩; exact ⟨e, k, f1, c1, ec, hk _ _ _ (by simp) h, ia ha⟩
  | app a d ia id => rintro f c ⟨e, k1, k2, k3, f1, c1, f2, c2, sg, pg, ec, h1, h2, h3, ha, hd⟩; exact ⟨e, k1, k2, k3, f1, c1, f2, c2, sg, pg, ec, hk _ _ _ (by simp) h1, hk _ _ _ (by simp) h2, hk _ _ _ (by simp) h3, ia ha, id hd⟩
  | letE n a d ia id => rintro f c ⟨e, k1, k2, f1, c1, f2, c2, ec, h1, h2, ha, hd⟩; exact ⟨e, k1, k2, f1, c1, f2, c2, ec, hk _ _ _ (by simp) h1, hk _ _ _ (by simp) h2, ia ha, id hd⟩
  | ite a d g ia id ig => rintro f c ⟨e, k1, k2, k3, f1, c1, f2, c2, f3, c3, ec, h1, h2, h3, ha, hd, hg⟩; exact ⟨e, k1, k2, k3, f1, c1, f2, c2, f3, c3, ec, hk _ _ _ (by simp) h1, hk _ _ _ (by simp) h2, hk _ _ _ (by simp) h3, ia ha, id hd, ig hg⟩
  | nil => rintro f c h; exact h
  | un op a ia => rintro f c ⟨eo, e, k1, k2, f1, c1, ec, h1, h2, ha⟩; exact ⟨eo, e, k1, k2, f1, c1, ec, hk _ _ _ (by simp) h1, hk _ _ _ (by simp) h2, ia ha⟩
  | bin op a d ia id =>
    rintro f c (⟨eo, e, k1, k2, f1, c1, f2, c2, ec, h1, h2, ha, hd⟩ | ⟨eo, e, k1, k2, k3, f1, c1, f2, c2, ec, h1, h2, h3, ha, hd⟩)
    · exact .inl ⟨eo, e, k1, k2, f1, c1, f2, c2, ec, hk _ _ _ (by simp) h1, hk _ _ _ (by simp) h2, ia ha, id hd⟩
    · exact .inr ⟨eo, e, k1, k2, k3, f1, c1, f2, c2, ec, hk _ _ _ (by simp) h1, hk _ _ _ (by simp) h2, hk _ _ _ (by simp) h3, ia ha, id hd⟩
  | _ => rintro f c h; exact h.elim
theorem CodeAt.set {st : Nat} {w : World} {k t : Nat} (hk : w.heap[k]? = some (.cells #[.nilFunc] t (0, 0))) (v : Value) {x : T} {f : Nat} {c : Array Value} (h : CodeAt st w x f c) : CodeAt st (w.setCell ⟨k, 0, none⟩ v) x f c :=
  h.apart fun j cs T hc e => by
    rw [Below.heap_setCell _ _ _ _ (by
      show j ≠ k
      rintro rfl
      rw [hk] at e
      simp only [Option.some.injEq, Obj.cells.injEq] at e
      exact hc e.1.symm)]
    exact e

/-- What stays when more is made, and when a new cell is filled. -/
structure Kept (P : World → Nat → Array Value → Prop) : Prop where
  grown : ∀ {w w' : World} {f : Nat} {c : Array Value}, P w f c → World.grownBy w w' none → P w' f c
  set : ∀ {w : World} {k t : Nat} {f : Nat} {c : Array Value}, w.heap[k]? = some (.cells #[.nilFunc] t (0, 0)) → P w f c → ∀ v, P (w.setCell ⟨k, 0, none⟩ v) f c
theorem Kept.code (st : Nat) (x : T) : Kept fun w f c => CodeAt st w x f c := ⟨fun h hg => h.grown hg, fun hk h v => h.set hk v⟩

def cnt (b : Bool) : Nat := if b then 0 else 1

theorem rs_ne : ∀ c1 c2 a5 a6 s1 s2 : Bool, (c2 = true → c1 = true) → (s1 = true → c2 = true ∧ a5 = true ∧ a6 = true) → (s2 = true → s1 = true) → ¬ (c1 = true ∧ c2 = true ∧ a5 = true ∧ a6 = true ∧ s1 = true ∧ s2 = true) →
    (if c1 then [] else [3]) ++ (if c1 && !c2 then [7] else []) ++ (if a5 then [] else [8]) ++ (if a6 then [] else [9]) ++ (if c2 && a5 && a6 && !s1 then [10] else []) ++ (if s1 && !s2 then [11] else []) ≠ ([] : List Nat) := by
  intro c1 c2 a5 a6 s1 s2
  cases c1 <;> cases c2 <;> cases a5 <;> cases a6 <;> cases s1 <;> cases s2 <;> simp

section
variable {P : Program} {md : Region.Mode} {ops : Array Oper} {Q : Exit → Act → World → Prop} {S : World → Prop}

set_option maxHeartbeats 1000000 in
theorem two_calls_g (mkT : Value → Value → Value → Value → Array Value) {W0 : World} {t1 t2 : Nat} {P1 P2 : World → Nat → Array Value → Prop} (K1 : Kept P1) (K2 : Kept P2)
    (hready : ∀ c1 c2 a5 a6 s1 s2 : Bool, (c2 = true → c1 = true) → (s1 = true → c2 = true ∧ a5 = true ∧ a6 = true) → (s2 = true → s1 = true) → Region.ready md ops (lst2 c1 c2 a5 a6 s1 s2) = (if c1 then [] else [3]) ++ (if c1 && !c2 then [7] else []) ++ (if a5 then [] else [8]) ++ (if a6 then [] else [9]) ++ (if c2 && a5 && a6 && !s1 then [10] else []) ++ (if s1 && !s2 then [11] else []))
    (hS : ∀ w, World.grownBy W0 w none → S w)
    (hc1 : ∀ p q w (K : Act → World → Prop), World.grownBy W0 w none → (∀ f c w', World.grownBy w w' none → P1 w' f c → K (act (mkT (fnv f c) undef p q)) w') → wpOp P ops Q 3 K (act (mkT undef undef p q)) w)
    (hc2 : ∀ v1 p q w (K : Act → World → Prop), World.grownBy W0 w none → (∀ f c w', World.grownBy w w' none → P2 w' f c → K (act (mkT v1 (fnv f c) p q)) w') → wpOp P ops Q 7 K (act (mkT v1 undef p q)) w)
    (ha5 : ∀ v1 v2 q w (K : Act → World → Prop), K (act (mkT v1 v2 (ptr w.heap.size) q)) (w.alloc (.cells #[.nilFunc] t1 (0, 0))) → wpOp P ops Q 8 K (act (mkT v1 v2 undef q)) w)
    (ha6 : ∀ v1 v2 p w (K : Act → World → Prop), K (act (mkT v1 v2 p (ptr w.heap.size))) (w.alloc (.cells #[.nilFunc] t2 (0, 0))) → wpOp P ops Q 9 K (act (mkT v1 v2 p undef)) w)
    (hs1 : ∀ f c v2 k q w z (K : Act → World → Prop), w.heap[k]? = some (.cells #[z] t1 (0, 0)) → K (act (mkT (fnv f c) v2 (ptr k) q)) (w.setCell ⟨k, 0, none⟩ (fnv f c)) → wpOp P ops Q 10 K (act (mkT (fnv f c) v2 (ptr k) q)) w)
    (hs2 : ∀ v1 f c p k w z (K : Act → World → Prop), w.heap[k]? = some (.cells #[z] t2 (0, 0)) → K (act (mkT v1 (fnv f c) p (ptr k))) (w.setCell ⟨k, 0, none⟩ (fnv f c)) → wpOp P ops Q 11 K (act (mkT v1 (fnv f c) p (ptr k))) w)
    (hQ : ∀ f1 d1 f2 d2 k m w, World.grownBy W0 w none → Is1 w k (fnv f1 d1) t1 → Is1 w m (fnv f2 d2) t2 → P1 w f1 d1 → P2 w f2 d2 → Q .normal (act (mkT (fnv f1 d1) (fnv f2 d2) (ptr k) (ptr m))) w) :
    ∀ (fuel : Nat) (c1 c2 a5 a6 s1 s2 : Bool) (v1 v2 p q : Value) (w : World), fuel = cnt c1 + cnt c2 + cnt a5 + cnt a6 + cnt s1 + cnt s2 → Iv W0 t1 t2 P1 P2 c1 c2 a5 a6 s1 s2 v1 v2 p q w → wpAnyH P md ops Q S fuel (lst2 c1 c2 a5 a6 s1 s2) (act (mkT v1 v2 p q)) w := by
  intro fuel
  induction fuel with
  | zero =>
    intro c1 c2 a5 a6 s1 s2 v1 v2 p q w hf h
    have : c1 = true ∧ c2 = true ∧ a5 = true ∧ a6 = true ∧ s1 = true ∧ s2 = true := by
      cases c1 <;> cases c2 <;> cases a5 <;> cases a6 <;> cases s1 <;> cases s2 <;> simp [cnt] at hf ⊢
    obtain ⟨rfl, rfl, rfl, rfl, rfl, rfl⟩ := this
    refine wpAnyH_done (by rw [hready true true true true true true (by simp) (by simp) (by simp)]; rfl) ?_ _
    obtain ⟨hg, h1, h2, h3, h4, _, _, _, _⟩ := h
    obtain ⟨_, f1, d1, rfl, k1⟩ | ⟨h, _⟩ := h1
    · obtain ⟨_, f2, d2, rfl, k2⟩ | ⟨h, _⟩ := h2
      · obtain ⟨_, k, z, rfl, _, hk, hz, _⟩ | ⟨h, _⟩ := h3
        · obtain ⟨_, m, z', rfl, _, hm, hz', _⟩ | ⟨h, _⟩ := h4
          · have e1 := hz rfl
            have e2 := hz' rfl
            subst e1; subst e2
            exact hQ f1 d1 f2 d2 k m w hg hk hm k1 k2
          · cases h
        · cases h
      · cases h
    · cases h
  | succ n ih =>
    intro c1 c2 a5 a6 s1 s2 v1 v2 p q w hf h
    have hr := hready c1 c2 a5 a6 s1 s2 h.o1 h.o2 h.o3
    refine wpAnyH_all hr ?_ ?_
    · refine rs_ne c1 c2 a5 a6 s1 s2 h.o1 h.o2 h.o3 fun hall => ?_
      obtain ⟨rfl, rfl, rfl, rfl, rfl, rfl⟩ := hall
      simp [cnt] at hf
    intro i hi
    simp only [List.mem_append] at hi
    rcases hi with ((((hi | hi) | hi) | hi) | hi) | hi
    · -- the first part
      cases c1
      · obtain rfl : i = 3 := by simpa using hi
        have e2 : c2 = false := bfalse h.o1 rfl
        subst e2
        have e3 : s1 = false := bfalse (fun hs => (h.o2 hs).1) rfl
        subst e3
        have e4 : s2 = false := bfalse h.o3 rfl
        subst e4
        obtain ⟨hg, h1, h2, h3, h4, hne, o1, o2, o3⟩ := h
        obtain rfl : v1 = undef := orr h1
        obtain rfl : v2 = undef := orr h2
        refine hc1 p q w _ hg fun f c w' hg' hc => ⟨hS _ (grown_trans hg hg'), ?_⟩
        refine ih true false a5 a6 false false _ _ _ _ _ (by simp [cnt] at hf ⊢; omega) ⟨grown_trans hg hg', .inl ⟨rfl, f, c, rfl, hc⟩, .inr ⟨rfl, rfl⟩, ?_, ?_, hne, by simp, by simp, by simp⟩
        · rcases h3 with ⟨h, k, z, e, l, hk, hz⟩ | h
          · exact .inl ⟨h, k, z, e, l, keepB' hk hg', by simp, fun _ => hz.2 rfl⟩
          · exact .inr h
        · rcases h4 with ⟨h, k, z, e, l, hk, hz⟩ | h
          · exact .inl ⟨h, k, z, e, l, keepB' hk hg', by simp, fun _ => hz.2 rfl⟩
          · exact .inr h
      · simp at hi
    · -- the second part
      cases c1
      · simp at hi
      cases c2
      · obtain rfl : i = 7 := by simpa using hi
        have e3 : s1 = false := bfalse (fun hs => (h.o2 hs).1) rfl
        subst e3
        have e4 : s2 = false := bfalse h.o3 rfl
        subst e4
        obtain ⟨hg, h1, h2, h3, h4, hne, o1, o2, o3⟩ := h
        obtain ⟨f1, d1, rfl, k1⟩ := orl h1
        obtain rfl : v2 = undef := orr h2
        refine hc2 _ p q w _ hg fun f c w' hg' hc => ⟨hS _ (grown_trans hg hg'), ?_⟩
        refine ih true true a5 a6 false false _ _ _ _ _ (by simp [cnt] at hf ⊢; omega) ⟨grown_trans hg hg', .inl ⟨rfl, f1, d1, rfl, K1.grown k1 hg'⟩, .inl ⟨rfl, f, c, rfl, hc⟩, ?_, ?_, hne, by simp, by simp, by simp⟩
        · rcases h3 with ⟨h, k, z, e, l, hk, hz⟩ | h
          · exact .inl ⟨h, k, z, e, l, keepB' hk hg', by simp, fun _ => hz.2 rfl⟩
          · exact .inr h
        · rcases h4 with ⟨h, k, z, e, l, hk, hz⟩ | h
          · exact .inl ⟨h, k, z, e, l, keepB' hk hg', by simp, fun _ => hz.2 rfl⟩
          · exact .inr h
      · simp at hi
    · -- the first cell
      cases a5
      · obtain rfl : i = 8 := by simpa using hi
        have e3 : s1 = false := bfalse (fun hs => (h.o2 hs).2.1) rfl
        subst e3
        have e4 : s2 = false := bfalse h.o3 rfl
        subst e4
        obtain ⟨hg, h1, h2, h3, h4, hne, o1, o2, o3⟩ := h
        obtain rfl : p = undef := orr h3
        have hga := grown_alloc (grown_refl w none) (.cells #[.nilFunc] t1 (0, 0))
        refine ha5 v1 v2 q w _ ⟨hS _ (grown_trans hg hga), ?_⟩
        refine ih c1 c2 true a6 false false _ _ _ _ _ (by simp [cnt] at hf ⊢; omega) ⟨grown_trans hg hga, ?_, ?_, .inl ⟨rfl, w.heap.size, .nilFunc, rfl, hg.size, alloc_at _ _ _ rfl, by simp, fun _ => rfl⟩, ?_, ?_, o1, by simp, by simp⟩
        · rcases h1 with ⟨h, f, c, e, k⟩ | h
          · exact .inl ⟨h, f, c, e, K1.grown k hga⟩
          · exact .inr h
        · rcases h2 with ⟨h, f, c, e, k⟩ | h
          · exact .inl ⟨h, f, c, e, K2.grown k hga⟩
          · exact .inr h
        · rcases h4 with ⟨h, k, z, e, l, hk, hz⟩ | h
          · exact .inl ⟨h, k, z, e, l, keepB' hk hga, hz⟩
          · exact .inr h
        · intro _ h6
          rcases h4 with ⟨h, k, z, rfl, l, hk, hz⟩ | ⟨h, _⟩
          · have := heap_lt hk
            intro e
            simp at e
            try omega
          · rw [h6] at h; cases h
      · simp at hi
    · -- the second cell
      cases a6
      · obtain rfl : i = 9 := by simpa using hi
        have e3 : s1 = false := bfalse (fun hs => (h.o2 hs).2.2) rfl
        subst e3
        have e4 : s2 = false := bfalse h.o3 rfl
        subst e4
        obtain ⟨hg, h1, h2, h3, h4, hne, o1, o2, o3⟩ := h
        obtain rfl : q = undef := orr h4
        have hga := grown_alloc (grown_refl w none) (.cells #[.nilFunc] t2 (0, 0))
        refine ha6 v1 v2 p w _ ⟨hS _ (grown_trans hg hga), ?_⟩
        refine ih c1 c2 a5 true false false _ _ _ _ _ (by simp [cnt] at hf ⊢; omega) ⟨grown_trans hg hga, ?_, ?_, ?_, .inl ⟨rfl, w.heap.size, .nilFunc, rfl, hg.size, alloc_at _ _ _ rfl, by simp, fun _ => rfl⟩, ?_, o1, by simp, by simp⟩
        · rcases h1 with ⟨h, f, c, e, k⟩ | h
          · exact .inl ⟨h, f, c, e, K1.grown k hga⟩
          · exact .inr h
        · rcases h2 with ⟨h, f, c, e, k⟩ | h
          · exact .inl ⟨h, f, c, e, K2.grown k hga⟩
          · exact .inr h
        · rcases h3 with ⟨h, k, z, e, l, hk, hz⟩ | h
          · exact .inl ⟨h, k, z, e, l, keepB' hk hga, hz⟩
          · exact .inr h
        · intro h5 _
          rcases h3 with ⟨h, k, z, rfl, l, hk, hz⟩ | ⟨h, _⟩
          · have := heap_lt hk
            intro e
            simp at e
            try omega
          · rw [h5] at h; cases h
      · simp at hi
    · -- the first store
      have hc : c2 = true ∧ a5 = true ∧ a6 = true ∧ s1 = false := by cases c2 <;> cases a5 <;> cases a6 <;> cases s1 <;> simp at hi ⊢
      obtain ⟨rfl, rfl, rfl, rfl⟩ := hc
      obtain rfl : i = 10 := by simpa using hi
      have e4 : s2 = false := bfalse h.o3 rfl
      subst e4
      obtain ⟨hg, h1, h2, h3, h4, hne, o1, o2, o3⟩ := h
      obtain rfl : c1 = true := o1 rfl
      obtain ⟨f1, d1, rfl, k1⟩ := orl h1
      obtain ⟨f2, d2, rfl, k2⟩ := orl h2
      obtain ⟨k, z, rfl, l, hk, _, hz⟩ := orl h3
      obtain ⟨m, z', rfl, l', hm, _, hz'⟩ := orl h4
      obtain rfl := hz rfl
      have hgs : World.grownBy W0 (w.setCell ⟨k, 0, none⟩ (fnv f1 d1)) none := grown_setnew2 hg l 0 _
      have hkm : m ≠ k := fun e => hne rfl rfl (by rw [e])
      refine hs1 f1 d1 _ k _ w _ _ hk ⟨hS _ hgs, ?_⟩
      refine ih true true true true true false _ _ _ _ _ (by simp [cnt] at hf ⊢; omega) ⟨hgs, .inl ⟨rfl, f1, d1, rfl, K1.set hk k1 _⟩, .inl ⟨rfl, f2, d2, rfl, K2.set hk k2 _⟩, .inl ⟨rfl, k, fnv f1 d1, rfl, l, ?_, fun _ => rfl, by simp⟩, .inl ⟨rfl, m, z', rfl, l', ?_, by simp, hz'⟩, hne, by simp, by simp, by simp⟩
      · rw [RB.set hk 0 _]; rfl
      · rw [Below.heap_setCell _ _ _ _ hkm]; exact hm
    · -- the second store
      have hc : s1 = true ∧ s2 = false := by cases s1 <;> cases s2 <;> simp at hi ⊢
      obtain ⟨rfl, rfl⟩ := hc
      obtain rfl : i = 11 := by simpa using hi
      obtain ⟨hg, h1, h2, h3, h4, hne, o1, o2, o3⟩ := h
      obtain ⟨rfl, rfl, rfl⟩ := o2 rfl
      obtain rfl : c1 = true := o1 rfl
      obtain ⟨f1, d1, rfl, k1⟩ := orl h1
      obtain ⟨f2, d2, rfl, k2⟩ := orl h2
      obtain ⟨k, z, rfl, l, hk, hz, _⟩ := orl h3
      obtain ⟨m, z', rfl, l', hm, _, hz'⟩ := orl h4
      obtain rfl := hz' rfl
      obtain rfl := hz rfl
      have hgs : World.grownBy W0 (w.setCell ⟨m, 0, none⟩ (fnv f2 d2)) none := grown_setnew2 hg l' 0 _
      have hkm : k ≠ m := fun e => hne rfl rfl (by rw [e])
      refine hs2 _ f2 d2 _ m w _ _ hm ⟨hS _ hgs, ?_⟩
      refine ih true true true true true true _ _ _ _ _ (by simp [cnt] at hf ⊢; omega) ⟨hgs, .inl ⟨rfl, f1, d1, rfl, K1.set hm k1 _⟩, .inl ⟨rfl, f2, d2, rfl, K2.set hm k2 _⟩, .inl ⟨rfl, k, fnv f1 d1, rfl, l, ?_, fun _ => rfl, by simp⟩, .inl ⟨rfl, m, fnv f2 d2, rfl, l', ?_, fun _ => rfl, by simp⟩, hne, by simp, by simp, by simp⟩
      · rw [Below.heap_setCell _ _ _ _ hkm]; exact hk
      · rw [RB.set hm 0 _]; rfl
end
end Go.Proofs.YtjjlgjmebnkdjaaGreatDoor

namespace Go.Proofs.YtjjlgjmebnkdjaaGreatDoor
open Go Go.Proofs Go.RowKit Skein

def Tab (w : World) : Prop := Lib.TabIs Tryz.prog w "internal/strconv.uint64pow10" .u64 Lib.pow10Tab

theorem gPow : Tryz.prog.globalNamed "internal/strconv.uint64pow10" = some 3 := by kernel_rfl

theorem Tab.grown {w w' : World} (h : Tab w) (hg : w.grownBy w' none) : Tab w' := by
  unfold Tab Lib.TabIs World.var? at *
  rw [gPow] at h ⊢
  simp only [Option.bind_some] at h ⊢
  have hlt : 3 < w.heap.size := by
    rcases Nat.lt_or_ge 3 w.heap.size with h' | h'
    · exact h'
    · rw [Array.getElem?_eq_none h'] at h; simp at h
  rw [hg.block 3 hlt (by simp)]; exact h

structure Says (T : TypeId) (x : Value) (f : Nat) (s : ByteArray) : Prop where
  meth : ∀ w, (method 376 T x "Plain").run Tryz.prog w = .ok (f, x) w
  ent : ∀ args w, (callFunc f args).run Tryz.prog w = .ok (.enter f args) w
  call : ∀ w, Tab w → Calls Tryz.prog f #[x] w fun e w' => e = .returned (.string s) ∧ w.grownBy w' none

theorem boxed {W : World} {cs : Array Value} {T : TypeId} {k : Nat} (h : W.heap[k]? = some (.cells cs T (0, 0))) (w1 : World) (hg : W.grownBy w1 none) : w1.heap[k]? = some (.cells cs T (0, 0)) := by
  rw [hg.block k (Array.getElem?_eq_some_iff.1 h).1 (by simp)]; exact h

end Go.Proofs.YtjjlgjmebnkdjaaGreatDoor

namespace Go.Proofs.YtjjlgjmebnkdjaaGreatDoor
open Go Go.Proofs Go.RowKit Skein

def wordOf (op : UInt8) : ByteArray := if op == 104 then ⟨#[40, 104, 101, 97, 100, 32]⟩ else if op == 116 then ⟨#[40, 116, 97, 105, 108, 32]⟩ else ⟨#[40, 110, 117, 108, 108, 32]⟩

def plain : T → ByteArray
  | .junk => ⟨#[]⟩
  | .free => ⟨#[]⟩
  | .nil => ⟨#[91, 93]⟩
  | .num n => dig n
  | .var n => ⟨#[118]⟩ ++ dig n
  | .letE n a b => ⟨#[40, 108, 101, 116, 32, 118]⟩ ++ dig n ++ ⟨#[32, 61, 32]⟩ ++ plain a ++ ⟨#[32, 105, 110, 32]⟩ ++ plain b ++ ⟨#[41]⟩
  | .fn n a => ⟨#[40, 92, 118]⟩ ++ dig n ++ ⟨#[46, 32]⟩ ++ plain a ++ ⟨#[41]⟩
  | .ite a b c => ⟨#[40, 105, 102, 32]⟩ ++ plain a ++ ⟨#[32, 116, 104, 101, 110, 32]⟩ ++ plain b ++ ⟨#[32, 101, 108, 115, 101, 32]⟩ ++ plain c ++ ⟨#[41]⟩
  | .app a b => ⟨#[40]⟩ ++ plain a ++ ⟨#[32]⟩ ++ plain b ++ ⟨#[41]⟩
  | .un op a => wordOf op ++ plain a ++ ⟨#[41]⟩
  | .bin op a b => ⟨#[40]⟩ ++ plain a ++ ⟨#[32]⟩ ++ ⟨#[op]⟩ ++ ⟨#[32]⟩ ++ plain b ++ ⟨#[41]⟩

theorem dig_size (n : Nat) (h : n < 10 ^ 15) : (dig n).size ≤ 21 := by
  have := Lib.itoa_length_le (n : Int) (by omega) (by omega)
  rw [Lib.itoa_nonneg] at this
  show (Lib.decDigits n).toArray.size ≤ 21
  rw [List.size_toArray]; exact this

theorem plain_size : ∀ t, Clean t → (plain t).size ≤ 60 * nodes t := by
  intro t
  induction t with
  | junk => intro h; exact h.elim
  | free => intro h; exact h.elim
  | nil => intro _; exact (by decide : 2 ≤ 60 * 1)
  | num n => intro h; have hn : n < 10 ^ 9 := h; have := dig_size n (by omega); simp only [plain, nodes]; omega
  | var n => intro h; have hn : n ≤ 300 := h; have := dig_size n (by omega); simp only [plain, nodes, ByteArray.size_append]; have e : (ByteArray.mk #[118]).size = 1 := rfl; omega
  | letE n a b ia ib =>
    rintro ⟨hn, ha, hb⟩
    have := dig_size n (by omega); have := ia ha; have := ib hb
    simp only [plain, nodes, ByteArray.size_append]
    have e1 : (ByteArray.mk #[40, 108, 101, 116, 32, 118]).size = 6 := rfl
    have e2 : (ByteArray.mk #[32, 61, 32]).size = 3 := rfl
    have e3 : (ByteArray.mk #[32, 105, 110, 32]).size = 4 := rfl
    have e4 : (ByteArray.mk #[41]).size = 1 := rfl
    omega
  | fn n a ia =>
    rintro ⟨hn, ha⟩
    have := dig_size n (by omega); have := ia ha
    simp only [plain, nodes, ByteArray.size_append]
    have e1 : (ByteArray.mk #[40, 92, 118]).size = 3 := rfl
    have e2 : (ByteArray.mk #[46, 32]).size = 2 := rfl
    have e4 : (ByteArray.mk #[41]).size = 1 := rfl
    omega
  | ite a b c ia ib ic =>
    rintro ⟨ha, hb, hc⟩
    have := ia ha; have := ib hb; have := ic hc
    simp only [plain, nodes, ByteArray.size_append]
    have e1 : (ByteArray.mk #[40, 105, 102, 32]).size = 4 := rfl
    have e2 : (ByteArray.mk #[32, 116, 104, 101, 110, 32]).size = 6 := rfl
    have e3 : (ByteArray.mk #[32, 101, 108, 115, 101, 32]).size = 6 := rfl
    have e4 : (ByteArray.mk #[41]).size = 1 := rfl
    omega
  | app a b ia ib =>
    rintro ⟨ha, hb⟩
    have := ia ha; have := ib hb
    simp only [plain, nodes, ByteArray.size_append]
    have e1 : (ByteArray.mk #[40]).size = 1 := rfl
    have e2 : (ByteArray.mk #[32]).size = 1 := rfl
    have e4 : (ByteArray.mk #[41]).size = 1 := rfl
    omega
  | un op a ia =>
    rintro ⟨_, ha⟩
    have := ia ha
    simp only [plain, nodes, ByteArray.size_append]
    have e1 : (wordOf op).size = 6 := by unfold wordOf; repeat' split
                                         all_goals rfl
    have e4 : (ByteArray.mk #[41]).size = 1 := rfl
    omega
  | bin op a b ia ib =>
    rintro ⟨_, ha, hb⟩
    have := ia ha; have := ib hb
    simp only [plain, nodes, ByteArray.size_append]
    have e1 : (ByteArray.mk #[40]).size = 1 := rfl
    have e2 : (ByteArray.mk #[32]).size = 1 := rfl
    have e3 : (ByteArray.mk #[op]).size = 1 := rfl
    have e4 : (ByteArray.mk #[41]).size = 1 := rfl
    omega

theorem nodes_pos (t : T) : 1 ≤ nodes t := by cases t <;> simp [nodes] <;> omega

def Shn (t : T) : Prop := ∀ b w v, NodeAt b w t v → b < w.heap.size → Clean t → nodes t ≤ 600 → Calls Tryz.prog 36 #[v] w fun e w' => e = .returned (.string (plain t)) ∧ w.grownBy w' none

theorem cellsK {w : World} {k : Nat} {op n : Int} {x y z : Value} (h : w.heap[k]? = some (.cells (cellsN op n x y z) 86 (0, 0))) :
    w.cell? ⟨k, 0, none⟩ = some (.int .u8 op) ∧ w.cell? ⟨k, 1, none⟩ = some (.int .i64 n) ∧ w.cell? ⟨k, 2, none⟩ = some x ∧ w.cell? ⟨k, 3, none⟩ = some y ∧ w.cell? ⟨k, 4, none⟩ = some z := by
  refine ⟨?_, ?_, ?_, ?_, ?_⟩ <;> simp [World.cell?, h, cellsN]

theorem keepK {w w' : World} {k : Nat} {o : Obj} (h : w.heap[k]? = some o) (hg : w.grownBy w' none) : w'.heap[k]? = some o := by
  rw [hg.block k (Array.getElem?_eq_some_iff.1 h).1 (by simp)]; exact h

theorem NodeAt.grown {b w w' t v} (h : NodeAt b w t v) (hb : b < w.heap.size) (hg : w.grownBy w' none) : NodeAt b w' t v :=
  NodeAt.kept ⟨⟨hg.os, hg.tape, hg.output, hg.size, fun k hk => hg.block k (by omega) (by simp)⟩, fun k _ _ _ _ h => keepK h hg⟩ t v h

set_option maxRecDepth 100000 in
set_option maxHeartbeats 2000000 in
theorem shn_letE (n : Nat) (p q : T) (ip : Shn p) (iq : Shn q) : Shn (.letE n p q) := by
  rintro b w v ⟨x, y, ⟨k, rfl, hk, hh⟩, hx, hy⟩ hb ⟨hn, cp, cq⟩ hz
  simp only [nodes] at hz
  have sp : (plain p).size ≤ 36000 := by have := plain_size p cp; omega
  have sq : (plain q).size ≤ 36000 := by have := plain_size q cq; omega
  have sd := dig_size n (by omega)
  obtain ⟨ax, rfl⟩ := NodeAt.ptr _ _ hx
  obtain ⟨ay, rfl⟩ := NodeAt.ptr _ _ hy
  obtain ⟨c0, c1, c2, c3, c4⟩ := cellsK hh
  have HX : Hid (NodeAt b w p (.pointer (some ax))) := hx
  have HY : Hid (NodeAt b w q (.pointer (some ay))) := hy
  clear hx hy
  go_enter Tryz.func36, Tryz.ntmps36
  go_wp2_with fail
  refine (ip b _ _ HX.out hb cp (by omega)).mono ?_
  rintro e w1 ⟨rfl, hg1⟩
  have hh1 := keepK hh hg1
  obtain ⟨d0, d1, d2, d3, d4⟩ := cellsK hh1
  go_wp2_with fail
  refine (iq b _ _ (HY.out.grown hb hg1) (Nat.lt_of_lt_of_le hb hg1.size) cq (by omega)).mono ?_
  rintro e w2 ⟨rfl, hg2⟩
  have hh2 := keepK hh1 hg2
  obtain ⟨f0, f1, f2, f3, f4⟩ := cellsK hh2
  go_wp2_with fail
  refine (rdigits n (by omega) _).mono ?_
  rintro e w3 ⟨rfl, rfl⟩
  go_wp2_with fail
  go_ret
  exact ⟨rfl, grown_trans hg1 hg2⟩

set_option maxRecDepth 100000 in
set_option maxHeartbeats 2000000 in
theorem shn_nil : Shn .nil := by
  rintro b w v ⟨k, rfl, hk, hh⟩ hb - hz
  obtain ⟨c0, c1, c2, c3, c4⟩ := cellsK hh
  go_enter Tryz.func36, Tryz.ntmps36
  go_wp2_with fail
  go_ret
  exact ⟨rfl, grown_refl _ _⟩

set_option maxRecDepth 100000 in
set_option maxHeartbeats 2000000 in
theorem shn_num (n : Nat) : Shn (.num n) := by
  rintro b w v ⟨k, rfl, hk, hh⟩ hb hn hz
  have hn' : n < 10 ^ 9 := hn
  have sd := dig_size n (by omega)
  obtain ⟨c0, c1, c2, c3, c4⟩ := cellsK hh
  go_enter Tryz.func36, Tryz.ntmps36
  go_wp2_with fail
  refine (rdigits n (by omega) _).mono ?_
  rintro e w3 ⟨rfl, rfl⟩
  go_wp2_with fail
  go_ret
  exact ⟨rfl, grown_refl _ _⟩

set_option maxRecDepth 100000 in
set_option maxHeartbeats 2000000 in
theorem shn_var (n : Nat) : Shn (.var n) := by
  rintro b w v ⟨k, rfl, hk, hh⟩ hb hn hz
  have hn' : n ≤ 300 := hn
  have sd := dig_size n (by omega)
  obtain ⟨c0, c1, c2, c3, c4⟩ := cellsK hh
  go_enter Tryz.func36, Tryz.ntmps36
  go_wp2_with fail
  refine (rdigits n (by omega) _).mono ?_
  rintro e w3 ⟨rfl, rfl⟩
  go_wp2_with fail
  go_ret
  exact ⟨rfl, grown_refl _ _⟩

set_option maxRecDepth 100000 in
set_option maxHeartbeats 2000000 in
theorem shn_fn (n : Nat) (p : T) (ip : Shn p) : Shn (.fn n p) := by
  rintro b w v ⟨x, ⟨k, rfl, hk, hh⟩, hx⟩ hb ⟨hn, cp⟩ hz
  simp only [nodes] at hz
  have sp : (plain p).size ≤ 36000 := by have := plain_size p cp; omega
  have sd := dig_size n (by omega)
  obtain ⟨ax, rfl⟩ := NodeAt.ptr _ _ hx
  obtain ⟨c0, c1, c2, c3, c4⟩ := cellsK hh
  have HX : Hid (NodeAt b w p (.pointer (some ax))) := hx
  clear hx
  go_enter Tryz.func36, Tryz.ntmps36
  go_wp2_with fail
  refine (ip b _ _ HX.out hb cp (by omega)).mono ?_
  rintro e w1 ⟨rfl, hg1⟩
  have hh1 := keepK hh hg1
  obtain ⟨d0, d1, d2, d3, d4⟩ := cellsK hh1
  go_wp2_with fail
  refine (rdigits n (by omega) _).mono ?_
  rintro e w3 ⟨rfl, rfl⟩
  go_wp2_with fail
  go_ret
  exact ⟨rfl, hg1⟩

set_option maxRecDepth 100000 in
set_option maxHeartbeats 2000000 in
theorem shn_ite (p q r : T) (ip : Shn p) (iq : Shn q) (ir : Shn r) : Shn (.ite p q r) := by
  rintro b w v ⟨x, y, z, ⟨k, rfl, hk, hh⟩, hx, hy, hzz⟩ hb ⟨cp, cq, cr⟩ hz
  simp only [nodes] at hz
  have sp : (plain p).size ≤ 36000 := by have := plain_size p cp; omega
  have sq : (plain q).size ≤ 36000 := by have := plain_size q cq; omega
  have sr : (plain r).size ≤ 36000 := by have := plain_size r cr; omega
  obtain ⟨ax, rfl⟩ := NodeAt.ptr _ _ hx
  obtain ⟨ay, rfl⟩ := NodeAt.ptr _ _ hy
  obtain ⟨az, rfl⟩ := NodeAt.ptr _ _ hzz
  obtain ⟨c0, c1, c2, c3, c4⟩ := cellsK hh
  have HX : Hid (NodeAt b w p (.pointer (some ax))) := hx
  have HY : Hid (NodeAt b w q (.pointer (some ay))) := hy
  have HZ : Hid (NodeAt b w r (.pointer (some az))) := hzz
  clear hx hy hzz
  go_enter Tryz.func36, Tryz.ntmps36
  go_wp2_with fail
  refine (ip b _ _ HX.out hb cp (by omega)).mono ?_
  rintro e w1 ⟨rfl, hg1⟩
  have hh1 := keepK hh hg1
  obtain ⟨d0, d1, d2, d3, d4⟩ := cellsK hh1
  go_wp2_with fail
  refine (iq b _ _ (HY.out.grown hb hg1) (Nat.lt_of_lt_of_le hb hg1.size) cq (by omega)).mono ?_
  rintro e w2 ⟨rfl, hg2⟩
  have hg12 := grown_trans hg1 hg2
  have hh2 := keepK hh1 hg2
  obtain ⟨f0, f1, f2, f3, f4⟩ := cellsK hh2
  go_wp2_with fail
  refine (ir b _ _ (HZ.out.grown hb hg12) (Nat.lt_of_lt_of_le hb hg12.size) cr (by omega)).mono ?_
  rintro e w3 ⟨rfl, hg3⟩
  go_wp2_with fail
  go_ret
  exact ⟨rfl, grown_trans hg12 hg3⟩

set_option maxRecDepth 100000 in
set_option maxHeartbeats 2000000 in
theorem shn_app (p q : T) (ip : Shn p) (iq : Shn q) : Shn (.app p q) := by
  rintro b w v ⟨x, y, ⟨k, rfl, hk, hh⟩, hx, hy⟩ hb ⟨cp, cq⟩ hz
  simp only [nodes] at hz
  have sp : (plain p).size ≤ 36000 := by have := plain_size p cp; omega
  have sq : (plain q).size ≤ 36000 := by have := plain_size q cq; omega
  obtain ⟨ax, rfl⟩ := NodeAt.ptr _ _ hx
  obtain ⟨ay, rfl⟩ := NodeAt.ptr _ _ hy
  obtain ⟨c0, c1, c2, c3, c4⟩ := cellsK hh
  have HX : Hid (NodeAt b w p (.pointer (some ax))) := hx
  have HY : Hid (NodeAt b w q (.pointer (some ay))) := hy
  clear hx hy
  go_enter Tryz.func36, Tryz.ntmps36
  go_wp2_with fail
  refine (ip b _ _ HX.out hb cp (by omega)).mono ?_
  rintro e w1 ⟨rfl, hg1⟩
  have hh1 := keepK hh hg1
  obtain ⟨d0, d1, d2, d3, d4⟩ := cellsK hh1
  go_wp2_with fail
  refine (iq b _ _ (HY.out.grown hb hg1) (Nat.lt_of_lt_of_le hb hg1.size) cq (by omega)).mono ?_
  rintro e w2 ⟨rfl, hg2⟩
  have hh2 := keepK hh1 hg2
  obtain ⟨f0, f1, f2, f3, f4⟩ := cellsK hh2
  go_wp2_with fail
  go_ret
  exact ⟨rfl, grown_trans hg1 hg2⟩

set_option maxRecDepth 100000 in
set_option maxHeartbeats 2000000 in
theorem shn_un (op : UInt8) (p : T) (ip : Shn p) : Shn (.un op p) := by
  rintro b w v ⟨x, ⟨k, rfl, hk, hh⟩, hx⟩ hb ⟨hop, cp⟩ hz
  simp only [nodes] at hz
  have sp : (plain p).size ≤ 36000 := by have := plain_size p cp; omega
  obtain ⟨ax, rfl⟩ := NodeAt.ptr _ _ hx
  have HX : Hid (NodeAt b w p (.pointer (some ax))) := hx
  clear hx
  rcases hop with rfl | rfl | rfl
  all_goals
    obtain ⟨c0, c1, c2, c3, c4⟩ := cellsK hh
    first
    | (have c0' : w.cell? ⟨k, 0, none⟩ = some (.int .u8 104) := c0; clear c0)
    | (have c0' : w.cell? ⟨k, 0, none⟩ = some (.int .u8 116) := c0; clear c0)
    | (have c0' : w.cell? ⟨k, 0, none⟩ = some (.int .u8 117) := c0; clear c0)
    go_enter Tryz.func36, Tryz.ntmps36
    go_wp2_with fail
    refine (ip b _ _ HX.out hb cp (by omega)).mono ?_
    rintro e w1 ⟨rfl, hg1⟩
    have hh1 := keepK hh hg1
    obtain ⟨d0, d1, d2, d3, d4⟩ := cellsK hh1
    first
    | (have d0' : w1.cell? ⟨k, 0, none⟩ = some (.int .u8 104) := d0; clear d0)
    | (have d0' : w1.cell? ⟨k, 0, none⟩ = some (.int .u8 116) := d0; clear d0)
    | (have d0' : w1.cell? ⟨k, 0, none⟩ = some (.int .u8 117) := d0; clear d0)
    go_wp2_with fail
    go_ret
    exact ⟨rfl, hg1⟩

set_option maxRecDepth 100000 in
set_option maxHeartbeats 2000000 in
theorem shn_bin (op : UInt8) (p q : T) (ip : Shn p) (iq : Shn q) : Shn (.bin op p q) := by
  rintro b w v ⟨x, y, ⟨k, rfl, hk, hh⟩, hx, hy⟩ hb ⟨hop, cp, cq⟩ hz
  simp only [nodes] at hz
  have sp : (plain p).size ≤ 36000 := by have := plain_size p cp; omega
  have sq : (plain q).size ≤ 36000 := by have := plain_size q cq; omega
  obtain ⟨ax, rfl⟩ := NodeAt.ptr _ _ hx
  obtain ⟨ay, rfl⟩ := NodeAt.ptr _ _ hy
  have HX : Hid (NodeAt b w p (.pointer (some ax))) := hx
  have HY : Hid (NodeAt b w q (.pointer (some ay))) := hy
  clear hx hy
  obtain ⟨c0, c1, c2, c3, c4⟩ := cellsK hh
  have ho : ((op.toNat : Int) == 110) = false ∧ ((op.toNat : Int) == 118) = false ∧ ((op.toNat : Int) == 101) = false ∧ ((op.toNat : Int) == 108) = false ∧ ((op.toNat : Int) == 102) = false ∧ ((op.toNat : Int) == 105) = false ∧ ((op.toNat : Int) == 97) = false ∧ ((op.toNat : Int) == 104) = false ∧ ((op.toNat : Int) == 116) = false ∧ ((op.toNat : Int) == 117) = false := by
    rcases hop with rfl | rfl | rfl | rfl | rfl | rfl <;> decide
  obtain ⟨o1, o2, o3, o4, o5, o6, o7, o8, o9, o10⟩ := ho
  clear hop
  have hcv : ∀ (W : World), (convert 87 9 (.slice (some ⟨W.heap.size, 0, none⟩) 1 1)).run Tryz.prog (W.alloc (.cells #[.int .u8 (op.toNat : Int)] 5)) = .ok (.string ⟨#[op]⟩) (W.alloc (.cells #[.int .u8 (op.toNat : Int)] 5)) := fun W =>
    run_convert_bytes_back _ 87 9 5 ⟨W.heap.size, 0, none⟩ 1 [op] Tryz.underlying87 Tryz.underlying5 Tryz.underlying9 (by
      intro j hj
      have hj' : j < 1 := hj
      obtain rfl : j = 0 := by omega
      have h := alloc_at W (.cells #[.int .u8 (op.toNat : Int)] 5) W.heap.size rfl
      show (W.alloc (.cells #[.int .u8 (op.toNat : Int)] 5)).cell? ⟨W.heap.size, 0, none⟩ = some (.int .u8 (op.toNat : Int))
      unfold World.cell?
      rw [h]
      rfl)
  go_enter Tryz.func36, Tryz.ntmps36
  go_wp2_with fail
  refine (ip b _ _ HX.out hb cp (by omega)).mono ?_
  rintro e w1 ⟨rfl, hg1⟩
  have hh1 := keepK hh hg1
  obtain ⟨d0, d1, d2, d3, d4⟩ := cellsK hh1
  go_wp2_with fail
  refine (iq b _ _ (HY.out.grown hb hg1) (Nat.lt_of_lt_of_le hb hg1.size) cq (by omega)).mono ?_
  rintro e w2 ⟨rfl, hg2⟩
  have hh2 := keepK hh1 hg2
  obtain ⟨f0, f1, f2, f3, f4⟩ := cellsK hh2
  go_wp2_with fail
  go_ret
  exact ⟨rfl, grown_alloc (grown_trans hg1 hg2) _⟩

theorem shn_all : ∀ t, Shn t := by
  intro t
  induction t with
  | junk => intro b w v _ _ h; exact h.elim
  | free => intro b w v _ _ h; exact h.elim
  | nil => exact shn_nil
  | num n => exact shn_num n
  | var n => exact shn_var n
  | letE n p q ip iq => exact shn_letE n p q ip iq
  | fn n p ip => exact shn_fn n p ip
  | ite p q r ip iq ir => exact shn_ite p q r ip iq ir
  | app p q ip iq => exact shn_app p q ip iq
  | un op p ip => exact shn_un op p ip
  | bin op p q ip iq => exact shn_bin op p q ip iq
end Go.Proofs.YtjjlgjmebnkdjaaGreatDoor

namespace Go.Proofs.YtjjlgjmebnkdjaaGreatDoor
open Go Go.Proofs Go.RowKit Skein

theorem grown_grow {w : World} {k : Nat} {os : Array Obj} : w.grownBy (Sort.grow (w.drewN k) os) none :=
  ⟨rfl, rfl, rfl, by simp [Sort.grow], fun j hj _ => by simp [Sort.grow, Array.getElem?_append, hj]⟩

theorem pitoa (n : Nat) (hn : n < 10 ^ 15) (w : World) (ht : Tab w) : Calls Tryz.prog 177 #[.int .i64 n] w fun e w' => e = .returned (.string (dig n)) ∧ w.grownBy w' none := by
  refine (Any.strconv_Itoa (P := Tryz.prog) (ρ := Tryz.laysC174_ren) { Tryz.laysC174 with } (n : Int) (by omega) (by omega) w ht).mono ?_
  rintro e w' ⟨rfl, k, os, rfl⟩
  refine ⟨?_, grown_grow⟩
  rw [Lib.itoa_nonneg]; rfl

set_option maxRecDepth 100000 in
set_option maxHeartbeats 2000000 in
theorem pformat (n : Nat) (hn : n < 10 ^ 15) (w : World) (ht : Tab w) : Calls Tryz.prog 210 #[.int .i64 n, .int .i64 10] w fun e w' => e = .returned (.string (dig n)) ∧ w.grownBy w' none := by
  go_enter Tryz.func210, Tryz.ntmps210
  go_wp2_with fail
  refine (Any.internal_strconv_FormatInt_10 (P := Tryz.prog) (ρ := Tryz.laysC174_ren) { Tryz.laysC174 with } (n : Int) (by omega) (by omega) _ ht).mono ?_
  rintro e w' ⟨rfl, k, os, rfl⟩
  go_wp2_with fail
  go_ret
  refine ⟨?_, grown_grow⟩
  rw [Lib.itoa_nonneg]; rfl

set_option maxRecDepth 100000 in
set_option maxHeartbeats 2000000 in
theorem pcalled (n : Nat) (hn : n < 10 ^ 15) (w : World) (ht : Tab w) : Calls Tryz.prog 222 #[.int .i64 n] w fun e w' => e = .returned (.string (⟨#[118]⟩ ++ dig n)) ∧ w.grownBy w' none := by
  have sd := dig_size n hn
  have HT : Hid (Tab w) := ht
  clear ht
  go_enter Tryz.func222, Tryz.ntmps222
  go_wp2_with fail
  refine (pitoa n hn _ HT.out).mono ?_
  rintro e w' ⟨rfl, hg⟩
  go_wp2_with fail
  go_ret
  exact ⟨rfl, hg⟩

set_option maxRecDepth 100000 in
set_option maxHeartbeats 2000000 in
theorem pnumberP (n : Nat) (hn : n < 10 ^ 15) (w : World) (ht : Tab w) : Calls Tryz.prog 220 #[.agg #[.int .i64 n]] w fun e w' => e = .returned (.string (dig n)) ∧ w.grownBy w' none := by
  have HT : Hid (Tab w) := ht
  clear ht
  go_enter Tryz.func220, Tryz.ntmps220
  go_wp2_with fail
  have hg0 : w.grownBy (w.alloc (.cells #[.int .i64 n] 149 (0, 0))) none := grown_alloc (grown_refl _ _) _
  refine (pformat n hn _ (HT.out.grown hg0)).mono ?_
  rintro e w' ⟨rfl, hg⟩
  go_wp2_with fail
  go_ret
  exact ⟨rfl, grown_trans hg0 hg⟩

set_option maxRecDepth 100000 in
set_option maxHeartbeats 2000000 in
theorem pnameP (n : Nat) (hn : n < 10 ^ 15) (w : World) (ht : Tab w) : Calls Tryz.prog 221 #[.agg #[.int .i64 n]] w fun e w' => e = .returned (.string (⟨#[118]⟩ ++ dig n)) ∧ w.grownBy w' none := by
  have HT : Hid (Tab w) := ht
  clear ht
  go_enter Tryz.func221, Tryz.ntmps221
  go_wp2_with fail
  have hg0 : w.grownBy (w.alloc (.cells #[.int .i64 n] 152 (0, 0))) none := grown_alloc (grown_refl _ _) _
  refine (pcalled n hn _ (HT.out.grown hg0)).mono ?_
  rintro e w' ⟨rfl, hg⟩
  go_wp2_with fail
  go_ret
  exact ⟨rfl, grown_trans hg0 hg⟩

set_option maxRecDepth 100000 in
set_option maxHeartbeats 2000000 in
theorem pemptyP (w : World) : Calls Tryz.prog 228 #[.agg #[]] w fun e w' => e = .returned (.string ⟨#[91, 93]⟩) ∧ w.grownBy w' none := by
  go_enter Tryz.func228, Tryz.ntmps228
  go_wp2_with fail
  go_ret
  exact ⟨rfl, by repeat (first | exact grown_refl _ _ | apply grown_alloc)⟩
end Go.Proofs.YtjjlgjmebnkdjaaGreatDoor

namespace Go.Proofs.YtjjlgjmebnkdjaaGreatDoor
open Go Go.Proofs Go.RowKit Skein

def sdig (n : Int) : ByteArray := ⟨(Lib.itoa n).toArray⟩
def fnText : ByteArray := ⟨#[60, 102, 117, 110, 99, 116, 105, 111, 110, 62]⟩
def textOf : V → ByteArray
  | .num n => sdig n
  | .fn _ _ => fnText
  | _ => ⟨#[]⟩

/-- The digits of a number, as both sides tell them. -/
def numT (k : Int) : ByteArray := sdig (IntKind.wrap .i64 k)
theorem numT_in {k : Int} (h : Int64 k) : numT k = sdig k := by
  unfold numT
  rw [wrap_eq, IntWalk.wrap64_in k h]
theorem numT_size (k : Int) : (numT k).size ≤ 21 := by
  have h := wrap_in k
  have := Lib.itoa_length_le (IntKind.wrap .i64 k) h.1 h.2
  show (Lib.itoa (IntKind.wrap .i64 k)).toArray.size ≤ 21
  rw [List.size_toArray]; exact this

theorem Tab.belowB {b : Nat} {w w' : World} (h : Tab w) (hb : Below b w w') (h3 : 3 < b) : Tab w' := by
  unfold Tab Lib.TabIs World.var? at *
  rw [gPow] at h ⊢
  simp only [Option.bind_some] at h ⊢
  rw [hb.block 3 h3]; exact h

set_option maxRecDepth 100000 in
set_option maxHeartbeats 2000000 in
theorem sformat (n : Int) (hn : Int64 n) (w : World) (ht : Tab w) : Calls Tryz.prog 210 #[.int .i64 n, .int .i64 10] w fun e w' => e = .returned (.string (sdig n)) ∧ w.grownBy w' none := by
  obtain ⟨h1, h2⟩ := hn
  go_enter Tryz.func210, Tryz.ntmps210
  go_wp2_with fail
  refine (Any.internal_strconv_FormatInt_10 (P := Tryz.prog) (ρ := Tryz.laysC174_ren) { Tryz.laysC174 with } n (by omega) (by omega) _ ht).mono ?_
  rintro e w' ⟨rfl, k, os, rfl⟩
  go_wp2_with fail
  go_ret
  exact ⟨rfl, grown_grow⟩

set_option maxRecDepth 100000 in
set_option maxHeartbeats 2000000 in
theorem vnum_text (n : Int) (hn : Int64 n) (p : Nat) (w : World) (ht : Tab w) : Calls Tryz.prog 209 #[.int .i64 n, ptr p] w fun e w' => e = .returned (.string (sdig n)) ∧ w.grownBy w' none := by
  have HT : Hid (Tab w) := ht
  clear ht
  go_enter Tryz.func209, Tryz.ntmps209
  go_wp2_with fail
  refine (sformat n hn _ HT.out).mono ?_
  rintro e w' ⟨rfl, hg⟩
  go_wp2_with fail
  go_ret
  exact ⟨rfl, hg⟩

set_option maxRecDepth 100000 in
set_option maxHeartbeats 2000000 in
theorem fn_text (v : Value) (p : Nat) (w : World) : Calls Tryz.prog 231 #[v, ptr p] w fun e w' => e = .returned (.string fnText) ∧ w' = w := by
  go_enter Tryz.func231, Tryz.ntmps231
  go_wp2_with fail
  go_ret
  exact ⟨rfl, rfl⟩

theorem ans_cells {w : World} {k : Nat} {x y z : Value} {T : TypeId} (h : w.heap[k]? = some (.cells #[x, y, z] T (0, 0))) :
    w.cell? ⟨k, 0, none⟩ = some x ∧ w.cell? ⟨k, 1, none⟩ = some y ∧ w.cell? ⟨k, 2, none⟩ = some z ∧ (∀ o, w.frozen? ⟨k, o, none⟩ = false) ∧ k < w.heap.size := by
  refine ⟨?_, ?_, ?_, fun o => ?_, heap_lt h⟩ <;> simp [World.cell?, World.frozen?, h]

set_option maxRecDepth 100000 in
set_option maxHeartbeats 2000000 in
theorem rclose_panicking (st k : Nat) (t : Value) (x y : Value) (L c z : Int) (older : List PanicEntry) (w : World) (hk : w.heap[k]? = some (.cells #[t, x, y] 30 (0, 0))) (hs : SB w st L c) :
    CallsD Tryz.prog 42 #[ptr st, ptr k] (.panicking ({ v := flt z 0, recovered := false } :: older)) w fun e u' w' =>
      e = .returned (.tuple #[]) ∧ u' = .panicking ({ v := flt z 0, recovered := true } :: older) ∧ w'.heap[k]? = some (.cells #[t, .int .i64 c, .int .i64 z] 30 (0, 0)) ∧ Below k w w' := by
  refine callsD_of_wpS Tryz.func42 rfl fun c₀ cs hu => ?_
  refine wpS_seq ?_
  apply wpS_region
  simp [wpOpsS, go_sem, recoverD, hu, Tryz.ntmps42]
  refine (pcaught_some z 0 w).mono ?_
  rintro e w1 ⟨rfl, hg⟩
  have hk1 := keepB hk hg
  have hs1 := keepB hs hg
  have hgA := grown_alloc (grown_refl w1 none) (.cells #[.int .i64 z, .int .i64 0] 53 (0, 0))
  have hA := alloc_at w1 (.cells #[.int .i64 z, .int .i64 0] 53 (0, 0)) _ rfl
  have hk2 := keepB hk1 hgA
  have hs2 : SB _ st L c := keepB hs1 hgA
  simp [go_sem, Exit.thenS, storeCells]
  refine wpS_of_wp ?_
  obtain ⟨p0, p1, p2, pf, plt⟩ := ans_cells hk2
  obtain ⟨q0, q1, qf, qlt⟩ := hs2.cells
  have a0 : (w1.alloc (.cells #[.int .i64 z, .int .i64 0] 53 (0, 0))).cell? ⟨w1.heap.size, 0, none⟩ = some (.int .i64 z) := (cellsOf2 hA).1
  have hB : Below k w (w1.alloc (.cells #[.int .i64 z, .int .i64 0] 53 (0, 0))) := (Below.refl k w).grown (grown_trans hg hgA) (Nat.le_of_lt (heap_lt hk)) (by simp)
  have hkw : k < w1.heap.size := heap_lt hk1
  have hsw : st < w1.heap.size := heap_lt hs1
  change Code.wp _ _ _ (act #[ptr st, ptr k, ptr w1.heap.size, flt z 0, .agg #[.int .i64 z, .int .i64 0], undef, undef, undef, undef, undef, undef]) _
  generalize w1.alloc (.cells #[.int .i64 z, .int .i64 0] 53 (0, 0)) = W at hk2 p0 p1 p2 pf plt q0 q1 qf qlt a0 hB ⊢
  generalize w1.heap.size = kw at hkw hsw a0 ⊢
  clear hgA hA hs2 hk1 hs1
  go_region
  all_goals
    have hh : (((W.setCell ⟨k, 1, none⟩ (.int .i64 c)).setCell ⟨k, 2, none⟩ (.int .i64 z)).drew).heap[k]? = some (.cells #[t, .int .i64 c, .int .i64 z] 30 (0, 0)) := by
      show ((W.setCell ⟨k, 1, none⟩ (.int .i64 c)).setCell ⟨k, 2, none⟩ (.int .i64 z)).heap[k]? = _
      simp [World.setCell, Array.getElem?_modify, hk2]
    have hB2 : Below k w (((W.setCell ⟨k, 1, none⟩ (.int .i64 c)).setCell ⟨k, 2, none⟩ (.int .i64 z)).drew) := ((hB.setCell (p := ⟨k, 1, none⟩) (Nat.le_refl _) _).setCell (p := ⟨k, 2, none⟩) (Nat.le_refl _) _).drew
    generalize ((W.setCell ⟨k, 1, none⟩ (.int .i64 c)).setCell ⟨k, 2, none⟩ (.int .i64 z)).drew = W9 at hh hB2 ⊢
    simp [bodyPostS, results, Tryz.results42, hh, hB2]
set_option maxRecDepth 100000 in
set_option maxHeartbeats 2000000 in
theorem rclose_returning (st k : Nat) (t : Value) (x y : Value) (L c : Int) (w : World) (hk : w.heap[k]? = some (.cells #[t, x, y] 30 (0, 0))) (hs : SB w st L c) :
    CallsD Tryz.prog 42 #[ptr st, ptr k] .returning w fun e u' w' =>
      e = .returned (.tuple #[]) ∧ u' = .returning ∧ w'.heap[k]? = some (.cells #[t, .int .i64 c, .int .i64 0] 30 (0, 0)) ∧ Below k w w' := by
  refine callsD_of_wpS Tryz.func42 rfl fun c₀ cs hu => ?_
  cases c₀
  simp only at hu
  subst hu
  refine wpS_seq ?_
  apply wpS_region
  simp [wpOpsS, go_sem, recoverD, Tryz.ntmps42]
  refine (pcaught_nil w).mono ?_
  rintro e w1 ⟨rfl, hg⟩
  have hk1 := keepB hk hg
  have hs1 := keepB hs hg
  have hgA := grown_alloc (grown_refl w1 none) (.cells #[.int .i64 0, .int .i64 0] 53 (0, 0))
  have hA := alloc_at w1 (.cells #[.int .i64 0, .int .i64 0] 53 (0, 0)) _ rfl
  have hk2 := keepB hk1 hgA
  have hs2 : SB _ st L c := keepB hs1 hgA
  simp [go_sem, Exit.thenS, storeCells]
  refine wpS_of_wp ?_
  obtain ⟨p0, p1, p2, pf, plt⟩ := ans_cells hk2
  obtain ⟨q0, q1, qf, qlt⟩ := hs2.cells
  have a0 : (w1.alloc (.cells #[.int .i64 0, .int .i64 0] 53 (0, 0))).cell? ⟨w1.heap.size, 0, none⟩ = some (.int .i64 0) := (cellsOf2 hA).1
  have hB : Below k w (w1.alloc (.cells #[.int .i64 0, .int .i64 0] 53 (0, 0))) := (Below.refl k w).grown (grown_trans hg hgA) (Nat.le_of_lt (heap_lt hk)) (by simp)
  have hkw : k < w1.heap.size := heap_lt hk1
  have hsw : st < w1.heap.size := heap_lt hs1
  change Code.wp _ _ _ (act #[ptr st, ptr k, ptr w1.heap.size, Value.nilIface, .agg #[.int .i64 0, .int .i64 0], undef, undef, undef, undef, undef, undef]) _
  generalize w1.alloc (.cells #[.int .i64 0, .int .i64 0] 53 (0, 0)) = W at hk2 p0 p1 p2 pf plt q0 q1 qf qlt a0 hB ⊢
  generalize w1.heap.size = kw at hkw hsw a0 ⊢
  clear hgA hA hs2 hk1 hs1
  go_region
  all_goals
    have hh : (((W.setCell ⟨k, 1, none⟩ (.int .i64 c)).setCell ⟨k, 2, none⟩ (.int .i64 0)).drew).heap[k]? = some (.cells #[t, .int .i64 c, .int .i64 0] 30 (0, 0)) := by
      show ((W.setCell ⟨k, 1, none⟩ (.int .i64 c)).setCell ⟨k, 2, none⟩ (.int .i64 0)).heap[k]? = _
      simp [World.setCell, Array.getElem?_modify, hk2]
    have hB2 : Below k w (((W.setCell ⟨k, 1, none⟩ (.int .i64 c)).setCell ⟨k, 2, none⟩ (.int .i64 0)).drew) := ((hB.setCell (p := ⟨k, 1, none⟩) (Nat.le_refl _) _).setCell (p := ⟨k, 2, none⟩) (Nat.le_refl _) _).drew
    generalize ((W.setCell ⟨k, 1, none⟩ (.int .i64 c)).setCell ⟨k, 2, none⟩ (.int .i64 0)).drew = W9 at hh hB2 ⊢
    simp [bodyPostS, results, Tryz.results42, hh, hB2]
end Go.Proofs.YtjjlgjmebnkdjaaGreatDoor

namespace Go.Proofs.YtjjlgjmebnkdjaaGreatDoor
open Go Go.Proofs Go.RowKit Skein

set_option maxRecDepth 100000 in
set_option maxHeartbeats 4000000 in
theorem rdigits2 (n : Nat) (hn : n ≤ 9223372036854775807) (w : World) :
    Calls Tryz.prog 52 #[.int .i64 n] w fun e w' => e = .returned (.string (dig n)) ∧ w' = w := by
  have h1 : ((n : Int) == -9223372036854775808) = false := by first | (simp; done) | (simp; omega)
  have h2 : decide ((n : Int) < 0) = false := by simp
  go_enter Tryz.func52, Tryz.ntmps52
  go_wp2_with fail
  go_loop [0, 3] (fun x a => ∃ (k : Nat) (acc : ByteArray), x = .int .i64 k ∧ a = .string acc ∧ k ≤ 9223372036854775807 ∧ acc.size + k ≤ 9223372036854775807 ∧ (acc.size = 0 ∨ 1 ≤ k) ∧ Hid (dig n = ⟨(Lib.decDigits k ++ acc.data.toList).toArray⟩)) (fun x a => (intOf x).toNat)
  case atStart => exact ⟨n, ⟨#[]⟩, rfl, rfl, hn, by show 0 + n ≤ _; omega, .inl rfl, by unfold Hid dig; simp⟩
  case round =>
    obtain ⟨k, acc, rfl, rfl, hk, hsz, hz, H⟩ := hrel
    have hac : acc.size + 1 ≤ 9223372036854775807 := by omega
    go_wp2_with fail
    case roundEnd =>
      rename_i h0
      have hk10 : 10 ≤ k := by
        have : ¬ ((k : Int) / 10 = 0) := by simpa using h0
        omega
      have hd := digit_add (k % 10) (Nat.mod_lt _ (by omega)) acc
      refine ⟨⟨k / 10, _, by norm_cast, rfl, by omega, ?_, .inr (by omega), ?_⟩, by simp only [intOf]; omega⟩
      · have e := congrArg List.length hd
        rw [Array.length_toList, List.length_cons, Array.length_toList] at e
        have e' : ((⟨#[48, 49, 50, 51, 52, 53, 54, 55, 56, 57]⟩ : ByteArray).extract (k % 10) (k % 10 + 1) ++ acc).size = acc.size + 1 := e
        omega
      · unfold Hid
        rw [H.out, hd, Lib.decDigits, dif_neg (by omega)]; simp
    rename_i h0 _
    have hk10 : k < 10 := by
      have : ((k : Int) / 10 = 0) := by simpa using h0
      omega
    have hd := digit_add (k % 10) (Nat.mod_lt _ (by omega)) acc
    have he : (⟨#[48, 49, 50, 51, 52, 53, 54, 55, 56, 57]⟩ : ByteArray).extract (k % 10) (k % 10 + 1) ++ acc = ⟨(Lib.decDigits k ++ acc.data.toList).toArray⟩ := by
      apply ByteArray.ext
      apply Array.toList_inj.1
      rw [hd, Lib.decDigits, dif_pos hk10, Nat.mod_eq_of_lt hk10]
      rfl
    go_ret
    refine ⟨?_, rfl⟩
    rw [H.out, ← he]
    rfl

theorem dig_size2 (n : Nat) (h : n ≤ 9223372036854775807) : (dig n).size ≤ 21 := by
  have := Lib.itoa_length_le (n : Int) (by omega) (by omega)
  rw [Lib.itoa_nonneg] at this
  show (Lib.decDigits n).toArray.size ≤ 21
  rw [List.size_toArray]; exact this

theorem sdig_least : sdig (-9223372036854775808) = ⟨#[45, 57, 50, 50, 51, 51, 55, 50, 48, 51, 54, 56, 53, 52, 55, 55, 53, 56, 48, 56]⟩ := by
  unfold sdig
  rw [show (-9223372036854775808 : Int) = -((9223372036854775808 : Nat) : Int) from rfl, Lib.itoa_neg _ (by omega)]
  simp [Lib.decDigits]

set_option maxRecDepth 100000 in
set_option maxHeartbeats 4000000 in
theorem rsdigits (n : Int) (hn : Int64 n) (w : World) :
    Calls Tryz.prog 52 #[.int .i64 n] w fun e w' => e = .returned (.string (sdig n)) ∧ w' = w := by
  obtain ⟨l1, l2⟩ := hn
  by_cases h0 : 0 ≤ n
  · obtain ⟨k, rfl⟩ := Int.eq_ofNat_of_zero_le h0
    refine (rdigits2 k (by omega) w).mono ?_
    rintro e w' ⟨rfl, rfl⟩
    refine ⟨?_, rfl⟩
    have : sdig (k : Int) = dig k := by unfold sdig dig; rw [Lib.itoa_nonneg]
    rw [← this]
  · by_cases hm : n = -9223372036854775808
    · subst hm
      rw [sdig_least]
      go_enter Tryz.func52, Tryz.ntmps52
      go_wp2_with fail
      go_ret
      exact ⟨rfl, rfl⟩
    · obtain ⟨k, hk⟩ : ∃ k : Nat, n = -(k : Int) := ⟨n.natAbs, by omega⟩
      subst hk
      have hk1 : 1 ≤ k := by omega
      have hk2 : k ≤ 9223372036854775807 := by omega
      have hs : Hid (sdig (-(k : Int)) = ⟨#[45]⟩ ++ dig k) := by
        unfold Hid sdig dig
        rw [Lib.itoa_neg k hk1]
        rfl
      have h1 : ((-(k : Int)) == -9223372036854775808) = false := by simpa using hm
      have h2 : decide ((-(k : Int)) < 0) = true := by simp; omega
      have hsz := dig_size2 k hk2
      clear hm l1 l2 h0
      go_enter Tryz.func52, Tryz.ntmps52
      go_wp2_with fail
      refine (rdigits2 k hk2 w).mono ?_
      rintro e w' ⟨rfl, rfl⟩
      go_wp2_with fail
      go_ret
      exact ⟨ret_str hs.out.symm, rfl⟩

set_option maxRecDepth 100000 in
set_option maxHeartbeats 4000000 in
theorem rtext_num {b w A wb L S} (h : RE b w A wb L S) (n : Int) (hn : Int64 n) : Calls Tryz.prog 38 #[ptr wb, rv 110 n nilp nilp nilp nilp] w fun e w' => e = .returned (.string (sdig n)) ∧ w.grownBy w' none := by
  obtain ⟨c0, c1, c2, cf, hlt⟩ := h.walk.cells
  have HN : Hid (Int64 n) := hn
  clear hn
  go_enter Tryz.func38, Tryz.ntmps38
  go_wp2_with fail
  refine (rsdigits n HN.out _).mono ?_
  rintro e w' ⟨rfl, rfl⟩
  go_wp2_with fail
  go_ret
  exact ⟨rfl, grown_alloc (grown_refl _ _) _⟩

set_option maxRecDepth 100000 in
set_option maxHeartbeats 4000000 in
theorem rtext_fn {b w A wb L S} (h : RE b w A wb L S) (n : Int) (a1 a2 : Option Addr) : Calls Tryz.prog 38 #[ptr wb, rv 102 n (.pointer a1) (.pointer a2) nilp nilp] w fun e w' => e = .returned (.string fnText) ∧ w.grownBy w' none := by
  obtain ⟨c0, c1, c2, cf, hlt⟩ := h.walk.cells
  go_enter Tryz.func38, Tryz.ntmps38
  go_wp2_with fail
  go_ret
  exact ⟨rfl, grown_alloc (grown_refl _ _) _⟩

set_option maxRecDepth 100000 in
set_option maxHeartbeats 4000000 in
theorem rtext_err {b w A wb L m z} (h : RX b w A wb L m z) (k n : Int) (a1 a2 a3 a4 : Option Addr) : Calls Tryz.prog 38 #[ptr wb, rv k n (.pointer a1) (.pointer a2) (.pointer a3) (.pointer a4)] w fun e w' => e = .returned (.string ⟨#[]⟩) ∧ w.grownBy w' none := by
  obtain ⟨c0, c1, c2, cf, hlt⟩ := h.walk.cells
  have hz0 : (z == 0) = false := by simpa using h.ne
  have hz1 : (z != 0) = true := by simp [bne, hz0]
  go_enter Tryz.func38, Tryz.ntmps38
  go_wp2_with fail
  go_ret
  exact ⟨rfl, grown_alloc (grown_refl _ _) _⟩
end Go.Proofs.YtjjlgjmebnkdjaaGreatDoor
