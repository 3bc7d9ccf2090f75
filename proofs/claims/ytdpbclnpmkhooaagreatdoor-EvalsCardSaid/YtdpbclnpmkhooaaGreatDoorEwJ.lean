/-
  A region that makes closures of two parts, in whatever order its cells are made: one proof for all orders.
  The program makes closures of a tree: the use of a function.
  The program makes closures of a tree: let, a sign.
-/
import Derived.Test.YtdpbclnpmkhooaaGreatDoorEwI
import Derived.Test.YtdpbclnpmkhooaaGreatDoorEwH
namespace Go.Proofs.YtdpbclnpmkhooaaGreatDoor
open Go Go.Proofs Go.RowKit Skein

abbrev act (t : Array Value) : Act := { tmps := t, defers := [] }
abbrev lst2 (c1 c2 a5 a6 s1 s2 : Bool) : Array Bool := #[true, true, true, c1, true, true, true, c2, a5, a6, s1, s2]

/-- What has been done of it. -/
structure Iv (W0 : World) (st : Nat) (x y : T) (c1 c2 a5 a6 s1 s2 : Bool) (v1 v2 p q : Value) (w : World) : Prop where
  grown : World.grownBy W0 w none
  kc1 : (c1 = true ∧ ∃ f c, v1 = fnv f c ∧ CodeAt st w x f c) ∨ (c1 = false ∧ v1 = undef)
  kc2 : (c2 = true ∧ ∃ f c, v2 = fnv f c ∧ CodeAt st w y f c) ∨ (c2 = false ∧ v2 = undef)
  ka5 : (a5 = true ∧ ∃ k z, p = ptr k ∧ W0.heap.size ≤ k ∧ w.heap[k]? = some (.cells #[z] 112 (0, 0)) ∧ (s1 = true → z = v1) ∧ (s1 = false → z = .nilFunc)) ∨ (a5 = false ∧ p = undef)
  ka6 : (a6 = true ∧ ∃ k z, q = ptr k ∧ W0.heap.size ≤ k ∧ w.heap[k]? = some (.cells #[z] 112 (0, 0)) ∧ (s2 = true → z = v2) ∧ (s2 = false → z = .nilFunc)) ∨ (a6 = false ∧ q = undef)
  ne : a5 = true → a6 = true → p ≠ q
  o1 : c2 = true → c1 = true
  o2 : s1 = true → c2 = true ∧ a5 = true ∧ a6 = true
  o3 : s2 = true → s1 = true

theorem undef_ptr (k : Nat) : undef ≠ ptr k := by unfold undef; simp

theorem bfalse {b c : Bool} (h : b = true → c = true) (hc : c = false) : b = false := by
  cases b with
  | false => rfl
  | true => rw [h rfl] at hc; cases hc
theorem orl {A B : Prop} (h : (true = true ∧ A) ∨ (true = false ∧ B)) : A := by
  rcases h with ⟨_, h⟩ | ⟨h, _⟩
  · exact h
  · cases h
theorem orr {A B : Prop} (h : (false = true ∧ A) ∨ (false = false ∧ B)) : B := by
  rcases h with ⟨h, _⟩ | ⟨_, h⟩
  · cases h
  · exact h
/-- A cell that holds nothing yet is no closure's. -/
theorem CodeAt.apart {st : Nat} {w w' : World} (hk : ∀ (j : Nat) (cs : Array Value) (T : TypeId), cs ≠ #[.nilFunc] → w.heap[j]? = some (.cells cs T (0, 0)) → w'.heap[j]? = some (.cells cs T (0, 0))) : ∀ {x : T} {f : Nat} {c : Array Value}, CodeAt st w x f c → CodeAt st w' x f c := by
  intro x
  induction x with
  | num n => rintro f c ⟨e, k, ec, h⟩; exact ⟨e, k, ec, hk _ _ _ (by simp) h⟩
  | var n => rintro f c ⟨e, k, ec, h⟩; exact ⟨e, k, ec, hk _ _ _ (by simp) h⟩
  | fn n a ia => rintro f c ⟨e, k, f1, c1, ec, h, ha⟩; exact ⟨e, k, f1, c1, ec, hk _ _ _ (by simp) h, ia ha⟩
  | app a d ia id => rintro f c ⟨e, k1, k2, k3, f1, c1, f2, c2, sg, ec, h1, h2, h3, ha, hd⟩; exact ⟨e, k1, k2, k3, f1, c1, f2, c2, sg, ec, hk _ _ _ (by simp) h1, hk _ _ _ (by simp) h2, hk _ _ _ (by simp) h3, ia ha, id hd⟩
  | letE n a d ia id => rintro f c ⟨e, k1, k2, f1, c1, f2, c2, ec, h1, h2, ha, hd⟩; exact ⟨e, k1, k2, f1, c1, f2, c2, ec, hk _ _ _ (by simp) h1, hk _ _ _ (by simp) h2, ia ha, id hd⟩
  | ite a d g ia id ig => rintro f c ⟨e, k1, k2, k3, f1, c1, f2, c2, f3, c3, ec, h1, h2, h3, ha, hd, hg⟩; exact ⟨e, k1, k2, k3, f1, c1, f2, c2, f3, c3, ec, hk _ _ _ (by simp) h1, hk _ _ _ (by simp) h2, hk _ _ _ (by simp) h3, ia ha, id hd, ig hg⟩
  | bin op a d ia id => rintro f c ⟨eo, e, k1, k2, k3, f1, c1, f2, c2, ec, h1, h2, h3, ha, hd⟩; exact ⟨eo, e, k1, k2, k3, f1, c1, f2, c2, ec, hk _ _ _ (by simp) h1, hk _ _ _ (by simp) h2, hk _ _ _ (by simp) h3, ia ha, id hd⟩
  | _ => rintro f c h; exact h.elim
theorem CodeAt.set {st : Nat} {w : World} {k : Nat} (hk : w.heap[k]? = some (.cells #[.nilFunc] 112 (0, 0))) (v : Value) {x : T} {f : Nat} {c : Array Value} (h : CodeAt st w x f c) : CodeAt st (w.setCell ⟨k, 0, none⟩ v) x f c :=
  h.apart fun j cs T hc e => by
    rw [Below.heap_setCell _ _ _ _ (by
      show j ≠ k
      rintro rfl
      rw [hk] at e
      simp only [Option.some.injEq, Obj.cells.injEq] at e
      exact hc e.1.symm)]
    exact e

def cnt (b : Bool) : Nat := if b then 0 else 1

theorem rs_ne : ∀ c1 c2 a5 a6 s1 s2 : Bool, (c2 = true → c1 = true) → (s1 = true → c2 = true ∧ a5 = true ∧ a6 = true) → (s2 = true → s1 = true) → ¬ (c1 = true ∧ c2 = true ∧ a5 = true ∧ a6 = true ∧ s1 = true ∧ s2 = true) →
    (if c1 then [] else [3]) ++ (if c1 && !c2 then [7] else []) ++ (if a5 then [] else [8]) ++ (if a6 then [] else [9]) ++ (if c2 && a5 && a6 && !s1 then [10] else []) ++ (if s1 && !s2 then [11] else []) ≠ ([] : List Nat) := by
  intro c1 c2 a5 a6 s1 s2
  cases c1 <;> cases c2 <;> cases a5 <;> cases a6 <;> cases s1 <;> cases s2 <;> simp

section
variable {P : Program} {md : Region.Mode} {ops : Array Oper} {Q : Exit → Act → World → Prop} {S : World → Prop}

set_option maxHeartbeats 1000000 in
theorem two_calls (mkT : Value → Value → Value → Value → Array Value) {W0 : World} {st : Nat} {x y : T}
    (hready : ∀ c1 c2 a5 a6 s1 s2 : Bool, (c2 = true → c1 = true) → (s1 = true → c2 = true ∧ a5 = true ∧ a6 = true) → (s2 = true → s1 = true) → Region.ready md ops (lst2 c1 c2 a5 a6 s1 s2) = (if c1 then [] else [3]) ++ (if c1 && !c2 then [7] else []) ++ (if a5 then [] else [8]) ++ (if a6 then [] else [9]) ++ (if c2 && a5 && a6 && !s1 then [10] else []) ++ (if s1 && !s2 then [11] else []))
    (hS : ∀ w, World.grownBy W0 w none → S w)
    (hc1 : ∀ p q w (K : Act → World → Prop), World.grownBy W0 w none → (∀ f c w', World.grownBy w w' none → CodeAt st w' x f c → K (act (mkT (fnv f c) undef p q)) w') → wpOp P ops Q 3 K (act (mkT undef undef p q)) w)
    (hc2 : ∀ v1 p q w (K : Act → World → Prop), World.grownBy W0 w none → (∀ f c w', World.grownBy w w' none → CodeAt st w' y f c → K (act (mkT v1 (fnv f c) p q)) w') → wpOp P ops Q 7 K (act (mkT v1 undef p q)) w)
    (ha5 : ∀ v1 v2 q w (K : Act → World → Prop), K (act (mkT v1 v2 (ptr w.heap.size) q)) (w.alloc (.cells #[.nilFunc] 112 (0, 0))) → wpOp P ops Q 8 K (act (mkT v1 v2 undef q)) w)
    (ha6 : ∀ v1 v2 p w (K : Act → World → Prop), K (act (mkT v1 v2 p (ptr w.heap.size))) (w.alloc (.cells #[.nilFunc] 112 (0, 0))) → wpOp P ops Q 9 K (act (mkT v1 v2 p undef)) w)
    (hs1 : ∀ f c v2 k q w z (K : Act → World → Prop), w.heap[k]? = some (.cells #[z] 112 (0, 0)) → K (act (mkT (fnv f c) v2 (ptr k) q)) (w.setCell ⟨k, 0, none⟩ (fnv f c)) → wpOp P ops Q 10 K (act (mkT (fnv f c) v2 (ptr k) q)) w)
    (hs2 : ∀ v1 f c p k w z (K : Act → World → Prop), w.heap[k]? = some (.cells #[z] 112 (0, 0)) → K (act (mkT v1 (fnv f c) p (ptr k))) (w.setCell ⟨k, 0, none⟩ (fnv f c)) → wpOp P ops Q 11 K (act (mkT v1 (fnv f c) p (ptr k))) w)
    (hQ : ∀ f1 d1 f2 d2 k m w, World.grownBy W0 w none → Is1 w k (fnv f1 d1) 112 → Is1 w m (fnv f2 d2) 112 → CodeAt st w x f1 d1 → CodeAt st w y f2 d2 → Q .normal (act (mkT (fnv f1 d1) (fnv f2 d2) (ptr k) (ptr m))) w) :
    ∀ (fuel : Nat) (c1 c2 a5 a6 s1 s2 : Bool) (v1 v2 p q : Value) (w : World), fuel = cnt c1 + cnt c2 + cnt a5 + cnt a6 + cnt s1 + cnt s2 → Iv W0 st x y c1 c2 a5 a6 s1 s2 v1 v2 p q w → wpAnyH P md ops Q S fuel (lst2 c1 c2 a5 a6 s1 s2) (act (mkT v1 v2 p q)) w := by
  intro fuel
  induction fuel with
  | zero =>
    intro c1 c2 a5 a6 s1 s2 v1 v2 p q w hf h
    have : c1 = true ∧ c2 = true ∧ a5 = true ∧ a6 = true ∧ s1 = true ∧ s2 = true := by
      cases c1 <;> cases c2 <;> cases a5 <;> cases a6 <;> cases s1 <;> cases s2 <;> simp [cnt] at hf ⊢
    obtain ⟨rfl, rfl, rfl, rfl, rfl, rfl⟩ := this
    refine wpAnyH_done (by rw [hready true true true true true true (by simp) (by simp) (by simp)]; rfl) ?_ _
    obtain ⟨hg, h1, h2, h3, h4, _, _, _, _⟩ := h
    obtain ⟨_, f1, d1, rfl, k1⟩ | ⟨h, _⟩ := h1
    · obtain ⟨_, f2, d2, rfl, k2⟩ | ⟨h, _⟩ := h2
      · obtain ⟨_, k, z, rfl, _, hk, hz, _⟩ | ⟨h, _⟩ := h3
        · obtain ⟨_, m, z', rfl, _, hm, hz', _⟩ | ⟨h, _⟩ := h4
          · have e1 := hz rfl
            have e2 := hz' rfl
            subst e1; subst e2
            exact hQ f1 d1 f2 d2 k m w hg hk hm k1 k2
          · cases h
        · cases h
      · cases h
    · cases h
  | succ n ih =>
    intro c1 c2 a5 a6 s1 s2 v1 v2 p q w hf h
    have hr := hready c1 c2 a5 a6 s1 s2 h.o1 h.o2 h.o3
    refine wpAnyH_all hr ?_ ?_
    · refine rs_ne c1 c2 a5 a6 s1 s2 h.o1 h.o2 h.o3 fun hall => ?_
      obtain ⟨rfl, rfl, rfl, rfl, rfl, rfl⟩ := hall
      simp [cnt] at hf
    intro i hi
    simp only [List.mem_append] at hi
    rcases hi with ((((hi | hi) | hi) | hi) | hi) | hi
    · -- the first part
      cases c1
      · obtain rfl : i = 3 := by simpa using hi
        have e2 : c2 = false := bfalse h.o1 rfl
        subst e2
        have e3 : s1 = false := bfalse (fun hs => (h.o2 hs).1) rfl
        subst e3
        have e4 : s2 = false := bfalse h.o3 rfl
        subst e4
        obtain ⟨hg, h1, h2, h3, h4, hne, o1, o2, o3⟩ := h
        obtain rfl : v1 = undef := orr h1
        obtain rfl : v2 = undef := orr h2
        refine hc1 p q w _ hg fun f c w' hg' hc => ⟨hS _ (grown_trans hg hg'), ?_⟩
        refine ih true false a5 a6 false false _ _ _ _ _ (by simp [cnt] at hf ⊢; omega) ⟨grown_trans hg hg', .inl ⟨rfl, f, c, rfl, hc⟩, .inr ⟨rfl, rfl⟩, ?_, ?_, hne, by simp, by simp, by simp⟩
        · rcases h3 with ⟨h, k, z, e, l, hk, hz⟩ | h
          · exact .inl ⟨h, k, z, e, l, keepB' hk hg', by simp, fun _ => hz.2 rfl⟩
          · exact .inr h
        · rcases h4 with ⟨h, k, z, e, l, hk, hz⟩ | h
          · exact .inl ⟨h, k, z, e, l, keepB' hk hg', by simp, fun _ => hz.2 rfl⟩
          · exact .inr h
      · simp at hi
    · -- the second part
      cases c1
      · simp at hi
      cases c2
      · obtain rfl : i = 7 := by simpa using hi
        have e3 : s1 = false := bfalse (fun hs => (h.o2 hs).1) rfl
        subst e3
        have e4 : s2 = false := bfalse h.o3 rfl
        subst e4
        obtain ⟨hg, h1, h2, h3, h4, hne, o1, o2, o3⟩ := h
        obtain ⟨f1, d1, rfl, k1⟩ := orl h1
        obtain rfl : v2 = undef := orr h2
        refine hc2 _ p q w _ hg fun f c w' hg' hc => ⟨hS _ (grown_trans hg hg'), ?_⟩
        refine ih true true a5 a6 false false _ _ _ _ _ (by simp [cnt] at hf ⊢; omega) ⟨grown_trans hg hg', .inl ⟨rfl, f1, d1, rfl, k1.grown hg'⟩, .inl ⟨rfl, f, c, rfl, hc⟩, ?_, ?_, hne, by simp, by simp, by simp⟩
        · rcases h3 with ⟨h, k, z, e, l, hk, hz⟩ | h
          · exact .inl ⟨h, k, z, e, l, keepB' hk hg', by simp, fun _ => hz.2 rfl⟩
          · exact .inr h
        · rcases h4 with ⟨h, k, z, e, l, hk, hz⟩ | h
          · exact .inl ⟨h, k, z, e, l, keepB' hk hg', by simp, fun _ => hz.2 rfl⟩
          · exact .inr h
      · simp at hi
    · -- the first cell
      cases a5
      · obtain rfl : i = 8 := by simpa using hi
        have e3 : s1 = false := bfalse (fun hs => (h.o2 hs).2.1) rfl
        subst e3
        have e4 : s2 = false := bfalse h.o3 rfl
        subst e4
        obtain ⟨hg, h1, h2, h3, h4, hne, o1, o2, o3⟩ := h
        obtain rfl : p = undef := orr h3
        have hga := grown_alloc (grown_refl w none) (.cells #[.nilFunc] 112 (0, 0))
        refine ha5 v1 v2 q w _ ⟨hS _ (grown_trans hg hga), ?_⟩
        refine ih c1 c2 true a6 false false _ _ _ _ _ (by simp [cnt] at hf ⊢; omega) ⟨grown_trans hg hga, ?_, ?_, .inl ⟨rfl, w.heap.size, .nilFunc, rfl, hg.size, alloc_at _ _ _ rfl, by simp, fun _ => rfl⟩, ?_, ?_, o1, by simp, by simp⟩
        · rcases h1 with ⟨h, f, c, e, k⟩ | h
          · exact .inl ⟨h, f, c, e, k.grown hga⟩
          · exact .inr h
        · rcases h2 with ⟨h, f, c, e, k⟩ | h
          · exact .inl ⟨h, f, c, e, k.grown hga⟩
          · exact .inr h
        · rcases h4 with ⟨h, k, z, e, l, hk, hz⟩ | h
          · exact .inl ⟨h, k, z, e, l, keepB' hk hga, hz⟩
          · exact .inr h
        · intro _ h6
          rcases h4 with ⟨h, k, z, rfl, l, hk, hz⟩ | ⟨h, _⟩
          · have := heap_lt hk
            intro e
            simp at e
            try omega
          · rw [h6] at h; cases h
      · simp at hi
    · -- the second cell
      cases a6
      · obtain rfl : i = 9 := by simpa using hi
        have e3 : s1 = false := bfalse (fun hs => (h.o2 hs).2.2) rfl
        subst e3
        have e4 : s2 = false := bfalse h.o3 rfl
        subst e4
        obtain ⟨hg, h1, h2, h3, h4, hne, o1, o2, o3⟩ := h
        obtain rfl : q = undef := orr h4
        have hga := grown_alloc (grown_refl w none) (.cells #[.nilFunc] 112 (0, 0))
        refine ha6 v1 v2 p w _ ⟨hS _ (grown_trans hg hga), ?_⟩
        refine ih c1 c2 a5 true false false _ _ _ _ _ (by simp [cnt] at hf ⊢; omega) ⟨grown_trans hg hga, ?_, ?_, ?_, .inl ⟨rfl, w.heap.size, .nilFunc, rfl, hg.size, alloc_at _ _ _ rfl, by simp, fun _ => rfl⟩, ?_, o1, by simp, by simp⟩
        · rcases h1 with ⟨h, f, c, e, k⟩ | h
          · exact .inl ⟨h, f, c, e, k.grown hga⟩
          · exact .inr h
        · rcases h2 with ⟨h, f, c, e, k⟩ | h
          · exact .inl ⟨h, f, c, e, k.grown hga⟩
          · exact .inr h
        · rcases h3 with ⟨h, k, z, e, l, hk, hz⟩ | h
          · exact .inl ⟨h, k, z, e, l, keepB' hk hga, hz⟩
          · exact .inr h
        · intro h5 _
          rcases h3 with ⟨h, k, z, rfl, l, hk, hz⟩ | ⟨h, _⟩
          · have := heap_lt hk
            intro e
            simp at e
            try omega
          · rw [h5] at h; cases h
      · simp at hi
    · -- the first store
      have hc : c2 = true ∧ a5 = true ∧ a6 = true ∧ s1 = false := by cases c2 <;> cases a5 <;> cases a6 <;> cases s1 <;> simp at hi ⊢
      obtain ⟨rfl, rfl, rfl, rfl⟩ := hc
      obtain rfl : i = 10 := by simpa using hi
      have e4 : s2 = false := bfalse h.o3 rfl
      subst e4
      obtain ⟨hg, h1, h2, h3, h4, hne, o1, o2, o3⟩ := h
      obtain rfl : c1 = true := o1 rfl
      obtain ⟨f1, d1, rfl, k1⟩ := orl h1
      obtain ⟨f2, d2, rfl, k2⟩ := orl h2
      obtain ⟨k, z, rfl, l, hk, _, hz⟩ := orl h3
      obtain ⟨m, z', rfl, l', hm, _, hz'⟩ := orl h4
      obtain rfl := hz rfl
      have hgs : World.grownBy W0 (w.setCell ⟨k, 0, none⟩ (fnv f1 d1)) none := grown_setnew2 hg l 0 _
      have hkm : m ≠ k := fun e => hne rfl rfl (by rw [e])
      refine hs1 f1 d1 _ k _ w _ _ hk ⟨hS _ hgs, ?_⟩
      refine ih true true true true true false _ _ _ _ _ (by simp [cnt] at hf ⊢; omega) ⟨hgs, .inl ⟨rfl, f1, d1, rfl, k1.set hk _⟩, .inl ⟨rfl, f2, d2, rfl, k2.set hk _⟩, .inl ⟨rfl, k, fnv f1 d1, rfl, l, ?_, fun _ => rfl, by simp⟩, .inl ⟨rfl, m, z', rfl, l', ?_, by simp, hz'⟩, hne, by simp, by simp, by simp⟩
      · rw [RB.set hk 0 _]; rfl
      · rw [Below.heap_setCell _ _ _ _ hkm]; exact hm
    · -- the second store
      have hc : s1 = true ∧ s2 = false := by cases s1 <;> cases s2 <;> simp at hi ⊢
      obtain ⟨rfl, rfl⟩ := hc
      obtain rfl : i = 11 := by simpa using hi
      obtain ⟨hg, h1, h2, h3, h4, hne, o1, o2, o3⟩ := h
      obtain ⟨rfl, rfl, rfl⟩ := o2 rfl
      obtain rfl : c1 = true := o1 rfl
      obtain ⟨f1, d1, rfl, k1⟩ := orl h1
      obtain ⟨f2, d2, rfl, k2⟩ := orl h2
      obtain ⟨k, z, rfl, l, hk, hz, _⟩ := orl h3
      obtain ⟨m, z', rfl, l', hm, _, hz'⟩ := orl h4
      obtain rfl := hz' rfl
      obtain rfl := hz rfl
      have hgs : World.grownBy W0 (w.setCell ⟨m, 0, none⟩ (fnv f2 d2)) none := grown_setnew2 hg l' 0 _
      have hkm : k ≠ m := fun e => hne rfl rfl (by rw [e])
      refine hs2 _ f2 d2 _ m w _ _ hm ⟨hS _ hgs, ?_⟩
      refine ih true true true true true true _ _ _ _ _ (by simp [cnt] at hf ⊢; omega) ⟨hgs, .inl ⟨rfl, f1, d1, rfl, k1.set hm _⟩, .inl ⟨rfl, f2, d2, rfl, k2.set hm _⟩, .inl ⟨rfl, k, fnv f1 d1, rfl, l, ?_, fun _ => rfl, by simp⟩, .inl ⟨rfl, m, fnv f2 d2, rfl, l', ?_, fun _ => rfl, by simp⟩, hne, by simp, by simp, by simp⟩
      · rw [Below.heap_setCell _ _ _ _ hkm]; exact hk
      · rw [RB.set hm 0 _]; rfl
end
end Go.Proofs.YtdpbclnpmkhooaaGreatDoor

namespace Go.Proofs.YtdpbclnpmkhooaaGreatDoor
open Go Go.Proofs Go.RowKit Skein

theorem one_cell {w : World} {k T : Nat} {z : Value} (h : w.heap[k]? = some (.cells #[z] T (0, 0))) : w.cell? ⟨k, 0, none⟩ = some z ∧ ∀ o, w.frozen? ⟨k, o, none⟩ = false := by
  refine ⟨?_, fun o => ?_⟩ <;> simp [World.cell?, World.frozen?, h]

set_option maxRecDepth 100000 in
set_option maxHeartbeats 64000000 in
theorem muse (x y : T) (ix : CM x) (iy : CM y) (st A : Nat) (w : World) (hA : w.heap[A]? = some (.cells sgCells 130 (0, 0))) : Calls Tryz.prog 92 #[mk st A, .agg #[pv x, pv y]] w (Made st (.app x y) w) := by
  have hmf := mf_ok
  obtain ⟨T1, x1, e1⟩ := pv_iface x
  obtain ⟨T2, x2, e2⟩ := pv_iface y
  have HX : Hid (∀ wd, wd.heap[A]? = some (.cells sgCells 130 (0, 0)) → Calls Tryz.prog 60 #[mk st A, .iface T1 x1] wd (Made st x wd)) := fun wd h => e1 ▸ ix st A wd h
  have HY : Hid (∀ wd, wd.heap[A]? = some (.cells sgCells 130 (0, 0)) → Calls Tryz.prog 60 #[mk st A, .iface T2 x2] wd (Made st y wd)) := fun wd h => e2 ▸ iy st A wd h
  have hg0 := grown_alloc (grown_alloc (grown_refl w none) (.cells #[ptr st, .slice (some ⟨A, 0, none⟩) 5 5] 108 (0, 0))) (.cells #[.iface T1 x1, .iface T2 x2] 142 (0, 0))
  have hb1 := keepB' (alloc_at w (.cells #[ptr st, .slice (some ⟨A, 0, none⟩) 5 5] 108 (0, 0)) _ rfl) (grown_alloc (grown_refl _ none) (.cells #[.iface T1 x1, .iface T2 x2] 142 (0, 0)))
  have hb2 := alloc_at (w.alloc (.cells #[ptr st, .slice (some ⟨A, 0, none⟩) 5 5] 108 (0, 0))) (.cells #[.iface T1 x1, .iface T2 x2] 142 (0, 0)) (w.heap.size + 1) (by rw [alloc_size])
  have hA1 := keepB' hA hg0
  rw [e1, e2]
  clear e1 e2 hA
  go_enter Tryz.func92, Tryz.ntmps92
  go_wp2_with fail
  generalize hW : (w.alloc (.cells #[ptr st, .slice (some ⟨A, 0, none⟩) 5 5] 108 (0, 0))).alloc (.cells #[.iface T1 x1, .iface T2 x2] 142 (0, 0)) = W at hg0 hb1 hb2 hA1 ⊢
  clear hW
  have HS : Hid (∀ wd, World.grownBy W wd none → wd.cell? ⟨w.heap.size, 0, none⟩ = some (ptr st) ∧ wd.cell? ⟨w.heap.size, 1, none⟩ = some (.slice (some ⟨A, 0, none⟩) 5 5) ∧ wd.cell? ⟨w.heap.size + 1, 0, none⟩ = some (.iface T1 x1) ∧ wd.cell? ⟨w.heap.size + 1, 1, none⟩ = some (.iface T2 x2)) := fun wd hg => by
    have b1 := keepB' hb1 hg
    have b2 := keepB' hb2 hg
    refine ⟨?_, ?_, ?_, ?_⟩ <;> simp [World.cell?, b1, b2]
  have hgd : World.grownBy W W.drew none := grown_same (grown_refl _ _) rfl rfl rfl rfl
  refine wp_region_held_drew (S := fun wd => wd.cell? ⟨w.heap.size, 0, none⟩ = some (ptr st) ∧ wd.cell? ⟨w.heap.size, 1, none⟩ = some (.slice (some ⟨A, 0, none⟩) 5 5) ∧ wd.cell? ⟨w.heap.size + 1, 0, none⟩ = some (.iface T1 x1) ∧ wd.cell? ⟨w.heap.size + 1, 1, none⟩ = some (.iface T2 x2)) (by kernel_rfl) (HS.out _ hgd) (fun hHeld => ?_)
  refine wpAnyH_take (i := 0) (v := mk st A) rfl (by kernel_rfl) (by kernel_rfl) (by kernel_rfl) (fun _ _ _ h => h) (Or.inl ⟨by rfl, fun wd hSw => ?_⟩) hHeld ?_
  · obtain ⟨s1, s2, s3, s4⟩ := hSw; go_simp
  refine wpAnyH_take (i := 1) (v := ptr (w.heap.size + 1)) rfl (by kernel_rfl) (by kernel_rfl) (by kernel_rfl) (fun _ _ _ h => h) (Or.inl ⟨by rfl, fun wd hSw => ?_⟩) hHeld ?_
  · obtain ⟨s1, s2, s3, s4⟩ := hSw; go_simp
  refine wpAnyH_take (i := 2) (v := .iface T1 x1) rfl (by kernel_rfl) (by kernel_rfl) (by kernel_rfl) (fun _ _ _ h => h) (Or.inl ⟨by rfl, fun wd hSw => ?_⟩) hHeld ?_
  · obtain ⟨s1, s2, s3, s4⟩ := hSw; go_simp
  refine wpAnyH_take (i := 4) (v := mk st A) rfl (by kernel_rfl) (by kernel_rfl) (by kernel_rfl) (fun _ _ _ h => h) (Or.inl ⟨by rfl, fun wd hSw => ?_⟩) hHeld ?_
  · obtain ⟨s1, s2, s3, s4⟩ := hSw; go_simp
  refine wpAnyH_take (i := 5) (v := .pointer (some ⟨w.heap.size + 1, 1, none⟩)) rfl (by kernel_rfl) (by kernel_rfl) (by kernel_rfl) (fun _ _ _ h => h) (Or.inl ⟨by rfl, fun wd hSw => ?_⟩) hHeld ?_
  · obtain ⟨s1, s2, s3, s4⟩ := hSw; go_simp
  refine wpAnyH_take (i := 6) (v := .iface T2 x2) rfl (by kernel_rfl) (by kernel_rfl) (by kernel_rfl) (fun _ _ _ h => h) (Or.inl ⟨by rfl, fun wd hSw => ?_⟩) hHeld ?_
  · obtain ⟨s1, s2, s3, s4⟩ := hSw; go_simp
  refine two_calls (W0 := W) (st := st) (x := x) (y := y) (fun v1 v2 p q => #[mk st A, .agg #[.iface T1 x1, .iface T2 x2], ptr w.heap.size, ptr (w.heap.size + 1), .nilFunc, p, q, mk st A, ptr (w.heap.size + 1), .iface T1 x1, v1, mk st A, .pointer (some ⟨w.heap.size + 1, 1, none⟩), .iface T2 x2, v2, undef]) ?_ HS.out ?_ ?_ ?_ ?_ ?_ ?_ ?_ 6 false false false false false false undef undef undef undef _ rfl ⟨hgd, .inr ⟨rfl, rfl⟩, .inr ⟨rfl, rfl⟩, .inr ⟨rfl, rfl⟩, .inr ⟨rfl, rfl⟩, by simp, by simp, by simp, by simp⟩
  · intro c1 c2 a5 a6 s1 s2 o1 o2 o3
    cases c1 <;> cases c2 <;> cases a5 <;> cases a6 <;> cases s1 <;> cases s2 <;> first | (exact absurd (o1 rfl) (by decide)) | (exact absurd (o2 rfl) (by decide)) | (exact absurd (o3 rfl) (by decide)) | kernel_rfl
  · intro p q wd K hg hK
    refine wpOp_step rfl (fun K' hK' => ?_)
    go_simp
    refine (HX.out _ (keepB' hA1 hg)).mono ?_
    rintro e w' ⟨f, c, rfl, hg', hc⟩
    exact hK' _ _ (hK f c w' hg' hc)
  · intro v1 p q wd K hg hK
    refine wpOp_step rfl (fun K' hK' => ?_)
    go_simp
    refine (HY.out _ (keepB' hA1 hg)).mono ?_
    rintro e w' ⟨f, c, rfl, hg', hc⟩
    exact hK' _ _ (hK f c w' hg' hc)
  · intro v1 v2 q wd K hK
    refine wpOp_step rfl (fun K' hK' => ?_)
    go_simp
    exact hK' _ _ hK
  · intro v1 v2 p wd K hK
    refine wpOp_step rfl (fun K' hK' => ?_)
    go_simp
    exact hK' _ _ hK
  · intro f c v2 k q wd z K hk hK
    obtain ⟨k0, kf⟩ := one_cell hk
    refine wpOp_step rfl (fun K' hK' => ?_)
    go_simp
    exact hK' _ _ hK
  · intro v1 f c p k wd z K hk hK
    obtain ⟨k0, kf⟩ := one_cell hk
    refine wpOp_step rfl (fun K' hK' => ?_)
    go_simp
    exact hK' _ _ hK
  · intro f1 d1 f2 d2 k m wd hg h1 h2 h3 h4
    have hmk := keepB' hb1 hg
    have HF : Hid (Made st (.app x y) w (.returned (fnv 119 #[ptr k, ptr w.heap.size, ptr m])) wd) := ⟨119, _, rfl, grown_trans hg0 hg, rfl, k, w.heap.size, m, f1, d1, f2, d2, _, rfl, h1, hmk, h2, h3, h4⟩
    clear h1 h2 h3 h4 hmk
    go_wp2_with fail
    go_ret
    exact HF.out
end Go.Proofs.YtdpbclnpmkhooaaGreatDoor

namespace Go.Proofs.YtdpbclnpmkhooaaGreatDoor
open Go Go.Proofs Go.RowKit Skein

set_option maxRecDepth 100000 in
set_option maxHeartbeats 64000000 in
theorem mlet (m : Nat) (x y : T) (ix : CM x) (iy : CM y) (st A : Nat) (w : World) (hA : w.heap[A]? = some (.cells sgCells 130 (0, 0))) : Calls Tryz.prog 93 #[mk st A, .agg #[.int .i64 m, pv x, pv y]] w (Made st (.letE m x y) w) := by
  have hmf := mf_ok
  obtain ⟨T1, x1, e1⟩ := pv_iface x
  obtain ⟨T2, x2, e2⟩ := pv_iface y
  have HX : Hid (∀ wd, wd.heap[A]? = some (.cells sgCells 130 (0, 0)) → Calls Tryz.prog 60 #[mk st A, .iface T1 x1] wd (Made st x wd)) := fun wd h => e1 ▸ ix st A wd h
  have HY : Hid (∀ wd, wd.heap[A]? = some (.cells sgCells 130 (0, 0)) → Calls Tryz.prog 60 #[mk st A, .iface T2 x2] wd (Made st y wd)) := fun wd h => e2 ▸ iy st A wd h
  have hg0 := grown_alloc (grown_alloc (grown_refl w none) (.cells #[ptr st, .slice (some ⟨A, 0, none⟩) 5 5] 108 (0, 0))) (.cells #[.int .i64 m, .iface T1 x1, .iface T2 x2] 145 (0, 0))
  have hb1 := keepB' (alloc_at w (.cells #[ptr st, .slice (some ⟨A, 0, none⟩) 5 5] 108 (0, 0)) _ rfl) (grown_alloc (grown_refl _ none) (.cells #[.int .i64 m, .iface T1 x1, .iface T2 x2] 145 (0, 0)))
  have hb2 := alloc_at (w.alloc (.cells #[ptr st, .slice (some ⟨A, 0, none⟩) 5 5] 108 (0, 0))) (.cells #[.int .i64 m, .iface T1 x1, .iface T2 x2] 145 (0, 0)) (w.heap.size + 1) (by rw [alloc_size])
  have hA1 := keepB' hA hg0
  rw [e1, e2]
  clear e1 e2 hA
  go_enter Tryz.func93, Tryz.ntmps93
  go_wp2_with fail
  generalize hW : (w.alloc (.cells #[ptr st, .slice (some ⟨A, 0, none⟩) 5 5] 108 (0, 0))).alloc (.cells #[.int .i64 m, .iface T1 x1, .iface T2 x2] 145 (0, 0)) = W at hg0 hb1 hb2 hA1 ⊢
  clear hW
  have HS : Hid (∀ wd, World.grownBy W wd none → wd.cell? ⟨w.heap.size, 0, none⟩ = some (ptr st) ∧ wd.cell? ⟨w.heap.size, 1, none⟩ = some (.slice (some ⟨A, 0, none⟩) 5 5) ∧ wd.cell? ⟨w.heap.size + 1, 1, none⟩ = some (.iface T1 x1) ∧ wd.cell? ⟨w.heap.size + 1, 2, none⟩ = some (.iface T2 x2)) := fun wd hg => by
    have b1 := keepB' hb1 hg
    have b2 := keepB' hb2 hg
    refine ⟨?_, ?_, ?_, ?_⟩ <;> simp [World.cell?, b1, b2]
  have hgd : World.grownBy W W.drew none := grown_same (grown_refl _ _) rfl rfl rfl rfl
  refine wp_region_held_drew (S := fun wd => wd.cell? ⟨w.heap.size, 0, none⟩ = some (ptr st) ∧ wd.cell? ⟨w.heap.size, 1, none⟩ = some (.slice (some ⟨A, 0, none⟩) 5 5) ∧ wd.cell? ⟨w.heap.size + 1, 1, none⟩ = some (.iface T1 x1) ∧ wd.cell? ⟨w.heap.size + 1, 2, none⟩ = some (.iface T2 x2)) (by kernel_rfl) (HS.out _ hgd) (fun hHeld => ?_)
  refine wpAnyH_take (i := 0) (v := mk st A) rfl (by kernel_rfl) (by kernel_rfl) (by kernel_rfl) (fun _ _ _ h => h) (Or.inl ⟨by rfl, fun wd hSw => ?_⟩) hHeld ?_
  · obtain ⟨s1, s2, s3, s4⟩ := hSw; go_simp
  refine wpAnyH_take (i := 1) (v := .pointer (some ⟨w.heap.size + 1, 1, none⟩)) rfl (by kernel_rfl) (by kernel_rfl) (by kernel_rfl) (fun _ _ _ h => h) (Or.inl ⟨by rfl, fun wd hSw => ?_⟩) hHeld ?_
  · obtain ⟨s1, s2, s3, s4⟩ := hSw; go_simp
  refine wpAnyH_take (i := 2) (v := .iface T1 x1) rfl (by kernel_rfl) (by kernel_rfl) (by kernel_rfl) (fun _ _ _ h => h) (Or.inl ⟨by rfl, fun wd hSw => ?_⟩) hHeld ?_
  · obtain ⟨s1, s2, s3, s4⟩ := hSw; go_simp
  refine wpAnyH_take (i := 4) (v := mk st A) rfl (by kernel_rfl) (by kernel_rfl) (by kernel_rfl) (fun _ _ _ h => h) (Or.inl ⟨by rfl, fun wd hSw => ?_⟩) hHeld ?_
  · obtain ⟨s1, s2, s3, s4⟩ := hSw; go_simp
  refine wpAnyH_take (i := 5) (v := .pointer (some ⟨w.heap.size + 1, 2, none⟩)) rfl (by kernel_rfl) (by kernel_rfl) (by kernel_rfl) (fun _ _ _ h => h) (Or.inl ⟨by rfl, fun wd hSw => ?_⟩) hHeld ?_
  · obtain ⟨s1, s2, s3, s4⟩ := hSw; go_simp
  refine wpAnyH_take (i := 6) (v := .iface T2 x2) rfl (by kernel_rfl) (by kernel_rfl) (by kernel_rfl) (fun _ _ _ h => h) (Or.inl ⟨by rfl, fun wd hSw => ?_⟩) hHeld ?_
  · obtain ⟨s1, s2, s3, s4⟩ := hSw; go_simp
  refine two_calls (W0 := W) (st := st) (x := x) (y := y) (fun v1 v2 p q => #[mk st A, .agg #[.int .i64 m, .iface T1 x1, .iface T2 x2], ptr w.heap.size, ptr (w.heap.size + 1), .nilFunc, p, q, mk st A, .pointer (some ⟨w.heap.size + 1, 1, none⟩), .iface T1 x1, v1, mk st A, .pointer (some ⟨w.heap.size + 1, 2, none⟩), .iface T2 x2, v2, undef]) ?_ HS.out ?_ ?_ ?_ ?_ ?_ ?_ ?_ 6 false false false false false false undef undef undef undef _ rfl ⟨hgd, .inr ⟨rfl, rfl⟩, .inr ⟨rfl, rfl⟩, .inr ⟨rfl, rfl⟩, .inr ⟨rfl, rfl⟩, by simp, by simp, by simp, by simp⟩
  · intro c1 c2 a5 a6 s1 s2 o1 o2 o3
    cases c1 <;> cases c2 <;> cases a5 <;> cases a6 <;> cases s1 <;> cases s2 <;> first | (exact absurd (o1 rfl) (by decide)) | (exact absurd (o2 rfl) (by decide)) | (exact absurd (o3 rfl) (by decide)) | kernel_rfl
  · intro p q wd K hg hK
    refine wpOp_step rfl (fun K' hK' => ?_)
    go_simp
    refine (HX.out _ (keepB' hA1 hg)).mono ?_
    rintro e w' ⟨f, c, rfl, hg', hc⟩
    exact hK' _ _ (hK f c w' hg' hc)
  · intro v1 p q wd K hg hK
    refine wpOp_step rfl (fun K' hK' => ?_)
    go_simp
    refine (HY.out _ (keepB' hA1 hg)).mono ?_
    rintro e w' ⟨f, c, rfl, hg', hc⟩
    exact hK' _ _ (hK f c w' hg' hc)
  · intro v1 v2 q wd K hK
    refine wpOp_step rfl (fun K' hK' => ?_)
    go_simp
    exact hK' _ _ hK
  · intro v1 v2 p wd K hK
    refine wpOp_step rfl (fun K' hK' => ?_)
    go_simp
    exact hK' _ _ hK
  · intro f c v2 k q wd z K hk hK
    obtain ⟨k0, kf⟩ := one_cell hk
    refine wpOp_step rfl (fun K' hK' => ?_)
    go_simp
    exact hK' _ _ hK
  · intro v1 f c p k wd z K hk hK
    obtain ⟨k0, kf⟩ := one_cell hk
    refine wpOp_step rfl (fun K' hK' => ?_)
    go_simp
    exact hK' _ _ hK
  · intro f1 d1 f2 d2 k m' wd hg h1 h2 h3 h4
    have HF : Hid (Made st (.letE m x y) w (.returned (fnv 122 #[ptr k, ptr m'])) wd) := ⟨122, _, rfl, grown_trans hg0 hg, rfl, k, m', f1, d1, f2, d2, rfl, h1, h2, h3, h4⟩
    clear h1 h2 h3 h4
    go_wp2_with fail
    go_ret
    exact HF.out
set_option maxRecDepth 100000 in
set_option maxHeartbeats 64000000 in
theorem mreck (op : UInt8) (hop : Sign5 op) (x y : T) (ix : CM x) (iy : CM y) (st A : Nat) (w : World) (hA : w.heap[A]? = some (.cells sgCells 130 (0, 0))) : Calls Tryz.prog 95 #[mk st A, .agg #[.string ⟨#[op]⟩, pv x, pv y]] w (Made st (.bin op x y) w) := by
  have hmf := mf_ok
  obtain ⟨T1, x1, e1⟩ := pv_iface x
  obtain ⟨T2, x2, e2⟩ := pv_iface y
  have HX : Hid (∀ wd, wd.heap[A]? = some (.cells sgCells 130 (0, 0)) → Calls Tryz.prog 60 #[mk st A, .iface T1 x1] wd (Made st x wd)) := fun wd h => e1 ▸ ix st A wd h
  have HY : Hid (∀ wd, wd.heap[A]? = some (.cells sgCells 130 (0, 0)) → Calls Tryz.prog 60 #[mk st A, .iface T2 x2] wd (Made st y wd)) := fun wd h => e2 ▸ iy st A wd h
  have hg0 := grown_alloc (grown_alloc (grown_refl w none) (.cells #[ptr st, .slice (some ⟨A, 0, none⟩) 5 5] 108 (0, 0))) (.cells #[.string ⟨#[op]⟩, .iface T1 x1, .iface T2 x2] 151 (0, 0))
  have hb1 := keepB' (alloc_at w (.cells #[ptr st, .slice (some ⟨A, 0, none⟩) 5 5] 108 (0, 0)) _ rfl) (grown_alloc (grown_refl _ none) (.cells #[.string ⟨#[op]⟩, .iface T1 x1, .iface T2 x2] 151 (0, 0)))
  have hb2 := alloc_at (w.alloc (.cells #[ptr st, .slice (some ⟨A, 0, none⟩) 5 5] 108 (0, 0))) (.cells #[.string ⟨#[op]⟩, .iface T1 x1, .iface T2 x2] 151 (0, 0)) (w.heap.size + 1) (by rw [alloc_size])
  have hA1 := keepB' hA hg0
  rw [e1, e2]
  clear e1 e2 hA
  go_enter Tryz.func95, Tryz.ntmps95
  have HK : Hid (Calls Tryz.prog 125 #[mk st A, .string ⟨#[op]⟩] _ _) := work_of op hop st A _ hA1
  go_wp2_with fail
  refine HK.out.mono ?_
  rintro e w1 ⟨rfl, hg1⟩
  have hg2 := grown_alloc (grown_refl w1 none) (.cells #[fnv (workOf op) #[]] 128 (0, 0))
  have hb3 := alloc_at w1 (.cells #[fnv (workOf op) #[]] 128 (0, 0)) _ rfl
  have hg0 := grown_trans (grown_trans hg0 hg1) hg2
  have hb1 := keepB' (keepB' hb1 hg1) hg2
  have hb2 := keepB' (keepB' hb2 hg1) hg2
  have hA1 := keepB' (keepB' hA1 hg1) hg2
  go_wp2_with fail
  generalize hW : w1.alloc (.cells #[fnv (workOf op) #[]] 128 (0, 0)) = W at hg0 hb1 hb2 hb3 hA1 ⊢
  generalize w1.heap.size = kw at hb3 ⊢
  clear hW hg1 hg2
  have HS : Hid (∀ wd, World.grownBy W wd none → wd.cell? ⟨w.heap.size, 0, none⟩ = some (ptr st) ∧ wd.cell? ⟨w.heap.size, 1, none⟩ = some (.slice (some ⟨A, 0, none⟩) 5 5) ∧ wd.cell? ⟨w.heap.size + 1, 1, none⟩ = some (.iface T1 x1) ∧ wd.cell? ⟨w.heap.size + 1, 2, none⟩ = some (.iface T2 x2)) := fun wd hg => by
    have b1 := keepB' hb1 hg
    have b2 := keepB' hb2 hg
    refine ⟨?_, ?_, ?_, ?_⟩ <;> simp [World.cell?, b1, b2]
  have hgd : World.grownBy W W.drew none := grown_same (grown_refl _ _) rfl rfl rfl rfl
  refine wp_region_held_drew (S := fun wd => wd.cell? ⟨w.heap.size, 0, none⟩ = some (ptr st) ∧ wd.cell? ⟨w.heap.size, 1, none⟩ = some (.slice (some ⟨A, 0, none⟩) 5 5) ∧ wd.cell? ⟨w.heap.size + 1, 1, none⟩ = some (.iface T1 x1) ∧ wd.cell? ⟨w.heap.size + 1, 2, none⟩ = some (.iface T2 x2)) (by kernel_rfl) (HS.out _ hgd) (fun hHeld => ?_)
  refine wpAnyH_take (i := 0) (v := mk st A) rfl (by kernel_rfl) (by kernel_rfl) (by kernel_rfl) (fun _ _ _ h => h) (Or.inl ⟨by rfl, fun wd hSw => ?_⟩) hHeld ?_
  · obtain ⟨s1, s2, s3, s4⟩ := hSw; go_simp
  refine wpAnyH_take (i := 1) (v := .pointer (some ⟨w.heap.size + 1, 1, none⟩)) rfl (by kernel_rfl) (by kernel_rfl) (by kernel_rfl) (fun _ _ _ h => h) (Or.inl ⟨by rfl, fun wd hSw => ?_⟩) hHeld ?_
  · obtain ⟨s1, s2, s3, s4⟩ := hSw; go_simp
  refine wpAnyH_take (i := 2) (v := .iface T1 x1) rfl (by kernel_rfl) (by kernel_rfl) (by kernel_rfl) (fun _ _ _ h => h) (Or.inl ⟨by rfl, fun wd hSw => ?_⟩) hHeld ?_
  · obtain ⟨s1, s2, s3, s4⟩ := hSw; go_simp
  refine wpAnyH_take (i := 4) (v := mk st A) rfl (by kernel_rfl) (by kernel_rfl) (by kernel_rfl) (fun _ _ _ h => h) (Or.inl ⟨by rfl, fun wd hSw => ?_⟩) hHeld ?_
  · obtain ⟨s1, s2, s3, s4⟩ := hSw; go_simp
  refine wpAnyH_take (i := 5) (v := .pointer (some ⟨w.heap.size + 1, 2, none⟩)) rfl (by kernel_rfl) (by kernel_rfl) (by kernel_rfl) (fun _ _ _ h => h) (Or.inl ⟨by rfl, fun wd hSw => ?_⟩) hHeld ?_
  · obtain ⟨s1, s2, s3, s4⟩ := hSw; go_simp
  refine wpAnyH_take (i := 6) (v := .iface T2 x2) rfl (by kernel_rfl) (by kernel_rfl) (by kernel_rfl) (fun _ _ _ h => h) (Or.inl ⟨by rfl, fun wd hSw => ?_⟩) hHeld ?_
  · obtain ⟨s1, s2, s3, s4⟩ := hSw; go_simp
  refine two_calls (W0 := W) (st := st) (x := x) (y := y) (fun v1 v2 p q => #[mk st A, .agg #[.string ⟨#[op]⟩, .iface T1 x1, .iface T2 x2], ptr w.heap.size, ptr (w.heap.size + 1), .nilFunc, ptr kw, p, q, mk st A, ptr (w.heap.size + 1), .string ⟨#[op]⟩, fnv (workOf op) #[], mk st A, .pointer (some ⟨w.heap.size + 1, 1, none⟩), .iface T1 x1, v1, mk st A, .pointer (some ⟨w.heap.size + 1, 2, none⟩), .iface T2 x2, v2, undef]) ?_ HS.out ?_ ?_ ?_ ?_ ?_ ?_ ?_ 6 false false false false false false undef undef undef undef _ rfl ⟨hgd, .inr ⟨rfl, rfl⟩, .inr ⟨rfl, rfl⟩, .inr ⟨rfl, rfl⟩, .inr ⟨rfl, rfl⟩, by simp, by simp, by simp, by simp⟩
  · intro c1 c2 a5 a6 s1 s2 o1 o2 o3
    cases c1 <;> cases c2 <;> cases a5 <;> cases a6 <;> cases s1 <;> cases s2 <;> first | (exact absurd (o1 rfl) (by decide)) | (exact absurd (o2 rfl) (by decide)) | (exact absurd (o3 rfl) (by decide)) | kernel_rfl
  · intro p q wd K hg hK
    refine wpOp_step rfl (fun K' hK' => ?_)
    go_simp
    refine (HX.out _ (keepB' hA1 hg)).mono ?_
    rintro e w' ⟨f, c, rfl, hg', hc⟩
    exact hK' _ _ (hK f c w' hg' hc)
  · intro v1 p q wd K hg hK
    refine wpOp_step rfl (fun K' hK' => ?_)
    go_simp
    refine (HY.out _ (keepB' hA1 hg)).mono ?_
    rintro e w' ⟨f, c, rfl, hg', hc⟩
    exact hK' _ _ (hK f c w' hg' hc)
  · intro v1 v2 q wd K hK
    refine wpOp_step rfl (fun K' hK' => ?_)
    go_simp
    exact hK' _ _ hK
  · intro v1 v2 p wd K hK
    refine wpOp_step rfl (fun K' hK' => ?_)
    go_simp
    exact hK' _ _ hK
  · intro f c v2 k q wd z K hk hK
    obtain ⟨k0, kf⟩ := one_cell hk
    refine wpOp_step rfl (fun K' hK' => ?_)
    go_simp
    exact hK' _ _ hK
  · intro v1 f c p k wd z K hk hK
    obtain ⟨k0, kf⟩ := one_cell hk
    refine wpOp_step rfl (fun K' hK' => ?_)
    go_simp
    exact hK' _ _ hK
  · intro f1 d1 f2 d2 k m wd hg h1 h2 h3 h4
    have hmk := keepB' hb3 hg
    have HF : Hid (Made st (.bin op x y) w (.returned (fnv 126 #[ptr k, ptr m, ptr kw])) wd) := ⟨126, _, rfl, grown_trans hg0 hg, hop, rfl, k, m, kw, f1, d1, f2, d2, rfl, h1, h2, hmk, h3, h4⟩
    clear h1 h2 h3 h4 hmk
    go_wp2_with fail
    go_ret
    exact HF.out
end Go.Proofs.YtdpbclnpmkhooaaGreatDoor
