/-
  The document's walk: a list is made (for stage 3).
  The document's walk: whatever is needed (lists too).
  The document's digits.
  The program makes closures of a tree.
-/
import Derived.Test.YtjjlgjmebnkdjaaGreatDoorWc03
import Derived.Test.YtjjlgjmebnkdjaaGreatDoorRefC
import Derived.Lib.ItoaMem
import Derived.Test.YtjjlgjmebnkdjaaGreatDoorWc01
import Derived.Test.YtjjlgjmebnkdjaaGreatDoorPrgE
import Derived.Test.YtjjlgjmebnkdjaaGreatDoorPrgJ
import Derived.Deep.RegionHeld3
import Derived.Laws.EntriesVeiled
namespace Go.Proofs.YtjjlgjmebnkdjaaGreatDoor
open Go Go.Proofs Go.RowKit Skein

/-- Two new thunks, and what else is new. -/
theorem RE.more2 {b w w' A wb L S} (h : RE b w A wb L S) (hg : World.grownBy w w' none) (c1 c2 : C) (a1 a2 : Nat) (ha1 : w.heap.size ≤ a1) (ha2 : w.heap.size ≤ a2) (hne : a1 ≠ a2) (hc1 : TkAt b w' (A ++ [a1, a2]) c1 a1) (hc2 : TkAt b w' (A ++ [a1, a2]) c2 a2) : RE b w' (A ++ [a1, a2]) wb L ⟨S.heap ++ [c1, c2], S.steps⟩ := by
  have h' := h.grown hg
  have hk : Fr 89 68 b w w' := Fr.grown h.blt hg
  have key : ∀ (i x : Nat), (A ++ [a1, a2])[i]? = some x → (i < A.length ∧ A[i]? = some x ∧ x < w.heap.size) ∨ (i = A.length ∧ x = a1) ∨ (i = A.length + 1 ∧ x = a2) := fun i x hx => by
    by_cases hi : i < A.length
    · rw [List.getElem?_append_left hi] at hx
      obtain ⟨cs, hh, _⟩ := (h.tk i _ x (List.getElem?_eq_getElem (by rw [← h.len]; exact hi)) hx).cells
      exact .inl ⟨hi, hx, heap_lt hh⟩
    · have hl := (List.getElem?_eq_some_iff.1 hx).1
      simp at hl
      rw [List.getElem?_append_right (by omega)] at hx
      have : i - A.length = 0 ∨ i - A.length = 1 := by omega
      rcases this with e | e
      · rw [e] at hx; simp at hx; exact .inr (.inl ⟨by omega, hx.symm⟩)
      · rw [e] at hx; simp at hx; exact .inr (.inr ⟨by omega, hx.symm⟩)
  refine ⟨h'.walk, by simp [h.len], fun i d x h1 h2 => ?_, fun i j x h1 h2 => ?_, fun x hx => ?_, h.wlo, h.lim⟩
  · rcases key i x h2 with ⟨hi, e, _⟩ | ⟨rfl, rfl⟩ | ⟨rfl, rfl⟩
    · rw [List.getElem?_append_left (by rw [← h.len]; exact hi)] at h1
      have ht := h.tk i d x h1 e
      obtain ⟨cs, hh, _⟩ := ht.cells
      exact ht.fr hk (Ext.app _ _) (hg.block x (heap_lt hh) (by simp))
    · rw [h.len, List.getElem?_append_right (by omega)] at h1
      simp at h1; subst h1; exact hc1
    · rw [h.len, List.getElem?_append_right (by omega)] at h1
      simp at h1; subst h1; exact hc2
  · rcases key i x h1 with ⟨hi, e1, l1⟩ | ⟨hi, e1⟩ | ⟨hi, e1⟩ <;> rcases key j x h2 with ⟨hj, e2, l2⟩ | ⟨hj, e2⟩ | ⟨hj, e2⟩
    · exact h.inj i j x e1 e2
    all_goals omega
  · simp only [List.mem_append, List.mem_cons, List.not_mem_nil, or_false] at hx
    have := h.blt
    rcases hx with hx | rfl | rfl
    · exact h.lo x hx
    · omega
    · omega

theorem alloc3 (w : World) (o0 o1 o2 : Obj) : World.grownBy w (((w.alloc o0).alloc o1).alloc o2) none ∧ (((w.alloc o0).alloc o1).alloc o2).heap[w.heap.size]? = some o0 ∧ (((w.alloc o0).alloc o1).alloc o2).heap[w.heap.size + 1]? = some o1 ∧ (((w.alloc o0).alloc o1).alloc o2).heap[w.heap.size + 1 + 1]? = some o2 := by
  have g1 := grown_alloc (grown_refl (w.alloc o0) none) o1
  have g2 := grown_alloc (grown_refl ((w.alloc o0).alloc o1) none) o2
  exact ⟨grown_alloc (grown_alloc (grown_alloc (grown_refl w none) o0) o1) o2, keepB' (keepB' (alloc_at w o0 _ rfl) g1) g2, keepB' (alloc_at (w.alloc o0) o1 _ (by rw [alloc_size])) g2, alloc_at ((w.alloc o0).alloc o1) o2 _ (by rw [alloc_size, alloc_size])⟩

abbrev thk (p q : Value) : Obj := .cells #[p, q, .bool false, .bool false, .int .u8 0, .int .i64 0, nilp, nilp, nilp, nilp] 89 (0, 0)

theorem cons_fin {b w W A wb L S} {x y : T} {env : List Nat} {p1 p2 q : Value} {f r : Nat} (h : RE b w A wb L S) (hg : World.grownBy w W none) (hf : W.heap[f]? = some (thk p1 q)) (hr : W.heap[r]? = some (thk p2 q)) (lf : w.heap.size ≤ f) (lr : w.heap.size ≤ r) (hne : f ≠ r)
    (tx : Tidy env.length x) (ty : Tidy env.length y) (hx : NodeAt b w x p1) (hy : NodeAt b w y p2) (hq : NmAt w A env q) :
    Fr 89 68 b w W ∧ RE b W (A ++ [f, r]) wb L ⟨S.heap ++ [.wait x env, .wait y env], S.steps⟩ ∧ VR b W (A ++ [f, r]) (.cons S.heap.length (S.heap.length + 1)) (rv 99 0 nilp nilp (ptr f) (ptr r)) := by
  have hk : Fr 89 68 b w W := Fr.grown h.blt hg
  have hA : Ext A (A ++ [f, r]) := Ext.app _ _
  refine ⟨hk, h.more2 hg _ _ f r lf lr hne ⟨tx, _, _, hf, NodeAt.fr hk _ _ hx, hq.fr hk hA⟩ ⟨ty, _, _, hr, NodeAt.fr hk _ _ hy, hq.fr hk hA⟩, f, r, ?_, ?_, rfl⟩
  · rw [← h.len, List.getElem?_append_right (Nat.le_refl _)]; simp
  · rw [← h.len, List.getElem?_append_right (by omega)]; simp

set_option maxRecDepth 100000 in
set_option maxHeartbeats 16000000 in
theorem rneed_cons (x y : T) {L : Nat} {S : E} {env : List Nat} {b : Nat} {w : World} {A : List Nat} {wb : Nat} {p q : Value} (h : RE b w A wb L S) (tx : Tidy env.length x) (ty : Tidy env.length y) (hp : NodeAt b w (.bin 58 x y) p) (hq : NmAt w A env q) :
    Calls Tryz.prog 37 #[ptr wb, p, q] w (Got b w A wb L (.ok (.cons S.heap.length (S.heap.length + 1)), ⟨S.heap ++ [.wait x env, .wait y env], S.steps⟩)) := by
  obtain ⟨p1, p2, ⟨k, rfl, hk, hh⟩, h1, h2⟩ := hp
  obtain ⟨a1, rfl⟩ := NodeAt.ptr _ _ h1
  obtain ⟨a2, rfl⟩ := NodeAt.ptr _ _ h2
  obtain ⟨aq, rfl⟩ := hq.ptr
  obtain ⟨c0, c1, c2, cf, hlt⟩ := h.walk.cells
  obtain ⟨d0, d1, d2, d3, d4, hltk⟩ := node_cells hh
  have d0' : w.cell? ⟨k, 0, none⟩ = some (.int .u8 58) := d0
  clear d0
  have hb := h.blt
  have l1 : k < w.heap.size + 1 := by omega
  have l2 : k < w.heap.size + 1 + 1 := by omega
  have HH : Hid (NodeAt b w x (.pointer (some a1))) := h1
  have HY : Hid (NodeAt b w y (.pointer (some a2))) := h2
  have HQ : Hid (NmAt w A env (.pointer aq)) := hq
  clear hh h1 h2 hq
  go_enter Tryz.func37, Tryz.ntmps37
  go_wp2_with fail
  go_region
  all_goals
    go_wp2_with fail
    first
    | (obtain ⟨g, b0, b1, b2⟩ := alloc3 w (.cells #[.int .u8 99, .int .i64 0, nilp, nilp, ptr (w.heap.size + 1), ptr (w.heap.size + 1 + 1)] 72 (0, 0)) (thk (.pointer (some a1)) (.pointer aq)) (thk (.pointer (some a2)) (.pointer aq))
       obtain ⟨k1, k2, k3⟩ := cons_fin h g b1 b2 (by omega) (by omega) (by omega) tx ty HH.out HY.out HQ.out
       exact fin6 (t := 6) Tryz.results37 rfl rfl b0 (GotV.got ⟨_, _, _, _, _, _, _, rfl, k1.same rfl rfl rfl rfl, Ext.app _ _, k2.same rfl, VR.same (by exact rfl) k3⟩))
    | (obtain ⟨g, b0, b1, b2⟩ := alloc3 w (.cells #[.int .u8 99, .int .i64 0, nilp, nilp, ptr (w.heap.size + 1 + 1), ptr (w.heap.size + 1)] 72 (0, 0)) (thk (.pointer (some a2)) (.pointer aq)) (thk (.pointer (some a1)) (.pointer aq))
       obtain ⟨k1, k2, k3⟩ := cons_fin h g b2 b1 (by omega) (by omega) (by omega) tx ty HH.out HY.out HQ.out
       exact fin6 (t := 6) Tryz.results37 rfl rfl b0 (GotV.got ⟨_, _, _, _, _, _, _, rfl, k1.same rfl rfl rfl rfl, Ext.app _ _, k2.same rfl, VR.same (by exact rfl) k3⟩))

theorem VR.list_or {b w A v k n p1 p2 p3 p4} (h : VR b w A v (rv k n p1 p2 p3 p4)) : (k = 101 ∧ v = .nil) ∨ (k = 99 ∧ ∃ i j a c, v = .cons i j ∧ A[i]? = some a ∧ A[j]? = some c ∧ p3 = ptr a ∧ p4 = ptr c) ∨ ((k == 101) = false ∧ (k == 99) = false ∧ R.list (.ok v) = .error 5) := by
  cases v with
  | num m => simp only [VR, rv, Value.agg.injEq] at h; simp at h; obtain ⟨rfl, _⟩ := h; exact .inr (.inr ⟨rfl, rfl, rfl⟩)
  | nil => simp only [VR, rv, Value.agg.injEq] at h; simp at h; obtain ⟨rfl, _⟩ := h; exact .inl ⟨rfl, rfl⟩
  | fn x env => obtain ⟨ht, p, q, h, hp, hq⟩ := h; simp only [rv, Value.agg.injEq] at h; simp at h; obtain ⟨rfl, _⟩ := h; exact .inr (.inr ⟨rfl, rfl, rfl⟩)
  | cons i j => obtain ⟨a, c, ha, hc, h⟩ := h; simp only [rv, Value.agg.injEq] at h; simp at h; obtain ⟨rfl, _, _, _, rfl, rfl⟩ := h; exact .inr (.inl ⟨rfl, i, j, a, c, rfl, ha, hc, rfl, rfl⟩)

set_option maxRecDepth 100000 in
set_option maxHeartbeats 8000000 in
theorem rparts_x (n : Nat) (hN : CN n) (op : UInt8) (x : T) {L : Nat} {S S1 : E} {z : Int} {env : List Nat} {b : Nat} {w : World} {A : List Nat} {wb : Nat} {p q : Value} (he1 : ev L n (.need x env) S = some (.err z, S1)) (h : RE b w A wb L S) (tx : Tidy env.length x) (hp : NodeAt b w (.un op x) p) (hq : NmAt w A env q) :
    Calls Tryz.prog 57 #[ptr wb, p, q] w (Got b w A wb L (.err z, S1)) := by
  obtain ⟨p1, ⟨k, rfl, hk, hh⟩, h1⟩ := hp
  obtain ⟨a1, rfl⟩ := NodeAt.ptr _ _ h1
  obtain ⟨aq, rfl⟩ := hq.ptr
  obtain ⟨c0, c1, c2, cf, hlt⟩ := h.walk.cells
  obtain ⟨d0, d1, d2, d3, d4, hltk⟩ := node_cells hh
  have hb := h.blt
  have hg := grown_alloc (grown_refl w none) zero68
  have hf : Fr 89 68 b w _ := Fr.grown hb hg
  have hx : Box68 _ w.heap.size := ⟨_, _, _, _, _, _, alloc_at w zero68 _ rfl⟩
  have HC : Hid (Calls Tryz.prog 37 #[ptr wb, .pointer (some a1), .pointer aq] (w.alloc zero68) _) := (hN L x env S _ b _ A wb _ _ he1 (h.grown hg) tx (NodeAt.fr hf _ _ h1) (hq.fr hf (Ext.refl _))).mono fun _ _ h => h.x rfl
  clear hh h1 hq he1 hg
  go_enter Tryz.func57, Tryz.ntmps57
  go_wp2_with fail
  refine HC.out.mono ?_
  rintro e w1 ⟨k', n', u1, u2, u3, u4, rfl, hk2, hx2⟩
  obtain ⟨e0, e1, e2, ef, elt⟩ := hx2.walk.cells
  obtain ⟨z0, z1, z2, z3, z4, z5, hz⟩ := hx.fr hk2 (by decide) (by decide)
  obtain ⟨r0, r1', r2, r3, r4, r5, rf, rlt⟩ := cells6 hz
  have hz0 : (z == 0) = false := by simpa using hx2.ne
  have hz1 : (z != 0) = true := by simp [bne, hz0]
  have al := put6_alike hz (by decide) (.int .u8 0) (.int .i64 0) nilp nilp nilp nilp
  have hf2 := put6_fr (hf.trans hk2) (Nat.le_refl _) hb (.int .u8 0) (.int .i64 0) nilp nilp nilp nilp
  have hx3 := hx2.alike al
  have hg4 := grown_alloc (grown_refl (put6 w1 w.heap.size (.int .u8 0) (.int .i64 0) nilp nilp nilp nilp) none) (.cells #[.int .u8 k', .int .i64 n', .pointer u1, .pointer u2, .pointer u3, .pointer u4] 72 (0, 0))
  go_wp2_with fail
  exact fin6 (t := 6) Tryz.results57 rfl rfl (keepB' (put6_at hz _ _ _ _ _ _) hg4) (GotX.got ⟨_, _, _, _, _, _, rfl, hf2.trans (Fr.grown hx3.blt hg4), hx3.grown hg4⟩)

set_option maxRecDepth 100000 in
set_option maxHeartbeats 8000000 in
theorem rparts_t (n : Nat) (hN : CN n) (op : UInt8) (x : T) {L : Nat} {S S1 : E} {v : V} {env : List Nat} {b : Nat} {w : World} {A : List Nat} {wb : Nat} {p q : Value} (he1 : ev L n (.need x env) S = some (.ok v, S1)) (hr1 : R.list (.ok v) = .error 5) (h : RE b w A wb L S) (tx : Tidy env.length x) (hp : NodeAt b w (.un op x) p) (hq : NmAt w A env q) :
    Calls Tryz.prog 57 #[ptr wb, p, q] w (Got b w A wb L (.err 5, S1)) := by
  obtain ⟨p1, ⟨k, rfl, hk, hh⟩, h1⟩ := hp
  obtain ⟨a1, rfl⟩ := NodeAt.ptr _ _ h1
  obtain ⟨aq, rfl⟩ := hq.ptr
  obtain ⟨c0, c1, c2, cf, hlt⟩ := h.walk.cells
  obtain ⟨d0, d1, d2, d3, d4, hltk⟩ := node_cells hh
  have hb := h.blt
  have hg := grown_alloc (grown_refl w none) zero68
  have hf : Fr 89 68 b w _ := Fr.grown hb hg
  have hx : Box68 _ w.heap.size := ⟨_, _, _, _, _, _, alloc_at w zero68 _ rfl⟩
  have HC : Hid (Calls Tryz.prog 37 #[ptr wb, .pointer (some a1), .pointer aq] (w.alloc zero68) _) := (hN L x env S _ b _ A wb _ _ he1 (h.grown hg) tx (NodeAt.fr hf _ _ h1) (hq.fr hf (Ext.refl _))).mono fun _ _ h => h.v rfl
  have HH : Hid (w.heap[k]? = some (.cells (cellsN (unDo op) 0 (.pointer (some a1)) (.pointer none) (.pointer none)) 86 (0, 0))) := hh
  have HR : Hid (R.list (.ok v) = .error 5) := hr1
  clear hh h1 hq he1 hg hr1
  go_enter Tryz.func57, Tryz.ntmps57
  go_wp2_with fail
  refine HC.out.mono ?_
  rintro e w1 ⟨A', k', n', u1, u2, u3, u4, rfl, hk2, hA, hx2, hv⟩
  obtain ⟨e0, e1, e2, ef, elt⟩ := hx2.walk.cells
  have hkk : (k' == 101) = false ∧ (k' == 99) = false := by
    rcases hv.list_or with ⟨_, rfl⟩ | ⟨_, i, j, a, c, rfl, _⟩ | ⟨h1, h2, _⟩
    · have := HR.out; cases this
    · have := HR.out; cases this
    · exact ⟨h1, h2⟩
  obtain ⟨hk1, hk3⟩ := hkk
  have hk1' : (k' != 101) = true := by simp [bne, hk1]
  have hk3' : (k' != 99) = true := by simp [bne, hk3]
  have hg3 := grown_alloc (grown_refl w1 none) (.cells #[.int .u8 k', .int .i64 n', .pointer u1, .pointer u2, .pointer u3, .pointer u4] 72 (0, 0))
  have hx3 := hx2.grown hg3
  have hbx := hx2.blt
  clear hv
  go_wp2_with fail
  refine (rfails hx3 5 (by decide)).mono ?_
  rintro e w2 ⟨rfl, hk4, hx4⟩
  have hk5 := (hf.trans hk2).trans ((Fr.grown hbx hg3).trans hk4)
  obtain ⟨z0, z1, z2, z3, z4, z5, hz⟩ := ((hx.fr hk2 (by decide) (by decide)).grown hg3).fr hk4 (by decide) (by decide)
  obtain ⟨r0, r1', r2, r3, r4, r5, rf, rlt⟩ := cells6 hz
  have al := put6_alike hz (by decide) (.int .u8 0) (.int .i64 0) nilp nilp nilp nilp
  have hf2 := put6_fr hk5 (Nat.le_refl _) hb (.int .u8 0) (.int .i64 0) nilp nilp nilp nilp
  go_wp2_with fail
  exact fin6 (t := 6) Tryz.results57 rfl rfl (put6_at hz _ _ _ _ _ _) (GotX.got ⟨_, _, _, _, _, _, rfl, hf2, (hx4.alike al).sub hA⟩)

set_option maxRecDepth 100000 in
set_option maxHeartbeats 8000000 in
theorem rparts_e (n : Nat) (hN : CN n) (op : UInt8) (x : T) {L : Nat} {S S1 : E} {v : V} {env : List Nat} {b : Nat} {w : World} {A : List Nat} {wb : Nat} {p q : Value} (he1 : ev L n (.need x env) S = some (.ok v, S1)) (hr1 : v = .nil) (hop : op = 104 ∨ op = 116) (h : RE b w A wb L S) (tx : Tidy env.length x) (hp : NodeAt b w (.un op x) p) (hq : NmAt w A env q) :
    Calls Tryz.prog 57 #[ptr wb, p, q] w (Got b w A wb L (.err 6, S1)) := by
  obtain ⟨p1, ⟨k, rfl, hk, hh⟩, h1⟩ := hp
  obtain ⟨a1, rfl⟩ := NodeAt.ptr _ _ h1
  obtain ⟨aq, rfl⟩ := hq.ptr
  obtain ⟨c0, c1, c2, cf, hlt⟩ := h.walk.cells
  obtain ⟨d0, d1, d2, d3, d4, hltk⟩ := node_cells hh
  have hb := h.blt
  have hg := grown_alloc (grown_refl w none) zero68
  have hf : Fr 89 68 b w _ := Fr.grown hb hg
  have hx : Box68 _ w.heap.size := ⟨_, _, _, _, _, _, alloc_at w zero68 _ rfl⟩
  have HC : Hid (Calls Tryz.prog 37 #[ptr wb, .pointer (some a1), .pointer aq] (w.alloc zero68) _) := (hN L x env S _ b _ A wb _ _ he1 (h.grown hg) tx (NodeAt.fr hf _ _ h1) (hq.fr hf (Ext.refl _))).mono fun _ _ h => h.v rfl
  have HH : Hid (w.heap[k]? = some (.cells (cellsN (unDo op) 0 (.pointer (some a1)) (.pointer none) (.pointer none)) 86 (0, 0))) := hh
  subst hr1
  clear hh h1 hq he1 hg
  have ho : (unDo op == 117) = false := by rcases hop with rfl | rfl <;> rfl
  go_enter Tryz.func57, Tryz.ntmps57
  go_wp2_with fail
  refine HC.out.mono ?_
  rintro e w1 ⟨A', k', n', u1, u2, u3, u4, rfl, hk2, hA, hx2, hv⟩
  obtain ⟨e0, e1, e2, ef, elt⟩ := hx2.walk.cells
  have hkk : k' = 101 := by
    rcases hv.list_or with ⟨h, _⟩ | ⟨_, i, j, a, c, h, _⟩ | ⟨_, _, h⟩
    · exact h
    · cases h
    · cases h
  subst hkk
  obtain ⟨g0, g1, g2, g3, g4, glt⟩ := node_cells ((hf.trans hk2).keep _ _ 86 (by decide) (by decide) HH.out)
  have hg3 := grown_alloc (grown_refl w1 none) (.cells #[.int .u8 101, .int .i64 n', .pointer u1, .pointer u2, .pointer u3, .pointer u4] 72 (0, 0))
  have hx3 := hx2.grown hg3
  have hbx := hx2.blt
  clear hv
  go_wp2_with fail
  refine (rfails hx3 6 (by decide)).mono ?_
  rintro e w2 ⟨rfl, hk4, hx4⟩
  have hk5 := (hf.trans hk2).trans ((Fr.grown hbx hg3).trans hk4)
  obtain ⟨z0, z1, z2, z3, z4, z5, hz⟩ := ((hx.fr hk2 (by decide) (by decide)).grown hg3).fr hk4 (by decide) (by decide)
  obtain ⟨r0, r1', r2, r3, r4, r5, rf, rlt⟩ := cells6 hz
  have al := put6_alike hz (by decide) (.int .u8 0) (.int .i64 0) nilp nilp nilp nilp
  have hf2 := put6_fr hk5 (Nat.le_refl _) hb (.int .u8 0) (.int .i64 0) nilp nilp nilp nilp
  go_wp2_with fail
  exact fin6 (t := 6) Tryz.results57 rfl rfl (put6_at hz _ _ _ _ _ _) (GotX.got ⟨_, _, _, _, _, _, rfl, hf2, (hx4.alike al).sub hA⟩)

set_option maxRecDepth 100000 in
set_option maxHeartbeats 8000000 in
theorem rparts_nil (n : Nat) (hN : CN n) (x : T) {L : Nat} {S S1 : E} {env : List Nat} {b : Nat} {w : World} {A : List Nat} {wb : Nat} {p q : Value} (he1 : ev L n (.need x env) S = some (.ok .nil, S1)) (h : RE b w A wb L S) (tx : Tidy env.length x) (hp : NodeAt b w (.un 110 x) p) (hq : NmAt w A env q) :
    Calls Tryz.prog 57 #[ptr wb, p, q] w (Got b w A wb L (.ok (.num 1), S1)) := by
  obtain ⟨p1, ⟨k, rfl, hk, hh⟩, h1⟩ := hp
  obtain ⟨a1, rfl⟩ := NodeAt.ptr _ _ h1
  obtain ⟨aq, rfl⟩ := hq.ptr
  obtain ⟨c0, c1, c2, cf, hlt⟩ := h.walk.cells
  obtain ⟨d0, d1, d2, d3, d4, hltk⟩ := node_cells hh
  have hb := h.blt
  have hg := grown_alloc (grown_refl w none) zero68
  have hf : Fr 89 68 b w _ := Fr.grown hb hg
  have hx : Box68 _ w.heap.size := ⟨_, _, _, _, _, _, alloc_at w zero68 _ rfl⟩
  have HC : Hid (Calls Tryz.prog 37 #[ptr wb, .pointer (some a1), .pointer aq] (w.alloc zero68) _) := (hN L x env S _ b _ A wb _ _ he1 (h.grown hg) tx (NodeAt.fr hf _ _ h1) (hq.fr hf (Ext.refl _))).mono fun _ _ h => h.v rfl
  have HH : Hid (w.heap[k]? = some (.cells (cellsN 117 0 (.pointer (some a1)) (.pointer none) (.pointer none)) 86 (0, 0))) := hh
  clear hh h1 hq he1 hg d0
  go_enter Tryz.func57, Tryz.ntmps57
  go_wp2_with fail
  refine HC.out.mono ?_
  rintro e w1 ⟨A', k', n', u1, u2, u3, u4, rfl, hk2, hA, hx2, hv⟩
  obtain ⟨e0, e1, e2, ef, elt⟩ := hx2.walk.cells
  have hkk : k' = 101 := by
    rcases hv.list_or with ⟨h, _⟩ | ⟨_, i, j, a, c, h, _⟩ | ⟨_, _, h⟩
    · exact h
    · cases h
    · cases h
  subst hkk
  obtain ⟨g0, g1, g2, g3, g4, glt⟩ := node_cells ((hf.trans hk2).keep _ _ 86 (by decide) (by decide) HH.out)
  have hg3 := grown_alloc (grown_refl w1 none) (.cells #[.int .u8 101, .int .i64 n', .pointer u1, .pointer u2, .pointer u3, .pointer u4] 72 (0, 0))
  have hx3 := hx2.grown hg3
  have hbx := hx2.blt
  clear hv
  go_wp2_with fail
  refine (rtruth _ _).mono ?_
  rintro e w2 ⟨rfl, hg4⟩
  have hx4 := hx3.grown hg4
  have hk5 := (hf.trans hk2).trans ((Fr.grown hbx hg3).trans (Fr.grown hx3.blt hg4))
  obtain ⟨z0, z1, z2, z3, z4, z5, hz⟩ := ((hx.fr hk2 (by decide) (by decide)).grown hg3).grown hg4
  obtain ⟨r0, r1', r2, r3, r4, r5, rf, rlt⟩ := cells6 hz
  have al := put6_alike hz (by decide) (.int .u8 110) (.int .i64 1) nilp nilp nilp nilp
  have hf2 := put6_fr hk5 (Nat.le_refl _) hb (.int .u8 110) (.int .i64 1) nilp nilp nilp nilp
  go_wp2_with fail
  exact fin6 (t := 6) Tryz.results57 rfl rfl (put6_at hz _ _ _ _ _ _) (GotV.got ⟨A', _, _, _, _, _, _, rfl, hf2, hA, hx4.alike al, rfl⟩)

set_option maxRecDepth 100000 in
set_option maxHeartbeats 8000000 in
theorem rparts_cons (n : Nat) (hN : CN n) (x : T) {L : Nat} {S S1 : E} {i j : Nat} {env : List Nat} {b : Nat} {w : World} {A : List Nat} {wb : Nat} {p q : Value} (he1 : ev L n (.need x env) S = some (.ok (.cons i j), S1)) (h : RE b w A wb L S) (tx : Tidy env.length x) (hp : NodeAt b w (.un 110 x) p) (hq : NmAt w A env q) :
    Calls Tryz.prog 57 #[ptr wb, p, q] w (Got b w A wb L (.ok (.num 0), S1)) := by
  obtain ⟨p1, ⟨k, rfl, hk, hh⟩, h1⟩ := hp
  obtain ⟨a1, rfl⟩ := NodeAt.ptr _ _ h1
  obtain ⟨aq, rfl⟩ := hq.ptr
  obtain ⟨c0, c1, c2, cf, hlt⟩ := h.walk.cells
  obtain ⟨d0, d1, d2, d3, d4, hltk⟩ := node_cells hh
  have hb := h.blt
  have hg := grown_alloc (grown_refl w none) zero68
  have hf : Fr 89 68 b w _ := Fr.grown hb hg
  have hx : Box68 _ w.heap.size := ⟨_, _, _, _, _, _, alloc_at w zero68 _ rfl⟩
  have HC : Hid (Calls Tryz.prog 37 #[ptr wb, .pointer (some a1), .pointer aq] (w.alloc zero68) _) := (hN L x env S _ b _ A wb _ _ he1 (h.grown hg) tx (NodeAt.fr hf _ _ h1) (hq.fr hf (Ext.refl _))).mono fun _ _ h => h.v rfl
  have HH : Hid (w.heap[k]? = some (.cells (cellsN 117 0 (.pointer (some a1)) (.pointer none) (.pointer none)) 86 (0, 0))) := hh
  clear hh h1 hq he1 hg d0
  go_enter Tryz.func57, Tryz.ntmps57
  go_wp2_with fail
  refine HC.out.mono ?_
  rintro e w1 ⟨A', k', n', u1, u2, u3, u4, rfl, hk2, hA, hx2, hv⟩
  obtain ⟨e0, e1, e2, ef, elt⟩ := hx2.walk.cells
  have hkk : k' = 99 := by
    rcases hv.list_or with ⟨_, h⟩ | ⟨h, _⟩ | ⟨_, _, h⟩
    · cases h
    · exact h
    · cases h
  subst hkk
  obtain ⟨g0, g1, g2, g3, g4, glt⟩ := node_cells ((hf.trans hk2).keep _ _ 86 (by decide) (by decide) HH.out)
  have hg3 := grown_alloc (grown_refl w1 none) (.cells #[.int .u8 99, .int .i64 n', .pointer u1, .pointer u2, .pointer u3, .pointer u4] 72 (0, 0))
  have hx3 := hx2.grown hg3
  have hbx := hx2.blt
  clear hv
  go_wp2_with fail
  refine (rtruth _ _).mono ?_
  rintro e w2 ⟨rfl, hg4⟩
  have hx4 := hx3.grown hg4
  have hk5 := (hf.trans hk2).trans ((Fr.grown hbx hg3).trans (Fr.grown hx3.blt hg4))
  obtain ⟨z0, z1, z2, z3, z4, z5, hz⟩ := ((hx.fr hk2 (by decide) (by decide)).grown hg3).grown hg4
  obtain ⟨r0, r1', r2, r3, r4, r5, rf, rlt⟩ := cells6 hz
  have al := put6_alike hz (by decide) (.int .u8 110) (.int .i64 0) nilp nilp nilp nilp
  have hf2 := put6_fr hk5 (Nat.le_refl _) hb (.int .u8 110) (.int .i64 0) nilp nilp nilp nilp
  go_wp2_with fail
  exact fin6 (t := 6) Tryz.results57 rfl rfl (put6_at hz _ _ _ _ _ _) (GotV.got ⟨A', _, _, _, _, _, _, rfl, hf2, hA, hx4.alike al, rfl⟩)

set_option maxRecDepth 100000 in
set_option maxHeartbeats 8000000 in
theorem rparts_head (n : Nat) (hN : CN n) (hF : CF n) (x : T) {L : Nat} {S S1 : E} {r : R × E} {i j : Nat} {env : List Nat} {b : Nat} {w : World} {A : List Nat} {wb : Nat} {p q : Value} (he1 : ev L n (.need x env) S = some (.ok (.cons i j), S1)) (he2 : ev L n (.force i) S1 = some r) (h : RE b w A wb L S) (tx : Tidy env.length x) (hp : NodeAt b w (.un 104 x) p) (hq : NmAt w A env q) :
    Calls Tryz.prog 57 #[ptr wb, p, q] w (Got b w A wb L r) := by
  obtain ⟨p1, ⟨k, rfl, hk, hh⟩, h1⟩ := hp
  obtain ⟨a1, rfl⟩ := NodeAt.ptr _ _ h1
  obtain ⟨aq, rfl⟩ := hq.ptr
  obtain ⟨c0, c1, c2, cf, hlt⟩ := h.walk.cells
  obtain ⟨d0, d1, d2, d3, d4, hltk⟩ := node_cells hh
  have hb := h.blt
  have hg := grown_alloc (grown_refl w none) zero68
  have hf : Fr 89 68 b w _ := Fr.grown hb hg
  have hx : Box68 _ w.heap.size := ⟨_, _, _, _, _, _, alloc_at w zero68 _ rfl⟩
  have HC : Hid (Calls Tryz.prog 37 #[ptr wb, .pointer (some a1), .pointer aq] (w.alloc zero68) _) := (hN L x env S _ b _ A wb _ _ he1 (h.grown hg) tx (NodeAt.fr hf _ _ h1) (hq.fr hf (Ext.refl _))).mono fun _ _ h => h.v rfl
  have HH : Hid (w.heap[k]? = some (.cells (cellsN 104 0 (.pointer (some a1)) (.pointer none) (.pointer none)) 86 (0, 0))) := hh
  have HE : Hid (ev L n (.force i) S1 = some r) := he2
  clear hh h1 hq he1 hg d0 he2
  go_enter Tryz.func57, Tryz.ntmps57
  go_wp2_with fail
  refine HC.out.mono ?_
  rintro e w1 ⟨A', k', n', u1, u2, u3, u4, rfl, hk2, hA, hx2, hv⟩
  obtain ⟨e0, e1, e2, ef, elt⟩ := hx2.walk.cells
  have hkk : k' = 99 ∧ ∃ a c, A'[i]? = some a ∧ A'[j]? = some c ∧ u3 = some ⟨a, 0, none⟩ ∧ u4 = some ⟨c, 0, none⟩ := by
    rcases hv.list_or with ⟨_, h⟩ | ⟨h, i', j', a, c, hv', ha, hc, h3, h4⟩ | ⟨_, _, h⟩
    · cases h
    · cases hv'
      simp at h3 h4
      exact ⟨h, a, c, ha, hc, h3, h4⟩
    · cases h
  obtain ⟨rfl, a, c, ha, hc, rfl, rfl⟩ := hkk
  obtain ⟨g0, g1, g2, g3, g4, glt⟩ := node_cells ((hf.trans hk2).keep _ _ 86 (by decide) (by decide) HH.out)
  have hg3 := grown_alloc (grown_refl w1 none) (.cells #[.int .u8 99, .int .i64 n', .pointer u1, .pointer u2, ptr a, ptr c] 72 (0, 0))
  have hx3 := hx2.grown hg3
  have hk5 := (hf.trans hk2).trans (Fr.grown (d1 := 89) (d2 := 68) hx2.blt hg3)
  have hbx := (hx.fr hk2 (by decide) (by decide)).grown hg3
  have HG : Hid (Calls Tryz.prog 53 #[ptr wb, ptr a] (w1.alloc (.cells #[.int .u8 99, .int .i64 n', .pointer u1, .pointer u2, ptr a, ptr c] 72 (0, 0))) (Got b (w1.alloc (.cells #[.int .u8 99, .int .i64 n', .pointer u1, .pointer u2, ptr a, ptr c] 72 (0, 0))) A' wb L r)) := hF L i S1 r b _ A' wb _ HE.out hx3 ha
  clear hv
  go_wp2_with fail
  refine HG.out.mono ?_
  intro e w2 hG
  obtain ⟨k', n', b1, b2, b3, b4, rfl, z0, z1, z2, z3, z4, z5, hz, hG2⟩ := got_put hk5 hb hbx hA hG
  obtain ⟨r0, r1', r2, r3, r4, r5, rf, rlt⟩ := cells6 hz
  clear hG
  go_wp2_with fail
  exact fin6 (t := 6) Tryz.results57 rfl rfl (put6_at hz _ _ _ _ _ _) hG2

set_option maxRecDepth 100000 in
set_option maxHeartbeats 8000000 in
theorem rparts_tail (n : Nat) (hN : CN n) (hF : CF n) (x : T) {L : Nat} {S S1 : E} {r : R × E} {i j : Nat} {env : List Nat} {b : Nat} {w : World} {A : List Nat} {wb : Nat} {p q : Value} (he1 : ev L n (.need x env) S = some (.ok (.cons i j), S1)) (he2 : ev L n (.force j) S1 = some r) (h : RE b w A wb L S) (tx : Tidy env.length x) (hp : NodeAt b w (.un 116 x) p) (hq : NmAt w A env q) :
    Calls Tryz.prog 57 #[ptr wb, p, q] w (Got b w A wb L r) := by
  obtain ⟨p1, ⟨k, rfl, hk, hh⟩, h1⟩ := hp
  obtain ⟨a1, rfl⟩ := NodeAt.ptr _ _ h1
  obtain ⟨aq, rfl⟩ := hq.ptr
  obtain ⟨c0, c1, c2, cf, hlt⟩ := h.walk.cells
  obtain ⟨d0, d1, d2, d3, d4, hltk⟩ := node_cells hh
  have hb := h.blt
  have hg := grown_alloc (grown_refl w none) zero68
  have hf : Fr 89 68 b w _ := Fr.grown hb hg
  have hx : Box68 _ w.heap.size := ⟨_, _, _, _, _, _, alloc_at w zero68 _ rfl⟩
  have HC : Hid (Calls Tryz.prog 37 #[ptr wb, .pointer (some a1), .pointer aq] (w.alloc zero68) _) := (hN L x env S _ b _ A wb _ _ he1 (h.grown hg) tx (NodeAt.fr hf _ _ h1) (hq.fr hf (Ext.refl _))).mono fun _ _ h => h.v rfl
  have HH : Hid (w.heap[k]? = some (.cells (cellsN 116 0 (.pointer (some a1)) (.pointer none) (.pointer none)) 86 (0, 0))) := hh
  have HE : Hid (ev L n (.force j) S1 = some r) := he2
  clear hh h1 hq he1 hg d0 he2
  go_enter Tryz.func57, Tryz.ntmps57
  go_wp2_with fail
  refine HC.out.mono ?_
  rintro e w1 ⟨A', k', n', u1, u2, u3, u4, rfl, hk2, hA, hx2, hv⟩
  obtain ⟨e0, e1, e2, ef, elt⟩ := hx2.walk.cells
  have hkk : k' = 99 ∧ ∃ a c, A'[i]? = some a ∧ A'[j]? = some c ∧ u3 = some ⟨a, 0, none⟩ ∧ u4 = some ⟨c, 0, none⟩ := by
    rcases hv.list_or with ⟨_, h⟩ | ⟨h, i', j', a, c, hv', ha, hc, h3, h4⟩ | ⟨_, _, h⟩
    · cases h
    · cases hv'
      simp at h3 h4
      exact ⟨h, a, c, ha, hc, h3, h4⟩
    · cases h
  obtain ⟨rfl, a, c, ha, hc, rfl, rfl⟩ := hkk
  obtain ⟨g0, g1, g2, g3, g4, glt⟩ := node_cells ((hf.trans hk2).keep _ _ 86 (by decide) (by decide) HH.out)
  have hg3 := grown_alloc (grown_refl w1 none) (.cells #[.int .u8 99, .int .i64 n', .pointer u1, .pointer u2, ptr a, ptr c] 72 (0, 0))
  have hx3 := hx2.grown hg3
  have hk5 := (hf.trans hk2).trans (Fr.grown (d1 := 89) (d2 := 68) hx2.blt hg3)
  have hbx := (hx.fr hk2 (by decide) (by decide)).grown hg3
  have HG : Hid (Calls Tryz.prog 53 #[ptr wb, ptr c] (w1.alloc (.cells #[.int .u8 99, .int .i64 n', .pointer u1, .pointer u2, ptr a, ptr c] 72 (0, 0))) (Got b (w1.alloc (.cells #[.int .u8 99, .int .i64 n', .pointer u1, .pointer u2, ptr a, ptr c] 72 (0, 0))) A' wb L r)) := hF L j S1 r b _ A' wb _ HE.out hx3 hc
  clear hv
  go_wp2_with fail
  refine HG.out.mono ?_
  intro e w2 hG
  obtain ⟨k', n', b1, b2, b3, b4, rfl, z0, z1, z2, z3, z4, z5, hz, hG2⟩ := got_put hk5 hb hbx hA hG
  obtain ⟨r0, r1', r2, r3, r4, r5, rf, rlt⟩ := cells6 hz
  clear hG
  go_wp2_with fail
  exact fin6 (t := 6) Tryz.results57 rfl rfl (put6_at hz _ _ _ _ _ _) hG2

set_option maxRecDepth 100000 in
set_option maxHeartbeats 8000000 in
theorem rneed_un (op : UInt8) (hop : op = 104 ∨ op = 116 ∨ op = 110) (x : T) {L : Nat} {S : E} {r : R × E} {env : List Nat} {b : Nat} {w : World} {A : List Nat} {wb : Nat} {p q : Value} (hR : ∀ wd, World.grownBy w wd none → Calls Tryz.prog 57 #[ptr wb, p, q] wd (Got b wd A wb L r)) (h : RE b w A wb L S) (hp : NodeAt b w (.un op x) p) (hq : NmAt w A env q) :
    Calls Tryz.prog 37 #[ptr wb, p, q] w (Got b w A wb L r) := by
  obtain ⟨p1, ⟨k, rfl, hk, hh⟩, h1⟩ := hp
  obtain ⟨aq, rfl⟩ := hq.ptr
  obtain ⟨c0, c1, c2, cf, hlt⟩ := h.walk.cells
  have hb := h.blt
  have hg := grown_alloc (grown_refl w none) zero68
  have hf : Fr 89 68 b w _ := Fr.grown hb hg
  have hx : Box68 _ w.heap.size := ⟨_, _, _, _, _, _, alloc_at w zero68 _ rfl⟩
  have HC : Hid (Calls Tryz.prog 57 #[ptr wb, ptr k, .pointer aq] (w.alloc zero68) (Got b (w.alloc zero68) A wb L r)) := hR _ hg
  clear h1 hq hg hR
  rcases hop with rfl | rfl | rfl
  all_goals
    obtain ⟨d0, d1, d2, d3, d4, hltk⟩ := node_cells hh
    first
    | (have d0' : w.cell? ⟨k, 0, none⟩ = some (.int .u8 104) := d0; clear d0)
    | (have d0' : w.cell? ⟨k, 0, none⟩ = some (.int .u8 116) := d0; clear d0)
    | (have d0' : w.cell? ⟨k, 0, none⟩ = some (.int .u8 117) := d0; clear d0)
    clear hh
    go_enter Tryz.func37, Tryz.ntmps37
    go_wp2_with fail
    refine HC.out.mono ?_
    intro e w1 hG
    obtain ⟨k', n', a1, a2, a3, a4, rfl, z0, z1, z2, z3, z4, z5, hz, hG2⟩ := got_put hf hb hx (Ext.refl _) hG
    obtain ⟨r0, r1, r2, r3, r4, r5, rf, rlt⟩ := cells6 hz
    clear hG
    go_wp2_with fail
    exact fin6 (t := 6) Tryz.results37 rfl rfl (put6_at hz _ _ _ _ _ _) hG2
end Go.Proofs.YtjjlgjmebnkdjaaGreatDoor

namespace Go.Proofs.YtjjlgjmebnkdjaaGreatDoor
open Go Go.Proofs Go.RowKit Skein

set_option maxRecDepth 100000 in
set_option maxHeartbeats 8000000 in
theorem rneed_bin (op : UInt8) (hop : Sign5 op) (x y : T) {L : Nat} {S : E} {r : R × E} {env : List Nat} {b : Nat} {w : World} {A : List Nat} {wb : Nat} {p q : Value} (hR : ∀ wd, World.grownBy w wd none → Calls Tryz.prog 58 #[ptr wb, p, q] wd (Got b wd A wb L r)) (h : RE b w A wb L S) (hp : NodeAt b w (.bin op x y) p) (hq : NmAt w A env q) :
    Calls Tryz.prog 37 #[ptr wb, p, q] w (Got b w A wb L r) := by
  obtain ⟨p1, p2, ⟨k, rfl, hk, hh⟩, h1, h2⟩ := hp
  obtain ⟨aq, rfl⟩ := hq.ptr
  obtain ⟨c0, c1, c2, cf, hlt⟩ := h.walk.cells
  obtain ⟨d0, d1, d2, d3, d4, hltk⟩ := node_cells hh
  have hb := h.blt
  have hg := grown_alloc (grown_refl w none) zero68
  have hf : Fr 89 68 b w _ := Fr.grown hb hg
  have hx : Box68 _ w.heap.size := ⟨_, _, _, _, _, _, alloc_at w zero68 _ rfl⟩
  have HC : Hid (Calls Tryz.prog 58 #[ptr wb, ptr k, .pointer aq] (w.alloc zero68) (Got b (w.alloc zero68) A wb L r)) := hR _ hg
  clear hh h1 h2 hq hg hR
  rcases hop with rfl | rfl | rfl | rfl | rfl
  all_goals
    go_enter Tryz.func37, Tryz.ntmps37
    go_wp2_with fail
    refine HC.out.mono ?_
    intro e w1 hG
    obtain ⟨k', n', a1, a2, a3, a4, rfl, z0, z1, z2, z3, z4, z5, hz, hG2⟩ := got_put hf hb hx (Ext.refl _) hG
    obtain ⟨r0, r1, r2, r3, r4, r5, rf, rlt⟩ := cells6 hz
    clear hG
    go_wp2_with fail
    exact fin6 (t := 6) Tryz.results37 rfl rfl (put6_at hz _ _ _ _ _ _) hG2

theorem cn_step (n : Nat) (hN : CN n) (hF : CF n) : CN (n + 1) := by
  intro L x env S r b w A wb p q he h ht hp hq
  cases x with
  | junk => exact ht.elim
  | free => exact ht.elim
  | nil => simp only [ev, Option.some.injEq] at he; subst he; exact rneed_nil h hp hq
  | un op a =>
    obtain ⟨hop, ta⟩ := ht
    simp only [ev] at he
    obtain ⟨⟨rr, S1⟩, he1, he2⟩ := Option.bind_eq_some_iff.1 he
    refine rneed_un op hop a (fun wd hwd => ?_) h hp hq
    have hf : Fr 89 68 b w wd := Fr.grown h.blt hwd
    have h' := h.grown hwd
    have hp' := NodeAt.fr hf _ _ hp
    have hq' := hq.fr hf (Ext.refl A)
    cases rr with
    | err z => cases he2; exact rparts_x n hN op a he1 h' ta hp' hq'
    | ok v =>
      cases v with
      | num k => cases he2; exact rparts_t n hN op a he1 rfl h' ta hp' hq'
      | fn y e => cases he2; exact rparts_t n hN op a he1 rfl h' ta hp' hq'
      | nil =>
        simp only [R.list] at he2
        rcases hop with rfl | rfl | rfl
        · cases he2; exact rparts_e n hN 104 a he1 rfl (.inl rfl) h' ta hp' hq'
        · cases he2; exact rparts_e n hN 116 a he1 rfl (.inr rfl) h' ta hp' hq'
        · cases he2; exact rparts_nil n hN a he1 h' ta hp' hq'
      | cons i j =>
        simp only [R.list] at he2
        rcases hop with rfl | rfl | rfl
        · exact rparts_head n hN hF a he1 he2 h' ta hp' hq'
        · exact rparts_tail n hN hF a he1 he2 h' ta hp' hq'
        · cases he2; exact rparts_cons n hN a he1 h' ta hp' hq'
  | num m => simp only [ev, Option.some.injEq] at he; subst he; exact rneed_num m h hp hq
  | fn m y => simp only [ev, Option.some.injEq] at he; subst he; exact rneed_fn m y h ht hp hq
  | var m =>
    simp only [ev] at he
    have hm : m < env.length := ht
    have hj : env[m]? = some env[m] := List.getElem?_eq_getElem hm
    rw [hj] at he
    exact rneed_var n hF m _ hj he h hp hq
  | letE m x y => simp only [ev] at he; exact rneed_let n hN m x y he h ht hp hq
  | ite x y v =>
    simp only [ev] at he
    obtain ⟨r1, he1, he2⟩ := Option.bind_eq_some_iff.1 he
    cases hr : r1.1.num with
    | error z => rw [hr] at he2; cases he2; exact rneed_ite_err n hN x y v he1 hr h ht hp hq
    | ok j => rw [hr] at he2; exact rneed_ite_ok n hN x y v he1 hr he2 h ht hp hq
  | app x y =>
    simp only [ev] at he
    obtain ⟨⟨rr, S1⟩, he1, he2⟩ := Option.bind_eq_some_iff.1 he
    cases rr with
    | err z => cases he2; exact rneed_app_x n hN x y he1 h ht hp hq
    | ok v =>
      cases v with
      | fn u fe =>
        simp only [R.fn] at he2
        by_cases hl : L ≤ S1.steps
        · rw [if_pos hl] at he2; cases he2; exact rneed_app_s n hN x y he1 hl h ht hp hq
        · rw [if_neg hl] at he2; exact rneed_app_ok n hN x y he1 hl he2 h ht hp hq
      | num m => cases he2; exact rneed_app_t n hN x y he1 rfl h ht hp hq
      | nil => cases he2; exact rneed_app_t n hN x y he1 rfl h ht hp hq
      | cons i j => cases he2; exact rneed_app_t n hN x y he1 rfl h ht hp hq
  | bin op x y =>
    obtain ⟨hop0, tx, ty⟩ := ht
    rcases hop0 with rfl | hop
    · simp only [ev] at he
      cases he
      exact rneed_cons x y h tx ty hp hq
    have ho : (op == 58) = false := by rcases hop with rfl | rfl | rfl | rfl | rfl <;> rfl
    simp only [ev, ho, Bool.false_eq_true, if_false] at he
    obtain ⟨r1, he1, he2⟩ := Option.bind_eq_some_iff.1 he
    refine rneed_bin op hop x y (fun wd hwd => ?_) h hp hq
    have hf : Fr 89 68 b w wd := Fr.grown h.blt hwd
    have h' := h.grown hwd
    have hp' := NodeAt.fr hf _ _ hp
    have hq' := hq.fr hf (Ext.refl A)
    cases hr : r1.1.num with
    | error z => rw [hr] at he2; cases he2; exact rreck_e1 n hN op x y he1 hr h' tx hp' hq'
    | ok i =>
      rw [hr] at he2
      obtain ⟨r2, he3, he4⟩ := Option.bind_eq_some_iff.1 he2
      cases hr2 : r2.1.num with
      | error z => rw [hr2] at he4; cases he4; exact rreck_e2 n hN op hop x y he1 hr he3 hr2 h' tx ty hp' hq'
      | ok j => rw [hr2] at he4; cases he4; exact rreck_ok n hN op hop x y he1 hr he3 hr2 h' tx ty hp' hq'

theorem cn_all : ∀ n, CN n ∧ CF n := by
  intro n
  induction n with
  | zero => exact ⟨fun L x env S r b w A wb p q he => by simp [ev] at he, fun L i S r b w A wb a he => by simp [ev] at he⟩
  | succ n ih => exact ⟨cn_step n ih.1 ih.2, rforce n ih.1⟩
end Go.Proofs.YtjjlgjmebnkdjaaGreatDoor

namespace Go.Proofs.YtjjlgjmebnkdjaaGreatDoor
open Go Go.Proofs Go.RowKit Skein

theorem digit_cut (j : Nat) (h : j < 10) : ((⟨#[48, 49, 50, 51, 52, 53, 54, 55, 56, 57]⟩ : ByteArray).extract j (j + 1)).data.toList = [UInt8.ofNat (48 + j)] := by
  have : j = 0 ∨ j = 1 ∨ j = 2 ∨ j = 3 ∨ j = 4 ∨ j = 5 ∨ j = 6 ∨ j = 7 ∨ j = 8 ∨ j = 9 := by omega
  rcases this with rfl | rfl | rfl | rfl | rfl | rfl | rfl | rfl | rfl | rfl <;> decide
theorem digit_add (j : Nat) (h : j < 10) (acc : ByteArray) : ((⟨#[48, 49, 50, 51, 52, 53, 54, 55, 56, 57]⟩ : ByteArray).extract j (j + 1) ++ acc).data.toList = UInt8.ofNat (48 + j) :: acc.data.toList := by
  rw [ByteArray.data_append, Array.toList_append, digit_cut j h]; rfl

def dig (n : Nat) : ByteArray := ⟨(Lib.decDigits n).toArray⟩

set_option maxRecDepth 100000 in
set_option maxHeartbeats 4000000 in
theorem rdigits (n : Nat) (hn : n < 10 ^ 15) (w : World) :
    Calls Tryz.prog 52 #[.int .i64 n] w fun e w' => e = .returned (.string (dig n)) ∧ w' = w := by
  have h1 : ((n : Int) == -9223372036854775808) = false := by first | (simp; done) | (simp; omega)
  have h2 : decide ((n : Int) < 0) = false := by simp
  go_enter Tryz.func52, Tryz.ntmps52
  go_wp2_with fail
  go_loop [0, 3] (fun x a => ∃ (k : Nat) (acc : ByteArray), x = .int .i64 k ∧ a = .string acc ∧ k < 10 ^ 15 ∧ acc.size + k ≤ 10 ^ 15 + 20 ∧ Hid (dig n = ⟨(Lib.decDigits k ++ acc.data.toList).toArray⟩)) (fun x a => (intOf x).toNat)
  case atStart => exact ⟨n, ⟨#[]⟩, rfl, rfl, hn, by show 0 + n ≤ _; omega, by unfold Hid dig; simp⟩
  case round =>
    obtain ⟨k, acc, rfl, rfl, hk, hsz, H⟩ := hrel
    go_wp2_with fail
    case roundEnd =>
      rename_i h0
      have hk10 : 10 ≤ k := by
        have : ¬ ((k : Int) / 10 = 0) := by simpa using h0
        omega
      have hd := digit_add (k % 10) (Nat.mod_lt _ (by omega)) acc
      refine ⟨⟨k / 10, _, by norm_cast, rfl, by omega, ?_, ?_⟩, by simp only [intOf]; omega⟩
      · have e := congrArg List.length hd
        rw [Array.length_toList, List.length_cons, Array.length_toList] at e
        have e' : ((⟨#[48, 49, 50, 51, 52, 53, 54, 55, 56, 57]⟩ : ByteArray).extract (k % 10) (k % 10 + 1) ++ acc).size = acc.size + 1 := e
        omega
      · unfold Hid
        rw [H.out, hd, Lib.decDigits, dif_neg (by omega)]; simp
    rename_i h0 _
    have hk10 : k < 10 := by
      have : ((k : Int) / 10 = 0) := by simpa using h0
      omega
    have hd := digit_add (k % 10) (Nat.mod_lt _ (by omega)) acc
    have he : (⟨#[48, 49, 50, 51, 52, 53, 54, 55, 56, 57]⟩ : ByteArray).extract (k % 10) (k % 10 + 1) ++ acc = ⟨(Lib.decDigits k ++ acc.data.toList).toArray⟩ := by
      apply ByteArray.ext
      apply Array.toList_inj.1
      rw [hd, Lib.decDigits, dif_pos hk10, Nat.mod_eq_of_lt hk10]
      rfl
    go_ret
    refine ⟨?_, rfl⟩
    rw [H.out, ← he]
    rfl
end Go.Proofs.YtjjlgjmebnkdjaaGreatDoor

namespace Go.Proofs.YtjjlgjmebnkdjaaGreatDoor
open Go Go.Proofs Go.RowKit Skein

/-- The table of signs. -/
def sgCells : Array Value := #[.string ⟨#[43]⟩, fnv 90 #[], .string ⟨#[45]⟩, fnv 91 #[], .string ⟨#[42]⟩, fnv 92 #[], .string ⟨#[61]⟩, fnv 93 #[], .string ⟨#[60]⟩, fnv 95 #[]]

set_option maxRecDepth 100000 in
set_option maxHeartbeats 1000000 in
theorem signs_ok (w : World) : Calls Tryz.prog 65 #[] w fun e w' => e = .returned (.slice (some ⟨w.heap.size, 0, none⟩) 5 5) ∧ w' = w.alloc (.cells sgCells 137) := by
  go_enter Tryz.func65, Tryz.ntmps65
  go_wp2_with fail
  go_ret
  exact ⟨rfl, rfl⟩

set_option maxRecDepth 100000 in
set_option maxHeartbeats 1000000 in
theorem workf (c : Nat) (t x : ByteArray) (g : Nat) (w : World) (hc : w.heap[c]? = some (.cells #[.string t] 9 (0, 0))) :
    Calls Tryz.prog 156 #[.agg #[.string x, fnv g #[]], .pointer (some ⟨c, 0, none⟩)] w fun e w' => e = .returned (.bool (eqb x t)) ∧ World.grownBy w w' none := by
  have hcc : (w.alloc (.cells #[.string x, fnv g #[]] 137 (0, 0))).cell? ⟨c, 0, none⟩ = some (.string t) := by
    apply cells1; rw [Below.heap_alloc _ _ _ (Array.getElem?_eq_some_iff.1 hc).1]; exact hc
  go_enter Tryz.func156, Tryz.ntmps156
  go_wp2_with fail
  go_ret
  exact ⟨ret_bool (eqb_walk _ _), grown_alloc (grown_refl _ _) _⟩

set_option maxRecDepth 100000 in
set_option maxHeartbeats 1000000 in
theorem widx (w : World) (t : ByteArray) (c : Nat) (hc : w.heap[c]? = some (.cells #[.string t] 9 (0, 0))) (A : Nat) (rows : List (ByteArray × Nat)) (hl : rows.length ≤ 10) (hA : A < w.heap.size)
    (hr : ∀ j (h : j < rows.length), w.cell? ⟨A, j * 2, none⟩ = some (.string rows[j].1) ∧ w.cell? ⟨A, j * 2 + 1, none⟩ = some (.func (.func rows[j].2) #[] #[]))
    (i : Nat) (hi : i < rows.length) (h1 : eqb rows[i].1 t = true) (h2 : ∀ j (h : j < rows.length), j < i → eqb rows[j].1 t = false) :
    Calls Tryz.prog 155 #[.slice (some ⟨A, 0, none⟩) rows.length rows.length, .func (.func 156) #[] #[.pointer (some ⟨c, 0, none⟩)]] w fun e w' => e = .returned (.int .i64 i) ∧ w.grownBy w' none := by
  have hcl := (Array.getElem?_eq_some_iff.1 hc).1
  go_enter Tryz.func155, Tryz.ntmps155
  go_wp2_with fail
  go_loopw [8] (fun v wr => ∃ k : Nat, k ≤ i ∧ v = .int .i64 k ∧ w.grownBy wr none) (fun v _ => rows.length - (intOf v).toNat)
  case atStart => exact ⟨0, Nat.zero_le _, rfl, grown_refl _ _⟩
  case round =>
    obtain ⟨k, hk, rfl, hg⟩ := hrel
    have hcr : wr.heap[c]? = some (.cells #[.string t] 9 (0, 0)) := by rw [hg.block c hcl (by simp)]; exact hc
    have hlt : k < rows.length := by omega
    obtain ⟨r1, r2⟩ := hr k hlt
    have q1 : wr.cell? ⟨A, k * 2, none⟩ = some (.string rows[k].1) := by rw [World.cell?_of_block (hg.block A hA (by simp))]; exact r1
    have q2 : wr.cell? ⟨A, k * 2 + 1, none⟩ = some (.func (.func rows[k].2) #[] #[]) := by rw [World.cell?_of_block (hg.block A hA (by simp))]; exact r2
    clear r1 r2 hr
    by_cases he : k = i
    · have HE : Hid (eqb rows[k].1 t = true) := by subst he; exact h1
      have he' : Hid (k = i) := he
      clear he h1 h2
      go_wp2_with fail
      refine (workf c t _ _ _ hcr).mono ?_
      rw [HE.out]
      rintro e w1 ⟨rfl, hg1⟩
      go_wp2_with fail
      go_ret
      have e1 := he'.out
      subst e1
      exact ⟨rfl, grown_trans hg hg1⟩
    · have HE : Hid (eqb rows[k].1 t = false) := h2 k hlt (by omega)
      clear h1 h2
      go_wp2_with fail
      refine (workf c t _ _ _ hcr).mono ?_
      rw [HE.out]
      rintro e w1 ⟨rfl, hg1⟩
      go_wp2_with fail
      exact ⟨⟨k + 1, by omega, by go_num, grown_trans hg hg1⟩, by simp [intOf]; omega⟩

/-- The table of words. -/
def ptCells : Array Value := #[.string ⟨#[104, 101, 97, 100]⟩, fnv 96 #[], .string ⟨#[116, 97, 105, 108]⟩, fnv 99 #[], .string ⟨#[110, 117, 108, 108]⟩, fnv 100 #[]]
def TB (w : World) (A A2 : Nat) : Prop := w.heap[A]? = some (.cells sgCells 137 (0, 0)) ∧ w.heap[A2]? = some (.cells ptCells 146 (0, 0))
theorem TB.keep {w w' : World} {A A2 : Nat} (h : TB w A A2) (hg : World.grownBy w w' none) : TB w' A A2 := ⟨keepB' h.1 hg, keepB' h.2 hg⟩

set_option maxRecDepth 100000 in
set_option maxHeartbeats 1000000 in
theorem parts_ok (w : World) : Calls Tryz.prog 66 #[] w fun e w' => e = .returned (.slice (some ⟨w.heap.size, 0, none⟩) 3 3) ∧ w' = w.alloc (.cells ptCells 146) := by
  go_enter Tryz.func66, Tryz.ntmps66
  go_wp2_with fail
  go_ret
  exact ⟨rfl, rfl⟩

def sgRows : List (ByteArray × Nat) := [(⟨#[43]⟩, 90), (⟨#[45]⟩, 91), (⟨#[42]⟩, 92), (⟨#[61]⟩, 93), (⟨#[60]⟩, 95)]
theorem sg_rows {w : World} {A : Nat} (h : w.heap[A]? = some (.cells sgCells 137 (0, 0))) : ∀ j (h : j < sgRows.length), w.cell? ⟨A, j * 2, none⟩ = some (.string sgRows[j].1) ∧ w.cell? ⟨A, j * 2 + 1, none⟩ = some (.func (.func sgRows[j].2) #[] #[]) := by
  intro j hj
  have hj' : j < 5 := hj
  have : j = 0 ∨ j = 1 ∨ j = 2 ∨ j = 3 ∨ j = 4 := by omega
  rcases this with rfl | rfl | rfl | rfl | rfl <;> simp [World.cell?, h, sgCells, sgRows]
/-- A sign's row. -/
theorem sg_find (op : UInt8) (hop : Sign5 op) : ∃ i, ∃ h : i < sgRows.length, eqb sgRows[i].1 ⟨#[op]⟩ = true ∧ (∀ j (h : j < sgRows.length), j < i → eqb sgRows[j].1 ⟨#[op]⟩ = false) ∧ sgRows[i].2 = workOf op := by
  rcases hop with rfl | rfl | rfl | rfl | rfl
  · exact ⟨0, by decide, by decide, fun j _ hj => by omega, rfl⟩
  · exact ⟨1, by decide, by decide, fun j _ hj => by obtain rfl : j = 0 := by omega
                                                     rfl, rfl⟩
  · refine ⟨2, by decide, by decide, fun j _ hj => ?_, rfl⟩
    have : j = 0 ∨ j = 1 := by omega
    rcases this with rfl | rfl <;> rfl
  · refine ⟨3, by decide, by decide, fun j _ hj => ?_, rfl⟩
    have : j = 0 ∨ j = 1 ∨ j = 2 := by omega
    rcases this with rfl | rfl | rfl <;> rfl
  · refine ⟨4, by decide, by decide, fun j _ hj => ?_, rfl⟩
    have : j = 0 ∨ j = 1 ∨ j = 2 ∨ j = 3 := by omega
    rcases this with rfl | rfl | rfl | rfl <;> rfl

/-- What the closures share. -/
abbrev mk (st A A2 : Nat) : Value := .agg #[ptr st, .slice (some ⟨A, 0, none⟩) 5 5, .slice (some ⟨A2, 0, none⟩) 3 3]

set_option maxRecDepth 100000 in
set_option maxHeartbeats 2000000 in
theorem work_of (op : UInt8) (hop : Sign5 op) (st A A2 : Nat) (w : World) (hA : w.heap[A]? = some (.cells sgCells 137 (0, 0))) :
    Calls Tryz.prog 139 #[mk st A A2, .string ⟨#[op]⟩] w fun e w' => e = .returned (fnv (workOf op) #[]) ∧ w.grownBy w' none := by
  have hmf : ∀ (fn : Fn) (first cap : Array Value) (w : World), (Instr.makeFunc fn first cap).run Tryz.prog w = .ok (.func fn first cap) w := fun _ _ _ _ => rfl
  obtain ⟨i, hi, h1, h2, h3⟩ := sg_find op hop
  have hg := grown_alloc (grown_alloc (grown_refl w none) (.cells #[ptr st, .slice (some ⟨A, 0, none⟩) 5 5, .slice (some ⟨A2, 0, none⟩) 3 3] 114 (0, 0))) (.cells #[.string ⟨#[op]⟩] 9 (0, 0))
  have hx1 := alloc_at w (.cells #[ptr st, .slice (some ⟨A, 0, none⟩) 5 5, .slice (some ⟨A2, 0, none⟩) 3 3] 114 (0, 0)) _ rfl
  have hx2 := alloc_at (w.alloc (.cells #[ptr st, .slice (some ⟨A, 0, none⟩) 5 5, .slice (some ⟨A2, 0, none⟩) 3 3] 114 (0, 0))) (.cells #[.string ⟨#[op]⟩] 9 (0, 0)) (w.heap.size + 1) (by rw [alloc_size])
  have hx1' := keepB' hx1 (grown_alloc (grown_refl _ none) (.cells #[.string ⟨#[op]⟩] 9 (0, 0)))
  have hA2 := keepB' hA hg
  have HI : Hid (Calls Tryz.prog 155 #[.slice (some ⟨A, 0, none⟩) 5 5, .func (.func 156) #[] #[ptr (w.heap.size + 1)]] _ _) := widx _ ⟨#[op]⟩ (w.heap.size + 1) hx2 A sgRows (by decide) (heap_lt hA2) (sg_rows hA2) i hi h1 h2
  have H3 : Hid (sgRows[i].2 = workOf op) := h3
  have hi5 : i < 5 := hi
  clear hx1 hx2 h1 h2 h3
  go_enter Tryz.func139, Tryz.ntmps139
  go_wp2_with fail
  refine HI.out.mono ?_
  rintro e w1 ⟨rfl, hg1⟩
  have hA3 := keepB' hA2 hg1
  have hx3 := keepB' hx1' hg1
  obtain ⟨_, c2⟩ := sg_rows hA3 i hi
  rw [H3.out] at c2
  have d1 : w1.cell? ⟨w.heap.size, 1, none⟩ = some (.slice (some ⟨A, 0, none⟩) 5 5) := by simp [World.cell?, hx3]
  have hi6 : (i : Int) < 5 := by omega
  clear hA3 hx3 hA2 hx1'
  go_wp2_with fail
  go_ret
  exact ⟨rfl, grown_trans hg hg1⟩
set_option maxRecDepth 100000 in
set_option maxHeartbeats 1000000 in
theorem askf (c : Nat) (t x : ByteArray) (g : Nat) (w : World) (hc : w.heap[c]? = some (.cells #[.string t] 9 (0, 0))) :
    Calls Tryz.prog 158 #[.agg #[.string x, fnv g #[]], .pointer (some ⟨c, 0, none⟩)] w fun e w' => e = .returned (.bool (eqb x t)) ∧ World.grownBy w w' none := by
  have hcc : (w.alloc (.cells #[.string x, fnv g #[]] 146 (0, 0))).cell? ⟨c, 0, none⟩ = some (.string t) := by
    apply cells1; rw [Below.heap_alloc _ _ _ (Array.getElem?_eq_some_iff.1 hc).1]; exact hc
  go_enter Tryz.func158, Tryz.ntmps158
  go_wp2_with fail
  go_ret
  exact ⟨ret_bool (eqb_walk _ _), grown_alloc (grown_refl _ _) _⟩

set_option maxRecDepth 100000 in
set_option maxHeartbeats 1000000 in
theorem aidx (w : World) (t : ByteArray) (c : Nat) (hc : w.heap[c]? = some (.cells #[.string t] 9 (0, 0))) (A : Nat) (rows : List (ByteArray × Nat)) (hl : rows.length ≤ 10) (hA : A < w.heap.size)
    (hr : ∀ j (h : j < rows.length), w.cell? ⟨A, j * 2, none⟩ = some (.string rows[j].1) ∧ w.cell? ⟨A, j * 2 + 1, none⟩ = some (.func (.func rows[j].2) #[] #[]))
    (i : Nat) (hi : i < rows.length) (h1 : eqb rows[i].1 t = true) (h2 : ∀ j (h : j < rows.length), j < i → eqb rows[j].1 t = false) :
    Calls Tryz.prog 157 #[.slice (some ⟨A, 0, none⟩) rows.length rows.length, .func (.func 158) #[] #[.pointer (some ⟨c, 0, none⟩)]] w fun e w' => e = .returned (.int .i64 i) ∧ w.grownBy w' none := by
  have hcl := (Array.getElem?_eq_some_iff.1 hc).1
  go_enter Tryz.func157, Tryz.ntmps157
  go_wp2_with fail
  go_loopw [8] (fun v wr => ∃ k : Nat, k ≤ i ∧ v = .int .i64 k ∧ w.grownBy wr none) (fun v _ => rows.length - (intOf v).toNat)
  case atStart => exact ⟨0, Nat.zero_le _, rfl, grown_refl _ _⟩
  case round =>
    obtain ⟨k, hk, rfl, hg⟩ := hrel
    have hcr : wr.heap[c]? = some (.cells #[.string t] 9 (0, 0)) := by rw [hg.block c hcl (by simp)]; exact hc
    have hlt : k < rows.length := by omega
    obtain ⟨r1, r2⟩ := hr k hlt
    have q1 : wr.cell? ⟨A, k * 2, none⟩ = some (.string rows[k].1) := by rw [World.cell?_of_block (hg.block A hA (by simp))]; exact r1
    have q2 : wr.cell? ⟨A, k * 2 + 1, none⟩ = some (.func (.func rows[k].2) #[] #[]) := by rw [World.cell?_of_block (hg.block A hA (by simp))]; exact r2
    clear r1 r2 hr
    by_cases he : k = i
    · have HE : Hid (eqb rows[k].1 t = true) := by subst he; exact h1
      have he' : Hid (k = i) := he
      clear he h1 h2
      go_wp2_with fail
      refine (askf c t _ _ _ hcr).mono ?_
      rw [HE.out]
      rintro e w1 ⟨rfl, hg1⟩
      go_wp2_with fail
      go_ret
      have e1 := he'.out
      subst e1
      exact ⟨rfl, grown_trans hg hg1⟩
    · have HE : Hid (eqb rows[k].1 t = false) := h2 k hlt (by omega)
      clear h1 h2
      go_wp2_with fail
      refine (askf c t _ _ _ hcr).mono ?_
      rw [HE.out]
      rintro e w1 ⟨rfl, hg1⟩
      go_wp2_with fail
      exact ⟨⟨k + 1, by omega, by go_num, grown_trans hg hg1⟩, by simp [intOf]; omega⟩

def ptRows : List (ByteArray × Nat) := [(⟨#[104, 101, 97, 100]⟩, 96), (⟨#[116, 97, 105, 108]⟩, 99), (⟨#[110, 117, 108, 108]⟩, 100)]
theorem pt_rows {w : World} {A : Nat} (h : w.heap[A]? = some (.cells ptCells 146 (0, 0))) : ∀ j (h : j < ptRows.length), w.cell? ⟨A, j * 2, none⟩ = some (.string ptRows[j].1) ∧ w.cell? ⟨A, j * 2 + 1, none⟩ = some (.func (.func ptRows[j].2) #[] #[]) := by
  intro j hj
  have hj' : j < 3 := hj
  have : j = 0 ∨ j = 1 ∨ j = 2 := by omega
  rcases this with rfl | rfl | rfl <;> simp [World.cell?, h, ptCells, ptRows]
def Word3 (op : UInt8) : Prop := op = 104 ∨ op = 116 ∨ op = 110
abbrev wrdOf (op : UInt8) : ByteArray := if op == 104 then ⟨#[104, 101, 97, 100]⟩ else if op == 116 then ⟨#[116, 97, 105, 108]⟩ else ⟨#[110, 117, 108, 108]⟩
/-- A word's row. -/
theorem pt_find (op : UInt8) (hop : Word3 op) : ∃ i, ∃ h : i < ptRows.length, eqb ptRows[i].1 (wrdOf op) = true ∧ (∀ j (h : j < ptRows.length), j < i → eqb ptRows[j].1 (wrdOf op) = false) ∧ ptRows[i].2 = askOf op := by
  rcases hop with rfl | rfl | rfl
  · exact ⟨0, by decide, by decide, fun j _ hj => by omega, rfl⟩
  · exact ⟨1, by decide, by decide, fun j _ hj => by obtain rfl : j = 0 := by omega
                                                     rfl, rfl⟩
  · refine ⟨2, by decide, by decide, fun j _ hj => ?_, rfl⟩
    have : j = 0 ∨ j = 1 := by omega
    rcases this with rfl | rfl <;> rfl

set_option maxRecDepth 100000 in
set_option maxHeartbeats 2000000 in
theorem ask_of (op : UInt8) (hop : Word3 op) (st A A2 : Nat) (w : World) (hA : w.heap[A2]? = some (.cells ptCells 146 (0, 0))) :
    Calls Tryz.prog 143 #[mk st A A2, .string (wrdOf op)] w fun e w' => e = .returned (fnv (askOf op) #[]) ∧ w.grownBy w' none := by
  have hmf : ∀ (fn : Fn) (first cap : Array Value) (w : World), (Instr.makeFunc fn first cap).run Tryz.prog w = .ok (.func fn first cap) w := fun _ _ _ _ => rfl
  obtain ⟨i, hi, h1, h2, h3⟩ := pt_find op hop
  generalize wrdOf op = s at h1 h2 ⊢
  have hg := grown_alloc (grown_alloc (grown_refl w none) (.cells #[ptr st, .slice (some ⟨A, 0, none⟩) 5 5, .slice (some ⟨A2, 0, none⟩) 3 3] 114 (0, 0))) (.cells #[.string s] 9 (0, 0))
  have hx1 := alloc_at w (.cells #[ptr st, .slice (some ⟨A, 0, none⟩) 5 5, .slice (some ⟨A2, 0, none⟩) 3 3] 114 (0, 0)) _ rfl
  have hx2 := alloc_at (w.alloc (.cells #[ptr st, .slice (some ⟨A, 0, none⟩) 5 5, .slice (some ⟨A2, 0, none⟩) 3 3] 114 (0, 0))) (.cells #[.string s] 9 (0, 0)) (w.heap.size + 1) (by rw [alloc_size])
  have hx1' := keepB' hx1 (grown_alloc (grown_refl _ none) (.cells #[.string s] 9 (0, 0)))
  have hA2 := keepB' hA hg
  have HI : Hid (Calls Tryz.prog 157 #[.slice (some ⟨A2, 0, none⟩) 3 3, .func (.func 158) #[] #[ptr (w.heap.size + 1)]] _ _) := aidx _ s (w.heap.size + 1) hx2 A2 ptRows (by decide) (heap_lt hA2) (pt_rows hA2) i hi h1 h2
  have H3 : Hid (ptRows[i].2 = askOf op) := h3
  have hi5 : i < 3 := hi
  clear hx1 hx2 h1 h2 h3
  go_enter Tryz.func143, Tryz.ntmps143
  go_wp2_with fail
  refine HI.out.mono ?_
  rintro e w1 ⟨rfl, hg1⟩
  have hA3 := keepB' hA2 hg1
  have hx3 := keepB' hx1' hg1
  obtain ⟨_, c2⟩ := pt_rows hA3 i hi
  rw [H3.out] at c2
  have d1 : w1.cell? ⟨w.heap.size, 2, none⟩ = some (.slice (some ⟨A2, 0, none⟩) 3 3) := by simp [World.cell?, hx3]
  have hi6 : (i : Int) < 3 := by omega
  clear hA3 hx3 hA2 hx1'
  go_wp2_with fail
  go_ret
  exact ⟨rfl, grown_trans hg hg1⟩
end Go.Proofs.YtjjlgjmebnkdjaaGreatDoor
