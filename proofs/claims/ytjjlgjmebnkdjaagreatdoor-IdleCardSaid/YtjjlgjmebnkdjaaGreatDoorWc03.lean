/-
  The document's walk: what is needed: number, empty list, function, name, let.
  The document's walk: if, the use of a function.
  The document's walk: the use of a function.
  The document's walk: a function is used.
  The document's walk: a sign between two numbers.
-/
import Derived.Test.YtjjlgjmebnkdjaaGreatDoorWc02
import Derived.Deep.RegionHeld3
namespace Go.Proofs.YtjjlgjmebnkdjaaGreatDoor
open Go Go.Proofs Go.RowKit Skein

theorem node_cells {w : World} {k : Nat} {op n : Int} {x y z : Value} (h : w.heap[k]? = some (.cells (cellsN op n x y z) 86 (0, 0))) :
    w.cell? ⟨k, 0, none⟩ = some (.int .u8 op) ∧ w.cell? ⟨k, 1, none⟩ = some (.int .i64 n) ∧ w.cell? ⟨k, 2, none⟩ = some x ∧ w.cell? ⟨k, 3, none⟩ = some y ∧ w.cell? ⟨k, 4, none⟩ = some z ∧ k < w.heap.size := by
  refine ⟨?_, ?_, ?_, ?_, ?_, heap_lt h⟩ <;> simp [World.cell?, h, cellsN]

set_option maxRecDepth 100000 in
set_option maxHeartbeats 4000000 in
theorem rneed_num (m : Nat) {L : Nat} {S : E} {env : List Nat} {b : Nat} {w : World} {A : List Nat} {wb : Nat} {p q : Value} (h : RE b w A wb L S) (hp : NodeAt b w (.num m) p) (hq : NmAt w A env q) :
    Calls Tryz.prog 37 #[ptr wb, p, q] w (Got b w A wb L (.ok (.num m), S)) := by
  obtain ⟨k, rfl, hk, hh⟩ := hp
  obtain ⟨aq, rfl⟩ := hq.ptr
  obtain ⟨c0, c1, c2, cf, hlt⟩ := h.walk.cells
  obtain ⟨d0, d1, d2, d3, d4, hltk⟩ := node_cells hh
  have hb := h.blt
  have hg := grown_alloc (grown_refl w none) (.cells #[.int .u8 110, .int .i64 m, nilp, nilp, nilp, nilp] 72 (0, 0))
  have h2 := h.grown hg
  have hf : Fr 89 68 b w _ := Fr.grown hb hg
  have hy := alloc_at w (.cells #[.int .u8 110, .int .i64 m, nilp, nilp, nilp, nilp] 72 (0, 0)) w.heap.size rfl
  clear hh hq
  go_enter Tryz.func37, Tryz.ntmps37
  go_wp2_with fail
  exact fin6 (t := 6) Tryz.results37 rfl rfl hy (GotV.got ⟨A, _, _, _, _, _, _, rfl, hf, Ext.refl _, h2, rfl⟩)

set_option maxRecDepth 100000 in
set_option maxHeartbeats 4000000 in
theorem rneed_nil {L : Nat} {S : E} {env : List Nat} {b : Nat} {w : World} {A : List Nat} {wb : Nat} {p q : Value} (h : RE b w A wb L S) (hp : NodeAt b w .nil p) (hq : NmAt w A env q) :
    Calls Tryz.prog 37 #[ptr wb, p, q] w (Got b w A wb L (.ok .nil, S)) := by
  obtain ⟨k, rfl, hk, hh⟩ := hp
  obtain ⟨aq, rfl⟩ := hq.ptr
  obtain ⟨c0, c1, c2, cf, hlt⟩ := h.walk.cells
  obtain ⟨d0, d1, d2, d3, d4, hltk⟩ := node_cells hh
  have hb := h.blt
  have hg := grown_alloc (grown_refl w none) (.cells #[.int .u8 101, .int .i64 0, nilp, nilp, nilp, nilp] 72 (0, 0))
  have h2 := h.grown hg
  have hf : Fr 89 68 b w _ := Fr.grown hb hg
  have hy := alloc_at w (.cells #[.int .u8 101, .int .i64 0, nilp, nilp, nilp, nilp] 72 (0, 0)) w.heap.size rfl
  clear hh hq
  go_enter Tryz.func37, Tryz.ntmps37
  go_wp2_with fail
  exact fin6 (t := 6) Tryz.results37 rfl rfl hy (GotV.got ⟨A, _, _, _, _, _, _, rfl, hf, Ext.refl _, h2, rfl⟩)

set_option maxRecDepth 100000 in
set_option maxHeartbeats 4000000 in
theorem rneed_fn (m : Nat) (y : T) {L : Nat} {S : E} {env : List Nat} {b : Nat} {w : World} {A : List Nat} {wb : Nat} {p q : Value} (h : RE b w A wb L S) (ht : Tidy env.length (.fn m y)) (hp : NodeAt b w (.fn m y) p) (hq : NmAt w A env q) :
    Calls Tryz.prog 37 #[ptr wb, p, q] w (Got b w A wb L (.ok (.fn y env), S)) := by
  obtain ⟨u, ⟨k, rfl, hk, hh⟩, hu⟩ := hp
  obtain ⟨rfl, ht⟩ := ht
  obtain ⟨au, rfl⟩ := NodeAt.ptr _ _ hu
  obtain ⟨aq, rfl⟩ := hq.ptr
  obtain ⟨c0, c1, c2, cf, hlt⟩ := h.walk.cells
  obtain ⟨d0, d1, d2, d3, d4, hltk⟩ := node_cells hh
  have hb := h.blt
  have hg := grown_alloc (grown_refl w none) (.cells #[.int .u8 102, .int .i64 env.length, .pointer (some au), .pointer aq, nilp, nilp] 72 (0, 0))
  have h2 := h.grown hg
  have hf : Fr 89 68 b w _ := Fr.grown hb hg
  have hy := alloc_at w (.cells #[.int .u8 102, .int .i64 env.length, .pointer (some au), .pointer aq, nilp, nilp] 72 (0, 0)) w.heap.size rfl
  have hv : VR b _ A (.fn y env) (rv 102 env.length (.pointer (some au)) (.pointer aq) nilp nilp) := ⟨ht, _, _, rfl, NodeAt.fr hf _ _ hu, hq.fr hf (Ext.refl _)⟩
  clear hh hq hu
  go_enter Tryz.func37, Tryz.ntmps37
  go_wp2_with fail
  go_region
  all_goals
    go_wp2_with fail
    exact fin6 (t := 6) Tryz.results37 rfl rfl hy (GotV.got ⟨A, _, _, _, _, _, _, rfl, hf.same rfl rfl rfl rfl, Ext.refl _, h2.same rfl, VR.same (by exact rfl) hv⟩)

theorem alloc_size (w : World) (o : Obj) : (w.alloc o).heap.size = w.heap.size + 1 := by simp
theorem Box68.grown {w w' k} (h : Box68 w k) (hg : World.grownBy w w' none) : Box68 w' k := by
  obtain ⟨y0, y1, y2, y3, y4, y5, h⟩ := h
  exact ⟨_, _, _, _, _, _, keepB' h hg⟩
theorem Got.shape {b w A wb L r e w'} (h : Got b w A wb L r e w') : ∃ k n a1 a2 a3 a4, e = .returned (rv k n (.pointer a1) (.pointer a2) (.pointer a3) (.pointer a4)) := by
  obtain ⟨hk, ⟨v', A', x, hr', rfl, hA, h1, hv⟩ | ⟨z', k, n, a1, a2, a3, a4, hr', rfl, h1⟩⟩ := h
  · obtain ⟨k, n, a1, a2, a3, a4, rfl⟩ := hv.shape
    exact ⟨k, n, a1, a2, a3, a4, rfl⟩
  · exact ⟨k, n, a1, a2, a3, a4, rfl⟩
/-- What a call of the same kind gave is handed on. -/
theorem got_put {b : Nat} {w wd : World} {A A0 : List Nat} {wb L : Nat} {r : R × E} {e : Ending} {w1 : World} (hf : Fr 89 68 b w wd) (hb : b ≤ w.heap.size) (hx : Box68 wd w.heap.size) (hA : Ext A0 A) (h : Got b wd A wb L r e w1) :
    ∃ k n a1 a2 a3 a4, e = .returned (rv k n (.pointer a1) (.pointer a2) (.pointer a3) (.pointer a4)) ∧ ∃ y0 y1 y2 y3 y4 y5, w1.heap[w.heap.size]? = some (.cells #[y0, y1, y2, y3, y4, y5] 72 (0, 0)) ∧ Got b w A0 wb L r e (put6 w1 w.heap.size (.int .u8 k) (.int .i64 n) (.pointer a1) (.pointer a2) (.pointer a3) (.pointer a4)) := by
  obtain ⟨k, n, a1, a2, a3, a4, rfl⟩ := h.shape
  obtain ⟨y0, y1, y2, y3, y4, y5, hy⟩ := hx.fr h.1 (by decide) (by decide)
  refine ⟨k, n, a1, a2, a3, a4, rfl, y0, y1, y2, y3, y4, y5, hy, ?_⟩
  have al := put6_alike hy (by decide) (.int .u8 k) (.int .i64 n) (.pointer a1) (.pointer a2) (.pointer a3) (.pointer a4)
  have hf2 := put6_fr (hf.trans h.1) (Nat.le_refl _) hb (.int .u8 k) (.int .i64 n) (.pointer a1) (.pointer a2) (.pointer a3) (.pointer a4)
  obtain ⟨hk, ⟨v', A', x, hr', he, hA', h1, hv⟩ | ⟨z', k', n', b1, b2, b3, b4, hr', he, h1⟩⟩ := h
  · exact ⟨hf2, .inl ⟨v', A', x, hr', he, hA.trans hA', h1.alike al, hv.alike al⟩⟩
  · exact ⟨hf2, .inr ⟨z', k', n', b1, b2, b3, b4, hr', he, (h1.alike al).sub hA⟩⟩

/-- The names' chain, some way up. -/
theorem names_up {w : World} {A : List Nat} {env : List Nat} {g j : Nat} {v : Value} (hg : env[g]? = some j) (h : NmR w A (env.take (g + 1)).reverse v) : ∃ k a au, v = .pointer (some ⟨k, 0, none⟩) ∧ A[j]? = some a ∧ NmR w A (env.take g).reverse (.pointer au) ∧ w.cell? ⟨k, 0, none⟩ = some (.int .i64 g) ∧ w.cell? ⟨k, 1, none⟩ = some (.pointer (some ⟨a, 0, none⟩)) ∧ w.cell? ⟨k, 2, none⟩ = some (.pointer au) ∧ k < w.heap.size := by
  have hl := (List.getElem?_eq_some_iff.1 hg).1
  have e : (env.take (g + 1)).reverse = j :: (env.take g).reverse := by
    rw [List.take_add_one, hg]; simp
  rw [e] at h
  obtain ⟨k, a, up, e, ha, hh, hr⟩ := h
  obtain ⟨au, rfl⟩ := NmR.ptr hr
  have el : (env.take g).reverse.length = g := by simp; omega
  rw [el] at hh
  refine ⟨k, a, au, e, ha, hr, ?_, ?_, ?_, heap_lt hh⟩ <;> simp [World.cell?, hh]

set_option maxRecDepth 100000 in
set_option maxHeartbeats 8000000 in
theorem rneed_var (n : Nat) (hF : CF n) (m j : Nat) {L : Nat} {S : E} {r : R × E} {env : List Nat} {b : Nat} {w : World} {A : List Nat} {wb : Nat} {p q : Value} (hj : env[m]? = some j) (he : ev L n (.force j) S = some r) (h : RE b w A wb L S) (hp : NodeAt b w (.var m) p) (hq : NmAt w A env q) :
    Calls Tryz.prog 37 #[ptr wb, p, q] w (Got b w A wb L r) := by
  obtain ⟨k, rfl, hk, hh⟩ := hp
  obtain ⟨aq, rfl⟩ := hq.ptr
  obtain ⟨c0, c1, c2, cf, hlt⟩ := h.walk.cells
  obtain ⟨d0, d1, d2, d3, d4, hltk⟩ := node_cells hh
  have hb := h.blt
  have hml := (List.getElem?_eq_some_iff.1 hj).1
  have HF : Hid (∀ wd a, World.grownBy w wd none → A[j]? = some a → Calls Tryz.prog 53 #[ptr wb, ptr a] wd (Got b wd A wb L r)) := fun wd a e ha => hF L j S r b wd A wb a he (h.grown e) ha
  have HQ : Hid (NmR w A (env.take env.length).reverse (.pointer aq)) := by unfold Hid; rw [List.take_length]; exact hq
  have HJ : Hid (env[m]? = some j) := hj
  clear hh hq he hj
  go_enter Tryz.func37, Tryz.ntmps37
  go_wp2_with fail
  go_loopg [2] env.length (fun g v wr => g ≤ env.length ∧ m < g ∧ NmR w A (env.take g).reverse v ∧ ∃ nd, wr = (w.alloc (.cells #[.int .u8 0, .int .i64 0, nilp, nilp, nilp, nilp] 72 (0, 0))).drewN nd)
  case atStart => exact ⟨Nat.le_refl _, hml, HQ.out, 0, rfl⟩
  case round =>
    obtain ⟨hgl, hmg, hnm, nd, rfl⟩ := hrel
    cases gk with
    | zero => omega
    | succ g =>
      have hgj : env[g]? = some env[g] := List.getElem?_eq_getElem (by omega)
      obtain ⟨u, a, au, rfl, ha, hn1, u0, u1, u2, hltu⟩ := names_up hgj hnm
      have HN1 : Hid (NmR w A (env.take g).reverse (.pointer au)) := hn1
      clear hnm hn1
      by_cases hmm : m = g
      · subst hmm
        have e1 : ((m : Int) != (m : Int)) = false := by simp
        have HA : Hid (A[j]? = some a) := by
          have := HJ.out
          rw [hgj] at this
          cases this
          exact ha
        clear ha hgj
        go_wp2_with fail
        go_quiet (fail)
        go_wp2_with fail
        refine (HF.out _ a (grown_drewN (grown_alloc (grown_refl _ _) _) _) HA.out).mono ?_
        intro e w1 hG
        obtain ⟨k', n', a1, a2, a3, a4, rfl, z0, z1, z2, z3, z4, z5, hz, hG2⟩ := got_put (Fr.grown hb (grown_drewN (grown_alloc (grown_refl _ _) _) _)) hb ⟨_, _, _, _, _, _, alloc_at w _ _ rfl⟩ (Ext.refl _) hG
        obtain ⟨r0, r1, r2, r3, r4, r5, rf, rlt⟩ := cells6 hz
        clear hG
        go_wp2_with fail
        exact fin6 (t := 6) Tryz.results37 rfl rfl (put6_at hz _ _ _ _ _ _) hG2
      · have e1 : ((g : Int) != (m : Int)) = true := by simp; omega
        go_wp2_with fail
        go_quiet (fail)
        go_wp2_with fail
        go_roundg g
        case measure => omega
        case rel => exact ⟨by omega, by omega, HN1.out, _, rfl⟩

set_option maxRecDepth 100000 in
set_option maxHeartbeats 8000000 in
theorem rneed_let (n : Nat) (hN : CN n) (m : Nat) (x y : T) {L : Nat} {S : E} {r : R × E} {env : List Nat} {b : Nat} {w : World} {A : List Nat} {wb : Nat} {p q : Value} (he : ev L n (.need y (env ++ [S.heap.length])) ⟨S.heap ++ [.wait x (env ++ [S.heap.length])], S.steps⟩ = some r) (h : RE b w A wb L S) (ht : Tidy env.length (.letE m x y)) (hp : NodeAt b w (.letE m x y) p) (hq : NmAt w A env q) :
    Calls Tryz.prog 37 #[ptr wb, p, q] w (Got b w A wb L r) := by
  obtain ⟨u, v, ⟨k, rfl, hk, hh⟩, hu, hv⟩ := hp
  obtain ⟨rfl, tx, ty⟩ := ht
  obtain ⟨au, rfl⟩ := NodeAt.ptr _ _ hu
  obtain ⟨av, rfl⟩ := NodeAt.ptr _ _ hv
  obtain ⟨aq, rfl⟩ := hq.ptr
  obtain ⟨c0, c1, c2, cf, hlt⟩ := h.walk.cells
  obtain ⟨d0, d1, d2, d3, d4, hltk⟩ := node_cells hh
  have hb := h.blt
  have hg := grown_alloc (grown_alloc (grown_alloc (grown_refl w none) (.cells #[.int .u8 0, .int .i64 0, nilp, nilp, nilp, nilp] 72 (0, 0))) (.cells #[.pointer (some au), ptr (w.heap.size + 1 + 1), .bool false, .bool false, .int .u8 0, .int .i64 0, nilp, nilp, nilp, nilp] 89 (0, 0))) (.cells #[.int .i64 env.length, ptr (w.heap.size + 1), .pointer aq] 91 (0, 0))
  have hx0 : Box68 _ w.heap.size := ⟨_, _, _, _, _, _, alloc_at w (.cells #[.int .u8 0, .int .i64 0, nilp, nilp, nilp, nilp] 72 (0, 0)) _ rfl⟩
  have hx1 := alloc_at (w.alloc (.cells #[.int .u8 0, .int .i64 0, nilp, nilp, nilp, nilp] 72 (0, 0))) (.cells #[.pointer (some au), ptr (w.heap.size + 1 + 1), .bool false, .bool false, .int .u8 0, .int .i64 0, nilp, nilp, nilp, nilp] 89 (0, 0)) (w.heap.size + 1) (by rw [alloc_size])
  have hx2 := alloc_at ((w.alloc (.cells #[.int .u8 0, .int .i64 0, nilp, nilp, nilp, nilp] 72 (0, 0))).alloc (.cells #[.pointer (some au), ptr (w.heap.size + 1 + 1), .bool false, .bool false, .int .u8 0, .int .i64 0, nilp, nilp, nilp, nilp] 89 (0, 0))) (.cells #[.int .i64 env.length, ptr (w.heap.size + 1), .pointer aq] 91 (0, 0)) (w.heap.size + 1 + 1) (by rw [alloc_size, alloc_size])
  have hx1' := keepB' hx1 (grown_alloc (grown_refl _ none) (.cells #[.int .i64 env.length, ptr (w.heap.size + 1), .pointer aq] 91 (0, 0)))
  have hx0' := hx0.grown (grown_alloc (grown_alloc (grown_refl _ none) (.cells #[.pointer (some au), ptr (w.heap.size + 1 + 1), .bool false, .bool false, .int .u8 0, .int .i64 0, nilp, nilp, nilp, nilp] 89 (0, 0))) (.cells #[.int .i64 env.length, ptr (w.heap.size + 1), .pointer aq] 91 (0, 0)))
  have hf : Fr 89 68 b w _ := Fr.grown hb hg
  have hA : Ext A (A ++ [w.heap.size + 1]) := Ext.app _ _
  have hnew : (A ++ [w.heap.size + 1])[S.heap.length]? = some (w.heap.size + 1) := by rw [← h.len]; simp
  have hq2 : NmAt _ (A ++ [w.heap.size + 1]) (env ++ [S.heap.length]) (ptr (w.heap.size + 1 + 1)) := (hq.fr hf hA).snoc hnew hx2
  have h3 := h.more hg (.wait x (env ++ [S.heap.length])) (w.heap.size + 1) (by omega) ⟨by simpa using tx, _, _, hx1', NodeAt.fr hf _ _ hu, hq2⟩
  have HC : Hid (Calls Tryz.prog 37 #[ptr wb, .pointer (some av), ptr (w.heap.size + 1 + 1)] _ _) := hN L y (env ++ [S.heap.length]) _ r b _ _ wb _ _ he h3 (by simpa using ty) (NodeAt.fr hf _ _ hv) hq2
  have l1 : k < w.heap.size + 1 := by omega
  have l2 : k < w.heap.size + 1 + 1 := by omega
  clear hx0 hx1 hx2 hx1' hq2 h3 hnew hh hu hv hq he hg
  go_enter Tryz.func37, Tryz.ntmps37
  go_wp2_with fail
  refine HC.out.mono ?_
  intro e w1 hG
  obtain ⟨k', n', a1, a2, a3, a4, rfl, z0, z1, z2, z3, z4, z5, hz, hG2⟩ := got_put hf hb hx0' hA hG
  obtain ⟨r0, r1, r2, r3, r4, r5, rf, rlt⟩ := cells6 hz
  clear hG
  go_wp2_with fail
  exact fin6 (t := 6) Tryz.results37 rfl rfl (put6_at hz _ _ _ _ _ _) hG2
end Go.Proofs.YtjjlgjmebnkdjaaGreatDoor

namespace Go.Proofs.YtjjlgjmebnkdjaaGreatDoor
open Go Go.Proofs Go.RowKit Skein

theorem num_ok {b : Nat} {w : World} {A : List Nat} {wb L : Nat} {r : R × E} {e : Ending} {w' : World} {k : Int} (hr : R.num r.1 = .ok k)
    (h : Fr 89 68 b w w' ∧ ((∃ k A', r.1.num = .ok k ∧ e = .returned (.int .i64 k) ∧ Ext A A' ∧ RE b w' A' wb L r.2) ∨ (∃ z k, r.1.num = .error z ∧ e = .returned (.int .i64 k) ∧ RX b w' A wb L r.2.steps z))) :
    e = .returned (.int .i64 k) ∧ Fr 89 68 b w w' ∧ ∃ A', Ext A A' ∧ RE b w' A' wb L r.2 := by
  obtain ⟨hk, ⟨k', A', h1, h2, h3, h4⟩ | ⟨z, k', h1, h2, h3⟩⟩ := h
  · rw [hr] at h1; cases h1; exact ⟨h2, hk, A', h3, h4⟩
  · rw [hr] at h1; cases h1
theorem num_err {b : Nat} {w : World} {A : List Nat} {wb L : Nat} {r : R × E} {e : Ending} {w' : World} {z : Int} (hr : R.num r.1 = .error z)
    (h : Fr 89 68 b w w' ∧ ((∃ k A', r.1.num = .ok k ∧ e = .returned (.int .i64 k) ∧ Ext A A' ∧ RE b w' A' wb L r.2) ∨ (∃ z k, r.1.num = .error z ∧ e = .returned (.int .i64 k) ∧ RX b w' A wb L r.2.steps z))) :
    ∃ k, e = .returned (.int .i64 k) ∧ Fr 89 68 b w w' ∧ RX b w' A wb L r.2.steps z := by
  obtain ⟨hk, ⟨k', A', h1, h2, h3, h4⟩ | ⟨z, k', h1, h2, h3⟩⟩ := h
  · rw [hr] at h1; cases h1
  · rw [hr] at h1; cases h1; exact ⟨k', h2, hk, h3⟩

set_option maxRecDepth 100000 in
set_option maxHeartbeats 8000000 in
theorem rneed_ite_err (n : Nat) (hN : CN n) (x y v : T) {L : Nat} {S : E} {r1 : R × E} {z : Int} {env : List Nat} {b : Nat} {w : World} {A : List Nat} {wb : Nat} {p q : Value} (he1 : ev L n (.need x env) S = some r1) (hr1 : r1.1.num = .error z) (h : RE b w A wb L S) (ht : Tidy env.length (.ite x y v)) (hp : NodeAt b w (.ite x y v) p) (hq : NmAt w A env q) :
    Calls Tryz.prog 37 #[ptr wb, p, q] w (Got b w A wb L (.err z, r1.2)) := by
  obtain ⟨p1, p2, p3, ⟨k, rfl, hk, hh⟩, h1, h2, h3⟩ := hp
  obtain ⟨a1, rfl⟩ := NodeAt.ptr _ _ h1
  obtain ⟨a2, rfl⟩ := NodeAt.ptr _ _ h2
  obtain ⟨a3, rfl⟩ := NodeAt.ptr _ _ h3
  obtain ⟨aq, rfl⟩ := hq.ptr
  obtain ⟨c0, c1, c2, cf, hlt⟩ := h.walk.cells
  obtain ⟨d0, d1, d2, d3, d4, hltk⟩ := node_cells hh
  have hb := h.blt
  have hg := grown_alloc (grown_refl w none) (.cells #[.int .u8 0, .int .i64 0, nilp, nilp, nilp, nilp] 72 (0, 0))
  have hf : Fr 89 68 b w _ := Fr.grown hb hg
  have hx : Box68 _ w.heap.size := ⟨_, _, _, _, _, _, alloc_at w (.cells #[.int .u8 0, .int .i64 0, nilp, nilp, nilp, nilp] 72 (0, 0)) _ rfl⟩
  have HC : Hid (Calls Tryz.prog 54 #[ptr wb, .pointer (some a1), .pointer aq] (w.alloc (.cells #[.int .u8 0, .int .i64 0, nilp, nilp, nilp, nilp] 72 (0, 0))) _) := (rnumber hN he1 (h.grown hg) ht.1 (NodeAt.fr hf _ _ h1) (hq.fr hf (Ext.refl _))).mono fun _ _ h => num_err hr1 h
  clear hh h1 h2 h3 hq he1 hr1 hg
  go_enter Tryz.func37, Tryz.ntmps37
  go_wp2_with fail
  refine HC.out.mono ?_
  rintro e w1 ⟨k', rfl, hk2, hx2⟩
  obtain ⟨e0, e1, e2, ef, elt⟩ := hx2.walk.cells
  obtain ⟨z0, z1, z2, z3, z4, z5, hz⟩ := hx.fr hk2 (by decide) (by decide)
  obtain ⟨r0, r1', r2, r3, r4, r5, rf, rlt⟩ := cells6 hz
  have hz0 : (z == 0) = false := by simpa using hx2.ne
  have hz1 : (z != 0) = true := by simp [bne, hz0]
  have al := put6_alike hz (by decide) (.int .u8 0) (.int .i64 0) nilp nilp nilp nilp
  have hf2 := put6_fr (hf.trans hk2) (Nat.le_refl _) hb (.int .u8 0) (.int .i64 0) nilp nilp nilp nilp
  go_wp2_with fail
  exact fin6 (t := 6) Tryz.results37 rfl rfl (put6_at hz _ _ _ _ _ _) (GotX.got ⟨_, _, _, _, _, _, rfl, hf2, hx2.alike al⟩)

set_option maxRecDepth 100000 in
set_option maxHeartbeats 8000000 in
theorem rneed_ite_ok (n : Nat) (hN : CN n) (x y v : T) {L : Nat} {S : E} {r1 r : R × E} {j : Int} {env : List Nat} {b : Nat} {w : World} {A : List Nat} {wb : Nat} {p q : Value} (he1 : ev L n (.need x env) S = some r1) (hr1 : r1.1.num = .ok j) (he2 : (if j == 0 then ev L n (.need v env) r1.2 else ev L n (.need y env) r1.2) = some r) (h : RE b w A wb L S) (ht : Tidy env.length (.ite x y v)) (hp : NodeAt b w (.ite x y v) p) (hq : NmAt w A env q) :
    Calls Tryz.prog 37 #[ptr wb, p, q] w (Got b w A wb L r) := by
  obtain ⟨p1, p2, p3, ⟨k, rfl, hk, hh⟩, h1, h2, h3⟩ := hp
  obtain ⟨a1, rfl⟩ := NodeAt.ptr _ _ h1
  obtain ⟨a2, rfl⟩ := NodeAt.ptr _ _ h2
  obtain ⟨a3, rfl⟩ := NodeAt.ptr _ _ h3
  obtain ⟨aq, rfl⟩ := hq.ptr
  obtain ⟨c0, c1, c2, cf, hlt⟩ := h.walk.cells
  obtain ⟨d0, d1, d2, d3, d4, hltk⟩ := node_cells hh
  have hb := h.blt
  have hg := grown_alloc (grown_refl w none) (.cells #[.int .u8 0, .int .i64 0, nilp, nilp, nilp, nilp] 72 (0, 0))
  have hf : Fr 89 68 b w _ := Fr.grown hb hg
  have hx : Box68 _ w.heap.size := ⟨_, _, _, _, _, _, alloc_at w (.cells #[.int .u8 0, .int .i64 0, nilp, nilp, nilp, nilp] 72 (0, 0)) _ rfl⟩
  have HC : Hid (Calls Tryz.prog 54 #[ptr wb, .pointer (some a1), .pointer aq] (w.alloc (.cells #[.int .u8 0, .int .i64 0, nilp, nilp, nilp, nilp] 72 (0, 0))) _) := (rnumber hN he1 (h.grown hg) ht.1 (NodeAt.fr hf _ _ h1) (hq.fr hf (Ext.refl _))).mono fun _ _ h => num_ok hr1 h
  have HD : Hid (∀ w1 A', Fr 89 68 b w w1 → Ext A A' → RE b w1 A' wb L r1.2 → Calls Tryz.prog 37 #[ptr wb, .pointer (some (if j == 0 then a3 else a2)), .pointer aq] w1 (Got b w1 A' wb L r)) := fun w1 A' hk1 hA h' => by
    cases hj : j == 0
    · rw [hj] at he2
      exact hN L y env _ r b w1 A' wb _ _ he2 h' ht.2.1 (NodeAt.fr hk1 _ _ h2) (hq.fr hk1 hA)
    · rw [hj] at he2
      exact hN L v env _ r b w1 A' wb _ _ he2 h' ht.2.2 (NodeAt.fr hk1 _ _ h3) (hq.fr hk1 hA)
  have hhk : Hid (w.heap[k]? = some (.cells (cellsN 105 0 (.pointer (some a1)) (.pointer (some a2)) (.pointer (some a3))) 86 (0, 0))) := hh
  clear hh h1 h2 h3 hq he1 hr1 hg he2
  cases hj : j == 0
  all_goals
    have hj1 : (j != 0) = !(j == 0) := rfl
    rw [hj] at hj1 HD
    simp only [Bool.not_false, Bool.not_true, Bool.false_eq_true, if_false, if_true] at hj1 HD
    go_enter Tryz.func37, Tryz.ntmps37
    go_wp2_with fail
    refine HC.out.mono ?_
    rintro e w1 ⟨rfl, hk2, A', hA, hx2⟩
    obtain ⟨e0, e1, e2, ef, elt⟩ := hx2.walk.cells
    have hb1 := hx.fr hk2 (by decide) (by decide)
    obtain ⟨g0, g1, g2, g3, g4, glt⟩ := node_cells ((hf.trans hk2).keep _ _ 86 (by decide) (by decide) hhk.out)
    go_wp2_with fail
    refine (HD.out w1 A' (hf.trans hk2) hA hx2).mono ?_
    intro e w2 hG
    obtain ⟨k', n', a1, a2, a3, a4, rfl, z0, z1, z2, z3, z4, z5, hz, hG2⟩ := got_put (hf.trans hk2) hb hb1 hA hG
    obtain ⟨r0, r1', r2, r3, r4, r5, rf, rlt⟩ := cells6 hz
    clear hG
    go_wp2_with fail
    exact fin6 (t := 6) Tryz.results37 rfl rfl (put6_at hz _ _ _ _ _ _) hG2
end Go.Proofs.YtjjlgjmebnkdjaaGreatDoor

namespace Go.Proofs.YtjjlgjmebnkdjaaGreatDoor
open Go Go.Proofs Go.RowKit Skein

abbrev zero68 : Obj := .cells #[.int .u8 0, .int .i64 0, nilp, nilp, nilp, nilp] 72 (0, 0)

theorem VR.fn_or {b w A v k n p1 p2 p3 p4} (h : VR b w A v (rv k n p1 p2 p3 p4)) : (k = 102 ∧ ∃ y env, v = .fn y env ∧ n = env.length ∧ Tidy (env.length + 1) y ∧ NodeAt b w y p1 ∧ NmAt w A env p2) ∨ ((k == 102) = false ∧ R.fn (.ok v) = .error 5) := by
  cases v with
  | num m => simp only [VR, rv, Value.agg.injEq] at h; simp at h; obtain ⟨rfl, _⟩ := h; exact .inr ⟨rfl, rfl⟩
  | nil => simp only [VR, rv, Value.agg.injEq] at h; simp at h; obtain ⟨rfl, _⟩ := h; exact .inr ⟨rfl, rfl⟩
  | fn x env => obtain ⟨ht, p, q, h, hp, hq⟩ := h; simp only [rv, Value.agg.injEq] at h; simp at h; obtain ⟨rfl, rfl, rfl, rfl, _⟩ := h; exact .inl ⟨rfl, x, env, rfl, rfl, ht, hp, hq⟩
  | cons i j => obtain ⟨a, c, _, _, h⟩ := h; simp only [rv, Value.agg.injEq] at h; simp at h; obtain ⟨rfl, _⟩ := h; exact .inr ⟨rfl, rfl⟩

set_option maxRecDepth 100000 in
set_option maxHeartbeats 8000000 in
theorem rneed_app_x (n : Nat) (hN : CN n) (x y : T) {L : Nat} {S S1 : E} {z : Int} {env : List Nat} {b : Nat} {w : World} {A : List Nat} {wb : Nat} {p q : Value} (he1 : ev L n (.need x env) S = some (.err z, S1)) (h : RE b w A wb L S) (ht : Tidy env.length (.app x y)) (hp : NodeAt b w (.app x y) p) (hq : NmAt w A env q) :
    Calls Tryz.prog 37 #[ptr wb, p, q] w (Got b w A wb L (.err z, S1)) := by
  obtain ⟨p1, p2, ⟨k, rfl, hk, hh⟩, h1, h2⟩ := hp
  obtain ⟨a1, rfl⟩ := NodeAt.ptr _ _ h1
  obtain ⟨a2, rfl⟩ := NodeAt.ptr _ _ h2
  obtain ⟨aq, rfl⟩ := hq.ptr
  obtain ⟨c0, c1, c2, cf, hlt⟩ := h.walk.cells
  obtain ⟨d0, d1, d2, d3, d4, hltk⟩ := node_cells hh
  have hb := h.blt
  have hg := grown_alloc (grown_refl w none) zero68
  have hf : Fr 89 68 b w _ := Fr.grown hb hg
  have hx : Box68 _ w.heap.size := ⟨_, _, _, _, _, _, alloc_at w zero68 _ rfl⟩
  have HC : Hid (Calls Tryz.prog 37 #[ptr wb, .pointer (some a1), .pointer aq] (w.alloc zero68) _) := (hN L x env S _ b _ A wb _ _ he1 (h.grown hg) ht.1 (NodeAt.fr hf _ _ h1) (hq.fr hf (Ext.refl _))).mono fun _ _ h => h.x rfl
  clear hh h1 h2 hq he1 hg
  go_enter Tryz.func37, Tryz.ntmps37
  go_wp2_with fail
  refine HC.out.mono ?_
  rintro e w1 ⟨k', n', u1, u2, u3, u4, rfl, hk2, hx2⟩
  have hg3 := grown_alloc (grown_refl w1 none) (.cells #[.int .u8 k', .int .i64 n', .pointer u1, .pointer u2, .pointer u3, .pointer u4] 72 (0, 0))
  obtain ⟨e0, e1, e2, ef, elt⟩ := hx2.walk.cells
  obtain ⟨z0, z1, z2, z3, z4, z5, hz⟩ := hx.fr hk2 (by decide) (by decide)
  obtain ⟨r0, r1', r2, r3, r4, r5, rf, rlt⟩ := cells6 hz
  have hz0 : (z == 0) = false := by simpa using hx2.ne
  have hz1 : (z != 0) = true := by simp [bne, hz0]
  have al := put6_alike hz (by decide) (.int .u8 0) (.int .i64 0) nilp nilp nilp nilp
  have hf2 := put6_fr (hf.trans hk2) (Nat.le_refl _) hb (.int .u8 0) (.int .i64 0) nilp nilp nilp nilp
  have hx3 := hx2.alike al
  have hg4 := grown_alloc (grown_refl (put6 w1 w.heap.size (.int .u8 0) (.int .i64 0) nilp nilp nilp nilp) none) (.cells #[.int .u8 k', .int .i64 n', .pointer u1, .pointer u2, .pointer u3, .pointer u4] 72 (0, 0))
  go_wp2_with fail
  exact fin6 (t := 6) Tryz.results37 rfl rfl (keepB' (put6_at hz _ _ _ _ _ _) hg4) (GotX.got ⟨_, _, _, _, _, _, rfl, hf2.trans (Fr.grown hx3.blt hg4), hx3.grown hg4⟩)

set_option maxRecDepth 100000 in
set_option maxHeartbeats 8000000 in
theorem rneed_app_t (n : Nat) (hN : CN n) (x y : T) {L : Nat} {S S1 : E} {v : V} {env : List Nat} {b : Nat} {w : World} {A : List Nat} {wb : Nat} {p q : Value} (he1 : ev L n (.need x env) S = some (.ok v, S1)) (hr1 : R.fn (.ok v) = .error 5) (h : RE b w A wb L S) (ht : Tidy env.length (.app x y)) (hp : NodeAt b w (.app x y) p) (hq : NmAt w A env q) :
    Calls Tryz.prog 37 #[ptr wb, p, q] w (Got b w A wb L (.err 5, S1)) := by
  obtain ⟨p1, p2, ⟨k, rfl, hk, hh⟩, h1, h2⟩ := hp
  obtain ⟨a1, rfl⟩ := NodeAt.ptr _ _ h1
  obtain ⟨a2, rfl⟩ := NodeAt.ptr _ _ h2
  obtain ⟨aq, rfl⟩ := hq.ptr
  obtain ⟨c0, c1, c2, cf, hlt⟩ := h.walk.cells
  obtain ⟨d0, d1, d2, d3, d4, hltk⟩ := node_cells hh
  have hb := h.blt
  have hg := grown_alloc (grown_refl w none) zero68
  have hf : Fr 89 68 b w _ := Fr.grown hb hg
  have hx : Box68 _ w.heap.size := ⟨_, _, _, _, _, _, alloc_at w zero68 _ rfl⟩
  have HC : Hid (Calls Tryz.prog 37 #[ptr wb, .pointer (some a1), .pointer aq] (w.alloc zero68) _) := (hN L x env S _ b _ A wb _ _ he1 (h.grown hg) ht.1 (NodeAt.fr hf _ _ h1) (hq.fr hf (Ext.refl _))).mono fun _ _ h => h.v rfl
  have HR : Hid (R.fn (.ok v) = .error 5) := hr1
  clear hh h1 h2 hq he1 hg hr1
  go_enter Tryz.func37, Tryz.ntmps37
  go_wp2_with fail
  refine HC.out.mono ?_
  rintro e w1 ⟨A', k', n', u1, u2, u3, u4, rfl, hk2, hA, hx2, hv⟩
  have hg3 := grown_alloc (grown_refl w1 none) (.cells #[.int .u8 k', .int .i64 n', .pointer u1, .pointer u2, .pointer u3, .pointer u4] 72 (0, 0))
  obtain ⟨e0, e1, e2, ef, elt⟩ := hx2.walk.cells
  have hk1 : (k' == 102) = false := by
    rcases hv.fn_or with ⟨_, y', env', rfl, _⟩ | ⟨h, _⟩
    · have := HR.out; cases this
    · exact h
  have hk1' : (k' != 102) = true := by simp [bne, hk1]
  have hx3 := hx2.grown hg3
  have hbx := hx2.blt
  clear hv
  go_wp2_with fail
  refine (rfails hx3 5 (by decide)).mono ?_
  rintro e w2 ⟨rfl, hk4, hx4⟩
  have hk5 := (hf.trans hk2).trans ((Fr.grown hbx hg3).trans hk4)
  obtain ⟨f0, f1, f2, ff, flt'⟩ := hx4.walk.cells
  obtain ⟨z0, z1, z2, z3, z4, z5, hz⟩ := ((hx.fr hk2 (by decide) (by decide)).grown hg3).fr hk4 (by decide) (by decide)
  obtain ⟨r0, r1', r2, r3, r4, r5, rf, rlt⟩ := cells6 hz
  have al := put6_alike hz (by decide) (.int .u8 0) (.int .i64 0) nilp nilp nilp nilp
  have hf2 := put6_fr hk5 (Nat.le_refl _) hb (.int .u8 0) (.int .i64 0) nilp nilp nilp nilp
  go_wp2_with fail
  exact fin6 (t := 6) Tryz.results37 rfl rfl (put6_at hz _ _ _ _ _ _) (GotX.got ⟨_, _, _, _, _, _, rfl, hf2, (hx4.alike al).sub hA⟩)

set_option maxRecDepth 100000 in
set_option maxHeartbeats 8000000 in
theorem rneed_app_s (n : Nat) (hN : CN n) (x y : T) {L : Nat} {S S1 : E} {u : T} {fe : List Nat} {env : List Nat} {b : Nat} {w : World} {A : List Nat} {wb : Nat} {p q : Value} (he1 : ev L n (.need x env) S = some (.ok (.fn u fe), S1)) (hl : L ≤ S1.steps) (h : RE b w A wb L S) (ht : Tidy env.length (.app x y)) (hp : NodeAt b w (.app x y) p) (hq : NmAt w A env q) :
    Calls Tryz.prog 37 #[ptr wb, p, q] w (Got b w A wb L (.err 8, S1)) := by
  obtain ⟨p1, p2, ⟨k, rfl, hk, hh⟩, h1, h2⟩ := hp
  obtain ⟨a1, rfl⟩ := NodeAt.ptr _ _ h1
  obtain ⟨a2, rfl⟩ := NodeAt.ptr _ _ h2
  obtain ⟨aq, rfl⟩ := hq.ptr
  obtain ⟨c0, c1, c2, cf, hlt⟩ := h.walk.cells
  obtain ⟨d0, d1, d2, d3, d4, hltk⟩ := node_cells hh
  have hb := h.blt
  have hg := grown_alloc (grown_refl w none) zero68
  have hf : Fr 89 68 b w _ := Fr.grown hb hg
  have hx : Box68 _ w.heap.size := ⟨_, _, _, _, _, _, alloc_at w zero68 _ rfl⟩
  have HC : Hid (Calls Tryz.prog 37 #[ptr wb, .pointer (some a1), .pointer aq] (w.alloc zero68) _) := (hN L x env S _ b _ A wb _ _ he1 (h.grown hg) ht.1 (NodeAt.fr hf _ _ h1) (hq.fr hf (Ext.refl _))).mono fun _ _ h => h.v rfl
  clear hh h1 h2 hq he1 hg
  go_enter Tryz.func37, Tryz.ntmps37
  go_wp2_with fail
  refine HC.out.mono ?_
  rintro e w1 ⟨A', k', n', u1, u2, u3, u4, rfl, hk2, hA, hx2, hv⟩
  obtain ⟨e0, e1, e2, ef, elt⟩ := hx2.walk.cells
  have hk1 : k' = 102 := by
    rcases hv.fn_or with ⟨h, _⟩ | ⟨_, h⟩
    · exact h
    · cases h
  subst hk1
  have hg3 := grown_alloc (grown_refl w1 none) (.cells #[.int .u8 102, .int .i64 n', .pointer u1, .pointer u2, .pointer u3, .pointer u4] 72 (0, 0))
  have hx3 := hx2.grown hg3
  have hbx := hx2.blt
  clear hv
  go_wp2_with fail
  refine (rstep_no hx3 hl).mono ?_
  rintro e w2 ⟨rfl, hk4, hx4⟩
  have hk5 := (hf.trans hk2).trans ((Fr.grown hbx hg3).trans hk4)
  obtain ⟨f0, f1, f2, ff, flt'⟩ := hx4.walk.cells
  obtain ⟨z0, z1, z2, z3, z4, z5, hz⟩ := ((hx.fr hk2 (by decide) (by decide)).grown hg3).fr hk4 (by decide) (by decide)
  obtain ⟨r0, r1', r2, r3, r4, r5, rf, rlt⟩ := cells6 hz
  have al := put6_alike hz (by decide) (.int .u8 0) (.int .i64 0) nilp nilp nilp nilp
  have hf2 := put6_fr hk5 (Nat.le_refl _) hb (.int .u8 0) (.int .i64 0) nilp nilp nilp nilp
  go_wp2_with fail
  exact fin6 (t := 6) Tryz.results37 rfl rfl (put6_at hz _ _ _ _ _ _) (GotX.got ⟨_, _, _, _, _, _, rfl, hf2, (hx4.alike al).sub hA⟩)

end Go.Proofs.YtjjlgjmebnkdjaaGreatDoor

namespace Go.Proofs.YtjjlgjmebnkdjaaGreatDoor
open Go Go.Proofs Go.RowKit Skein

set_option maxRecDepth 100000 in
set_option maxHeartbeats 32000000 in
theorem rneed_app_ok (n : Nat) (hN : CN n) (x y : T) {L : Nat} {S S1 : E} {r : R × E} {u : T} {fe : List Nat} {env : List Nat} {b : Nat} {w : World} {A : List Nat} {wb : Nat} {p q : Value} (he1 : ev L n (.need x env) S = some (.ok (.fn u fe), S1)) (hl : ¬ L ≤ S1.steps) (he2 : ev L n (.need u (fe ++ [S1.heap.length])) ⟨S1.heap ++ [.wait y env], S1.steps + 1⟩ = some r) (h : RE b w A wb L S) (ht : Tidy env.length (.app x y)) (hp : NodeAt b w (.app x y) p) (hq : NmAt w A env q) :
    Calls Tryz.prog 37 #[ptr wb, p, q] w (Got b w A wb L r) := by
  obtain ⟨p1, p2, ⟨k, rfl, hk, hh⟩, h1, h2⟩ := hp
  obtain ⟨a1, rfl⟩ := NodeAt.ptr _ _ h1
  obtain ⟨a2, rfl⟩ := NodeAt.ptr _ _ h2
  obtain ⟨aq, rfl⟩ := hq.ptr
  obtain ⟨c0, c1, c2, cf, hlt⟩ := h.walk.cells
  obtain ⟨d0, d1, d2, d3, d4, hltk⟩ := node_cells hh
  have hb := h.blt
  have hg := grown_alloc (grown_refl w none) zero68
  have hf : Fr 89 68 b w _ := Fr.grown hb hg
  have hx : Box68 _ w.heap.size := ⟨_, _, _, _, _, _, alloc_at w zero68 _ rfl⟩
  have HC : Hid (Calls Tryz.prog 37 #[ptr wb, .pointer (some a1), .pointer aq] (w.alloc zero68) _) := (hN L x env S _ b _ A wb _ _ he1 (h.grown hg) ht.1 (NodeAt.fr hf _ _ h1) (hq.fr hf (Ext.refl _))).mono fun _ _ h => h.v rfl
  have HH : Hid (w.heap[k]? = some (.cells (cellsN 97 0 (.pointer (some a1)) (.pointer (some a2)) (.pointer none)) 86 (0, 0))) := hh
  have H2 : Hid (NodeAt b w y (.pointer (some a2))) := h2
  have HQ : Hid (NmAt w A env (.pointer aq)) := hq
  have HE : Hid (ev L n (.need u (fe ++ [S1.heap.length])) ⟨S1.heap ++ [.wait y env], S1.steps + 1⟩ = some r) := he2
  have HT : Hid (Tidy env.length y) := ht.2
  clear hh h1 h2 hq he1 hg he2 ht
  go_enter Tryz.func37, Tryz.ntmps37
  go_wp2_with fail
  refine HC.out.mono ?_
  rintro e w1 ⟨A', k', n', u1, u2, u3, u4, rfl, hk2, hA, hx2, hv⟩
  obtain ⟨e0, e1, e2, ef, elt⟩ := hx2.walk.cells
  obtain ⟨rfl, y', env', hyy, rfl, hty, hnu, hnm⟩ : k' = 102 ∧ ∃ y env, V.fn u fe = .fn y env ∧ n' = env.length ∧ Tidy (env.length + 1) y ∧ NodeAt b w1 y (.pointer u1) ∧ NmAt w1 A' env (.pointer u2) := by
    rcases hv.fn_or with h | ⟨_, h⟩
    · exact h
    · cases h
  cases hyy
  have hg3 := grown_alloc (grown_refl w1 none) (.cells #[.int .u8 102, .int .i64 fe.length, .pointer u1, .pointer u2, .pointer u3, .pointer u4] 72 (0, 0))
  have hl3 := alloc_at w1 (.cells #[.int .u8 102, .int .i64 fe.length, .pointer u1, .pointer u2, .pointer u3, .pointer u4] 72 (0, 0)) _ rfl
  have hx3 := hx2.grown hg3
  have hf3 : Fr 89 68 b w1 _ := Fr.grown hx2.blt hg3
  have HNU : Hid (NodeAt b w1 u (.pointer u1)) := hnu
  have HNM : Hid (NmAt w1 A' fe (.pointer u2)) := hnm
  have HTY : Hid (Tidy (fe.length + 1) u) := hty
  clear hv hnu hnm hty
  go_wp2_with fail
  refine (rstep_ok hx3 hl).mono ?_
  rintro e w2 ⟨rfl, hk4, hx4⟩
  have hk14 := hf3.trans hk4
  have hk5 := (hf.trans hk2).trans hk14
  obtain ⟨f0, f1, f2, ff, flt'⟩ := hx4.walk.cells
  have hbx := (hx.fr hk2 (by decide) (by decide)).fr hk14 (by decide) (by decide)
  have hloc := hk4.keep _ _ 72 (by decide) (by decide) hl3
  have hnod := hk5.keep _ _ 86 (by decide) (by decide) HH.out
  obtain ⟨m0, m1, m2, m3, m4, m5, mf, mlt⟩ := cells6 hloc
  obtain ⟨g0, g1, g2, g3, g4, glt⟩ := node_cells hnod
  have hg5 := grown_alloc (grown_alloc (grown_refl w2 none) (.cells #[.pointer (some a2), .pointer aq, .bool false, .bool false, .int .u8 0, .int .i64 0, nilp, nilp, nilp, nilp] 89 (0, 0))) (.cells #[.int .i64 fe.length, ptr w2.heap.size, .pointer u2] 91 (0, 0))
  have hf5 : Fr 89 68 b w2 _ := Fr.grown hx4.blt hg5
  have hy1 := keepB' (alloc_at w2 (.cells #[.pointer (some a2), .pointer aq, .bool false, .bool false, .int .u8 0, .int .i64 0, nilp, nilp, nilp, nilp] 89 (0, 0)) _ rfl) (grown_alloc (grown_refl _ none) (.cells #[.int .i64 fe.length, ptr w2.heap.size, .pointer u2] 91 (0, 0)))
  have hy2 := alloc_at (w2.alloc (.cells #[.pointer (some a2), .pointer aq, .bool false, .bool false, .int .u8 0, .int .i64 0, nilp, nilp, nilp, nilp] 89 (0, 0))) (.cells #[.int .i64 fe.length, ptr w2.heap.size, .pointer u2] 91 (0, 0)) (w2.heap.size + 1) (by rw [alloc_size])
  have hA2 : Ext A' (A' ++ [w2.heap.size]) := Ext.app _ _
  have hnew : (A' ++ [w2.heap.size])[S1.heap.length]? = some w2.heap.size := by have := hx4.len; simp only at this; rw [← this]; simp
  have h6 := hx4.more hg5 (.wait y env) w2.heap.size (Nat.le_refl _) ⟨HT.out, _, _, hy1, NodeAt.fr (hk5.trans hf5) _ _ H2.out, HQ.out.fr (hk5.trans hf5) (hA.trans hA2)⟩
  have hnm6 := (HNM.out.fr (hk14.trans hf5) hA2).snoc hnew hy2
  have HD : Hid (∀ wd, World.grownBy ((w2.alloc (.cells #[.pointer (some a2), .pointer aq, .bool false, .bool false, .int .u8 0, .int .i64 0, nilp, nilp, nilp, nilp] 89 (0, 0))).alloc (.cells #[.int .i64 fe.length, ptr w2.heap.size, .pointer u2] 91 (0, 0))) wd none → Calls Tryz.prog 37 #[ptr wb, .pointer u1, ptr (w2.heap.size + 1)] wd fun e w' => (w'.cell? ⟨w1.heap.size, 1, none⟩ = some (.int .i64 fe.length) ∧ w'.cell? ⟨w1.heap.size, 2, none⟩ = some (.pointer u1) ∧ w'.cell? ⟨w1.heap.size, 3, none⟩ = some (.pointer u2) ∧ w'.cell? ⟨k, 3, none⟩ = some (.pointer (some a2))) ∧ ∃ k n a1 a2 a3 a4, e = .returned (rv k n (.pointer a1) (.pointer a2) (.pointer a3) (.pointer a4)) ∧ ∃ y0 y1 y2 y3 y4 y5, w'.heap[w.heap.size]? = some (.cells #[y0, y1, y2, y3, y4, y5] 72 (0, 0)) ∧ Got b w A wb L r e (put6 w' w.heap.size (.int .u8 k) (.int .i64 n) (.pointer a1) (.pointer a2) (.pointer a3) (.pointer a4))) := fun wd hwd => by
    have h7 : Fr 89 68 b _ wd := Fr.grown h6.blt hwd
    refine (hN L u (fe ++ [S1.heap.length]) _ r b wd _ wb _ _ HE.out (h6.grown hwd) (by simpa using HTY.out) (NodeAt.fr ((hk14.trans hf5).trans h7) _ _ HNU.out) (hnm6.fr h7 (Ext.refl _))).mono fun e w' hG => ?_
    obtain ⟨_, m1', m2', m3', _, _, _, _⟩ := cells6 (hG.1.keep _ _ 72 (by decide) (by decide) (keepB' (keepB' hloc hg5) hwd))
    obtain ⟨_, _, _, g3', _, _⟩ := node_cells (hG.1.keep _ _ 86 (by decide) (by decide) (keepB' (keepB' hnod hg5) hwd))
    exact ⟨⟨m1', m2', m3', g3'⟩, got_put ((hk5.trans hf5).trans h7) hb ((hbx.grown hg5).grown hwd) (hA.trans hA2) hG⟩
  have n1 : w.heap.size < w1.heap.size := by
    obtain ⟨y0, y1, y2, y3, y4, y5, hb0⟩ := hx.fr hk2 (by decide) (by decide)
    exact heap_lt hb0
  have n2 : w1.heap.size ≠ w.heap.size := by omega
  have n3 : w.heap.size ≠ w1.heap.size := by omega
  have n4 : k ≠ w.heap.size := by omega
  have n5 : w.heap.size ≠ k := by omega
  clear hloc hnod hnm6 h6 hnew hy1 hy2 hf5 hg5 hk5 hk14 hx4 hk4 hx3 hx2 hf3 hl3 hg3
  go_wp2_with fail
  clear f0 f1 f2 ff flt' m0 m4 m5 mf mlt g0 g1 g2 g4 glt c0 c1 c2 cf hlt d0 d1 d2 d3 d4 hltk e0 e1 e2 ef elt hf hx hk2 hA HC HH H2 HQ HE HT HNU HNM HTY hbx hA2 hl hk h hN hb
  go_region_held3 (fun wd => wd.cell? ⟨w1.heap.size, 1, none⟩ = some (.int .i64 fe.length) ∧ wd.cell? ⟨w1.heap.size, 2, none⟩ = some (.pointer u1) ∧ wd.cell? ⟨w1.heap.size, 3, none⟩ = some (.pointer u2) ∧ wd.cell? ⟨k, 3, none⟩ = some (.pointer (some a2))) (go_keep) (first | (go_at_call 37; refine (HD.out _ (by exact grown_same (grown_refl _ _) rfl rfl rfl rfl)).mono ?_; rintro e w3 ⟨⟨s1, s2, s3, s4⟩, k', n', b1, b2, b3, b4, rfl, z0, z1, z2, z3, z4, z5, hz, hG2⟩; obtain ⟨r0, r1, r2, r3, r4, r5, rf, rlt⟩ := cells6 hz))
  all_goals
    go_wp2_with fail
    exact fin6 (t := 6) Tryz.results37 rfl rfl (put6_at hz _ _ _ _ _ _) hG2
end Go.Proofs.YtjjlgjmebnkdjaaGreatDoor

namespace Go.Proofs.YtjjlgjmebnkdjaaGreatDoor
open Go Go.Proofs Go.RowKit Skein

theorem wrap_eq (z : Int) : IntKind.wrap .i64 z = wrap64 z := IntWalk.i64_left z
def Sign5 (op : UInt8) : Prop := op = 43 ∨ op = 45 ∨ op = 42 ∨ op = 61 ∨ op = 60

set_option maxRecDepth 100000 in
set_option maxHeartbeats 8000000 in
theorem rreck_e1 (n : Nat) (hN : CN n) (op : UInt8) (x y : T) {L : Nat} {S : E} {r1 : R × E} {z : Int} {env : List Nat} {b : Nat} {w : World} {A : List Nat} {wb : Nat} {p q : Value} (he1 : ev L n (.need x env) S = some r1) (hr1 : r1.1.num = .error z) (h : RE b w A wb L S) (tx : Tidy env.length x) (hp : NodeAt b w (.bin op x y) p) (hq : NmAt w A env q) :
    Calls Tryz.prog 58 #[ptr wb, p, q] w (Got b w A wb L (.err z, r1.2)) := by
  obtain ⟨p1, p2, ⟨k, rfl, hk, hh⟩, h1, h2⟩ := hp
  obtain ⟨a1, rfl⟩ := NodeAt.ptr _ _ h1
  obtain ⟨a2, rfl⟩ := NodeAt.ptr _ _ h2
  obtain ⟨aq, rfl⟩ := hq.ptr
  obtain ⟨c0, c1, c2, cf, hlt⟩ := h.walk.cells
  obtain ⟨d0, d1, d2, d3, d4, hltk⟩ := node_cells hh
  have hb := h.blt
  have hg := grown_alloc (grown_refl w none) zero68
  have hf : Fr 89 68 b w _ := Fr.grown hb hg
  have hx : Box68 _ w.heap.size := ⟨_, _, _, _, _, _, alloc_at w zero68 _ rfl⟩
  have HC : Hid (Calls Tryz.prog 54 #[ptr wb, .pointer (some a1), .pointer aq] (w.alloc zero68) _) := (rnumber hN he1 (h.grown hg) tx (NodeAt.fr hf _ _ h1) (hq.fr hf (Ext.refl _))).mono fun _ _ h => num_err hr1 h
  clear hh h1 h2 hq he1 hr1 hg
  go_enter Tryz.func58, Tryz.ntmps58
  go_wp2_with fail
  refine HC.out.mono ?_
  rintro e w1 ⟨k', rfl, hk2, hx2⟩
  obtain ⟨e0, e1, e2, ef, elt⟩ := hx2.walk.cells
  obtain ⟨z0, z1, z2, z3, z4, z5, hz⟩ := hx.fr hk2 (by decide) (by decide)
  obtain ⟨r0, r1', r2, r3, r4, r5, rf, rlt⟩ := cells6 hz
  have hz0 : (z == 0) = false := by simpa using hx2.ne
  have hz1 : (z != 0) = true := by simp [bne, hz0]
  have al := put6_alike hz (by decide) (.int .u8 0) (.int .i64 0) nilp nilp nilp nilp
  have hf2 := put6_fr (hf.trans hk2) (Nat.le_refl _) hb (.int .u8 0) (.int .i64 0) nilp nilp nilp nilp
  go_wp2_with fail
  exact fin6 (t := 6) Tryz.results58 rfl rfl (put6_at hz _ _ _ _ _ _) (GotX.got ⟨_, _, _, _, _, _, rfl, hf2, hx2.alike al⟩)

set_option maxRecDepth 100000 in
set_option maxHeartbeats 16000000 in
theorem rreck_e2 (n : Nat) (hN : CN n) (op : UInt8) (hop : Sign5 op) (x y : T) {L : Nat} {S : E} {r1 r2 : R × E} {i z : Int} {env : List Nat} {b : Nat} {w : World} {A : List Nat} {wb : Nat} {p q : Value} (he1 : ev L n (.need x env) S = some r1) (hr1 : r1.1.num = .ok i) (he2 : ev L n (.need y env) r1.2 = some r2) (hr2 : r2.1.num = .error z) (h : RE b w A wb L S) (tx : Tidy env.length x) (ty : Tidy env.length y) (hp : NodeAt b w (.bin op x y) p) (hq : NmAt w A env q) :
    Calls Tryz.prog 58 #[ptr wb, p, q] w (Got b w A wb L (.err z, r2.2)) := by
  obtain ⟨p1, p2, ⟨k, rfl, hk, hh⟩, h1, h2⟩ := hp
  obtain ⟨a1, rfl⟩ := NodeAt.ptr _ _ h1
  obtain ⟨a2, rfl⟩ := NodeAt.ptr _ _ h2
  obtain ⟨aq, rfl⟩ := hq.ptr
  obtain ⟨c0, c1, c2, cf, hlt⟩ := h.walk.cells
  obtain ⟨d0, d1, d2, d3, d4, hltk⟩ := node_cells hh
  have hb := h.blt
  have hg := grown_alloc (grown_refl w none) zero68
  have hf : Fr 89 68 b w _ := Fr.grown hb hg
  have hx : Box68 _ w.heap.size := ⟨_, _, _, _, _, _, alloc_at w zero68 _ rfl⟩
  have HC : Hid (Calls Tryz.prog 54 #[ptr wb, .pointer (some a1), .pointer aq] (w.alloc zero68) _) := (rnumber hN he1 (h.grown hg) tx (NodeAt.fr hf _ _ h1) (hq.fr hf (Ext.refl _))).mono fun _ _ h => num_ok hr1 h
  have HD : Hid (∀ w1 A', Fr 89 68 b w w1 → Ext A A' → RE b w1 A' wb L r1.2 → Calls Tryz.prog 54 #[ptr wb, .pointer (some a2), .pointer aq] w1 fun e w' => ∃ k, e = .returned (.int .i64 k) ∧ Fr 89 68 b w1 w' ∧ RX b w' A' wb L r2.2.steps z) := fun w1 A' hk1 hA h' => (rnumber hN he2 h' ty (NodeAt.fr hk1 _ _ h2) (hq.fr hk1 hA)).mono fun _ _ h => num_err hr2 h
  have hhk : Hid (w.heap[k]? = some (.cells (cellsN op.toNat 0 (.pointer (some a1)) (.pointer (some a2)) (.pointer none)) 86 (0, 0))) := hh
  clear hh h1 h2 hq he1 hr1 hg he2 hr2
  rcases hop with rfl | rfl | rfl | rfl | rfl
  all_goals
    go_enter Tryz.func58, Tryz.ntmps58
    go_wp2_with fail
    refine HC.out.mono ?_
    rintro e w1 ⟨rfl, hk2, A', hA, hx2⟩
    obtain ⟨e0, e1, e2, ef, elt⟩ := hx2.walk.cells
    obtain ⟨g0, g1, g2, g3, g4, glt⟩ := node_cells ((hf.trans hk2).keep _ _ 86 (by decide) (by decide) hhk.out)
    go_wp2_with fail
    refine (HD.out w1 A' (hf.trans hk2) hA hx2).mono ?_
    rintro e w2 ⟨j, rfl, hk3, hx3⟩
    have hbx := (hx.fr hk2 (by decide) (by decide)).fr hk3 (by decide) (by decide)
    obtain ⟨z0, z1, z2, z3, z4, z5, hz⟩ := hbx
    obtain ⟨r0, r1', r2', r3, r4, r5, rf, rlt⟩ := cells6 hz
    obtain ⟨i0, i1, i2, i3, i4, ilt⟩ := node_cells (((hf.trans hk2).trans hk3).keep _ _ 86 (by decide) (by decide) hhk.out)
    have hbb : b ≤ w2.heap.size := hx3.blt
    go_wp2_with (first | (go_at_call 69; refine (rtruth _ _).mono ?_; rintro e w3 ⟨rfl, hg3⟩; have hz := keepB' hz hg3; have hk3 := hk3.trans (Fr.grown hbb hg3); have hx3 := hx3.grown hg3; obtain ⟨r0, r1', r2', r3, r4, r5, rf, rlt⟩ := cells6 hz))
    have al := fun u0 u1 => put6_alike hz (by decide) u0 u1 nilp nilp nilp nilp
    have hf2 := fun u0 u1 => put6_fr ((hf.trans hk2).trans hk3) (Nat.le_refl _) hb u0 u1 nilp nilp nilp nilp
    exact fin6 (t := 6) Tryz.results58 rfl rfl (put6_at hz _ _ _ _ _ _) (GotX.got ⟨_, _, _, _, _, _, rfl, hf2 _ _, (hx3.alike (al _ _)).sub hA⟩)

set_option maxRecDepth 100000 in
set_option maxHeartbeats 16000000 in
theorem rreck_ok (n : Nat) (hN : CN n) (op : UInt8) (hop : Sign5 op) (x y : T) {L : Nat} {S : E} {r1 r2 : R × E} {i j : Int} {env : List Nat} {b : Nat} {w : World} {A : List Nat} {wb : Nat} {p q : Value} (he1 : ev L n (.need x env) S = some r1) (hr1 : r1.1.num = .ok i) (he2 : ev L n (.need y env) r1.2 = some r2) (hr2 : r2.1.num = .ok j) (h : RE b w A wb L S) (tx : Tidy env.length x) (ty : Tidy env.length y) (hp : NodeAt b w (.bin op x y) p) (hq : NmAt w A env q) :
    Calls Tryz.prog 58 #[ptr wb, p, q] w (Got b w A wb L (.ok (.num (reck op i j)), r2.2)) := by
  obtain ⟨p1, p2, ⟨k, rfl, hk, hh⟩, h1, h2⟩ := hp
  obtain ⟨a1, rfl⟩ := NodeAt.ptr _ _ h1
  obtain ⟨a2, rfl⟩ := NodeAt.ptr _ _ h2
  obtain ⟨aq, rfl⟩ := hq.ptr
  obtain ⟨c0, c1, c2, cf, hlt⟩ := h.walk.cells
  obtain ⟨d0, d1, d2, d3, d4, hltk⟩ := node_cells hh
  have hb := h.blt
  have hg := grown_alloc (grown_refl w none) zero68
  have hf : Fr 89 68 b w _ := Fr.grown hb hg
  have hx : Box68 _ w.heap.size := ⟨_, _, _, _, _, _, alloc_at w zero68 _ rfl⟩
  have HC : Hid (Calls Tryz.prog 54 #[ptr wb, .pointer (some a1), .pointer aq] (w.alloc zero68) _) := (rnumber hN he1 (h.grown hg) tx (NodeAt.fr hf _ _ h1) (hq.fr hf (Ext.refl _))).mono fun _ _ h => num_ok hr1 h
  have HD : Hid (∀ w1 A', Fr 89 68 b w w1 → Ext A A' → RE b w1 A' wb L r1.2 → Calls Tryz.prog 54 #[ptr wb, .pointer (some a2), .pointer aq] w1 fun e w' => e = .returned (.int .i64 j) ∧ Fr 89 68 b w1 w' ∧ ∃ A'', Ext A' A'' ∧ RE b w' A'' wb L r2.2) := fun w1 A' hk1 hA h' => (rnumber hN he2 h' ty (NodeAt.fr hk1 _ _ h2) (hq.fr hk1 hA)).mono fun _ _ h => num_ok hr2 h
  have hhk : Hid (w.heap[k]? = some (.cells (cellsN op.toNat 0 (.pointer (some a1)) (.pointer (some a2)) (.pointer none)) 86 (0, 0))) := hh
  clear hh h1 h2 hq he1 hr1 hg he2 hr2
  rcases hop with rfl | rfl | rfl | rfl | rfl
  all_goals
    go_enter Tryz.func58, Tryz.ntmps58
    go_wp2_with fail
    refine HC.out.mono ?_
    rintro e w1 ⟨rfl, hk2, A', hA, hx2⟩
    obtain ⟨e0, e1, e2, ef, elt⟩ := hx2.walk.cells
    obtain ⟨g0, g1, g2, g3, g4, glt⟩ := node_cells ((hf.trans hk2).keep _ _ 86 (by decide) (by decide) hhk.out)
    go_wp2_with fail
    refine (HD.out w1 A' (hf.trans hk2) hA hx2).mono ?_
    rintro e w2 ⟨rfl, hk3, A'', hA2, hx3⟩
    have hbx := (hx.fr hk2 (by decide) (by decide)).fr hk3 (by decide) (by decide)
    obtain ⟨z0, z1, z2, z3, z4, z5, hz⟩ := hbx
    obtain ⟨r0, r1', r2', r3, r4, r5, rf, rlt⟩ := cells6 hz
    obtain ⟨i0, i1, i2, i3, i4, ilt⟩ := node_cells (((hf.trans hk2).trans hk3).keep _ _ 86 (by decide) (by decide) hhk.out)
    have hbb : b ≤ w2.heap.size := hx3.blt
    go_wp2_with (first | (go_at_call 69; refine (rtruth _ _).mono ?_; rintro e w3 ⟨rfl, hg3⟩; have hz := keepB' hz hg3; have hk3 := hk3.trans (Fr.grown hbb hg3); have hx3 := hx3.grown hg3; obtain ⟨r0, r1', r2', r3, r4, r5, rf, rlt⟩ := cells6 hz))
    have al := fun u0 u1 => put6_alike hz (by decide) u0 u1 nilp nilp nilp nilp
    have hf2 := fun u0 u1 => put6_fr ((hf.trans hk2).trans hk3) (Nat.le_refl _) hb u0 u1 nilp nilp nilp nilp
    exact fin6 (t := 6) Tryz.results58 rfl rfl (put6_at hz _ _ _ _ _ _) (GotV.got ⟨A'', _, _, _, _, _, _, rfl, hf2 _ _, hA.trans hA2, hx3.alike (al _ _), by first | rfl | (simp only [VR, reck, wrap_eq]; rfl)⟩)
end Go.Proofs.YtjjlgjmebnkdjaaGreatDoor
