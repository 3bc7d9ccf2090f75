/-
  The program's parser: level, a range over slices.Backward.
-/
import Derived.Test.YtjjlgjmebnkdjaaGreatDoorPrgG
import Derived.RangeFuncFrom
import Derived.RangeFuncNested
import Derived.RangeFuncBound
import Derived.RangeFuncCalls
import Derived.RangeFuncLeaves
import Derived.Shelf.Abstract
import Derived.Shelf.RegionOpen
import Derived.OwnWalkIn
import Derived.TacticsInMore
import Derived.LoopNIn
import Derived.LoopIn
namespace Go.Proofs.YtjjlgjmebnkdjaaGreatDoor
open Go Go.Proofs Go.RowKit Go.Shelf Skein

attribute [local go_sem] Oper.semAt_some

/-- What has come when k rounds are over. -/
def upto {α : Type} (f : Nat → α) (k : Nat) : List α := (List.range k).map f
theorem upto_succ {α : Type} (f : Nat → α) (k : Nat) : upto f (k + 1) = upto f k ++ [f k] := by simp [upto, List.range_succ]
theorem upto_length {α : Type} (f : Nat → α) (k : Nat) : (upto f k).length = k := by simp [upto]

/-- The names from the innermost outward. -/
def backOf (gs : List ByteArray) (k : Nat) : Nat × ByteArray := (gs.length - 1 - k, gs.getD (gs.length - 1 - k) ⟨#[]⟩)

def encP (x : Nat × ByteArray) : Array Value := #[.int .i64 x.1, .string x.2]

set_option maxRecDepth 100000 in
set_option maxHeartbeats 2000000 in
theorem back1_in (F : Fence) (n : Nat) (h7 : F.fn 166) (hro : F.round = none) (hn : 1 ≤ n) (l Bs n₀ g cap : Nat) (gs : List ByteArray) (hl : gs.length ≤ 300) (hb : g < n₀) (hbs : Bs < n₀) (J Jx : List (Nat × ByteArray) → World → Prop)
    (hY : ∀ pre x W, J pre W → pre.length < gs.length → YieldAt F (n - 1) Tryz.prog l (encP x) W fun e W' =>
      (e = .returned (.bool true) ∧ J (pre ++ [x]) W' ∧ Below n₀ W W') ∨ (e = .returned (.bool false) ∧ Jx (pre ++ [x]) W'))
    (W : World) (hBs : W.cell? ⟨Bs, 0, none⟩ = some (.slice (some ⟨g, 0, none⟩) gs.length cap)) (hc : ∀ j, j < gs.length → W.cell? ⟨g, j, none⟩ = some (.string (gs.getD j ⟨#[]⟩))) (h0 : J [] W) :
    CallsIn F n Tryz.prog 166 #[.func (.yield l) #[] #[], .pointer (some ⟨Bs, 0, none⟩)] W fun e W' => (∃ v, e = .returned v) ∧
      ((∃ ys, ys = upto (backOf gs) gs.length ∧ J ys W') ∨ (∃ pre, (∃ k, k ≤ gs.length ∧ pre = upto (backOf gs) k) ∧ Jx pre W')) := by
  refine callsIn_of_wp Tryz.func166 rfl h7 ?_ hro
  simp only [Tryz.ntmps166, List.size_toArray, List.length_cons, List.length_nil, Nat.reduceAdd, Nat.reduceSub, Array.replicate_succ, Array.replicate_zero, List.push_toArray, List.append_toArray, List.nil_append, List.cons_append]
  gi_wp2
  gi_loopw [3] (fun i wr => ∃ k : Nat, k ≤ gs.length ∧ i = .int .i64 ((gs.length : Int) - k - 1) ∧ J (upto (backOf gs) k) wr ∧ Below n₀ W wr)
    (fun i _ => (intOf i + 1).toNat)
  case atStart => exact ⟨0, Nat.zero_le _, by simp, h0, Below.refl _ _⟩
  case round =>
    obtain ⟨k, hk, rfl, hJs, hnx⟩ := hrel
    by_cases hlt : k < gs.length
    · obtain ⟨j, hj⟩ : ∃ j : Nat, j = gs.length - 1 - k := ⟨_, rfl⟩
      have hjl : j < gs.length := by omega
      have ej : ((gs.length : Int) - k - 1) = (j : Int) := by omega
      have hfk : Hid (backOf gs k = (j, gs.getD j ⟨#[]⟩)) := by unfold Hid backOf; rw [← hj]
      have hcx : wr.cell? ⟨g, j, none⟩ = some (.string (gs.getD j ⟨#[]⟩)) := (hnx.cell (p := ⟨g, j, none⟩) hb).trans (hc j hjl)
      have hbx : wr.cell? ⟨Bs, 0, none⟩ = some (.slice (some ⟨g, 0, none⟩) gs.length cap) := (hnx.cell (p := ⟨Bs, 0, none⟩) hbs).trans hBs
      have hJs' : Hid (J (upto (backOf gs) k) wr) := hJs
      have HJ : Hid (j = gs.length - 1 - k) := hj
      rw [ej]
      clear hj ej hc
      generalize gs.getD j ⟨#[]⟩ = y at *
      obtain ⟨fn, tmps, assign, body, hy, hR⟩ := hY _ (j, y) wr hJs (by rw [upto_length]; exact hlt)
      dsimp only [encP] at hy
      gi_wp2
      refine hR.mono ?_
      rintro e W3 (⟨rfl, hJ3, hk3⟩ | ⟨rfl, hJx3⟩)
      · gi_wp2
        go_roundw
        case rel => exact ⟨k + 1, by omega, int_eq (by have := HJ.out; omega), by rw [upto_succ, hfk.out]; exact hJ3, hnx.trans hk3⟩
        case measure => simp [intOf]
      · gi_wp2
        refine bodyPost_ret (results_none rfl _ _ _) rfl ?_
        exact ⟨⟨_, rfl⟩, .inr ⟨_, ⟨k + 1, by omega, by rw [upto_succ, hfk.out]⟩, hJx3⟩⟩
    · obtain rfl : k = gs.length := by omega
      gi_wp2
      go_end0
      exact ⟨⟨_, rfl⟩, .inl ⟨_, rfl, hJs⟩⟩

set_option maxRecDepth 100000 in
set_option maxHeartbeats 1000000 in
theorem back1_nil (F : Fence) (n : Nat) (h7 : F.fn 166) (hro : F.round = none) (l Bs : Nat) (ao : Option Addr) (cap : Nat) (J : List (Nat × ByteArray) → World → Prop) (W : World) (hBs : W.cell? ⟨Bs, 0, none⟩ = some (.slice ao 0 cap)) (h0 : J [] W) :
    CallsIn F n Tryz.prog 166 #[.func (.yield l) #[] #[], .pointer (some ⟨Bs, 0, none⟩)] W fun e W' => (∃ v, e = .returned v) ∧ J [] W' := by
  refine callsIn_of_wp Tryz.func166 rfl h7 ?_ hro
  simp only [Tryz.ntmps166, List.size_toArray, List.length_cons, List.length_nil, Nat.reduceAdd, Nat.reduceSub, Array.replicate_succ, Array.replicate_zero, List.push_toArray, List.append_toArray, List.nil_append, List.cons_append]
  gi_wp2
  gi_loopw [3] (fun i wr => i = .int .i64 (-1) ∧ J [] wr) (fun _ _ => 0)
  case atStart => exact ⟨rfl, h0⟩
  case round =>
    obtain ⟨rfl, hJs⟩ := hrel
    gi_wp2
    go_end0
    exact ⟨⟨_, rfl⟩, hJs⟩

set_option maxHeartbeats 1000000 in
theorem back_in (F : Fence) (n : Nat) (h5 : F.fn 151) (hro : F.round = none) (a : Option Addr) (len cap : Nat) (w : World) :
    CallsIn F n Tryz.prog 151 #[.slice a len cap] w fun e w' => e = .returned (.func (.func 166) #[] #[.pointer (some ⟨w.heap.size, 0, none⟩)]) ∧ w' = w.alloc (.cells #[.slice a len cap] 35 (0, 0)) := by
  have hmf : ∀ (fn : Fn) (first cap : Array Value) (w : World), (Instr.makeFunc fn first cap).run Tryz.prog w = .ok (.func fn first cap) w := fun _ _ _ _ => rfl
  refine callsIn_of_wp Tryz.func151 rfl h5 ?_ hro
  simp only [Tryz.ntmps151, List.size_toArray, List.length_cons, List.length_nil, Nat.reduceAdd, Nat.reduceSub, Array.replicate_succ, Array.replicate_zero, List.push_toArray, List.append_toArray, List.nil_append, List.cons_append]
  gi_wp2
  go_ret
  exact ⟨rfl, rfl⟩

/-- The slice value holds the names, in a block below n₀. -/
def Names (n₀ : Nat) (W : World) (sv : Value) (gs : List ByteArray) : Prop :=
  (gs = [] ∧ ∃ a c, sv = .slice a 0 c) ∨ ∃ g cap, sv = .slice (some ⟨g, 0, none⟩) gs.length cap ∧ g < n₀ ∧ ∀ j, j < gs.length → W.cell? ⟨g, j, none⟩ = some (.string (gs.getD j ⟨#[]⟩))
theorem Names.below {n₀ : Nat} {A B : World} (h : Below n₀ A B) {sv : Value} {gs : List ByteArray} : Names n₀ A sv gs → Names n₀ B sv gs
  | .inl e => .inl e
  | .inr ⟨g, cap, e, hb, hc⟩ => .inr ⟨g, cap, e, hb, fun j hj => (h.cell (p := ⟨g, j, none⟩) hb).trans (hc j hj)⟩

theorem back_stops (F : Fence) (n : Nat) (h7 : F.fn 166) (hro : F.round = none) (hn : 1 ≤ n) (Bs n₀ : Nat) (sv : Value) (gs : List ByteArray) (hl : gs.length ≤ 300) (w : World) (hBs : Bs < w.heap.size) (hBn : Bs < n₀) (hn₀ : n₀ ≤ w.heap.size)
    (hc : w.cell? ⟨Bs, 0, none⟩ = some sv) (hI : Names n₀ w sv gs) :
    SeqStopsK F n Tryz.prog 166 #[.pointer (some ⟨Bs, 0, none⟩)] encP (Below n₀) (fun ys => ys = upto (backOf gs) gs.length) (fun pre => ∃ k, k ≤ gs.length ∧ pre = upto (backOf gs) k) gs.length w := fun l J Jx W hW _ _ hY h0 => by
  have hc' := (hW.cell (p := ⟨Bs, 0, none⟩) hBs).trans hc
  rcases hI.below (hW.mono hn₀) with ⟨rfl, a, c, rfl⟩ | ⟨g, cap, rfl, hb, hcs⟩
  · exact (back1_nil F n h7 hro l Bs a c J W hc' h0).mono fun e W' ⟨he, hj⟩ => ⟨he, .inl ⟨_, rfl, hj⟩⟩
  · exact (back1_in F n h7 hro hn l Bs n₀ g cap gs hl hb hBn J Jx hY W hc' hcs h0)

theorem cell_new_l (W : World) (v : Value) (t : TypeId) : (W.alloc (.cells #[v] t)).cell? ⟨W.heap.size, 0, none⟩ = some v ∧ (W.alloc (.cells #[v] t)).frozen? ⟨W.heap.size, 0, none⟩ = false := by
  have h : (W.alloc (.cells #[v] t)).heap[W.heap.size]? = some (.cells #[v] t) := alloc_at _ _ _ rfl
  exact ⟨cells1 h, by unfold World.frozen?; rw [h]; rfl⟩
theorem cell_alloc_l {W : World} {a : Addr} {v : Value} (o : Obj) (h : W.cell? a = some v) : (W.alloc o).cell? a = some v := cell_kept h (World.grownBy_alloc W o none) (fun r e => by cases e)
theorem frozen_alloc_l {W : World} {a : Addr} {v : Value} (o : Obj) (h : W.cell? a = some v) (hf : W.frozen? a = false) : (W.alloc o).frozen? a = false := (frozen_kept h (World.grownBy_alloc W o none) (fun r e => by cases e)).trans hf

def lv (x : ByteArray) (gs : List ByteArray) : Int := match lastIdx x gs with | some i => i | none => -1

theorem lv_none (x : ByteArray) (gs : List ByteArray) (h : ∀ y ∈ upto (backOf gs) gs.length, eqb y.2 x = false) : lv x gs = -1 := by
  unfold lv
  rw [lastIdx_none x gs fun j hj => ?_]
  have := h (backOf gs (gs.length - 1 - j)) (by simp only [upto, List.mem_map, List.mem_range]; exact ⟨_, by omega, rfl⟩)
  unfold backOf at this
  have e : gs.length - 1 - (gs.length - 1 - j) = j := by omega
  rw [e] at this
  simpa [List.getD_eq_getElem?_getD, hj] using this

theorem lv_some (x : ByteArray) (gs : List ByteArray) (k : Nat) (hk : k < gs.length) (h1 : ∀ y ∈ upto (backOf gs) k, eqb y.2 x = false) (h2 : eqb (backOf gs k).2 x = true) : lv x gs = ((backOf gs k).1 : Int) := by
  have hj : gs.length - 1 - k < gs.length := by omega
  unfold lv
  rw [lastIdx_some x gs (gs.length - 1 - k) hj ?_ fun j hj' hlt => ?_]
  · rfl
  · unfold backOf at h2
    simpa [List.getD_eq_getElem?_getD, hj] using h2
  · have := h1 (backOf gs (gs.length - 1 - j)) (by simp only [upto, List.mem_map, List.mem_range]; exact ⟨_, by omega, rfl⟩)
    unfold backOf at this
    have e : gs.length - 1 - (gs.length - 1 - j) = j := by omega
    rw [e] at this
    simpa [List.getD_eq_getElem?_getD, hj'] using this

set_option maxRecDepth 100000 in
set_option maxHeartbeats 2000000 in
theorem level_in (F : Fence) (n : Nat) (h68 : F.fn 122) (h79 : F.fn 151) (h89 : F.fn 166) (hro : F.round = none) (hn : 3 ≤ n) (b : Nat) (x : ByteArray) (a : Option Addr) (cap : Nat) (gs : List ByteArray) (hl : gs.length ≤ 300) (w : World)
    (h4 : w.cell? ⟨b, 4, none⟩ = some (.slice a gs.length cap)) (hb : b < w.heap.size) (hN : Names w.heap.size w (.slice a gs.length cap) gs) :
    CallsIn F n Tryz.prog 122 #[.pointer (some ⟨b, 0, none⟩), .string x] w fun e W' => e = .returned (.int .i64 (lv x gs)) ∧ Below w.heap.size w W' := by
  have h1 : 1 ≤ n := by omega
  have hB2 : Below w.heap.size w ((w.alloc (.cells #[.string x] 9 (0, 0))).alloc (.cells #[.int .i64 0] 3 (0, 0))) := ((Below.refl _ w).alloc (Nat.le_refl _) _).alloc (by simp) _
  have h4' : ((w.alloc (.cells #[.string x] 9 (0, 0))).alloc (.cells #[.int .i64 0] 3 (0, 0))).cell? ⟨b, 4, none⟩ = some (.slice a gs.length cap) := (hB2.cell (p := ⟨b, 4, none⟩) hb).trans h4
  refine callsIn_of_wp_marks Tryz.func122 rfl h68 ?_ hro
  simp only [Tryz.ntmps122, List.size_toArray, List.length_cons, List.length_nil, Nat.reduceAdd, Nat.reduceSub, Array.replicate_succ, Array.replicate_zero, List.push_toArray, List.append_toArray, List.nil_append, List.cons_append]
  gi_wp2_with (gi_at_call 151; refine (back_in F (n - 1) h79 hro _ _ _ _).mono ?_; rintro e w' ⟨rfl, rfl⟩)
  have c0 := cell_new_l w (.string x) 9
  have c1 := cell_new_l (w.alloc (.cells #[.string x] 9)) (.int .i64 0) 3
  have c2 := cell_new_l ((w.alloc (.cells #[.string x] 9)).alloc (.cells #[.int .i64 0] 3)) (.slice a gs.length cap) 35
  simp only [World.size_alloc] at c1 c2
  have hB0 : Below w.heap.size w (((w.alloc (.cells #[.string x] 9)).alloc (.cells #[.int .i64 0] 3)).alloc (.cells #[.slice a gs.length cap] 35)) := (((Below.refl _ w).alloc (Nat.le_refl _) _).alloc (by simp) _).alloc (by simp; omega) _
  have hN2 : Names (w.heap.size + 1 + 1 + 1) (((w.alloc (.cells #[.string x] 9)).alloc (.cells #[.int .i64 0] 3)).alloc (.cells #[.slice a gs.length cap] 35)) (.slice a gs.length cap) gs := by
    rcases hN.below hB0 with h | ⟨g, c, e, h2, h3⟩
    · exact .inl h
    · exact .inr ⟨g, c, e, by omega, h3⟩
  refine wpIn_rangeFunc_ownF hro h1 (gf := 166) (lb := #[.pointer (some ⟨w.heap.size + 1 + 1, 0, none⟩)]) rfl h89 (enters_of Tryz.func166 (by kernel_rfl) rfl)
    (back_stops F (n - 1) h89 hro (by omega) (w.heap.size + 1 + 1) (w.heap.size + 1 + 1 + 1) _ gs hl _ (by simp) (by omega) (by simp) c2.1 hN2) belowK_t (belowK_b (by simp)) (Below.refl _ _) (fun _ => rfl)
    (fun pre W => ((∀ y ∈ pre, eqb y.2 x = false) ∧ W.cell? ⟨w.heap.size, 0, none⟩ = some (.string x) ∧ W.cell? ⟨w.heap.size + 1, 0, none⟩ = some (.int .i64 0) ∧ W.frozen? ⟨w.heap.size + 1, 0, none⟩ = false) ∧ Below w.heap.size w W)
    (fun c pre W => (c = .ret ∧ (∃ q y, pre = q ++ [y] ∧ (∀ z ∈ q, eqb z.2 x = false) ∧ eqb y.2 x = true ∧ W.cell? ⟨w.heap.size + 1, 0, none⟩ = some (.int .i64 y.1))) ∧ Below w.heap.size w W)
    (OwnFrom.and (Own.from (fun s A B row hs hg hr => ⟨hs.1, cell_kept hs.2.1 hg hr, cell_kept hs.2.2.1 hg hr, (frozen_kept hs.2.2.1 hg hr).trans hs.2.2.2⟩) _) (ownFrom_below (Nat.le_refl _) (by simp; omega)))
    (fun c => OwnFrom.and (Own.from (fun s A B row hs hg hr => ⟨hs.1, let ⟨q, y, e1, e2, e3, e4⟩ := hs.2; ⟨q, y, e1, e2, e3, cell_kept e4 hg hr⟩⟩) _) (ownFrom_below (Nat.le_refl _) (by simp; omega)))
    ⟨⟨by simp, cell_alloc_l _ (cell_alloc_l _ c0.1), cell_alloc_l _ c1.1, frozen_alloc_l _ c1.1 c1.2⟩, hB0⟩
    (fun y => { tmps := #[.pointer (some ⟨b, 0, none⟩), .string x, undef, .pointer (some ⟨w.heap.size, 0, none⟩), .pointer (some ⟨w.heap.size + 1, 0, none⟩), .int .i64 y.1, .string y.2, .pointer (some ⟨b, 0, none⟩), .pointer (some ⟨b, 0, none⟩), .pointer (some ⟨b, 4, none⟩), .slice a gs.length cap, .func (.func 166) #[] #[.pointer (some ⟨w.heap.size + 1 + 1, 0, none⟩)], .int .i64 y.1, .string y.2, undef, undef, undef, undef], defers := [] }) ?assign ?body ?done ?stop
  case assign =>
    intro l y W K hK
    simp only [encP]
    gi_wp2
    exact hK
  case body =>
    rintro l pre y W ⟨⟨hp, hcw, hcr, hfr⟩, hB⟩ _
    cases hq : eqb y.2 x
    · have hq2 : (y.2.toList == x.toList) = false := by rw [eqb_walk, hq]
      gi_wp2
      exact ⟨KeepsOthers.refl _, Below.refl _ _, ⟨fun z hz => (List.mem_append.1 hz).elim (hp z) (fun e => by simp at e; subst e; exact hq), hcw, hcr, hfr⟩, hB⟩
    · have hq2 : (y.2.toList == x.toList) = true := by rw [eqb_walk, hq]
      gi_wp2
      exact ⟨KeepsOthers.setCell _ _ _, ⟨rfl, pre, y, rfl, hp, hq, World.cell?_setCell_same' _ _ _ (by rw [hcr]; rfl)⟩, hB.setCell (p := ⟨w.heap.size + 1, 0, none⟩) (by simp) _⟩
  case done =>
    rintro D ys W hD rfl ⟨⟨hne, _, hcr, hfr⟩, hB⟩ hK
    gi_wp2
    have hK' := (KeepsOthers.setCell W ⟨w.heap.size + 1, 0, none⟩ (.int .i64 (-1))).same D _ hK rfl
    refine ⟨by simp, .inl ⟨_, _, rfl, run_takeDeferred hK', ?_⟩⟩
    have hc5 := cell_kept (World.cell?_setCell_same' W ⟨w.heap.size + 1, 0, none⟩ (.int .i64 (-1)) (by rw [hcr]; rfl)) (grownBy_putObj' _ D (.deferred none)) (fun r e => by cases e; exact ⟨_, hK', rfl⟩)
    refine ⟨.int .i64 (-1), ?_, by rw [lv_none x gs hne], (hB.setCell (p := ⟨w.heap.size + 1, 0, none⟩) (by simp) _).trans (belowK_b (w := w) (Nat.le_refl _) _ D _ _ (by simp at hD; omega) hK' rfl rfl)⟩
    simp [results, Tryz.f122, go_sem, hc5]
  case stop =>
    rintro D c pre W hD ⟨k, hk, rfl⟩ ⟨⟨rfl, q, y, e1, e2, e3, hcr⟩, hB⟩ hK
    have hlv : lv x gs = (y.1 : Int) := by
      cases k with
      | zero => simp [upto] at e1
      | succ k =>
        rw [upto_succ] at e1
        obtain ⟨rfl, e5⟩ := List.append_inj' e1 rfl
        simp at e5
        subst e5
        exact lv_some x gs k (by omega) e2 e3
    gi_wp2
    refine ⟨by simp, .inl ⟨_, _, rfl, run_takeDeferred hK, ?_⟩⟩
    have hc5 := cell_kept hcr (grownBy_putObj' _ D (.deferred none)) (fun r e => by cases e; exact ⟨_, hK, rfl⟩)
    refine ⟨.int .i64 y.1, ?_, by rw [hlv], hB.trans (belowK_b (w := w) (Nat.le_refl _) W D _ _ (by simp at hD; omega) hK rfl rfl)⟩
    simp [results, Tryz.f122, go_sem, hc5]

theorem plevel {b s m w} (x : ByteArray) (h : PS b s m w) :
    Calls Tryz.prog 122 #[.pointer (some ⟨b, 0, none⟩), .string x] w fun e w' => e = .returned (.int .i64 (lv x m.given)) ∧ w.grownBy w' none := by
  obtain ⟨gv, iv, ev, av, hB, ho, ht⟩ := h.blk
  obtain ⟨ga, gc, rfl⟩ := own_slice ho
  obtain ⟨c0, c1, c2, c3, c4, c5, c6, c7, c8, hf, hlt0⟩ := hB.cells
  have hl3 : m.given.length ≤ 300 := by
    have := h.gl; have := h.inv.at_le; have := h.len; omega
  have hN : Names w.heap.size w (.slice ga m.given.length gc) m.given := by
    by_cases hz : m.given = []
    · left; exact ⟨hz, ga, gc, by rw [hz]; rfl⟩
    · right
      obtain ⟨g, c, e, hc⟩ := own_at ho (List.length_pos_iff.2 hz)
      cases e
      have hgl := (ho.lt g rfl).2
      exact ⟨g, gc, rfl, hgl, fun j hj => hc j _ (by simp [hj, List.getD_eq_getElem?_getD])⟩
  refine (callsIn_wide.1 (level_in Fence.wide 5 trivial trivial trivial rfl (by omega) b x ga gc m.given hl3 w c4 hlt0 hN)).mono ?_
  rintro e w' ⟨rfl, hb⟩
  exact ⟨rfl, hb.os, hb.tape, hb.output, hb.size, fun k hk _ => hb.block k hk⟩
end Go.Proofs.YtjjlgjmebnkdjaaGreatDoor
