/-
  The program's parser: its state; take.
-/
import Derived.Test.YtjjlgjmebnkdjaaGreatDoorPrgC
import Derived.Test.YtjjlgjmebnkdjaaGreatDoorRefH
import Derived.Deep.RegionWith
namespace Go.Proofs.YtjjlgjmebnkdjaaGreatDoor
open Go Go.Proofs Go.RowKit Skein

def PB (b : Nat) (s kd t : ByteArray) (a : Int) (gv : Value) (un : Int) (iv ev av : Value) (w : World) : Prop :=
  w.heap[b]? = some (.cells #[.string s, .string kd, .string t, .int .i64 a, gv, .int .i64 un, iv, ev, av] 106 (0, 0))

theorem PB.cells {b s kd t a gv un iv ev av w} (h : PB b s kd t a gv un iv ev av w) :
    w.cell? ⟨b, 0, none⟩ = some (.string s) ∧ w.cell? ⟨b, 1, none⟩ = some (.string kd) ∧ w.cell? ⟨b, 2, none⟩ = some (.string t) ∧ w.cell? ⟨b, 3, none⟩ = some (.int .i64 a) ∧ w.cell? ⟨b, 4, none⟩ = some gv ∧ w.cell? ⟨b, 5, none⟩ = some (.int .i64 un) ∧ w.cell? ⟨b, 6, none⟩ = some iv ∧ w.cell? ⟨b, 7, none⟩ = some ev ∧ w.cell? ⟨b, 8, none⟩ = some av ∧ (∀ o, w.frozen? ⟨b, o, none⟩ = false) ∧ b < w.heap.size := by
  unfold PB at h
  refine ⟨?_, ?_, ?_, ?_, ?_, ?_, ?_, ?_, ?_, fun o => ?_, (Array.getElem?_eq_some_iff.1 h).1⟩
  all_goals simp [World.cell?, World.frozen?, h]

def fn0 (f : Nat) : Value := .func (.func f) #[] #[]
def fn1 (f k : Nat) : Value := .func (.func f) #[] #[.pointer (some ⟨k, 0, none⟩)]

def infixCells (k1 k2 k3 k4 k5 : Nat) : Array Value :=
  #[.string ⟨#[58]⟩, .int .i64 0, .int .i64 0, .bool false, .func (.func 76) #[] #[],
    .string ⟨#[61]⟩, .int .i64 1, .int .i64 2, .bool false, .func (.func 118) #[] #[.pointer (some ⟨k1, 0, none⟩)],
    .string ⟨#[60]⟩, .int .i64 1, .int .i64 2, .bool false, .func (.func 118) #[] #[.pointer (some ⟨k2, 0, none⟩)],
    .string ⟨#[43]⟩, .int .i64 2, .int .i64 3, .bool true, .func (.func 118) #[] #[.pointer (some ⟨k3, 0, none⟩)],
    .string ⟨#[45]⟩, .int .i64 2, .int .i64 3, .bool true, .func (.func 118) #[] #[.pointer (some ⟨k4, 0, none⟩)],
    .string ⟨#[42]⟩, .int .i64 3, .int .i64 4, .bool true, .func (.func 118) #[] #[.pointer (some ⟨k5, 0, none⟩)]]
def exprCells : Array Value :=
  #[.string ⟨#[108, 101, 116]⟩, .func (.func 78) #[] #[], .string ⟨#[92]⟩, .func (.func 79) #[] #[], .string ⟨#[105, 102]⟩, .func (.func 80) #[] #[]]
def atomCells : Array Value :=
  #[.string ⟨#[110, 117, 109, 98, 101, 114]⟩, .func (.func 81) #[] #[], .string ⟨#[110, 97, 109, 101]⟩, .func (.func 82) #[] #[], .string ⟨#[91, 93]⟩, .func (.func 83) #[] #[], .string ⟨#[40]⟩, .func (.func 84) #[] #[],
    .string ⟨#[104, 101, 97, 100]⟩, .func (.func 85) #[] #[], .string ⟨#[116, 97, 105, 108]⟩, .func (.func 85) #[] #[], .string ⟨#[110, 117, 108, 108]⟩, .func (.func 85) #[] #[]]

structure Tabs (b : Nat) (w : World) (iv ev av : Value) : Prop where
  infix_ : ∃ I k1 k2 k3 k4 k5, iv = .slice (some ⟨I, 0, none⟩) 6 6 ∧ I < b ∧ k1 < b ∧ k2 < b ∧ k3 < b ∧ k4 < b ∧ k5 < b ∧ w.heap[I]? = some (.cells (infixCells k1 k2 k3 k4 k5) 124 (0, 0)) ∧
    w.heap[k1]? = some (.cells #[.string ⟨#[61]⟩] 9 (0, 0)) ∧ w.heap[k2]? = some (.cells #[.string ⟨#[60]⟩] 9 (0, 0)) ∧ w.heap[k3]? = some (.cells #[.string ⟨#[43]⟩] 9 (0, 0)) ∧ w.heap[k4]? = some (.cells #[.string ⟨#[45]⟩] 9 (0, 0)) ∧ w.heap[k5]? = some (.cells #[.string ⟨#[42]⟩] 9 (0, 0))
  exprs : ∃ E, ev = .slice (some ⟨E, 0, none⟩) 3 3 ∧ E < b ∧ w.heap[E]? = some (.cells exprCells 128 (0, 0))
  atoms : ∃ A, av = .slice (some ⟨A, 0, none⟩) 7 7 ∧ A < b ∧ w.heap[A]? = some (.cells atomCells 128 (0, 0))

theorem Tabs.kept {b w w' iv ev av} (h : Tabs b w iv ev av) (hb : Below b w w') : Tabs b w' iv ev av := by
  obtain ⟨⟨I, k1, k2, k3, k4, k5, h0, h1, h2, h3, h4, h5, h6, g1, g2, g3, g4, g5, g6⟩, ⟨E, e1, e2, e3⟩, ⟨A, a1, a2, a3⟩⟩ := h
  exact ⟨⟨I, k1, k2, k3, k4, k5, h0, h1, h2, h3, h4, h5, h6, (hb.block _ h1).trans g1, (hb.block _ h2).trans g2, (hb.block _ h3).trans g3, (hb.block _ h4).trans g4, (hb.block _ h5).trans g5, (hb.block _ h6).trans g6⟩, ⟨E, e1, e2, (hb.block _ e2).trans e3⟩, ⟨A, a1, a2, (hb.block _ a2).trans a3⟩⟩

structure PS (b : Nat) (s : ByteArray) (m : M) (w : World) : Prop where
  blk : ∃ gv iv ev av, PB b s (kindOf m.tok) m.tok.text m.tok.at_ gv m.free iv ev av w ∧ w.ownsRow (b + 1) 9 1 gv m.given.length (m.given.map Value.string) ∧ Tabs b w iv ev av
  inv : Inv s m
  len : s.size ≤ 300
  gl : m.given.length ≤ m.tok.at_
  bad : m.bad = none
  fr : -1 ≤ m.free

theorem PS.lt {b s m w} (h : PS b s m w) : b < w.heap.size := by
  obtain ⟨gv, iv, ev, av, hB, _⟩ := h.blk; exact hB.cells.2.2.2.2.2.2.2.2.2.2

/-- New blocks turn nothing. -/
theorem PS.grown {b s m w w'} (h : PS b s m w) (hg : w.grownBy w' none) : PS b s m w' := by
  obtain ⟨gv, iv, ev, av, hB, ho, ht⟩ := h.blk
  refine ⟨⟨gv, iv, ev, av, ?_, ho.kept hg ?_, ht.kept ⟨hg.os, hg.tape, hg.output, hg.size, fun k hk => hg.block k (by have := h.lt; omega) (by simp)⟩⟩, h.inv, h.len, h.gl, h.bad, h.fr⟩
  · unfold PB at hB ⊢; rw [hg.block b h.lt (by simp)]; exact hB
  · cases gv.ownBlock <;> simp
theorem Kp.new {b : Nat} {w w' : World} (hb : b < w.heap.size) (h : w.grownBy w' none) : Kp b w w' :=
  ⟨⟨h.os, h.tape, h.output, h.size, fun k hk => h.block k (by omega) (by simp)⟩, fun k cs T _ _ e => by rw [h.block k (Array.getElem?_eq_some_iff.1 e).1 (by simp)]; exact e⟩

theorem Kp.setnew {b : Nat} {w w' : World} (h : Kp b w w') {k : Nat} (hk : w.heap.size ≤ k) (hb : b ≤ k) (o : Nat) (v : Value) : Kp b w (w'.setCell ⟨k, o, none⟩ v) :=
  ⟨h.below.setCell (p := ⟨k, o, none⟩) hb v, fun j cs T hj hT e => by
    rw [Below.heap_setCell _ _ _ _ (by have := (Array.getElem?_eq_some_iff.1 e).1; show j ≠ k; omega)]; exact h.nodes j cs T hj hT e⟩

/-- A store into a block that is no row of texts. -/
theorem PS.setBox {b s m w} (h : PS b s m w) {k : Nat} (hk : b < k) {cs : Array Value} {T : TypeId} (hT : T ≠ 9) (he : w.heap[k]? = some (.cells cs T (0, 0))) (o : Nat) (v : Value) : PS b s m (w.setCell ⟨k, o, none⟩ v) := by
  obtain ⟨gv, iv, ev, av, hB, ho, ht⟩ := h.blk
  have hg : w.grownBy (w.setCell ⟨k, o, none⟩ v) (some k) := grown_set (grown_refl _ _) o v
  refine ⟨⟨gv, iv, ev, av, ?_, ho.kept hg ?_, ht.kept ((Below.refl b w).setCell (p := ⟨k, o, none⟩) (Nat.le_of_lt hk) v)⟩, h.inv, h.len, h.gl, h.bad, h.fr⟩
  · unfold PB at hB ⊢; rw [Below.heap_setCell _ _ _ _ (by show b ≠ k; omega)]; exact hB
  · rcases ho.2 with ⟨rfl, _⟩ | ⟨g, cap, cur, rfl, h1, h2, _⟩
    · exact .inl rfl
    · right; intro e
      have e' : g = k := by simpa [Value.ownBlock] using e
      subst e'; rw [he] at h2; cases h2; exact hT rfl

/-- The next sign is ahead. -/
theorem PS.advanced {b s m w} (h : PS b s m w) : PS b s (m.adv s) (((w.setCell ⟨b, 1, none⟩ (.string (kindOf (tok s (m.tok.at_ + m.tok.text.size))))).setCell ⟨b, 2, none⟩ (.string (tok s (m.tok.at_ + m.tok.text.size)).text)).setCell ⟨b, 3, none⟩ (.int .i64 (tok s (m.tok.at_ + m.tok.text.size)).at_)) ∧
    Kp b w (((w.setCell ⟨b, 1, none⟩ (.string (kindOf (tok s (m.tok.at_ + m.tok.text.size))))).setCell ⟨b, 2, none⟩ (.string (tok s (m.tok.at_ + m.tok.text.size)).text)).setCell ⟨b, 3, none⟩ (.int .i64 (tok s (m.tok.at_ + m.tok.text.size)).at_)) := by
  obtain ⟨gv, iv, ev, av, hB, ho, ht⟩ := h.blk
  have hg : w.grownBy (((w.setCell ⟨b, 1, none⟩ (.string (kindOf (tok s (m.tok.at_ + m.tok.text.size))))).setCell ⟨b, 2, none⟩ (.string (tok s (m.tok.at_ + m.tok.text.size)).text)).setCell ⟨b, 3, none⟩ (.int .i64 (tok s (m.tok.at_ + m.tok.text.size)).at_)) (some b) := grown_set (grown_set (grown_set (grown_refl _ _) 1 _) 2 _) 3 _
  have hk := Kp.grown hg h.lt
  exact ⟨⟨⟨gv, iv, ev, av, RB.set (RB.set (RB.set hB 1 _) 2 _) 3 _, ho.kept hg (own_ne ho), ht.kept hk.below⟩, h.inv.adv, h.len, Nat.le_trans h.gl (adv_at_ge s m), h.bad, h.fr⟩, hk⟩

def flt (e q : Int) : Value := .iface 53 (.agg #[.int .i64 e, .int .i64 q])

set_option maxRecDepth 100000 in
set_option maxHeartbeats 1000000 in
theorem pmisplaced {b s m w} (h : PS b s m w) :
    Calls Tryz.prog 88 #[.pointer (some ⟨b, 0, none⟩)] w fun e w' => e = .returned (.agg #[.int .i64 2, .int .i64 m.tok.at_]) ∧ w.grownBy w' none := by
  obtain ⟨gv, iv, ev, av, hB, ho, ht⟩ := h.blk
  obtain ⟨c0, c1, c2, c3, c4, c5, c6, c7, c8, hf, hlt0⟩ := hB.cells
  go_enter Tryz.func88, Tryz.ntmps88
  go_wp2_with fail
  exact bodyPost_ret (v := .agg #[.int .i64 2, .int .i64 m.tok.at_]) (by simp [results, Tryz.results88, go_sem]) rfl ⟨rfl, grown_alloc (grown_refl _ _) _⟩

set_option maxRecDepth 100000 in
set_option maxHeartbeats 1000000 in
theorem pbehind (kd t : ByteArray) (a : Nat) (w : World) (hs : a + t.size ≤ 300) :
    Calls Tryz.prog 89 #[.agg #[.string kd, .string t, .int .i64 a]] w fun e w' => e = .returned (.int .i64 ((a + t.size : Nat) : Int)) ∧ w.grownBy w' none := by
  go_enter Tryz.func89, Tryz.ntmps89
  go_wp2_with fail
  go_ret
  exact ⟨ret_int (by push_cast; rfl), grown_alloc (grown_refl _ _) _⟩

set_option maxRecDepth 100000 in
set_option maxHeartbeats 1000000 in
theorem ptake_no {b s m w} (x : ByteArray) (h : PS b s m w) (hx : eqb (kindOf m.tok) x = false) :
    Calls Tryz.prog 64 #[.pointer (some ⟨b, 0, none⟩), .string x] w fun e w' => e = .panicked [{ v := flt 2 m.tok.at_, recovered := false }] ∧ Below b w w' := by
  obtain ⟨gv, iv, ev, av, hB, ho, ht⟩ := h.blk
  obtain ⟨c0, c1, c2, c3, c4, c5, c6, c7, c8, hf, hlt0⟩ := hB.cells
  have hx2 : ((kindOf m.tok).toList == x.toList) = false := by rw [eqb_walk, hx]
  clear hx
  go_enter Tryz.func64, Tryz.ntmps64
  go_wp2_with fail
  refine (pmisplaced (h.grown (grown_alloc (grown_alloc (grown_refl _ _) _) _))).mono ?_
  rintro e w1 ⟨rfl, hg⟩
  go_wp2_with fail
  have hg' := grown_trans (grown_alloc (grown_alloc (grown_refl _ _) _) _) hg
  exact ⟨rfl, rfl, (Kp.new h.lt hg').below⟩

set_option maxRecDepth 100000 in
set_option maxHeartbeats 1000000 in
theorem ptake_yes {b s m w} (x : ByteArray) (h : PS b s m w) (hx : eqb (kindOf m.tok) x = true) :
    Calls Tryz.prog 64 #[.pointer (some ⟨b, 0, none⟩), .string x] w fun e w' => e = .returned (sgn m.tok) ∧ PS b s (m.adv s) w' ∧ Kp b w w' := by
  obtain ⟨gv, iv, ev, av, hB, ho, ht⟩ := h.blk
  obtain ⟨c0, c1, c2, c3, c4, c5, c6, c7, c8, hf, hlt0⟩ := hB.cells
  have hx2 : ((kindOf m.tok).toList == x.toList) = true := by rw [eqb_walk, hx]
  clear hx
  go_enter Tryz.func64, Tryz.ntmps64
  go_wp2_with fail
  have hg0 : w.grownBy ((w.alloc (.cells #[.string ⟨#[]⟩, .string ⟨#[]⟩, .int .i64 0] 99 (0, 0))).alloc (.cells #[.string (kindOf m.tok), .string m.tok.text, .int .i64 m.tok.at_] 99 (0, 0))) none := grown_alloc (grown_alloc (grown_refl _ _) _) _
  have hx0 : ((w.alloc (.cells #[.string ⟨#[]⟩, .string ⟨#[]⟩, .int .i64 0] 99 (0, 0))).alloc (.cells #[.string (kindOf m.tok), .string m.tok.text, .int .i64 m.tok.at_] 99 (0, 0))).heap[w.heap.size]? = some (.cells #[.string ⟨#[]⟩, .string ⟨#[]⟩, .int .i64 0] 99 (0, 0)) := by
    rw [Below.heap_alloc _ _ _ (by simp)]; exact alloc_at _ _ _ rfl
  have hx1 : ((w.alloc (.cells #[.string ⟨#[]⟩, .string ⟨#[]⟩, .int .i64 0] 99 (0, 0))).alloc (.cells #[.string (kindOf m.tok), .string m.tok.text, .int .i64 m.tok.at_] 99 (0, 0))).heap[w.heap.size + 1]? = some (.cells #[.string (kindOf m.tok), .string m.tok.text, .int .i64 m.tok.at_] 99 (0, 0)) := alloc_at _ _ _ (by simp)
  clear c0 c1 c2 c3 c4 c5 c6 c7 c8 hf hB ho ht
  generalize (w.alloc (.cells #[.string ⟨#[]⟩, .string ⟨#[]⟩, .int .i64 0] 99 (0, 0))).alloc (.cells #[.string (kindOf m.tok), .string m.tok.text, .int .i64 m.tok.at_] 99 (0, 0)) = W at hg0 hx0 hx1 ⊢
  have hQ := h.grown hg0
  have hK := Kp.new h.lt hg0
  obtain ⟨gv, iv, ev, av, hB, ho, ht⟩ := hQ.blk
  obtain ⟨c0, c1, c2, c3, c4, c5, c6, c7, c8, hf, hlt1⟩ := hB.cells
  obtain ⟨y0, y1, y2⟩ := cells3 hx1
  have hbd : m.tok.at_ + m.tok.text.size ≤ 300 := Nat.le_trans h.inv.behind h.len
  have f0 : ∀ w1, W.grownBy w1 none → w1.cell? ⟨b, 0, none⟩ = some (.string s) := fun w1 hg => by
    rw [World.cell?_of_block (hg.block b hlt1 (by simp))]; exact c0
  go_region_with (first
    | (go_at_call 89; refine (pbehind _ _ _ _ hbd).mono ?_; rintro e w1 ⟨rfl, hg1⟩; have hg1' : W.grownBy w1 none := ⟨hg1.os, hg1.tape, hg1.output, hg1.size, hg1.block⟩; have q0 := f0 w1 hg1')
    | (go_at_call 59; refine (pnext s _ _ h.len h.inv.behind).mono ?_; rintro e w2 ⟨rfl, hg2⟩; unfold sgn; have hg2' := grown_trans hg1' hg2; have hP2 := hQ.grown hg2'; obtain ⟨gv', iv', ev', av', hB', ho', ht'⟩ := hP2.blk; obtain ⟨d0, d1, d2, d3, d4, d5, d6, d7, d8, df, dlt⟩ := hB'.cells))
  all_goals
    have hz1 : w2.heap[w.heap.size + 1]? = some (.cells #[.string (kindOf m.tok), .string m.tok.text, .int .i64 m.tok.at_] 99 (0, 0)) := by
      rw [hg2'.block _ (Array.getElem?_eq_some_iff.1 hx1).1 (by simp)]; exact hx1
    have hz0 : w2.heap[w.heap.size]? = some (.cells #[.string ⟨#[]⟩, .string ⟨#[]⟩, .int .i64 0] 99 (0, 0)) := by
      rw [hg2'.block _ (Array.getElem?_eq_some_iff.1 hx0).1 (by simp)]; exact hx0
    obtain ⟨z0, z1, z2⟩ := cells3 hz1
    obtain ⟨v0, v1, v2⟩ := cells3 hz0
    have vf : ∀ o, w2.frozen? ⟨w.heap.size, o, none⟩ = false := fun o => by simp [World.frozen?, hz0]
    go_wp2_with fail
    obtain ⟨hA, kA⟩ := hP2.advanced
    have hb0 := hP2.lt
    have hA0 : (((w2.setCell ⟨b, 1, none⟩ (.string (kindOf (tok s (m.tok.at_ + m.tok.text.size))))).setCell ⟨b, 2, none⟩ (.string (tok s (m.tok.at_ + m.tok.text.size)).text)).setCell ⟨b, 3, none⟩ (.int .i64 (tok s (m.tok.at_ + m.tok.text.size)).at_)).heap[w.heap.size]? = some (.cells #[.string ⟨#[]⟩, .string ⟨#[]⟩, .int .i64 0] 99 (0, 0)) := kA.nodes _ _ 99 hlt0 (by decide) hz0
    have kW : Kp b w w2 := (Kp.new h.lt hg0).trans (Kp.new hQ.lt hg2')
    refine bodyPost_ret (v := sgn m.tok) (by simp [results, Tryz.results64, go_sem, sgn, v0, v1, v2]) rfl ⟨rfl, ?_, ?_⟩
    · exact ((hA.setBox hlt0 (by decide) hA0 0 _).setBox hlt0 (by decide) (RB.set hA0 0 _) 1 _).setBox hlt0 (by decide) (RB.set (RB.set hA0 0 _) 1 _) 2 _
    · exact (((kW.trans kA).setnew (Nat.le_refl _) (Nat.le_of_lt hlt0) 0 _).setnew (Nat.le_refl _) (Nat.le_of_lt hlt0) 1 _).setnew (Nat.le_refl _) (Nat.le_of_lt hlt0) 2 _
end Go.Proofs.YtjjlgjmebnkdjaaGreatDoor
