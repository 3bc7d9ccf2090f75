/-
  The program's parser: give, forget.
-/
import Derived.Test.YtjjlgjmebnkdjaaGreatDoorPrgF
import Derived.Test.YtjjlgjmebnkdjaaGreatDoorRefI
namespace Go.Proofs.YtjjlgjmebnkdjaaGreatDoor
open Go Go.Proofs Go.RowKit Skein

theorem RB.alloc' {b s kd t a gv un iv ev av} {w : World} (h : PB b s kd t a gv un iv ev av w) (o : Obj) : PB b s kd t a gv un iv ev av (w.alloc o) := by
  unfold PB at *; rw [Below.heap_alloc _ _ _ (Array.getElem?_eq_some_iff.1 h).1]; exact h

theorem prow_block {b s kd t a gv un iv ev av} {W w' : World} {n : Nat} {xs : List Value} (hB : PB b s kd t a gv un iv ev av W) (ho : W.ownsRow (b + 1) 9 1 gv n xs) (hg : W.grownBy w' gv.ownBlock) : PB b s kd t a gv un iv ev av w' := by
  have hlt := hB.cells.2.2.2.2.2.2.2.2.2.2
  unfold PB at hB ⊢
  rw [hg.block b hlt fun e => ?_]
  · exact hB
  · rcases own_ne ho with h1 | h1
    · rw [h1] at e; cases e
    · exact h1 e.symm

theorem PS.pushed {b s m w gv iv ev av} {x : ByteArray} {W w' : World} {v' : Value}
    (h : PS b s m w) (hl : m.given.length + 1 ≤ m.tok.at_)
    (hB : PB b s (kindOf m.tok) m.tok.text m.tok.at_ gv m.free iv ev av W) (ht : Tabs b W iv ev av)
    (ho : W.ownsRow (b + 1) 9 1 gv m.given.length (m.given.map Value.string)) (hkW : Kp b w W)
    (hg : W.grownBy w' gv.ownBlock) (ho' : w'.ownsRow (b + 1) 9 1 v' (m.given.length + 1) (m.given.map Value.string ++ [.string x])) :
    PS b s (m.push x) (w'.setCell ⟨b, 4, none⟩ v') ∧ Kp b w (w'.setCell ⟨b, 4, none⟩ v') := by
  have hlt := hB.cells.2.2.2.2.2.2.2.2.2.2
  have hB' := prow_block hB ho hg
  have hs : w'.grownBy (w'.setCell ⟨b, 4, none⟩ v') (some b) := grown_set (grown_refl _ _) 4 _
  have hlt' := hB'.cells.2.2.2.2.2.2.2.2.2.2
  have hk1 := Kp.row ho hg hlt
  have hk2 := Kp.grown hs hlt'
  refine ⟨⟨⟨v', iv, ev, av, RB.set hB' 4 v', ?_, ht.kept (hk1.trans hk2).below⟩, h.inv.push, h.len, by simpa using hl, h.bad, h.fr⟩, hkW.trans (hk1.trans hk2)⟩
  have := ownsRow_setCell_below ho' (a := ⟨b, 4, none⟩) (Nat.lt_succ_self b) v'
  simpa using this

theorem PS.popped {b s m w iv ev av} {n g cap : Nat} (h : PS b s m w) (hn : n ≤ m.given.length)
    (hB : PB b s (kindOf m.tok) m.tok.text m.tok.at_ (.slice (some ⟨g, 0, none⟩) m.given.length cap) m.free iv ev av w) (ht : Tabs b w iv ev av)
    (ho : w.ownsRow (b + 1) 9 1 (.slice (some ⟨g, 0, none⟩) m.given.length cap) m.given.length (m.given.map Value.string)) :
    PS b s (m.pop n) (w.setCell ⟨b, 4, none⟩ (.slice (some ⟨g, 0, none⟩) n cap)) ∧ Kp b w (w.setCell ⟨b, 4, none⟩ (.slice (some ⟨g, 0, none⟩) n cap)) := by
  have hs : w.grownBy (w.setCell ⟨b, 4, none⟩ (.slice (some ⟨g, 0, none⟩) n cap)) (some b) := grown_set (grown_refl _ _) 4 _
  have hk := Kp.grown hs h.lt
  refine ⟨⟨⟨_, iv, ev, av, RB.set hB 4 _, ?_, ht.kept hk.below⟩, h.inv.pop, h.len, by simp; exact Nat.le_trans (Nat.min_le_right _ _) h.gl, h.bad, h.fr⟩, hk⟩
  have e : (m.pop n).given.length = n := by simp; omega
  rw [e]
  refine ownsRow_setCell_below ?_ (a := ⟨b, 4, none⟩) (Nat.lt_succ_self b) _
  refine ⟨by simp; omega, .inr ?_⟩
  rcases ho.2 with ⟨h1, _⟩ | ⟨g', cap', cur, h1, h2, h3, h4, h5, h6, h7⟩
  · cases h1
  · cases h1
    refine ⟨g, cap, cur, rfl, h2, h3, by omega, h5, h6, ?_⟩
    have h7' : cur.toList.take m.given.length = m.given.map Value.string := by simpa using h7
    rw [Nat.mul_one]
    have : (cur.toList.take m.given.length).take n = cur.toList.take n := by rw [List.take_take]; congr 1; omega
    rw [← this, h7']
    simp [List.map_take]

set_option maxRecDepth 100000 in
set_option maxHeartbeats 2000000 in
theorem pgive {b s m w} (x : ByteArray) (h : PS b s m w) (hgl : m.given.length + 1 ≤ m.tok.at_) :
    Calls Tryz.prog 119 #[.pointer (some ⟨b, 0, none⟩), .string x] w fun e w' => e = .returned (.int .i64 m.given.length) ∧ PS b s (m.push x) w' ∧ Kp b w w' := by
  obtain ⟨gv, iv, ev, av, hB, ho, ht⟩ := h.blk
  obtain ⟨ga, gc, rfl⟩ := own_slice ho
  obtain ⟨c0, c1, c2, c3, c4, c5, c6, c7, c8, hf, hlt0⟩ := hB.cells
  have hl3 : m.given.length ≤ 300 := by
    have := h.gl; have := h.inv.at_le; have := h.len; omega
  obtain ⟨i0, hi, hz0, hz1, hz2⟩ := info_parts info9
  go_enter Tryz.func119, Tryz.ntmps119
  go_wp2_with (at_builtin; refine wpList_append_own _ rfl _ _ 35 rfl (b + 1) 9 i0 (.string ByteArray.empty) 1 16 Tryz.underlying35 hi hz0 hz1 hz2 rfl (by decide) _ _ _ rfl (ho.alloc _) ⟨w.heap.size, 0, none⟩ 1 1 [.string x] rfl rfl (cell_one_new _ _ _) (fun u hu => by simp at hu; subst hu; rfl) (by unfold maxLen; omega) (by omega) (by simp; omega) ?_; intro v' w4 hown' hgrow _; obtain ⟨g', cap', rfl⟩ := own_succ hown'; have hB4 : PB b s (kindOf m.tok) m.tok.text m.tok.at_ (.slice ga m.given.length gc) m.free iv ev av w4 := prow_block (RB.alloc' hB _) (ho.alloc _) hgrow; have c4' := hB4.cells.2.2.2.2.1; have hf' := hB4.cells.2.2.2.2.2.2.2.2.2.1)
  go_ret
  have hgrow' : (w.alloc (Obj.cells #[Value.string x] 9)).grownBy w4 (Value.slice ga m.given.length gc).ownBlock := hgrow
  obtain ⟨h5, k5⟩ := PS.pushed h hgl (RB.alloc' hB _) (ht.kept ((Below.refl b w).alloc (Nat.le_of_lt hlt0) _)) (ho.alloc _) ((Kp.refl b w).alloc (Nat.le_of_lt hlt0) _) hgrow' hown'
  exact ⟨rfl, h5, k5⟩

theorem PS.drew {b s m w} (h : PS b s m w) : PS b s m w.drew := h.grown (grown_drew (grown_refl _ _))
theorem Kp.drew {b : Nat} {w w' : World} (h : Kp b w w') : Kp b w w'.drew := ⟨⟨h.below.os, h.below.tape, h.below.output, h.below.size, h.below.block⟩, h.nodes⟩

set_option maxRecDepth 100000 in
set_option maxHeartbeats 2000000 in
theorem pforget {b s m w} {n : Nat} (h : PS b s m w) (hn : m.given.length = n + 1) :
    Calls Tryz.prog 120 #[.pointer (some ⟨b, 0, none⟩)] w fun e w' => e = .returned (.tuple #[]) ∧ PS b s (m.pop n) w' ∧ Kp b w w' := by
  obtain ⟨gv, iv, ev, av, hB, ho, ht⟩ := h.blk
  obtain ⟨g2, cap2, rfl, hce⟩ := own_at ho (by omega)
  have hcap : m.given.length ≤ cap2 := by
    rcases ho.2 with ⟨h1, _⟩ | ⟨g', cap', cur, h1, h2, h3, h4, h5, h6, h7⟩
    · cases h1
    · cases h1; omega
  have hl3 : m.given.length ≤ 300 := by
    have := h.gl; have := h.inv.at_le; have := h.len; omega
  obtain ⟨h9, k9⟩ := PS.popped (n := n) h (by omega) hB ht ho
  obtain ⟨c0, c1, c2, c3, c4, c5, c6, c7, c8, hf, hlt0⟩ := hB.cells
  rw [hn] at c4 hcap hl3
  clear hce hn hB ho
  go_enter Tryz.func120, Tryz.ntmps120
  go_wp2_with fail
  go_region
  all_goals
    go_end0
    exact ⟨rfl, h9.drew, k9.drew⟩
end Go.Proofs.YtjjlgjmebnkdjaaGreatDoor
