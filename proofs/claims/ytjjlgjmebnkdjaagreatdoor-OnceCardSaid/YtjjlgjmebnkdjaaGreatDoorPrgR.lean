/-
  The program: its tables, Whole.
-/
import Derived.Test.YtjjlgjmebnkdjaaGreatDoorPrgM
namespace Go.Proofs.YtjjlgjmebnkdjaaGreatDoor
open Go Go.Proofs Go.RowKit Skein

set_option maxRecDepth 100000 in
set_option maxHeartbeats 1000000 in
theorem preck (x : ByteArray) (w : World) :
    Calls Tryz.prog 77 #[.string x] w fun e w' => e = .returned (.func (.func 118) #[] #[.pointer (some ⟨w.heap.size, 0, none⟩)]) ∧ w' = w.alloc (.cells #[.string x] 9 (0, 0)) := by
  have hmf : ∀ (fn : Fn) (first cap : Array Value) (w : World), (Instr.makeFunc fn first cap).run Tryz.prog w = .ok (.func fn first cap) w := fun _ _ _ _ => rfl
  go_enter Tryz.func77, Tryz.ntmps77
  go_wp2_with fail
  go_ret
  exact ⟨rfl, rfl⟩

set_option maxRecDepth 100000 in
set_option maxHeartbeats 1000000 in
theorem pexprs (w : World) :
    Calls Tryz.prog 61 #[] w fun e w' => e = .returned (.slice (some ⟨w.heap.size, 0, none⟩) 3 3) ∧ w' = w.alloc (.cells exprCells 128 (0, 0)) := by
  go_enter Tryz.func61, Tryz.ntmps61
  go_wp2_with fail
  go_ret
  exact ⟨rfl, rfl⟩

set_option maxRecDepth 100000 in
set_option maxHeartbeats 1000000 in
theorem patoms (w : World) :
    Calls Tryz.prog 62 #[] w fun e w' => e = .returned (.slice (some ⟨w.heap.size, 0, none⟩) 7 7) ∧ w' = w.alloc (.cells atomCells 128 (0, 0)) := by
  go_enter Tryz.func62, Tryz.ntmps62
  go_wp2_with fail
  go_ret
  exact ⟨rfl, rfl⟩

set_option maxRecDepth 100000 in
set_option maxHeartbeats 2000000 in
theorem pinfixes (w : World) :
    Calls Tryz.prog 60 #[] w fun e w' => e = .returned (.slice (some ⟨w.heap.size + 5, 0, none⟩) 6 6) ∧
      w' = (((((w.alloc (.cells #[.string ⟨#[61]⟩] 9 (0, 0))).alloc (.cells #[.string ⟨#[60]⟩] 9 (0, 0))).alloc (.cells #[.string ⟨#[43]⟩] 9 (0, 0))).alloc (.cells #[.string ⟨#[45]⟩] 9 (0, 0))).alloc (.cells #[.string ⟨#[42]⟩] 9 (0, 0))).alloc (.cells (infixCells w.heap.size (w.heap.size + 1) (w.heap.size + 2) (w.heap.size + 3) (w.heap.size + 4)) 124 (0, 0)) := by
  go_enter Tryz.func60, Tryz.ntmps60
  go_wp2_with (go_at_call 77; refine (preck _ _).mono ?_; rintro e w' ⟨rfl, rfl⟩)
  go_ret
  exact ⟨rfl, rfl⟩

theorem tab_infixes (w : World) :
    Calls Tryz.prog 60 #[] w fun e w' => ∃ I k1 k2 k3 k4 k5, e = .returned (.slice (some ⟨I, 0, none⟩) 6 6) ∧ w.grownBy w' none ∧ w'.heap[I]? = some (.cells (infixCells k1 k2 k3 k4 k5) 124 (0, 0)) ∧
      w'.heap[k1]? = some (.cells #[.string ⟨#[61]⟩] 9 (0, 0)) ∧ w'.heap[k2]? = some (.cells #[.string ⟨#[60]⟩] 9 (0, 0)) ∧ w'.heap[k3]? = some (.cells #[.string ⟨#[43]⟩] 9 (0, 0)) ∧ w'.heap[k4]? = some (.cells #[.string ⟨#[45]⟩] 9 (0, 0)) ∧ w'.heap[k5]? = some (.cells #[.string ⟨#[42]⟩] 9 (0, 0)) := by
  refine (pinfixes w).mono ?_
  rintro e w' ⟨rfl, rfl⟩
  refine ⟨_, w.heap.size, w.heap.size + 1, w.heap.size + 2, w.heap.size + 3, w.heap.size + 4, rfl, grown_alloc (grown_alloc (grown_alloc (grown_alloc (grown_alloc (grown_alloc (grown_refl _ _) _) _) _) _) _) _, alloc_at _ _ _ (by simp), ?_, ?_, ?_, ?_, ?_⟩
  · rw [Below.heap_alloc _ _ _ (by simp <;> omega), Below.heap_alloc _ _ _ (by simp <;> omega), Below.heap_alloc _ _ _ (by simp <;> omega), Below.heap_alloc _ _ _ (by simp <;> omega), Below.heap_alloc _ _ _ (by simp)]; exact alloc_at _ _ _ rfl
  · rw [Below.heap_alloc _ _ _ (by simp <;> omega), Below.heap_alloc _ _ _ (by simp <;> omega), Below.heap_alloc _ _ _ (by simp <;> omega), Below.heap_alloc _ _ _ (by simp)]; exact alloc_at _ _ _ (by simp)
  · rw [Below.heap_alloc _ _ _ (by simp <;> omega), Below.heap_alloc _ _ _ (by simp <;> omega), Below.heap_alloc _ _ _ (by simp)]; exact alloc_at _ _ _ (by simp)
  · rw [Below.heap_alloc _ _ _ (by simp <;> omega), Below.heap_alloc _ _ _ (by simp)]; exact alloc_at _ _ _ (by simp)
  · rw [Below.heap_alloc _ _ _ (by simp)]; exact alloc_at _ _ _ (by simp)

theorem keep {w w' : World} {k : Nat} {o : Obj} (h : w.heap[k]? = some o) (hg : w.grownBy w' none) : w'.heap[k]? = some o := by
  rw [hg.block k (Array.getElem?_eq_some_iff.1 h).1 (by simp)]; exact h
theorem ltOf {w : World} {k : Nat} {o : Obj} (h : w.heap[k]? = some o) : k < w.heap.size := (Array.getElem?_eq_some_iff.1 h).1
end Go.Proofs.YtjjlgjmebnkdjaaGreatDoor
