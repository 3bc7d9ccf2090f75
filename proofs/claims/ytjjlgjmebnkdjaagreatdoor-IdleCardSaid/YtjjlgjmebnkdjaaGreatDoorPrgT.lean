/-
  The program: what catches a fault; read.
-/
import Derived.Test.YtjjlgjmebnkdjaaGreatDoorPrgD
import Derived.Recover
namespace Go.Proofs.YtjjlgjmebnkdjaaGreatDoor
open Go Go.Proofs Go.RowKit Skein

set_option maxRecDepth 100000 in
set_option maxHeartbeats 1000000 in
theorem pcaught_nil (w : World) :
    Calls Tryz.prog 40 #[.nilIface] w fun e w' => e = .returned (.agg #[.int .i64 0, .int .i64 0]) ∧ w.grownBy w' none := by
  go_enter Tryz.func40, Tryz.ntmps40
  go_wp2_with fail
  exact bodyPost_ret (v := .agg #[.int .i64 0, .int .i64 0]) (by simp [results, Tryz.results40, go_sem]) rfl ⟨rfl, grown_alloc (grown_refl _ _) _⟩

set_option maxRecDepth 100000 in
set_option maxHeartbeats 1000000 in
theorem pcaught_some (e q : Int) (w : World) :
    Calls Tryz.prog 40 #[flt e q] w fun x w' => x = .returned (.agg #[.int .i64 e, .int .i64 q]) ∧ w.grownBy w' none := by
  have hta : ∀ (e q : Int) (w : World), (Instr.typeAssert (.iface 53 (.agg #[.int .i64 e, .int .i64 q])) 20 53 true).run Tryz.prog w = .ok (.tuple #[.agg #[.int .i64 e, .int .i64 q], .bool true]) w := fun _ _ _ => by kernel_rfl
  unfold flt
  go_enter Tryz.func40, Tryz.ntmps40
  go_wp2_with fail
  exact bodyPost_ret (v := .agg #[.int .i64 e, .int .i64 q]) (by simp [results, Tryz.results40, go_sem]) rfl ⟨rfl, grown_alloc (grown_alloc (grown_refl _ _) _) _⟩

theorem keepB {w w' : World} {k : Nat} {o : Obj} (h : w.heap[k]? = some o) (hg : w.grownBy w' none) : w'.heap[k]? = some o := by
  rw [hg.block k (Array.getElem?_eq_some_iff.1 h).1 (by simp)]; exact h

set_option maxRecDepth 100000 in
set_option maxHeartbeats 1000000 in
theorem pclose_panicking (k : Nat) (x y : Value) (e q : Int) (older : List PanicEntry) (w : World) (hk : w.heap[k]? = some (.cells #[x, y] 53 (0, 0))) :
    CallsD Tryz.prog 39 #[.pointer (some ⟨k, 0, none⟩)] (.panicking ({ v := flt e q, recovered := false } :: older)) w fun z u' w' =>
      z = .returned (.tuple #[]) ∧ u' = .panicking ({ v := flt e q, recovered := true } :: older) ∧ ∃ w1, w.grownBy w1 none ∧ w' = (w1.setCell ⟨k, 0, none⟩ (.int .i64 e)).setCell ⟨k, 1, none⟩ (.int .i64 q) := by
  refine callsD_of_wpS Tryz.func39 rfl fun c₀ cs hu => ?_
  apply wpS_region
  simp [wpOpsS, go_sem, recoverD, hu, Tryz.ntmps39]
  refine (pcaught_some e q w).mono ?_
  rintro z w1 ⟨rfl, hg⟩
  have hk1 := keepB hk hg
  have c0 : w1.cell? ⟨k, 0, none⟩ = some x := by simp [World.cell?, hk1]
  have c1 : w1.cell? ⟨k, 1, none⟩ = some y := by simp [World.cell?, hk1]
  have cf : ∀ o, w1.frozen? ⟨k, o, none⟩ = false := fun o => by simp [World.frozen?, hk1]
  simp [go_sem, c0, c1, cf, bodyPostS, results, Tryz.results39]
  exact ⟨w1, hg, rfl⟩

set_option maxRecDepth 100000 in
set_option maxHeartbeats 1000000 in
theorem pclose_returning (k : Nat) (x y : Value) (w : World) (hk : w.heap[k]? = some (.cells #[x, y] 53 (0, 0))) :
    CallsD Tryz.prog 39 #[.pointer (some ⟨k, 0, none⟩)] .returning w fun z u' w' =>
      z = .returned (.tuple #[]) ∧ u' = .returning ∧ ∃ w1, w.grownBy w1 none ∧ w' = (w1.setCell ⟨k, 0, none⟩ (.int .i64 0)).setCell ⟨k, 1, none⟩ (.int .i64 0) := by
  refine callsD_of_wpS Tryz.func39 rfl fun c₀ cs hu => ?_
  apply wpS_region
  simp [wpOpsS, go_sem, recoverD, hu, Tryz.ntmps39]
  refine (pcaught_nil w).mono ?_
  rintro z w1 ⟨rfl, hg⟩
  have hk1 := keepB hk hg
  have c0 : w1.cell? ⟨k, 0, none⟩ = some x := by simp [World.cell?, hk1]
  have c1 : w1.cell? ⟨k, 1, none⟩ = some y := by simp [World.cell?, hk1]
  have cf : ∀ o, w1.frozen? ⟨k, o, none⟩ = false := fun o => by simp [World.frozen?, hk1]
  cases c₀
  simp_all [go_sem, bodyPostS, results, Tryz.results39]
  exact ⟨w1, hg, rfl⟩
end Go.Proofs.YtjjlgjmebnkdjaaGreatDoor
