/-
  The program's reckoning: what a value must be; a step.
-/
import Derived.Test.YtdpbclnpmkhooaaGreatDoorEvB
import Derived.Test.YtdpbclnpmkhooaaGreatDoorRefN
import Derived.Deep.RegionHeld
namespace Go.Proofs.YtdpbclnpmkhooaaGreatDoor
open Go Go.Proofs Go.RowKit Skein

set_option maxRecDepth 100000 in
set_option maxHeartbeats 1000000 in
theorem as_fn (f : Nat) (c : Array Value) (w : World) :
    Calls Tryz.prog 120 #[.iface 176 (fnv f c)] w fun e w' => e = .returned (fnv f c) ∧ w' = w := by
  have hta : ∀ (w : World), (Instr.typeAssert (.iface 176 (fnv f c)) 110 176 true).run Tryz.prog w = .ok (.tuple #[fnv f c, .bool true]) w := fun _ => by kernel_rfl
  go_enter Tryz.func120, Tryz.ntmps120
  go_wp2_with fail
  go_ret
  exact ⟨rfl, rfl⟩

set_option maxRecDepth 100000 in
set_option maxHeartbeats 1000000 in
theorem as_fn_no (n : Int) (w : World) :
    Calls Tryz.prog 120 #[.iface 127 (.int .i64 n)] w fun e w' => e = .panicked (oops 5) ∧ w' = w := by
  have hta : ∀ (w : World), (Instr.typeAssert (.iface 127 (.int .i64 n)) 110 176 true).run Tryz.prog w = .ok (.tuple #[.nilFunc, .bool false]) w := fun _ => by kernel_rfl
  go_enter Tryz.func120, Tryz.ntmps120
  go_wp2_with fail
  exact ⟨rfl, rfl, rfl⟩

set_option maxRecDepth 100000 in
set_option maxHeartbeats 1000000 in
theorem as_num (n : Int) (w : World) :
    Calls Tryz.prog 124 #[.iface 127 (.int .i64 n)] w fun e w' => e = .returned (.int .i64 n) ∧ w' = w := by
  have hta : ∀ (w : World), (Instr.typeAssert (.iface 127 (.int .i64 n)) 110 127 true).run Tryz.prog w = .ok (.tuple #[.int .i64 n, .bool true]) w := fun _ => by kernel_rfl
  go_enter Tryz.func124, Tryz.ntmps124
  go_wp2_with fail
  go_ret
  exact ⟨rfl, rfl⟩

set_option maxRecDepth 100000 in
set_option maxHeartbeats 1000000 in
theorem as_num_no (f : Nat) (c : Array Value) (w : World) :
    Calls Tryz.prog 124 #[.iface 176 (fnv f c)] w fun e w' => e = .panicked (oops 5) ∧ w' = w := by
  have hta : ∀ (w : World), (Instr.typeAssert (.iface 176 (fnv f c)) 110 127 true).run Tryz.prog w = .ok (.tuple #[.int .i64 0, .bool false]) w := fun _ => by kernel_rfl
  go_enter Tryz.func124, Tryz.ntmps124
  go_wp2_with fail
  exact ⟨rfl, rfl, rfl⟩

set_option maxRecDepth 100000 in
set_option maxHeartbeats 1000000 in
theorem count_ok {b w B st L S} (h : PE b w B st L S) (hl : ¬ L ≤ S.steps) :
    Calls Tryz.prog 121 #[ptr st] w fun e w' => e = .returned (.tuple #[]) ∧ FP b w w' ∧ PE b w' B st L ⟨S.heap, S.steps + 1⟩ := by
  obtain ⟨c0, c1, cf, hlt⟩ := h.steps.cells
  have hk : FP b w (w.setCell ⟨st, 1, none⟩ (.int .i64 ((S.steps : Int) + 1))) := Fr.set h.steps (.inr rfl) h.slo _ _
  have h' := h.stepped
  have hL := h.lim
  have hd : decide ((L : Int) ≤ (S.steps : Int)) = false := by simp; omega
  go_enter Tryz.func121, Tryz.ntmps121
  go_wp2_with fail
  go_quiet (fail)
  go_wp2_with fail
  go_end0
  exact ⟨rfl, ⟨⟨hk.below.os, hk.below.tape, hk.below.output, hk.below.size, hk.below.block⟩, hk.keep⟩, h'.grown (grown_same (grown_refl _ _) rfl rfl rfl rfl)⟩

set_option maxRecDepth 100000 in
set_option maxHeartbeats 1000000 in
theorem count_no {b w B st L S} (h : PE b w B st L S) (hl : L ≤ S.steps) :
    Calls Tryz.prog 121 #[ptr st] w fun e w' => e = .panicked (oops 8) ∧ Below b w w' ∧ SB w' st L S.steps := by
  obtain ⟨c0, c1, cf, hlt⟩ := h.steps.cells
  have hs := h.steps
  have hd : decide ((L : Int) ≤ (S.steps : Int)) = true := by simp; omega
  go_enter Tryz.func121, Tryz.ntmps121
  go_wp2_with fail
  go_quiet (fail)
  go_wp2_with fail
  exact ⟨rfl, rfl, ⟨rfl, rfl, rfl, Nat.le_refl _, fun _ _ => rfl⟩, hs⟩
end Go.Proofs.YtdpbclnpmkhooaaGreatDoor
