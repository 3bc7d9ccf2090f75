/-
  The program makes closures of a tree: whatever it is (nothing of lists).
-/
import Derived.Test.YtdpbclnpmkhooaaGreatDoorEvQ
import Derived.Test.YtdpbclnpmkhooaaGreatDoorEvR
namespace Go.Proofs.YtdpbclnpmkhooaaGreatDoor
open Go Go.Proofs Go.RowKit Skein

set_option maxRecDepth 100000 in
set_option maxHeartbeats 4000000 in
theorem cm_var (n : Nat) : CM (.var n) := by
  intro st A w hA
  have ta0 : ∀ (w : World), (Instr.typeAssert (.iface 136 (.agg #[.int .i64 n])) 47 133 true).run Tryz.prog w = .ok (.tuple #[.agg #[.int .i64 0], .bool false]) w := fun _ => by kernel_rfl
  have ta1 : ∀ (w : World), (Instr.typeAssert (.iface 136 (.agg #[.int .i64 n])) 47 136 true).run Tryz.prog w = .ok (.tuple #[.agg #[.int .i64 n], .bool true]) w := fun _ => by kernel_rfl
  have hg := grown_alloc (grown_alloc (grown_refl w none) (.cells #[ptr st, .slice (some ⟨A, 0, none⟩) 5 5] 108 (0, 0))) (.cells #[.int .i64 n] 136 (0, 0))
  have HC : Hid (Calls Tryz.prog 90 #[mk st A, .agg #[.int .i64 n]] ((w.alloc (.cells #[ptr st, .slice (some ⟨A, 0, none⟩) 5 5] 108 (0, 0))).alloc (.cells #[.int .i64 n] 136 (0, 0))) (Made st (.var n) ((w.alloc (.cells #[ptr st, .slice (some ⟨A, 0, none⟩) 5 5] 108 (0, 0))).alloc (.cells #[.int .i64 n] 136 (0, 0))))) := by
    exact mvar n st A _
  show Calls Tryz.prog 60 #[mk st A, .iface 136 (.agg #[.int .i64 n])] w _
  go_enter Tryz.func60, Tryz.ntmps60
  go_wp2_with fail
  refine HC.out.mono ?_
  rintro e w1 ⟨f, c, rfl, hg1, hc1⟩
  go_wp2_with fail
  go_ret
  exact ⟨f, c, rfl, grown_trans hg hg1, hc1⟩

set_option maxRecDepth 100000 in
set_option maxHeartbeats 4000000 in
theorem cm_fn (m : Nat) (x : T) (ix : CM x) : CM (.fn m x) := by
  intro st A w hA
  obtain ⟨T1, x1, e1⟩ := pv_iface x
  have ta0 : ∀ (w : World), (Instr.typeAssert (.iface 139 (.agg #[.int .i64 m, .iface T1 x1])) 47 133 true).run Tryz.prog w = .ok (.tuple #[.agg #[.int .i64 0], .bool false]) w := fun _ => by kernel_rfl
  have ta1 : ∀ (w : World), (Instr.typeAssert (.iface 139 (.agg #[.int .i64 m, .iface T1 x1])) 47 136 true).run Tryz.prog w = .ok (.tuple #[.agg #[.int .i64 0], .bool false]) w := fun _ => by kernel_rfl
  have ta2 : ∀ (w : World), (Instr.typeAssert (.iface 139 (.agg #[.int .i64 m, .iface T1 x1])) 47 139 true).run Tryz.prog w = .ok (.tuple #[.agg #[.int .i64 m, .iface T1 x1], .bool true]) w := fun _ => by kernel_rfl
  have hg := grown_alloc (grown_alloc (grown_refl w none) (.cells #[ptr st, .slice (some ⟨A, 0, none⟩) 5 5] 108 (0, 0))) (.cells #[.int .i64 m, .iface T1 x1] 139 (0, 0))
  have HC : Hid (Calls Tryz.prog 91 #[mk st A, .agg #[.int .i64 m, .iface T1 x1]] ((w.alloc (.cells #[ptr st, .slice (some ⟨A, 0, none⟩) 5 5] 108 (0, 0))).alloc (.cells #[.int .i64 m, .iface T1 x1] 139 (0, 0))) (Made st (.fn m x) ((w.alloc (.cells #[ptr st, .slice (some ⟨A, 0, none⟩) 5 5] 108 (0, 0))).alloc (.cells #[.int .i64 m, .iface T1 x1] 139 (0, 0))))) := by
    have h := (mfn m x ix st A _ (keepB' hA hg))
    rw [e1] at h
    exact h
  show Calls Tryz.prog 60 #[mk st A, .iface 139 (.agg #[.int .i64 m, pv x])] w _
  rw [e1]
  clear e1
  go_enter Tryz.func60, Tryz.ntmps60
  go_wp2_with fail
  refine HC.out.mono ?_
  rintro e w1 ⟨f, c, rfl, hg1, hc1⟩
  go_wp2_with fail
  go_ret
  exact ⟨f, c, rfl, grown_trans hg hg1, hc1⟩

set_option maxRecDepth 100000 in
set_option maxHeartbeats 4000000 in
theorem cm_app (x y : T) (ix : CM x) (iy : CM y) : CM (.app x y) := by
  intro st A w hA
  obtain ⟨T1, x1, e1⟩ := pv_iface x
  obtain ⟨T2, x2, e2⟩ := pv_iface y
  have ta0 : ∀ (w : World), (Instr.typeAssert (.iface 142 (.agg #[.iface T1 x1, .iface T2 x2])) 47 133 true).run Tryz.prog w = .ok (.tuple #[.agg #[.int .i64 0], .bool false]) w := fun _ => by kernel_rfl
  have ta1 : ∀ (w : World), (Instr.typeAssert (.iface 142 (.agg #[.iface T1 x1, .iface T2 x2])) 47 136 true).run Tryz.prog w = .ok (.tuple #[.agg #[.int .i64 0], .bool false]) w := fun _ => by kernel_rfl
  have ta2 : ∀ (w : World), (Instr.typeAssert (.iface 142 (.agg #[.iface T1 x1, .iface T2 x2])) 47 139 true).run Tryz.prog w = .ok (.tuple #[.agg #[.int .i64 0, .nilIface], .bool false]) w := fun _ => by kernel_rfl
  have ta3 : ∀ (w : World), (Instr.typeAssert (.iface 142 (.agg #[.iface T1 x1, .iface T2 x2])) 47 142 true).run Tryz.prog w = .ok (.tuple #[.agg #[.iface T1 x1, .iface T2 x2], .bool true]) w := fun _ => by kernel_rfl
  have hg := grown_alloc (grown_alloc (grown_refl w none) (.cells #[ptr st, .slice (some ⟨A, 0, none⟩) 5 5] 108 (0, 0))) (.cells #[.iface T1 x1, .iface T2 x2] 142 (0, 0))
  have HC : Hid (Calls Tryz.prog 92 #[mk st A, .agg #[.iface T1 x1, .iface T2 x2]] ((w.alloc (.cells #[ptr st, .slice (some ⟨A, 0, none⟩) 5 5] 108 (0, 0))).alloc (.cells #[.iface T1 x1, .iface T2 x2] 142 (0, 0))) (Made st (.app x y) ((w.alloc (.cells #[ptr st, .slice (some ⟨A, 0, none⟩) 5 5] 108 (0, 0))).alloc (.cells #[.iface T1 x1, .iface T2 x2] 142 (0, 0))))) := by
    have h := (muse x y ix iy st A _ (keepB' hA hg))
    rw [e1, e2] at h
    exact h
  show Calls Tryz.prog 60 #[mk st A, .iface 142 (.agg #[pv x, pv y])] w _
  rw [e1, e2]
  clear e1 e2
  go_enter Tryz.func60, Tryz.ntmps60
  go_wp2_with fail
  refine HC.out.mono ?_
  rintro e w1 ⟨f, c, rfl, hg1, hc1⟩
  go_wp2_with fail
  go_ret
  exact ⟨f, c, rfl, grown_trans hg hg1, hc1⟩

set_option maxRecDepth 100000 in
set_option maxHeartbeats 4000000 in
theorem cm_letE (m : Nat) (x y : T) (ix : CM x) (iy : CM y) : CM (.letE m x y) := by
  intro st A w hA
  obtain ⟨T1, x1, e1⟩ := pv_iface x
  obtain ⟨T2, x2, e2⟩ := pv_iface y
  have ta0 : ∀ (w : World), (Instr.typeAssert (.iface 145 (.agg #[.int .i64 m, .iface T1 x1, .iface T2 x2])) 47 133 true).run Tryz.prog w = .ok (.tuple #[.agg #[.int .i64 0], .bool false]) w := fun _ => by kernel_rfl
  have ta1 : ∀ (w : World), (Instr.typeAssert (.iface 145 (.agg #[.int .i64 m, .iface T1 x1, .iface T2 x2])) 47 136 true).run Tryz.prog w = .ok (.tuple #[.agg #[.int .i64 0], .bool false]) w := fun _ => by kernel_rfl
  have ta2 : ∀ (w : World), (Instr.typeAssert (.iface 145 (.agg #[.int .i64 m, .iface T1 x1, .iface T2 x2])) 47 139 true).run Tryz.prog w = .ok (.tuple #[.agg #[.int .i64 0, .nilIface], .bool false]) w := fun _ => by kernel_rfl
  have ta3 : ∀ (w : World), (Instr.typeAssert (.iface 145 (.agg #[.int .i64 m, .iface T1 x1, .iface T2 x2])) 47 142 true).run Tryz.prog w = .ok (.tuple #[.agg #[.nilIface, .nilIface], .bool false]) w := fun _ => by kernel_rfl
  have ta4 : ∀ (w : World), (Instr.typeAssert (.iface 145 (.agg #[.int .i64 m, .iface T1 x1, .iface T2 x2])) 47 145 true).run Tryz.prog w = .ok (.tuple #[.agg #[.int .i64 m, .iface T1 x1, .iface T2 x2], .bool true]) w := fun _ => by kernel_rfl
  have hg := grown_alloc (grown_alloc (grown_refl w none) (.cells #[ptr st, .slice (some ⟨A, 0, none⟩) 5 5] 108 (0, 0))) (.cells #[.int .i64 m, .iface T1 x1, .iface T2 x2] 145 (0, 0))
  have HC : Hid (Calls Tryz.prog 93 #[mk st A, .agg #[.int .i64 m, .iface T1 x1, .iface T2 x2]] ((w.alloc (.cells #[ptr st, .slice (some ⟨A, 0, none⟩) 5 5] 108 (0, 0))).alloc (.cells #[.int .i64 m, .iface T1 x1, .iface T2 x2] 145 (0, 0))) (Made st (.letE m x y) ((w.alloc (.cells #[ptr st, .slice (some ⟨A, 0, none⟩) 5 5] 108 (0, 0))).alloc (.cells #[.int .i64 m, .iface T1 x1, .iface T2 x2] 145 (0, 0))))) := by
    have h := (mlet m x y ix iy st A _ (keepB' hA hg))
    rw [e1, e2] at h
    exact h
  show Calls Tryz.prog 60 #[mk st A, .iface 145 (.agg #[.int .i64 m, pv x, pv y])] w _
  rw [e1, e2]
  clear e1 e2
  go_enter Tryz.func60, Tryz.ntmps60
  go_wp2_with fail
  refine HC.out.mono ?_
  rintro e w1 ⟨f, c, rfl, hg1, hc1⟩
  go_wp2_with fail
  go_ret
  exact ⟨f, c, rfl, grown_trans hg hg1, hc1⟩

set_option maxRecDepth 100000 in
set_option maxHeartbeats 4000000 in
theorem cm_ite (x y t : T) (ix : CM x) (iy : CM y) (it : CM t) : CM (.ite x y t) := by
  intro st A w hA
  obtain ⟨T1, x1, e1⟩ := pv_iface x
  obtain ⟨T2, x2, e2⟩ := pv_iface y
  obtain ⟨T3, x3, e3⟩ := pv_iface t
  have ta0 : ∀ (w : World), (Instr.typeAssert (.iface 148 (.agg #[.iface T1 x1, .iface T2 x2, .iface T3 x3])) 47 133 true).run Tryz.prog w = .ok (.tuple #[.agg #[.int .i64 0], .bool false]) w := fun _ => by kernel_rfl
  have ta1 : ∀ (w : World), (Instr.typeAssert (.iface 148 (.agg #[.iface T1 x1, .iface T2 x2, .iface T3 x3])) 47 136 true).run Tryz.prog w = .ok (.tuple #[.agg #[.int .i64 0], .bool false]) w := fun _ => by kernel_rfl
  have ta2 : ∀ (w : World), (Instr.typeAssert (.iface 148 (.agg #[.iface T1 x1, .iface T2 x2, .iface T3 x3])) 47 139 true).run Tryz.prog w = .ok (.tuple #[.agg #[.int .i64 0, .nilIface], .bool false]) w := fun _ => by kernel_rfl
  have ta3 : ∀ (w : World), (Instr.typeAssert (.iface 148 (.agg #[.iface T1 x1, .iface T2 x2, .iface T3 x3])) 47 142 true).run Tryz.prog w = .ok (.tuple #[.agg #[.nilIface, .nilIface], .bool false]) w := fun _ => by kernel_rfl
  have ta4 : ∀ (w : World), (Instr.typeAssert (.iface 148 (.agg #[.iface T1 x1, .iface T2 x2, .iface T3 x3])) 47 145 true).run Tryz.prog w = .ok (.tuple #[.agg #[.int .i64 0, .nilIface, .nilIface], .bool false]) w := fun _ => by kernel_rfl
  have ta5 : ∀ (w : World), (Instr.typeAssert (.iface 148 (.agg #[.iface T1 x1, .iface T2 x2, .iface T3 x3])) 47 148 true).run Tryz.prog w = .ok (.tuple #[.agg #[.iface T1 x1, .iface T2 x2, .iface T3 x3], .bool true]) w := fun _ => by kernel_rfl
  have hg := grown_alloc (grown_alloc (grown_refl w none) (.cells #[ptr st, .slice (some ⟨A, 0, none⟩) 5 5] 108 (0, 0))) (.cells #[.iface T1 x1, .iface T2 x2, .iface T3 x3] 148 (0, 0))
  have HC : Hid (Calls Tryz.prog 94 #[mk st A, .agg #[.iface T1 x1, .iface T2 x2, .iface T3 x3]] ((w.alloc (.cells #[ptr st, .slice (some ⟨A, 0, none⟩) 5 5] 108 (0, 0))).alloc (.cells #[.iface T1 x1, .iface T2 x2, .iface T3 x3] 148 (0, 0))) (Made st (.ite x y t) ((w.alloc (.cells #[ptr st, .slice (some ⟨A, 0, none⟩) 5 5] 108 (0, 0))).alloc (.cells #[.iface T1 x1, .iface T2 x2, .iface T3 x3] 148 (0, 0))))) := by
    have h := (mite x y t ix iy it st A _ (keepB' hA hg))
    rw [e1, e2, e3] at h
    exact h
  show Calls Tryz.prog 60 #[mk st A, .iface 148 (.agg #[pv x, pv y, pv t])] w _
  rw [e1, e2, e3]
  clear e1 e2 e3
  go_enter Tryz.func60, Tryz.ntmps60
  go_wp2_with fail
  refine HC.out.mono ?_
  rintro e w1 ⟨f, c, rfl, hg1, hc1⟩
  go_wp2_with fail
  go_ret
  exact ⟨f, c, rfl, grown_trans hg hg1, hc1⟩

set_option maxRecDepth 100000 in
set_option maxHeartbeats 4000000 in
theorem cm_bin (op : UInt8) (hop : Sign5 op) (x y : T) (ix : CM x) (iy : CM y) : CM (.bin op x y) := by
  intro st A w hA
  obtain ⟨T1, x1, e1⟩ := pv_iface x
  obtain ⟨T2, x2, e2⟩ := pv_iface y
  have ta0 : ∀ (w : World), (Instr.typeAssert (.iface 151 (.agg #[.string ⟨#[op]⟩, .iface T1 x1, .iface T2 x2])) 47 133 true).run Tryz.prog w = .ok (.tuple #[.agg #[.int .i64 0], .bool false]) w := fun _ => by kernel_rfl
  have ta1 : ∀ (w : World), (Instr.typeAssert (.iface 151 (.agg #[.string ⟨#[op]⟩, .iface T1 x1, .iface T2 x2])) 47 136 true).run Tryz.prog w = .ok (.tuple #[.agg #[.int .i64 0], .bool false]) w := fun _ => by kernel_rfl
  have ta2 : ∀ (w : World), (Instr.typeAssert (.iface 151 (.agg #[.string ⟨#[op]⟩, .iface T1 x1, .iface T2 x2])) 47 139 true).run Tryz.prog w = .ok (.tuple #[.agg #[.int .i64 0, .nilIface], .bool false]) w := fun _ => by kernel_rfl
  have ta3 : ∀ (w : World), (Instr.typeAssert (.iface 151 (.agg #[.string ⟨#[op]⟩, .iface T1 x1, .iface T2 x2])) 47 142 true).run Tryz.prog w = .ok (.tuple #[.agg #[.nilIface, .nilIface], .bool false]) w := fun _ => by kernel_rfl
  have ta4 : ∀ (w : World), (Instr.typeAssert (.iface 151 (.agg #[.string ⟨#[op]⟩, .iface T1 x1, .iface T2 x2])) 47 145 true).run Tryz.prog w = .ok (.tuple #[.agg #[.int .i64 0, .nilIface, .nilIface], .bool false]) w := fun _ => by kernel_rfl
  have ta5 : ∀ (w : World), (Instr.typeAssert (.iface 151 (.agg #[.string ⟨#[op]⟩, .iface T1 x1, .iface T2 x2])) 47 148 true).run Tryz.prog w = .ok (.tuple #[.agg #[.nilIface, .nilIface, .nilIface], .bool false]) w := fun _ => by kernel_rfl
  have ta6 : ∀ (w : World), (Instr.typeAssert (.iface 151 (.agg #[.string ⟨#[op]⟩, .iface T1 x1, .iface T2 x2])) 47 151 true).run Tryz.prog w = .ok (.tuple #[.agg #[.string ⟨#[op]⟩, .iface T1 x1, .iface T2 x2], .bool true]) w := fun _ => by kernel_rfl
  have hg := grown_alloc (grown_alloc (grown_refl w none) (.cells #[ptr st, .slice (some ⟨A, 0, none⟩) 5 5] 108 (0, 0))) (.cells #[.string ⟨#[op]⟩, .iface T1 x1, .iface T2 x2] 151 (0, 0))
  have HC : Hid (Calls Tryz.prog 95 #[mk st A, .agg #[.string ⟨#[op]⟩, .iface T1 x1, .iface T2 x2]] ((w.alloc (.cells #[ptr st, .slice (some ⟨A, 0, none⟩) 5 5] 108 (0, 0))).alloc (.cells #[.string ⟨#[op]⟩, .iface T1 x1, .iface T2 x2] 151 (0, 0))) (Made st (.bin op x y) ((w.alloc (.cells #[ptr st, .slice (some ⟨A, 0, none⟩) 5 5] 108 (0, 0))).alloc (.cells #[.string ⟨#[op]⟩, .iface T1 x1, .iface T2 x2] 151 (0, 0))))) := by
    have h := (mreck op hop x y ix iy st A _ (keepB' hA hg))
    rw [e1, e2] at h
    exact h
  have hpv : pv (.bin op x y) = .iface 151 (.agg #[.string ⟨#[op]⟩, pv x, pv y]) := by
    have ho : (op == 58) = false := by rcases hop with rfl | rfl | rfl | rfl | rfl <;> rfl
    simp [pv, ho]
  rw [hpv, e1, e2]
  clear hpv
  clear e1 e2
  go_enter Tryz.func60, Tryz.ntmps60
  go_wp2_with fail
  refine HC.out.mono ?_
  rintro e w1 ⟨f, c, rfl, hg1, hc1⟩
  go_wp2_with fail
  go_ret
  exact ⟨f, c, rfl, grown_trans hg hg1, hc1⟩

theorem cm_all : ∀ (x : T) (d : Nat), Tidy d x → CM x := by
  intro x
  induction x with
  | num n => exact fun _ _ => cm_num n
  | var n => exact fun _ _ => cm_var n
  | fn m a ia => exact fun d h => cm_fn m a (ia _ h.2)
  | app a b ia ib => exact fun d h => cm_app a b (ia _ h.1) (ib _ h.2)
  | letE m a b ia ib => exact fun d h => cm_letE m a b (ia _ h.2.1) (ib _ h.2.2)
  | ite a b c ia ib ic => exact fun d h => cm_ite a b c (ia _ h.1) (ib _ h.2.1) (ic _ h.2.2)
  | bin op a b ia ib => exact fun d h => cm_bin op h.1 a b (ia _ h.2.1) (ib _ h.2.2)
  | junk => exact fun _ h => h.elim
  | free => exact fun _ h => h.elim
  | nil => exact fun _ h => h.elim
  | un op a _ => exact fun _ h => h.elim
end Go.Proofs.YtdpbclnpmkhooaaGreatDoor
