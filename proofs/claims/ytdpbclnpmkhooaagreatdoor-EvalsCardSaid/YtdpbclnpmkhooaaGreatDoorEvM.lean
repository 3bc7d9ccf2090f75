/-
  The program makes closures of a tree: which kind of node it is; number, name, function.
-/
import Derived.Test.YtdpbclnpmkhooaaGreatDoorEvL
namespace Go.Proofs.YtdpbclnpmkhooaaGreatDoor
open Go Go.Proofs Go.RowKit Skein

/-- A node becomes a closure. -/
def Made (st : Nat) (x : T) (w : World) (e : Ending) (w' : World) : Prop := ∃ f c, e = .returned (fnv f c) ∧ World.grownBy w w' none ∧ CodeAt st w' x f c
def CM (x : T) : Prop := ∀ (st A : Nat) (w : World), w.heap[A]? = some (.cells sgCells 130 (0, 0)) → Calls Tryz.prog 60 #[mk st A, pv x] w (Made st x w)

theorem ta_no (T U : TypeId) (y z : Value) (w : World) (h : ∀ w, (Instr.typeAssert (.iface T y) 47 U true).run Tryz.prog w = .ok (.tuple #[z, .bool false]) w) : (Instr.typeAssert (.iface T y) 47 U true).run Tryz.prog w = .ok (.tuple #[z, .bool false]) w := h w
theorem mf_ok (fn : Fn) (first cap : Array Value) (w : World) : (Instr.makeFunc fn first cap).run Tryz.prog w = .ok (.func fn first cap) w := rfl

set_option maxRecDepth 100000 in
set_option maxHeartbeats 2000000 in
theorem mnum (n : Nat) (st A : Nat) (w : World) : Calls Tryz.prog 89 #[mk st A, .agg #[.int .i64 n]] w (Made st (.num n) w) := by
  have hmf := mf_ok
  have hg := grown_alloc (grown_alloc (grown_alloc (grown_refl w none) (.cells #[ptr st, .slice (some ⟨A, 0, none⟩) 5 5] 108 (0, 0))) (.cells #[.int .i64 n] 133 (0, 0))) (.cells #[.int .i64 n] 127 (0, 0))
  have hx := alloc_at ((w.alloc (.cells #[ptr st, .slice (some ⟨A, 0, none⟩) 5 5] 108 (0, 0))).alloc (.cells #[.int .i64 n] 133 (0, 0))) (.cells #[.int .i64 n] 127 (0, 0)) (w.heap.size + 1 + 1) (by rw [alloc_size, alloc_size])
  go_enter Tryz.func89, Tryz.ntmps89
  go_wp2_with fail
  go_ret
  exact ⟨113, #[ptr (w.heap.size + 1 + 1)], rfl, hg, rfl, _, rfl, hx⟩

set_option maxRecDepth 100000 in
set_option maxHeartbeats 2000000 in
theorem mvar (n : Nat) (st A : Nat) (w : World) : Calls Tryz.prog 90 #[mk st A, .agg #[.int .i64 n]] w (Made st (.var n) w) := by
  have hmf := mf_ok
  have hg := grown_alloc (grown_alloc (grown_refl w none) (.cells #[ptr st, .slice (some ⟨A, 0, none⟩) 5 5] 108 (0, 0))) (.cells #[.int .i64 n] 136 (0, 0))
  have hx := alloc_at (w.alloc (.cells #[ptr st, .slice (some ⟨A, 0, none⟩) 5 5] 108 (0, 0))) (.cells #[.int .i64 n] 136 (0, 0)) (w.heap.size + 1) (by rw [alloc_size])
  go_enter Tryz.func90, Tryz.ntmps90
  go_wp2_with fail
  go_ret
  exact ⟨114, #[ptr (w.heap.size + 1)], rfl, hg, rfl, _, rfl, hx⟩

theorem CodeAt.grown {st w w' x f c} (h : CodeAt st w x f c) (hg : World.grownBy w w' none) : CodeAt st w' x f c := h.fr (b := 0) (Fr.grown (Nat.zero_le _) hg)

set_option maxRecDepth 100000 in
set_option maxHeartbeats 2000000 in
theorem mfn (m : Nat) (x : T) (ix : CM x) (st A : Nat) (w : World) (hA : w.heap[A]? = some (.cells sgCells 130 (0, 0))) : Calls Tryz.prog 91 #[mk st A, .agg #[.int .i64 m, pv x]] w (Made st (.fn m x) w) := by
  have hmf := mf_ok
  obtain ⟨T1, x1, e1⟩ := pv_iface x
  have hg := grown_alloc (grown_alloc (grown_refl w none) (.cells #[ptr st, .slice (some ⟨A, 0, none⟩) 5 5] 108 (0, 0))) (.cells #[.int .i64 m, .iface T1 x1] 139 (0, 0))
  have HC : Hid (Calls Tryz.prog 60 #[mk st A, .iface T1 x1] _ _) := e1 ▸ ix st A _ (keepB' hA hg)
  rw [e1]
  clear e1
  go_enter Tryz.func91, Tryz.ntmps91
  go_wp2_with fail
  refine HC.out.mono ?_
  rintro e w1 ⟨f, c, rfl, hg1, hc1⟩
  have hg2 := grown_alloc (grown_refl w1 none) (.cells #[fnv f c] 112 (0, 0))
  have hx := alloc_at w1 (.cells #[fnv f c] 112 (0, 0)) _ rfl
  go_wp2_with fail
  go_ret
  exact ⟨116, #[ptr w1.heap.size], rfl, grown_trans (grown_trans hg hg1) hg2, rfl, _, f, c, rfl, hx, hc1.grown hg2⟩

set_option maxRecDepth 100000 in
set_option maxHeartbeats 2000000 in
theorem cm_num (n : Nat) : CM (.num n) := by
  intro st A w hA
  have hta : ∀ (w : World), (Instr.typeAssert (.iface 133 (.agg #[.int .i64 n])) 47 133 true).run Tryz.prog w = .ok (.tuple #[.agg #[.int .i64 n], .bool true]) w := fun _ => by kernel_rfl
  show Calls Tryz.prog 60 #[mk st A, .iface 133 (.agg #[.int .i64 n])] w _
  go_enter Tryz.func60, Tryz.ntmps60
  go_wp2_with fail
  refine (mnum n st A _).mono ?_
  rintro e w1 ⟨f, c, rfl, hg1, hc1⟩
  go_wp2_with fail
  go_ret
  exact ⟨f, c, rfl, grown_trans (grown_alloc (grown_alloc (grown_refl _ _) _) _) hg1, hc1⟩
end Go.Proofs.YtdpbclnpmkhooaaGreatDoor
