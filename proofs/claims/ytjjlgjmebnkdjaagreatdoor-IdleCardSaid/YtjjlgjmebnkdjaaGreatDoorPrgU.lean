/-
  The program: read, Check.
-/
import Derived.Test.YtjjlgjmebnkdjaaGreatDoorPrgS
import Derived.Test.YtjjlgjmebnkdjaaGreatDoorPrgT
import Derived.Test.YtjjlgjmebnkdjaaGreatDoorRefJ
namespace Go.Proofs.YtjjlgjmebnkdjaaGreatDoor
open Go Go.Proofs Go.RowKit Skein

theorem cellsOf2 {w : World} {k : Nat} {x y : Value} (h : w.heap[k]? = some (.cells #[x, y] 53 (0, 0))) :
    w.cell? ⟨k, 0, none⟩ = some x ∧ w.cell? ⟨k, 1, none⟩ = some y ∧ (∀ o, w.frozen? ⟨k, o, none⟩ = false) := by
  refine ⟨?_, ?_, fun o => ?_⟩ <;> simp [World.cell?, World.frozen?, h]

theorem set2 {w : World} {k : Nat} {x y : Value} (h : w.heap[k]? = some (.cells #[x, y] 53 (0, 0))) (a b : Value) :
    ((w.setCell ⟨k, 0, none⟩ a).setCell ⟨k, 1, none⟩ b).heap[k]? = some (.cells #[a, b] 53 (0, 0)) := by
  simp [World.setCell, Array.getElem?_modify, h]

/-- What read comes to. -/
def RPost (w : World) (t : T) (f : Int × Int) (e : Ending) (w' : World) : Prop :=
  ∃ v, e = .returned (.tuple #[v, .agg #[.int .i64 f.1, .int .i64 f.2]]) ∧ (f = (0, 0) → v = pv t) ∧ (v = .nilIface ∨ ∃ T x, v = .iface T x) ∧ Below w.heap.size w w'

set_option maxRecDepth 100000 in
set_option maxHeartbeats 1000000 in
theorem pread_of (s : ByteArray) (w : World) (t : T) (f : Int × Int)
    (hW : ∀ w, Calls Tryz.prog 41 #[.string s] w fun e w' => Below w.heap.size w w' ∧ ((f = (0, 0) ∧ e = .returned (pv t)) ∨ (f.1 ≠ 0 ∧ e = .panicked [{ v := flt f.1 f.2, recovered := false }]))) :
    Calls Tryz.prog 31 #[.string s] w (RPost w t f) := by
  have hmf : ∀ (fn : Fn) (first cap : Array Value) (w : World), (Instr.makeFunc fn first cap).run Tryz.prog w = .ok (.func fn first cap) w := fun _ _ _ _ => rfl
  have HW : Hid (∀ w, Calls Tryz.prog 41 #[.string s] w fun e w' => Below w.heap.size w w' ∧ ((f = (0, 0) ∧ e = .returned (pv t)) ∨ (f.1 ≠ 0 ∧ e = .panicked [{ v := flt f.1 f.2, recovered := false }]))) := hW
  clear hW
  go_enter_defers Tryz.func31, Tryz.ntmps31
  go_wp2_with fail
  refine (HW.out _).mono ?_
  rintro e w1 ⟨hb, h⟩
  have hk1 : w1.heap[w.heap.size]? = some (.cells #[.int .i64 0, .int .i64 0] 53 (0, 0)) := (hb.block _ (by simp)).trans (alloc_at _ _ _ rfl)
  obtain ⟨c0, c1, cf⟩ := cellsOf2 hk1
  have hB1 : Below w.heap.size w w1 := ((Below.refl _ w).alloc (Nat.le_refl _) _).trans (hb.mono (by simp))
  clear hb
  rcases h with ⟨hf, rfl⟩ | ⟨hf, rfl⟩
  · obtain ⟨T1, x1, e1⟩ := pv_iface t
    have E1 : Hid (pv t = .iface T1 x1) := e1
    have HF : Hid (f = (0, 0)) := hf
    clear hf
    rw [e1]
    clear e1
    go_wp2_with fail
    refine leaves_cons (f := 39) (args := #[.pointer (some ⟨w.heap.size, 0, none⟩)]) (by simp) (by simp [go_sem]) ?_
    have hk2 := set2 hk1 (.int .i64 0) (.int .i64 0)
    have hB2 := (hB1.setCell (p := ⟨w.heap.size, 0, none⟩) (Nat.le_refl _) (.int .i64 0)).setCell (p := ⟨w.heap.size, 1, none⟩) (Nat.le_refl _) (.int .i64 0)
    refine (pclose_returning w.heap.size _ _ _ hk2).mono ?_
    rintro e u' w'' ⟨rfl, rfl, w2, hg2, rfl⟩
    have hk3 := keepB hk2 hg2
    have hk4 := set2 hk3 (.int .i64 0) (.int .i64 0)
    have hB3 := (((hB2.grown hg2 hB2.size (by simp)).setCell (p := ⟨w.heap.size, 0, none⟩) (Nat.le_refl _) (.int .i64 0)).setCell (p := ⟨w.heap.size, 1, none⟩) (Nat.le_refl _) (.int .i64 0))
    obtain ⟨d0, d1, df⟩ := cellsOf2 hk4
    clear hk1 hk2 hk3 hk4 c0 c1 cf
    generalize (w2.setCell ⟨w.heap.size, 0, none⟩ (.int .i64 0)).setCell ⟨w.heap.size, 1, none⟩ (.int .i64 0) = W at *
    simp [Leaves, settle, results, Tryz.results31, go_sem, d0, d1]
    refine ⟨.iface T1 x1, ?_, ?_, .inr ⟨T1, x1, rfl⟩, hB3⟩
    · rw [HF.out]
    · intro _; exact E1.out.symm
  · have HF : Hid (f.1 ≠ 0) := hf
    clear hf
    go_wp2_with fail
    refine leaves_cons (f := 39) (args := #[.pointer (some ⟨w.heap.size, 0, none⟩)]) (by simp) (by simp [go_sem]) ?_
    refine (pclose_panicking w.heap.size _ _ f.1 f.2 [] _ hk1).mono ?_
    rintro e u' w'' ⟨rfl, rfl, w2, hg2, rfl⟩
    have hk3 := keepB hk1 hg2
    have hk4 := set2 hk3 (.int .i64 f.1) (.int .i64 f.2)
    have hB3 := (((hB1.grown hg2 hB1.size (by simp)).setCell (p := ⟨w.heap.size, 0, none⟩) (Nat.le_refl _) (.int .i64 f.1)).setCell (p := ⟨w.heap.size, 1, none⟩) (Nat.le_refl _) (.int .i64 f.2))
    obtain ⟨d0, d1, df⟩ := cellsOf2 hk4
    clear hk1 hk3 hk4 c0 c1 cf
    generalize (w2.setCell ⟨w.heap.size, 0, none⟩ (.int .i64 f.1)).setCell ⟨w.heap.size, 1, none⟩ (.int .i64 f.2) = W at *
    simp [Leaves, settle, results, Tryz.results31, go_sem, d0, d1]
    refine ⟨.nilIface, rfl, ?_, .inl rfl, hB3⟩
    intro h; exact absurd (by rw [h]) HF.out

theorem pread (s : ByteArray) (w : World) (hl : s.size ≤ 300) (N : Nat) (t : T) (m : M) (hP : PM s N .expr (Skein.start s) = some (t, m)) :
    Calls Tryz.prog 31 #[.string s] w (RPost w t (finish m)) :=
  pread_of s w t (finish m) fun w => pwhole s w hl N t m hP

theorem pread_long (s : ByteArray) (w : World) (hs : 300 < s.size) (t : T) : Calls Tryz.prog 31 #[.string s] w (RPost w t (1, 0)) :=
  pread_of s w t (1, 0) fun w => (pwhole_long s w hs).mono fun e w' h => ⟨by rw [h.2]; exact Below.refl _ _, .inr ⟨by decide, h.1⟩⟩

set_option maxRecDepth 100000 in
set_option maxHeartbeats 1000000 in
theorem pcheck_of (s : ByteArray) (w : World) (t : T) (f : Int × Int) (hR : ∀ w, Calls Tryz.prog 31 #[.string s] w (RPost w t f)) :
    Calls Tryz.prog 25 #[.string s] w fun e w' => e = .returned (.tuple #[.int .i64 f.1, .int .i64 f.2]) ∧ Below w.heap.size w w' := by
  have HR : Hid (∀ w, Calls Tryz.prog 31 #[.string s] w (RPost w t f)) := hR
  clear hR
  go_enter Tryz.func25, Tryz.ntmps25
  go_wp2_with fail
  refine (HR.out _).mono ?_
  rintro e w1 ⟨v, rfl, -, hv, hb⟩
  rcases hv with rfl | ⟨T1, x1, rfl⟩
  all_goals
    go_wp2_with fail
    go_quiet (fail)
    go_wp2_with fail
    have hB := hb.alloc hb.size (.cells #[.int .i64 f.1, .int .i64 f.2] 53 (0, 0))
    exact bodyPost_ret (v := .tuple #[.int .i64 f.1, .int .i64 f.2]) (by simp [results, Tryz.results25, go_sem]) rfl ⟨rfl, hB.os, hB.tape, hB.output, hB.size, hB.block⟩

set_option maxRecDepth 100000 in
set_option maxHeartbeats 1000000 in
theorem checked_of (s : ByteArray) (w : World) (f : Int × Int)
    (hC : ∀ w, Calls Tryz.prog 25 #[.string s] w fun e w' => e = .returned (.tuple #[.int .i64 f.1, .int .i64 f.2]) ∧ Below w.heap.size w w')
    (hD : ∀ w, Calls Tryz.prog 27 #[.string s] w fun e w' => ∃ a, e = .returned (.tuple #[.pointer a, .int .i64 f.1, .int .i64 f.2]) ∧ Below w.heap.size w w') :
    Calls Tryz.prog 15 #[.string s] w fun e w' => e = .returned (.bool true) ∧ Below w.heap.size w w' := by
  have HC : Hid (∀ w, Calls Tryz.prog 25 #[.string s] w fun e w' => e = .returned (.tuple #[.int .i64 f.1, .int .i64 f.2]) ∧ Below w.heap.size w w') := hC
  have HD : Hid (∀ w, Calls Tryz.prog 27 #[.string s] w fun e w' => ∃ a, e = .returned (.tuple #[.pointer a, .int .i64 f.1, .int .i64 f.2]) ∧ Below w.heap.size w w') := hD
  clear hC hD
  obtain ⟨f1, f2⟩ := f
  go_enter Tryz.func15, Tryz.ntmps15
  go_wp2_with fail
  refine (HC.out _).mono ?_
  rintro e w1 ⟨rfl, hb1⟩
  go_wp2_with fail
  refine (HD.out _).mono ?_
  rintro e w2 ⟨a, rfl, hb2⟩
  have hb := hb1.trans (hb2.mono hb1.size)
  clear hb1 hb2
  go_wp2_with fail
  go_ret
  refine ⟨?_, hb⟩
  simp

theorem checked_ok (s : ByteArray) (w : World) : Calls Tryz.prog 15 #[.string s] w fun e w' => e = .returned (.bool true) ∧ Below w.heap.size w w' := by
  by_cases hl : s.size ≤ 300
  · obtain ⟨t, m, hP⟩ := PM_ends s
    refine checked_of s w (finish m) (fun w => pcheck_of s w t _ fun w => pread s w hl _ t m hP) fun w => ?_
    refine (parse_ok s w hl _ t m hP).mono ?_
    rintro e w' ⟨v, he, -, ⟨a, rfl⟩, hb⟩
    exact ⟨a, he, hb⟩
  · have hs : 300 < s.size := by omega
    refine checked_of s w (1, 0) (fun w => pcheck_of s w (PM_ends s).choose _ fun w => pread_long s w hs _) fun w => ?_
    refine (parse_long s w hs).mono ?_
    rintro e w' ⟨rfl, rfl⟩
    exact ⟨none, rfl, Below.refl _ _⟩

set_option maxRecDepth 100000 in
set_option maxHeartbeats 1000000 in
theorem checks_ok (s : ByteArray) (w : World) : Calls Tryz.prog 3 #[.string s] w fun e w' => e = .returned (.bool true) ∧ Below w.heap.size w w' := by
  go_enter Tryz.func3, Tryz.ntmps3
  go_wp2_with fail
  refine (checked_ok _ _).mono ?_
  rintro e w1 ⟨rfl, hb1⟩
  go_wp2_with fail
  refine (checked_ok _ _).mono ?_
  rintro e w2 ⟨rfl, hb2⟩
  have hb := hb1.trans (hb2.mono hb1.size)
  clear hb1 hb2
  go_wp2_with fail
  go_ret
  exact ⟨rfl, hb⟩
end Go.Proofs.YtjjlgjmebnkdjaaGreatDoor
