/-
  The program makes closures of a tree.
  The program makes closures of a tree: which kind of node it is; number, name, function.
-/
import Derived.Test.YtdpbclnpmkhooaaGreatDoorEwF
import Derived.Test.YtdpbclnpmkhooaaGreatDoorEwE
import Derived.Test.YtdpbclnpmkhooaaGreatDoorEwD
import Derived.Test.YtdpbclnpmkhooaaGreatDoorPrgE
import Derived.Test.YtdpbclnpmkhooaaGreatDoorPrgJ
import Derived.Deep.RegionHeld3
import Derived.Laws.EntriesVeiled
namespace Go.Proofs.YtdpbclnpmkhooaaGreatDoor
open Go Go.Proofs Go.RowKit Skein

/-- The table of signs. -/
def sgCells : Array Value := #[.string ⟨#[43]⟩, fnv 83 #[], .string ⟨#[45]⟩, fnv 84 #[], .string ⟨#[42]⟩, fnv 85 #[], .string ⟨#[61]⟩, fnv 86 #[], .string ⟨#[60]⟩, fnv 88 #[]]

set_option maxRecDepth 100000 in
set_option maxHeartbeats 1000000 in
theorem signs_ok (w : World) : Calls Tryz.prog 59 #[] w fun e w' => e = .returned (.slice (some ⟨w.heap.size, 0, none⟩) 5 5) ∧ w' = w.alloc (.cells sgCells 130) := by
  go_enter Tryz.func59, Tryz.ntmps59
  go_wp2_with fail
  go_ret
  exact ⟨rfl, rfl⟩

set_option maxRecDepth 100000 in
set_option maxHeartbeats 1000000 in
theorem workf (c : Nat) (t x : ByteArray) (g : Nat) (w : World) (hc : w.heap[c]? = some (.cells #[.string t] 9 (0, 0))) :
    Calls Tryz.prog 137 #[.agg #[.string x, fnv g #[]], .pointer (some ⟨c, 0, none⟩)] w fun e w' => e = .returned (.bool (eqb x t)) ∧ World.grownBy w w' none := by
  have hcc : (w.alloc (.cells #[.string x, fnv g #[]] 130 (0, 0))).cell? ⟨c, 0, none⟩ = some (.string t) := by
    apply cells1; rw [Below.heap_alloc _ _ _ (Array.getElem?_eq_some_iff.1 hc).1]; exact hc
  go_enter Tryz.func137, Tryz.ntmps137
  go_wp2_with fail
  go_ret
  exact ⟨ret_bool (eqb_walk _ _), grown_alloc (grown_refl _ _) _⟩

set_option maxRecDepth 100000 in
set_option maxHeartbeats 1000000 in
theorem widx (w : World) (t : ByteArray) (c : Nat) (hc : w.heap[c]? = some (.cells #[.string t] 9 (0, 0))) (A : Nat) (rows : List (ByteArray × Nat)) (hl : rows.length ≤ 10) (hA : A < w.heap.size)
    (hr : ∀ j (h : j < rows.length), w.cell? ⟨A, j * 2, none⟩ = some (.string rows[j].1) ∧ w.cell? ⟨A, j * 2 + 1, none⟩ = some (.func (.func rows[j].2) #[] #[]))
    (i : Nat) (hi : i < rows.length) (h1 : eqb rows[i].1 t = true) (h2 : ∀ j (h : j < rows.length), j < i → eqb rows[j].1 t = false) :
    Calls Tryz.prog 136 #[.slice (some ⟨A, 0, none⟩) rows.length rows.length, .func (.func 137) #[] #[.pointer (some ⟨c, 0, none⟩)]] w fun e w' => e = .returned (.int .i64 i) ∧ w.grownBy w' none := by
  have hcl := (Array.getElem?_eq_some_iff.1 hc).1
  go_enter Tryz.func136, Tryz.ntmps136
  go_wp2_with fail
  go_loopw [8] (fun v wr => ∃ k : Nat, k ≤ i ∧ v = .int .i64 k ∧ w.grownBy wr none) (fun v _ => rows.length - (intOf v).toNat)
  case atStart => exact ⟨0, Nat.zero_le _, rfl, grown_refl _ _⟩
  case round =>
    obtain ⟨k, hk, rfl, hg⟩ := hrel
    have hcr : wr.heap[c]? = some (.cells #[.string t] 9 (0, 0)) := by rw [hg.block c hcl (by simp)]; exact hc
    have hlt : k < rows.length := by omega
    obtain ⟨r1, r2⟩ := hr k hlt
    have q1 : wr.cell? ⟨A, k * 2, none⟩ = some (.string rows[k].1) := by rw [World.cell?_of_block (hg.block A hA (by simp))]; exact r1
    have q2 : wr.cell? ⟨A, k * 2 + 1, none⟩ = some (.func (.func rows[k].2) #[] #[]) := by rw [World.cell?_of_block (hg.block A hA (by simp))]; exact r2
    clear r1 r2 hr
    by_cases he : k = i
    · have HE : Hid (eqb rows[k].1 t = true) := by subst he; exact h1
      have he' : Hid (k = i) := he
      clear he h1 h2
      go_wp2_with fail
      refine (workf c t _ _ _ hcr).mono ?_
      rw [HE.out]
      rintro e w1 ⟨rfl, hg1⟩
      go_wp2_with fail
      go_ret
      have e1 := he'.out
      subst e1
      exact ⟨rfl, grown_trans hg hg1⟩
    · have HE : Hid (eqb rows[k].1 t = false) := h2 k hlt (by omega)
      clear h1 h2
      go_wp2_with fail
      refine (workf c t _ _ _ hcr).mono ?_
      rw [HE.out]
      rintro e w1 ⟨rfl, hg1⟩
      go_wp2_with fail
      exact ⟨⟨k + 1, by omega, by go_num, grown_trans hg hg1⟩, by simp [intOf]; omega⟩

def sgRows : List (ByteArray × Nat) := [(⟨#[43]⟩, 83), (⟨#[45]⟩, 84), (⟨#[42]⟩, 85), (⟨#[61]⟩, 86), (⟨#[60]⟩, 88)]
theorem sg_rows {w : World} {A : Nat} (h : w.heap[A]? = some (.cells sgCells 130 (0, 0))) : ∀ j (h : j < sgRows.length), w.cell? ⟨A, j * 2, none⟩ = some (.string sgRows[j].1) ∧ w.cell? ⟨A, j * 2 + 1, none⟩ = some (.func (.func sgRows[j].2) #[] #[]) := by
  intro j hj
  have hj' : j < 5 := hj
  have : j = 0 ∨ j = 1 ∨ j = 2 ∨ j = 3 ∨ j = 4 := by omega
  rcases this with rfl | rfl | rfl | rfl | rfl <;> simp [World.cell?, h, sgCells, sgRows]
/-- A sign's row. -/
theorem sg_find (op : UInt8) (hop : Sign5 op) : ∃ i, ∃ h : i < sgRows.length, eqb sgRows[i].1 ⟨#[op]⟩ = true ∧ (∀ j (h : j < sgRows.length), j < i → eqb sgRows[j].1 ⟨#[op]⟩ = false) ∧ sgRows[i].2 = workOf op := by
  rcases hop with rfl | rfl | rfl | rfl | rfl
  · exact ⟨0, by decide, by decide, fun j _ hj => by omega, rfl⟩
  · exact ⟨1, by decide, by decide, fun j _ hj => by obtain rfl : j = 0 := by omega
                                                     rfl, rfl⟩
  · refine ⟨2, by decide, by decide, fun j _ hj => ?_, rfl⟩
    have : j = 0 ∨ j = 1 := by omega
    rcases this with rfl | rfl <;> rfl
  · refine ⟨3, by decide, by decide, fun j _ hj => ?_, rfl⟩
    have : j = 0 ∨ j = 1 ∨ j = 2 := by omega
    rcases this with rfl | rfl | rfl <;> rfl
  · refine ⟨4, by decide, by decide, fun j _ hj => ?_, rfl⟩
    have : j = 0 ∨ j = 1 ∨ j = 2 ∨ j = 3 := by omega
    rcases this with rfl | rfl | rfl | rfl <;> rfl

/-- What the closures share. -/
abbrev mk (st A : Nat) : Value := .agg #[ptr st, .slice (some ⟨A, 0, none⟩) 5 5]

set_option maxRecDepth 100000 in
set_option maxHeartbeats 2000000 in
theorem work_of (op : UInt8) (hop : Sign5 op) (st A : Nat) (w : World) (hA : w.heap[A]? = some (.cells sgCells 130 (0, 0))) :
    Calls Tryz.prog 125 #[mk st A, .string ⟨#[op]⟩] w fun e w' => e = .returned (fnv (workOf op) #[]) ∧ w.grownBy w' none := by
  have hmf : ∀ (fn : Fn) (first cap : Array Value) (w : World), (Instr.makeFunc fn first cap).run Tryz.prog w = .ok (.func fn first cap) w := fun _ _ _ _ => rfl
  obtain ⟨i, hi, h1, h2, h3⟩ := sg_find op hop
  have hg := grown_alloc (grown_alloc (grown_refl w none) (.cells #[ptr st, .slice (some ⟨A, 0, none⟩) 5 5] 108 (0, 0))) (.cells #[.string ⟨#[op]⟩] 9 (0, 0))
  have hx1 := alloc_at w (.cells #[ptr st, .slice (some ⟨A, 0, none⟩) 5 5] 108 (0, 0)) _ rfl
  have hx2 := alloc_at (w.alloc (.cells #[ptr st, .slice (some ⟨A, 0, none⟩) 5 5] 108 (0, 0))) (.cells #[.string ⟨#[op]⟩] 9 (0, 0)) (w.heap.size + 1) (by rw [alloc_size])
  have hx1' := keepB' hx1 (grown_alloc (grown_refl _ none) (.cells #[.string ⟨#[op]⟩] 9 (0, 0)))
  have hA2 := keepB' hA hg
  have HI : Hid (Calls Tryz.prog 136 #[.slice (some ⟨A, 0, none⟩) 5 5, .func (.func 137) #[] #[ptr (w.heap.size + 1)]] _ _) := widx _ ⟨#[op]⟩ (w.heap.size + 1) hx2 A sgRows (by decide) (heap_lt hA2) (sg_rows hA2) i hi h1 h2
  have H3 : Hid (sgRows[i].2 = workOf op) := h3
  have hi5 : i < 5 := hi
  clear hx1 hx2 h1 h2 h3
  go_enter Tryz.func125, Tryz.ntmps125
  go_wp2_with fail
  refine HI.out.mono ?_
  rintro e w1 ⟨rfl, hg1⟩
  have hA3 := keepB' hA2 hg1
  have hx3 := keepB' hx1' hg1
  obtain ⟨_, c2⟩ := sg_rows hA3 i hi
  rw [H3.out] at c2
  have d1 : w1.cell? ⟨w.heap.size, 1, none⟩ = some (.slice (some ⟨A, 0, none⟩) 5 5) := by simp [World.cell?, hx3]
  have hi6 : (i : Int) < 5 := by omega
  clear hA3 hx3 hA2 hx1'
  go_wp2_with fail
  go_ret
  exact ⟨rfl, grown_trans hg hg1⟩
end Go.Proofs.YtdpbclnpmkhooaaGreatDoor

namespace Go.Proofs.YtdpbclnpmkhooaaGreatDoor
open Go Go.Proofs Go.RowKit Skein

/-- A node becomes a closure. -/
def Made (st : Nat) (x : T) (w : World) (e : Ending) (w' : World) : Prop := ∃ f c, e = .returned (fnv f c) ∧ World.grownBy w w' none ∧ CodeAt st w' x f c
def CM (x : T) : Prop := ∀ (st A : Nat) (w : World), w.heap[A]? = some (.cells sgCells 130 (0, 0)) → Calls Tryz.prog 60 #[mk st A, pv x] w (Made st x w)

theorem ta_no (T U : TypeId) (y z : Value) (w : World) (h : ∀ w, (Instr.typeAssert (.iface T y) 47 U true).run Tryz.prog w = .ok (.tuple #[z, .bool false]) w) : (Instr.typeAssert (.iface T y) 47 U true).run Tryz.prog w = .ok (.tuple #[z, .bool false]) w := h w
theorem mf_ok (fn : Fn) (first cap : Array Value) (w : World) : (Instr.makeFunc fn first cap).run Tryz.prog w = .ok (.func fn first cap) w := rfl

set_option maxRecDepth 100000 in
set_option maxHeartbeats 2000000 in
theorem mnum (n : Nat) (st A : Nat) (w : World) : Calls Tryz.prog 89 #[mk st A, .agg #[.int .i64 n]] w (Made st (.num n) w) := by
  have hmf := mf_ok
  have hg := grown_alloc (grown_alloc (grown_alloc (grown_refl w none) (.cells #[ptr st, .slice (some ⟨A, 0, none⟩) 5 5] 108 (0, 0))) (.cells #[.int .i64 n] 133 (0, 0))) (.cells #[.int .i64 n] 127 (0, 0))
  have hx := alloc_at ((w.alloc (.cells #[ptr st, .slice (some ⟨A, 0, none⟩) 5 5] 108 (0, 0))).alloc (.cells #[.int .i64 n] 133 (0, 0))) (.cells #[.int .i64 n] 127 (0, 0)) (w.heap.size + 1 + 1) (by rw [alloc_size, alloc_size])
  go_enter Tryz.func89, Tryz.ntmps89
  go_wp2_with fail
  go_ret
  exact ⟨113, #[ptr (w.heap.size + 1 + 1)], rfl, hg, rfl, _, rfl, hx⟩

set_option maxRecDepth 100000 in
set_option maxHeartbeats 2000000 in
theorem mvar (n : Nat) (st A : Nat) (w : World) : Calls Tryz.prog 90 #[mk st A, .agg #[.int .i64 n]] w (Made st (.var n) w) := by
  have hmf := mf_ok
  have hg := grown_alloc (grown_alloc (grown_refl w none) (.cells #[ptr st, .slice (some ⟨A, 0, none⟩) 5 5] 108 (0, 0))) (.cells #[.int .i64 n] 136 (0, 0))
  have hx := alloc_at (w.alloc (.cells #[ptr st, .slice (some ⟨A, 0, none⟩) 5 5] 108 (0, 0))) (.cells #[.int .i64 n] 136 (0, 0)) (w.heap.size + 1) (by rw [alloc_size])
  go_enter Tryz.func90, Tryz.ntmps90
  go_wp2_with fail
  go_ret
  exact ⟨114, #[ptr (w.heap.size + 1)], rfl, hg, rfl, _, rfl, hx⟩

theorem CodeAt.grown {st w w' x f c} (h : CodeAt st w x f c) (hg : World.grownBy w w' none) : CodeAt st w' x f c := h.fr (b := 0) (Fr.grown (Nat.zero_le _) hg)

set_option maxRecDepth 100000 in
set_option maxHeartbeats 2000000 in
theorem mfn (m : Nat) (x : T) (ix : CM x) (st A : Nat) (w : World) (hA : w.heap[A]? = some (.cells sgCells 130 (0, 0))) : Calls Tryz.prog 91 #[mk st A, .agg #[.int .i64 m, pv x]] w (Made st (.fn m x) w) := by
  have hmf := mf_ok
  obtain ⟨T1, x1, e1⟩ := pv_iface x
  have hg := grown_alloc (grown_alloc (grown_refl w none) (.cells #[ptr st, .slice (some ⟨A, 0, none⟩) 5 5] 108 (0, 0))) (.cells #[.int .i64 m, .iface T1 x1] 139 (0, 0))
  have HC : Hid (Calls Tryz.prog 60 #[mk st A, .iface T1 x1] _ _) := e1 ▸ ix st A _ (keepB' hA hg)
  rw [e1]
  clear e1
  go_enter Tryz.func91, Tryz.ntmps91
  go_wp2_with fail
  refine HC.out.mono ?_
  rintro e w1 ⟨f, c, rfl, hg1, hc1⟩
  have hg2 := grown_alloc (grown_refl w1 none) (.cells #[fnv f c] 112 (0, 0))
  have hx := alloc_at w1 (.cells #[fnv f c] 112 (0, 0)) _ rfl
  go_wp2_with fail
  go_ret
  exact ⟨116, #[ptr w1.heap.size], rfl, grown_trans (grown_trans hg hg1) hg2, rfl, _, f, c, rfl, hx, hc1.grown hg2⟩

set_option maxRecDepth 100000 in
set_option maxHeartbeats 2000000 in
theorem cm_num (n : Nat) : CM (.num n) := by
  intro st A w hA
  have hta : ∀ (w : World), (Instr.typeAssert (.iface 133 (.agg #[.int .i64 n])) 47 133 true).run Tryz.prog w = .ok (.tuple #[.agg #[.int .i64 n], .bool true]) w := fun _ => by kernel_rfl
  show Calls Tryz.prog 60 #[mk st A, .iface 133 (.agg #[.int .i64 n])] w _
  go_enter Tryz.func60, Tryz.ntmps60
  go_wp2_with fail
  refine (mnum n st A _).mono ?_
  rintro e w1 ⟨f, c, rfl, hg1, hc1⟩
  go_wp2_with fail
  go_ret
  exact ⟨f, c, rfl, grown_trans (grown_alloc (grown_alloc (grown_refl _ _) _) _) hg1, hc1⟩
end Go.Proofs.YtdpbclnpmkhooaaGreatDoor
