/-
  Slices that came in and are only read: they are read again as they were.
-/
import Derived.Test.YtjjlgjmebnkdjaaGreatDoorChecksP
import Derived.Deep.Strs
import Derived.ChangeSlices
namespace Go.Proofs.YtjjlgjmebnkdjaaGreatDoor
open Go Go.Proofs Go.RowKit Go.ChangeShapes Go.WideShapes Go.ChangeAt Go.Deep

theorem scells9 : Tryz.prog.cellsOf 9 = 1 := by kernel_rfl
theorem scells3 : Tryz.prog.cellsOf 3 = 1 := by kernel_rfl

theorem slot_lt {w : World} {p : Addr} {v : Value} (h : w.cell? p = some v) : p.block < w.heap.size := by
  rcases Nat.lt_or_ge p.block w.heap.size with h1 | h1
  · exact h1
  · unfold World.cell? at h
    rw [Array.getElem?_eq_none h1] at h
    cases h
theorem add_block (a : Addr) (j : Nat) : (a.add j).block = a.block := by unfold Addr.add; split <;> rfl

/-- A slice of numbers. -/
theorem ints_back {H : Type} {enc : TypeId × Value → H} {W : World} {v : Value} {d : DataW H} {p : List MemPlace} {t : TypeId} (ht : Tryz.prog.underlying t = some (.slice 3)) (h : DataW.Trod enc Tryz.prog W 0 (fun _ => true) true t v d p)
    (hv : ∃ a l c, v = .slice a l c) : ∃ a l c, v = .slice a l c ∧ l ≤ 9223372036854775807 ∧ (∀ j, j < l → ∃ b n, a = some b ∧ W.cell? (b.add j) = some (.int .i64 n) ∧ (Lit.int .i64 n).wf = true) ∧
      ∀ W', Below W.heap.size W W' → DataW.Trod enc Tryz.prog W' 0 (fun b => decide (b < W.heap.size)) true t v d p := by
  obtain ⟨a0, len, cap, rfl⟩ := hv
  obtain ⟨fuel, hf⟩ := h
  rcases open_ints ht Tryz.underlying3 scells3 hf with ⟨hcs, hx⟩ | ⟨a, len', cap', zs, hcs, _, hl, hm, hz, hx, hcell, hwz⟩
  · simp [Value.cells] at hcs
    obtain ⟨rfl, rfl, rfl⟩ := hcs
    simp only [Prod.mk.injEq] at hx
    obtain ⟨rfl, rfl⟩ := hx
    exact ⟨none, 0, 0, rfl, by omega, fun j hj => by omega, fun W' _ => shut_slice_nil ht⟩
  · simp [Value.cells] at hcs
    obtain ⟨rfl, rfl, rfl⟩ := hcs
    simp only [Prod.mk.injEq] at hx
    obtain ⟨rfl, rfl⟩ := hx
    simp only [if_true] at hz
    refine ⟨_, _, _, rfl, by unfold maxLen at hm; omega, fun j hj => ⟨a, _, rfl, hcell j (by omega), hwz _ ?_⟩, fun W' hb => ?_⟩
    · rw [List.getD_eq_getElem?_getD, List.getElem?_eq_getElem (by omega)]
      exact List.getElem_mem _
    · have hcell' : ∀ i, i < zs.length → W'.cell? (a.add i) = some (.int .i64 (zs.getD i 0)) := fun i hi => by rw [hb.cell (slot_lt (hcell i hi))]; exact hcell i hi
      have hzz : zs.length = (if decide (a.block < W.heap.size) then cap else len) := by
        by_cases hz0 : zs.length = 0
        · split <;> omega
        · have := slot_lt (hcell 0 (by omega))
          rw [add_block] at this
          rw [if_pos (by simpa using this)]; exact hz
      have t0 := shut_ints (enc := enc) (w := W') (base := 0) (spare := fun b => decide (b < W.heap.size)) (held := true) (a := a) (len := len) (cap := cap) (zs := zs) 0 ht Tryz.underlying3 scells3 (Nat.zero_le _) hl hm hzz hcell' hwz
      exact ⟨2, by simpa [Value.cells] using t0⟩

/-- A slice of texts. -/
theorem strs_back {H : Type} {enc : TypeId × Value → H} {W : World} {v : Value} {d : DataW H} {p : List MemPlace} {t : TypeId} (ht : Tryz.prog.underlying t = some (.slice 9)) (h : DataW.Trod enc Tryz.prog W 0 (fun _ => true) true t v d p)
    (hv : ∃ a l c, v = .slice a l c) : ∃ a l c, v = .slice a l c ∧ l ≤ 9223372036854775807 ∧ (∀ j, j < l → ∃ b s, a = some b ∧ W.cell? (b.add j) = some (.string s)) ∧
      ∀ W', Below W.heap.size W W' → DataW.Trod enc Tryz.prog W' 0 (fun b => decide (b < W.heap.size)) true t v d p := by
  obtain ⟨a0, len, cap, rfl⟩ := hv
  obtain ⟨fuel, hf⟩ := h
  rcases open_strs ht Tryz.underlying9 scells9 hf with ⟨hcs, hx⟩ | ⟨a, len', cap', m, Sx, hcs, _, hl, hm, hz, hx, hcell⟩
  · simp [Value.cells] at hcs
    obtain ⟨rfl, rfl, rfl⟩ := hcs
    simp only [Prod.mk.injEq] at hx
    obtain ⟨rfl, rfl⟩ := hx
    exact ⟨none, 0, 0, rfl, by omega, fun j hj => by omega, fun W' _ => shut_slice_nil ht⟩
  · simp [Value.cells] at hcs
    obtain ⟨rfl, rfl, rfl⟩ := hcs
    simp only [if_true] at hz
    rw [hz] at hx hcell
    simp only [Prod.mk.injEq] at hx
    obtain ⟨rfl, rfl⟩ := hx
    refine ⟨_, _, _, rfl, by unfold maxLen at hm; omega, fun j hj => ⟨a, _, rfl, (hcell j (by omega)).1⟩, fun W' hb => ?_⟩
    have hcell' : ∀ i, i < cap → W'.cell? (a.add i) = some (.string (Sx i)) := fun i hi => by rw [hb.cell (slot_lt (hcell i hi).1)]; exact (hcell i hi).1
    by_cases hc0 : cap = 0
    · subst hc0
      obtain rfl : len = 0 := by omega
      by_cases hsp : a.block < W.heap.size
      · obtain ⟨n, hn⟩ := shut_slice_whole_cells (enc := enc) (w := W') (base := 0) (spare := fun b => decide (b < W.heap.size)) (held := true) (a := a) (len := 0) (cap := 0) ht (Nat.zero_le _) (Nat.le_refl _) hm (by simpa using hsp) (fun i => .lit (.string (Sx i).data.toList)) (fun _ => []) (fun i hi => by omega)
        exact ⟨n, by simpa [Value.cells, scells9] using hn⟩
      · obtain ⟨n, hn⟩ := shut_slice_cells (enc := enc) (w := W') (base := 0) (spare := fun b => decide (b < W.heap.size)) (held := true) (a := a) (len := 0) (cap := 0) ht (Nat.zero_le _) (Nat.le_refl _) hm (by simpa using hsp) (fun i => .lit (.string (Sx i).data.toList)) (fun _ => []) (fun i hi => by omega)
        exact ⟨n, by simpa [Value.cells, scells9] using hn⟩
    · have hbl := slot_lt (hcell 0 (by omega)).1
      rw [add_block] at hbl
      have hspot : a.spot = none := by
        have := World.cell?_spot (hcell 0 (by omega)).1
        simpa [Addr.add] using this
      obtain ⟨b, off, spot⟩ := a
      simp only at hspot
      subst hspot
      obtain ⟨n, hn⟩ := shut_strs_whole (enc := enc) (w := W') (base := 0) (spare := fun b => decide (b < W.heap.size)) (held := true) (b := b) (off := off) (len := len) (cap := cap) ht Tryz.underlying9 scells9 (Nat.zero_le _) hl hm (by simpa using hbl) Sx (fun i hi => by rw [← add_plain]; exact hcell' i hi) (fun i hi => (hcell i hi).2)
      exact ⟨n, by simpa [Value.cells] using hn⟩
end Go.Proofs.YtjjlgjmebnkdjaaGreatDoor
