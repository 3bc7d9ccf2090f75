/-
  All: every call, again and again.
  Slices that came in and are only read: they are read again as they were.
-/
import Derived.Test.YtjjlgjmebnkdjaaGreatDoorWc11
import Derived.Test.YtjjlgjmebnkdjaaGreatDoorWf04
import Derived.Test.YtjjlgjmebnkdjaaGreatDoorChecksP
import Derived.Deep.Strs
import Derived.ChangeSlices
namespace Go.Proofs.YtjjlgjmebnkdjaaGreatDoor
open Go Go.Proofs Go.RowKit Skein

theorem cell_lt {w : World} {p : Addr} {v : Value} (h : w.cell? p = some v) : p.block < w.heap.size := by
  rcases Nat.lt_or_ge p.block w.heap.size with h1 | h1
  · exact h1
  · unfold World.cell? at h
    rw [Array.getElem?_eq_none h1] at h
    cases h

set_option maxRecDepth 100000 in
set_option maxHeartbeats 8000000 in
theorem all_ok (ta : Option Addr) (tl tc : Nat) (la : Option Addr) (ll lc : Nat) (w : World) (ht : Tab w) (htl : tl ≤ 9223372036854775807) (hll : ll ≤ 9223372036854775807)
    (hT : ∀ j, j < tl → ∃ a s, ta = some a ∧ w.cell? (a.add j) = some (.string s)) (hL : ∀ j, j < ll → ∃ a n, la = some a ∧ w.cell? (a.add j) = some (.int .i64 n)) :
    Calls Tryz.prog 14 #[.slice ta tl tc, .slice la ll lc] w fun e w' => e = .returned (.bool true) ∧ Below w.heap.size w w' := by
  have HT : Hid (∀ w', Below w.heap.size w w' → Tab w') := fun w' hb => ht.belowB hb ht.lt
  have HTC : Hid (∀ w', Below w.heap.size w w' → ∀ j, j < tl → ∃ a s, ta = some a ∧ w'.cell? (a.add j) = some (.string s)) := fun w' hb j hj => by
    obtain ⟨a, s, h1, h2⟩ := hT j hj
    exact ⟨a, s, h1, by rw [hb.cell (cell_lt h2)]; exact h2⟩
  have HLC : Hid (∀ w', Below w.heap.size w w' → ∀ j, j < ll → ∃ a n, la = some a ∧ w'.cell? (a.add j) = some (.int .i64 n)) := fun w' hb j hj => by
    obtain ⟨a, n, h1, h2⟩ := hL j hj
    exact ⟨a, n, h1, by rw [hb.cell (cell_lt h2)]; exact h2⟩
  have HF : Hid (∀ w, Tab w → Calls Tryz.prog 17 #[.string ⟨#[49, 32, 58, 32, 50, 32, 58, 32, 91, 93]⟩, .int .i64 2] w fun e w' => e = .returned (.bool true) ∧ Below w.heap.size w w') := fun w ht => evaled_ok _ 2 w ht
  clear ht hT hL
  go_enter Tryz.func14, Tryz.ntmps14
  go_wp2_with fail
  go_loopw [5] (fun v wr => ∃ i : Nat, i ≤ tl ∧ v = .int .i64 i ∧ Below w.heap.size w wr) (fun v _ => tl - (intOf v).toNat)
  case atStart => exact ⟨0, Nat.zero_le _, rfl, Below.refl _ _⟩
  case round =>
    obtain ⟨i, hi, rfl, hB⟩ := hrel
    by_cases hil : i < tl
    · have hil' : (i : Int) < (tl : Int) := by omega
      have h0l' : (0 : Int) < (tl : Int) := by omega
      obtain ⟨a, s, ha, hs⟩ := HTC.out _ hB i hil
      obtain ⟨a', s0, ha', hs0⟩ := HTC.out _ hB 0 (by omega)
      rw [ha] at ha'
      cases ha'
      subst ha
      by_cases hl0 : ll = 0
      · subst hl0
        go_wp2_with fail
        refine (lists_said_ok s 0 _ (HT.out _ hB)).mono ?_
        rintro e w1 ⟨rfl, hb1⟩
        have hB1 := hB.trans (hb1.mono hB.size)
        obtain ⟨a1, s1, ha1, hs1⟩ := HTC.out _ hB1 i hil
        cases ha1
        clear hb1 hs hs0
        go_wp2_with fail
        refine (checks_ok s1 _).mono ?_
        rintro e w2 ⟨rfl, hb2⟩
        have hB2 := hB1.trans (hb2.mono hB1.size)
        obtain ⟨a2, s2, ha2, hs2⟩ := HTC.out _ hB2 i hil
        cases ha2
        clear hb2 hs1 hB1
        go_wp2_with fail
        refine (shows_ok s2 _ (HT.out _ hB2)).mono ?_
        rintro e w3 ⟨rfl, hb3⟩
        have hB3 := hB2.trans (hb3.mono hB2.size)
        obtain ⟨a3, s3, ha3, hs3⟩ := HTC.out _ hB3 0 (by omega)
        cases ha3
        have hs4 : w3.cell? a = some (.string s3) := by
          have e : a.add 0 = a := by unfold Addr.add; simp
          rw [e] at hs3; exact hs3
        clear hb3 hs2 hB2
        go_wp2_with fail
        refine (evaled_ok s3 500 _ (HT.out _ hB3)).mono ?_
        rintro e w4 ⟨rfl, hb4⟩
        have hB4 := hB3.trans (hb4.mono hB3.size)
        clear hb4 hs3 hs4 hB3
        go_wp2_with fail
        exact ⟨⟨i + 1, by omega, by go_num, hB4⟩, by simp [intOf]; omega⟩
      · have hlp : (0 : Int) < (ll : Int) := by omega
        obtain ⟨b, n, hb, hn⟩ := HLC.out _ hB (i % ll) (Nat.mod_lt _ (by omega))
        subst hb
        have hml : (i : Int) % (ll : Int) < (ll : Int) := Int.emod_lt_of_pos _ hlp
        have hmn : 0 ≤ (i : Int) % (ll : Int) := Int.emod_nonneg _ (by omega)
        have hlN : 0 < ll := by omega
        go_wp2_with fail
        refine (lists_said_ok s n _ (HT.out _ hB)).mono ?_
        rintro e w1 ⟨rfl, hb1⟩
        have hB1 := hB.trans (hb1.mono hB.size)
        obtain ⟨a1, s1, ha1, hs1⟩ := HTC.out _ hB1 i hil
        cases ha1
        clear hb1 hs hs0
        go_wp2_with fail
        refine (checks_ok s1 _).mono ?_
        rintro e w2 ⟨rfl, hb2⟩
        have hB2 := hB1.trans (hb2.mono hB1.size)
        obtain ⟨a2, s2, ha2, hs2⟩ := HTC.out _ hB2 i hil
        cases ha2
        clear hb2 hs1 hB1
        go_wp2_with fail
        refine (shows_ok s2 _ (HT.out _ hB2)).mono ?_
        rintro e w3 ⟨rfl, hb3⟩
        have hB3 := hB2.trans (hb3.mono hB2.size)
        obtain ⟨a3, s3, ha3, hs3⟩ := HTC.out _ hB3 0 (by omega)
        cases ha3
        have hs4 : w3.cell? a = some (.string s3) := by
          have e : a.add 0 = a := by unfold Addr.add; simp
          rw [e] at hs3; exact hs3
        clear hb3 hs2 hB2
        go_wp2_with fail
        refine (evaled_ok s3 500 _ (HT.out _ hB3)).mono ?_
        rintro e w4 ⟨rfl, hb4⟩
        have hB4 := hB3.trans (hb4.mono hB3.size)
        clear hb4 hs3 hs4 hB3
        go_wp2_with fail
        exact ⟨⟨i + 1, by omega, by go_num, hB4⟩, by simp [intOf]; omega⟩
    · have hil' : ¬ (i : Int) < (tl : Int) := by omega
      go_wp2_with fail
      refine (HF.out _ (HT.out _ hB)).mono ?_
      rintro e w1 ⟨rfl, hb1⟩
      have hB1 := hB.trans (hb1.mono hB.size)
      go_wp2_with fail
      go_ret
      exact ⟨rfl, hB1⟩
end Go.Proofs.YtjjlgjmebnkdjaaGreatDoor

namespace Go.Proofs.YtjjlgjmebnkdjaaGreatDoor
open Go Go.Proofs Go.RowKit Go.ChangeShapes Go.WideShapes Go.ChangeAt Go.Deep

theorem scells9 : Tryz.prog.cellsOf 9 = 1 := by kernel_rfl
theorem scells3 : Tryz.prog.cellsOf 3 = 1 := by kernel_rfl

theorem slot_lt {w : World} {p : Addr} {v : Value} (h : w.cell? p = some v) : p.block < w.heap.size := by
  rcases Nat.lt_or_ge p.block w.heap.size with h1 | h1
  · exact h1
  · unfold World.cell? at h
    rw [Array.getElem?_eq_none h1] at h
    cases h
theorem add_block (a : Addr) (j : Nat) : (a.add j).block = a.block := by unfold Addr.add; split <;> rfl

/-- A slice of numbers. -/
theorem ints_back {H : Type} {enc : TypeId × Value → H} {W : World} {v : Value} {d : DataW H} {p : List MemPlace} {t : TypeId} (ht : Tryz.prog.underlying t = some (.slice 3)) (h : DataW.Trod enc Tryz.prog W 0 (fun _ => true) true t v d p)
    (hv : ∃ a l c, v = .slice a l c) : ∃ a l c, v = .slice a l c ∧ l ≤ 9223372036854775807 ∧ (∀ j, j < l → ∃ b n, a = some b ∧ W.cell? (b.add j) = some (.int .i64 n) ∧ (Lit.int .i64 n).wf = true) ∧
      ∀ W', Below W.heap.size W W' → DataW.Trod enc Tryz.prog W' 0 (fun b => decide (b < W.heap.size)) true t v d p := by
  obtain ⟨a0, len, cap, rfl⟩ := hv
  obtain ⟨fuel, hf⟩ := h
  rcases open_ints ht Tryz.underlying3 scells3 hf with ⟨hcs, hx⟩ | ⟨a, len', cap', zs, hcs, _, hl, hm, hz, hx, hcell, hwz⟩
  · simp [Value.cells] at hcs
    obtain ⟨rfl, rfl, rfl⟩ := hcs
    simp only [Prod.mk.injEq] at hx
    obtain ⟨rfl, rfl⟩ := hx
    exact ⟨none, 0, 0, rfl, by omega, fun j hj => by omega, fun W' _ => shut_slice_nil ht⟩
  · simp [Value.cells] at hcs
    obtain ⟨rfl, rfl, rfl⟩ := hcs
    simp only [Prod.mk.injEq] at hx
    obtain ⟨rfl, rfl⟩ := hx
    simp only [if_true] at hz
    refine ⟨_, _, _, rfl, by unfold maxLen at hm; omega, fun j hj => ⟨a, _, rfl, hcell j (by omega), hwz _ ?_⟩, fun W' hb => ?_⟩
    · rw [List.getD_eq_getElem?_getD, List.getElem?_eq_getElem (by omega)]
      exact List.getElem_mem _
    · have hcell' : ∀ i, i < zs.length → W'.cell? (a.add i) = some (.int .i64 (zs.getD i 0)) := fun i hi => by rw [hb.cell (slot_lt (hcell i hi))]; exact hcell i hi
      have hzz : zs.length = (if decide (a.block < W.heap.size) then cap else len) := by
        by_cases hz0 : zs.length = 0
        · split <;> omega
        · have := slot_lt (hcell 0 (by omega))
          rw [add_block] at this
          rw [if_pos (by simpa using this)]; exact hz
      have t0 := shut_ints (enc := enc) (w := W') (base := 0) (spare := fun b => decide (b < W.heap.size)) (held := true) (a := a) (len := len) (cap := cap) (zs := zs) 0 ht Tryz.underlying3 scells3 (Nat.zero_le _) hl hm hzz hcell' hwz
      exact ⟨2, by simpa [Value.cells] using t0⟩

/-- A slice of texts. -/
theorem strs_back {H : Type} {enc : TypeId × Value → H} {W : World} {v : Value} {d : DataW H} {p : List MemPlace} {t : TypeId} (ht : Tryz.prog.underlying t = some (.slice 9)) (h : DataW.Trod enc Tryz.prog W 0 (fun _ => true) true t v d p)
    (hv : ∃ a l c, v = .slice a l c) : ∃ a l c, v = .slice a l c ∧ l ≤ 9223372036854775807 ∧ (∀ j, j < l → ∃ b s, a = some b ∧ W.cell? (b.add j) = some (.string s)) ∧
      ∀ W', Below W.heap.size W W' → DataW.Trod enc Tryz.prog W' 0 (fun b => decide (b < W.heap.size)) true t v d p := by
  obtain ⟨a0, len, cap, rfl⟩ := hv
  obtain ⟨fuel, hf⟩ := h
  rcases open_strs ht Tryz.underlying9 scells9 hf with ⟨hcs, hx⟩ | ⟨a, len', cap', m, Sx, hcs, _, hl, hm, hz, hx, hcell⟩
  · simp [Value.cells] at hcs
    obtain ⟨rfl, rfl, rfl⟩ := hcs
    simp only [Prod.mk.injEq] at hx
    obtain ⟨rfl, rfl⟩ := hx
    exact ⟨none, 0, 0, rfl, by omega, fun j hj => by omega, fun W' _ => shut_slice_nil ht⟩
  · simp [Value.cells] at hcs
    obtain ⟨rfl, rfl, rfl⟩ := hcs
    simp only [if_true] at hz
    rw [hz] at hx hcell
    simp only [Prod.mk.injEq] at hx
    obtain ⟨rfl, rfl⟩ := hx
    refine ⟨_, _, _, rfl, by unfold maxLen at hm; omega, fun j hj => ⟨a, _, rfl, (hcell j (by omega)).1⟩, fun W' hb => ?_⟩
    have hcell' : ∀ i, i < cap → W'.cell? (a.add i) = some (.string (Sx i)) := fun i hi => by rw [hb.cell (slot_lt (hcell i hi).1)]; exact (hcell i hi).1
    by_cases hc0 : cap = 0
    · subst hc0
      obtain rfl : len = 0 := by omega
      by_cases hsp : a.block < W.heap.size
      · obtain ⟨n, hn⟩ := shut_slice_whole_cells (enc := enc) (w := W') (base := 0) (spare := fun b => decide (b < W.heap.size)) (held := true) (a := a) (len := 0) (cap := 0) ht (Nat.zero_le _) (Nat.le_refl _) hm (by simpa using hsp) (fun i => .lit (.string (Sx i).data.toList)) (fun _ => []) (fun i hi => by omega)
        exact ⟨n, by simpa [Value.cells, scells9] using hn⟩
      · obtain ⟨n, hn⟩ := shut_slice_cells (enc := enc) (w := W') (base := 0) (spare := fun b => decide (b < W.heap.size)) (held := true) (a := a) (len := 0) (cap := 0) ht (Nat.zero_le _) (Nat.le_refl _) hm (by simpa using hsp) (fun i => .lit (.string (Sx i).data.toList)) (fun _ => []) (fun i hi => by omega)
        exact ⟨n, by simpa [Value.cells, scells9] using hn⟩
    · have hbl := slot_lt (hcell 0 (by omega)).1
      rw [add_block] at hbl
      have hspot : a.spot = none := by
        have := World.cell?_spot (hcell 0 (by omega)).1
        simpa [Addr.add] using this
      obtain ⟨b, off, spot⟩ := a
      simp only at hspot
      subst hspot
      obtain ⟨n, hn⟩ := shut_strs_whole (enc := enc) (w := W') (base := 0) (spare := fun b => decide (b < W.heap.size)) (held := true) (b := b) (off := off) (len := len) (cap := cap) ht Tryz.underlying9 scells9 (Nat.zero_le _) hl hm (by simpa using hbl) Sx (fun i hi => by rw [← add_plain]; exact hcell' i hi) (fun i hi => (hcell i hi).2)
      exact ⟨n, by simpa [Value.cells] using hn⟩
end Go.Proofs.YtjjlgjmebnkdjaaGreatDoor
