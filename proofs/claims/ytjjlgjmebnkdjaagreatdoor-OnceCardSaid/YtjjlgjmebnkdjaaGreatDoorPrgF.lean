/-
  The program's parser: between.
-/
import Derived.Test.YtjjlgjmebnkdjaaGreatDoorPrgE
namespace Go.Proofs.YtjjlgjmebnkdjaaGreatDoor
open Go Go.Proofs Go.RowKit Skein

structure IRow where
  kind : ByteArray
  near : Nat
  right : Nat
  again : Bool
  fn : Nat
  cap : Array Value

def fitsRow (r : IRow) (kd : ByteArray) (n : Nat) : Bool := eqb r.kind kd && r.near == n

set_option maxRecDepth 100000 in
set_option maxHeartbeats 1000000 in
theorem pbetween1 {b s m w} {n : Nat} (h : PS b s m w) (c1 c2 : Nat) (hc1 : w.heap[c1]? = some (.cells #[.pointer (some ⟨b, 0, none⟩)] 96 (0, 0))) (hc2 : w.heap[c2]? = some (.cells #[.int .i64 n] 3 (0, 0))) (r : IRow) :
    Calls Tryz.prog 153 #[.agg #[.string r.kind, .int .i64 r.near, .int .i64 r.right, .bool r.again, .func (.func r.fn) #[] r.cap], .pointer (some ⟨c1, 0, none⟩), .pointer (some ⟨c2, 0, none⟩)] w fun e w' => e = .returned (.bool (fitsRow r (kindOf m.tok) n)) ∧ w.grownBy w' none := by
  obtain ⟨gv, iv, ev, av, hB, ho, ht⟩ := (h.grown (grown_alloc (grown_refl _ _) (.cells #[.string r.kind, .int .i64 r.near, .int .i64 r.right, .bool r.again, .func (.func r.fn) #[] r.cap] 124 (0, 0)))).blk
  obtain ⟨d0, d1, d2, d3, d4, d5, d6, d7, d8, hf, hlt0⟩ := hB.cells
  have e1 : (w.alloc (.cells #[.string r.kind, .int .i64 r.near, .int .i64 r.right, .bool r.again, .func (.func r.fn) #[] r.cap] 124 (0, 0))).cell? ⟨c1, 0, none⟩ = some (.pointer (some ⟨b, 0, none⟩)) := by
    apply cells1; rw [Below.heap_alloc _ _ _ (Array.getElem?_eq_some_iff.1 hc1).1]; exact hc1
  have e2 : (w.alloc (.cells #[.string r.kind, .int .i64 r.near, .int .i64 r.right, .bool r.again, .func (.func r.fn) #[] r.cap] 124 (0, 0))).cell? ⟨c2, 0, none⟩ = some (.int .i64 n) := by
    apply cells1; rw [Below.heap_alloc _ _ _ (Array.getElem?_eq_some_iff.1 hc2).1]; exact hc2
  cases hq : eqb r.kind (kindOf m.tok)
  · have hq2 : (r.kind.toList == (kindOf m.tok).toList) = false := by rw [eqb_walk, hq]
    have hfin : Hid (fitsRow r (kindOf m.tok) n = false) := by simp [Hid, fitsRow, hq]
    clear hq
    go_enter Tryz.func153, Tryz.ntmps153
    go_wp2_with fail
    go_quiet (fail)
    go_wp2_with fail
    go_ret
    exact ⟨ret_bool hfin.out.symm, grown_drewN (grown_alloc (grown_refl _ _) _) _⟩
  · have hq2 : (r.kind.toList == (kindOf m.tok).toList) = true := by rw [eqb_walk, hq]
    have hfin : Hid (fitsRow r (kindOf m.tok) n = ((r.near : Int) == (n : Int))) := by
      simp only [Hid, fitsRow, hq, Bool.true_and]; rw [Bool.eq_iff_iff, beq_iff_eq, beq_iff_eq]; omega
    clear hq
    go_enter Tryz.func153, Tryz.ntmps153
    go_wp2_with fail
    go_quiet (fail)
    go_wp2_with fail
    go_ret
    exact ⟨ret_bool hfin.out.symm, grown_drewN (grown_alloc (grown_refl _ _) _) _⟩

set_option maxRecDepth 100000 in
set_option maxHeartbeats 1000000 in
theorem pidxI_some {b s m w} {n : Nat} (h : PS b s m w) (c1 c2 : Nat) (hc1 : w.heap[c1]? = some (.cells #[.pointer (some ⟨b, 0, none⟩)] 96 (0, 0))) (hc2 : w.heap[c2]? = some (.cells #[.int .i64 n] 3 (0, 0))) (A : Nat) (rows : List IRow) (hl : rows.length ≤ 10) (hA : A < w.heap.size)
    (hr : ∀ j (h : j < rows.length), w.cell? ⟨A, j * 5, none⟩ = some (.string rows[j].kind) ∧ w.cell? ⟨A, j * 5 + 1, none⟩ = some (.int .i64 rows[j].near) ∧ w.cell? ⟨A, j * 5 + 2, none⟩ = some (.int .i64 rows[j].right) ∧ w.cell? ⟨A, j * 5 + 3, none⟩ = some (.bool rows[j].again) ∧ w.cell? ⟨A, j * 5 + 4, none⟩ = some (.func (.func rows[j].fn) #[] rows[j].cap))
    (i : Nat) (hi : i < rows.length) (h1 : fitsRow rows[i] (kindOf m.tok) n = true) (h2 : ∀ j (h : j < rows.length), j < i → fitsRow rows[j] (kindOf m.tok) n = false) :
    Calls Tryz.prog 152 #[.slice (some ⟨A, 0, none⟩) rows.length rows.length, .func (.func 153) #[] #[.pointer (some ⟨c1, 0, none⟩), .pointer (some ⟨c2, 0, none⟩)]] w fun e w' => e = .returned (.int .i64 i) ∧ w.grownBy w' none := by
  have hcl1 := (Array.getElem?_eq_some_iff.1 hc1).1
  have hcl2 := (Array.getElem?_eq_some_iff.1 hc2).1
  go_enter Tryz.func152, Tryz.ntmps152
  go_wp2_with fail
  go_loopw [8] (fun v wr => ∃ k : Nat, k ≤ i ∧ v = .int .i64 k ∧ w.grownBy wr none) (fun v _ => rows.length - (intOf v).toNat)
  case atStart => exact ⟨0, Nat.zero_le _, rfl, grown_refl _ _⟩
  case round =>
    obtain ⟨k, hk, rfl, hg⟩ := hrel
    have hP := h.grown hg
    have hcr1 : wr.heap[c1]? = some (.cells #[.pointer (some ⟨b, 0, none⟩)] 96 (0, 0)) := by rw [hg.block c1 hcl1 (by simp)]; exact hc1
    have hcr2 : wr.heap[c2]? = some (.cells #[.int .i64 n] 3 (0, 0)) := by rw [hg.block c2 hcl2 (by simp)]; exact hc2
    have hlt : k < rows.length := by omega
    obtain ⟨r1, r2, r3, r4, r5⟩ := hr k hlt
    have q1 : wr.cell? ⟨A, k * 5, none⟩ = some (.string rows[k].kind) := by rw [World.cell?_of_block (hg.block A hA (by simp))]; exact r1
    have q2 : wr.cell? ⟨A, k * 5 + 1, none⟩ = some (.int .i64 rows[k].near) := by rw [World.cell?_of_block (hg.block A hA (by simp))]; exact r2
    have q3 : wr.cell? ⟨A, k * 5 + 2, none⟩ = some (.int .i64 rows[k].right) := by rw [World.cell?_of_block (hg.block A hA (by simp))]; exact r3
    have q4 : wr.cell? ⟨A, k * 5 + 3, none⟩ = some (.bool rows[k].again) := by rw [World.cell?_of_block (hg.block A hA (by simp))]; exact r4
    have q5 : wr.cell? ⟨A, k * 5 + 4, none⟩ = some (.func (.func rows[k].fn) #[] rows[k].cap) := by rw [World.cell?_of_block (hg.block A hA (by simp))]; exact r5
    clear r1 r2 r3 r4 r5 hr
    by_cases he : k = i
    · have HE : Hid (fitsRow rows[k] (kindOf m.tok) n = true) := by subst he; exact h1
      have he' : Hid (k = i) := he
      clear he h1 h2
      go_wp2_with fail
      refine (pbetween1 hP c1 c2 hcr1 hcr2 rows[k]).mono ?_
      rw [HE.out]
      rintro e w1 ⟨rfl, hg1⟩
      go_wp2_with fail
      go_ret
      have e1 := he'.out
      subst e1
      exact ⟨rfl, grown_trans hg hg1⟩
    · have HE : Hid (fitsRow rows[k] (kindOf m.tok) n = false) := h2 k hlt (by omega)
      clear h1 h2
      go_wp2_with fail
      refine (pbetween1 hP c1 c2 hcr1 hcr2 rows[k]).mono ?_
      rw [HE.out]
      rintro e w1 ⟨rfl, hg1⟩
      go_wp2_with fail
      exact ⟨⟨k + 1, by omega, by go_num, grown_trans hg hg1⟩, by simp [intOf]; omega⟩

set_option maxRecDepth 100000 in
set_option maxHeartbeats 1000000 in
theorem pidxI_none {b s m w} {n : Nat} (h : PS b s m w) (c1 c2 : Nat) (hc1 : w.heap[c1]? = some (.cells #[.pointer (some ⟨b, 0, none⟩)] 96 (0, 0))) (hc2 : w.heap[c2]? = some (.cells #[.int .i64 n] 3 (0, 0))) (A : Nat) (rows : List IRow) (hl : rows.length ≤ 10) (hA : A < w.heap.size)
    (hr : ∀ j (h : j < rows.length), w.cell? ⟨A, j * 5, none⟩ = some (.string rows[j].kind) ∧ w.cell? ⟨A, j * 5 + 1, none⟩ = some (.int .i64 rows[j].near) ∧ w.cell? ⟨A, j * 5 + 2, none⟩ = some (.int .i64 rows[j].right) ∧ w.cell? ⟨A, j * 5 + 3, none⟩ = some (.bool rows[j].again) ∧ w.cell? ⟨A, j * 5 + 4, none⟩ = some (.func (.func rows[j].fn) #[] rows[j].cap))
    (h2 : ∀ j (h : j < rows.length), fitsRow rows[j] (kindOf m.tok) n = false) :
    Calls Tryz.prog 152 #[.slice (some ⟨A, 0, none⟩) rows.length rows.length, .func (.func 153) #[] #[.pointer (some ⟨c1, 0, none⟩), .pointer (some ⟨c2, 0, none⟩)]] w fun e w' => e = .returned (.int .i64 (-1)) ∧ w.grownBy w' none := by
  have hcl1 := (Array.getElem?_eq_some_iff.1 hc1).1
  have hcl2 := (Array.getElem?_eq_some_iff.1 hc2).1
  go_enter Tryz.func152, Tryz.ntmps152
  go_wp2_with fail
  go_loopw [8] (fun v wr => ∃ k : Nat, k ≤ rows.length ∧ v = .int .i64 k ∧ w.grownBy wr none) (fun v _ => rows.length - (intOf v).toNat)
  case atStart => exact ⟨0, Nat.zero_le _, rfl, grown_refl _ _⟩
  case round =>
    obtain ⟨k, hk, rfl, hg⟩ := hrel
    have hP := h.grown hg
    have hcr1 : wr.heap[c1]? = some (.cells #[.pointer (some ⟨b, 0, none⟩)] 96 (0, 0)) := by rw [hg.block c1 hcl1 (by simp)]; exact hc1
    have hcr2 : wr.heap[c2]? = some (.cells #[.int .i64 n] 3 (0, 0)) := by rw [hg.block c2 hcl2 (by simp)]; exact hc2
    by_cases hlt : k < rows.length
    · obtain ⟨r1, r2, r3, r4, r5⟩ := hr k hlt
      have q1 : wr.cell? ⟨A, k * 5, none⟩ = some (.string rows[k].kind) := by rw [World.cell?_of_block (hg.block A hA (by simp))]; exact r1
      have q2 : wr.cell? ⟨A, k * 5 + 1, none⟩ = some (.int .i64 rows[k].near) := by rw [World.cell?_of_block (hg.block A hA (by simp))]; exact r2
      have q3 : wr.cell? ⟨A, k * 5 + 2, none⟩ = some (.int .i64 rows[k].right) := by rw [World.cell?_of_block (hg.block A hA (by simp))]; exact r3
      have q4 : wr.cell? ⟨A, k * 5 + 3, none⟩ = some (.bool rows[k].again) := by rw [World.cell?_of_block (hg.block A hA (by simp))]; exact r4
      have q5 : wr.cell? ⟨A, k * 5 + 4, none⟩ = some (.func (.func rows[k].fn) #[] rows[k].cap) := by rw [World.cell?_of_block (hg.block A hA (by simp))]; exact r5
      clear r1 r2 r3 r4 r5 hr
      have HE : Hid (fitsRow rows[k] (kindOf m.tok) n = false) := h2 k hlt
      clear h2
      go_wp2_with fail
      refine (pbetween1 hP c1 c2 hcr1 hcr2 rows[k]).mono ?_
      rw [HE.out]
      rintro e w1 ⟨rfl, hg1⟩
      go_wp2_with fail
      exact ⟨⟨k + 1, by omega, by go_num, grown_trans hg hg1⟩, by simp [intOf]; omega⟩
    · clear h2 hr
      go_wp2_with fail
      go_ret
      exact ⟨rfl, hg⟩

theorem cells5 {w : World} {k : Nat} {a b c d e : Value} {T : TypeId} (h : w.heap[k]? = some (.cells #[a, b, c, d, e] T (0, 0))) :
    w.cell? ⟨k, 0, none⟩ = some a ∧ w.cell? ⟨k, 1, none⟩ = some b ∧ w.cell? ⟨k, 2, none⟩ = some c ∧ w.cell? ⟨k, 3, none⟩ = some d ∧ w.cell? ⟨k, 4, none⟩ = some e := by
  refine ⟨?_, ?_, ?_, ?_, ?_⟩
  all_goals simp [World.cell?, h]

set_option maxRecDepth 100000 in
set_option maxHeartbeats 1000000 in
theorem pbetween_some {b s m w} {n : Nat} (h : PS b s m w) (A : Nat) (rows : List IRow) (hl : rows.length ≤ 10) (hA : A < w.heap.size) (h6 : w.cell? ⟨b, 6, none⟩ = some (.slice (some ⟨A, 0, none⟩) rows.length rows.length))
    (hr : ∀ j (h : j < rows.length), w.cell? ⟨A, j * 5, none⟩ = some (.string rows[j].kind) ∧ w.cell? ⟨A, j * 5 + 1, none⟩ = some (.int .i64 rows[j].near) ∧ w.cell? ⟨A, j * 5 + 2, none⟩ = some (.int .i64 rows[j].right) ∧ w.cell? ⟨A, j * 5 + 3, none⟩ = some (.bool rows[j].again) ∧ w.cell? ⟨A, j * 5 + 4, none⟩ = some (.func (.func rows[j].fn) #[] rows[j].cap))
    (i : Nat) (hi : i < rows.length) (h1 : fitsRow rows[i] (kindOf m.tok) n = true) (h2 : ∀ j (h : j < rows.length), j < i → fitsRow rows[j] (kindOf m.tok) n = false) :
    Calls Tryz.prog 127 #[.pointer (some ⟨b, 0, none⟩), .int .i64 n] w fun e w' => e = .returned (.tuple #[.agg #[.string rows[i].kind, .int .i64 rows[i].near, .int .i64 rows[i].right, .bool rows[i].again, .func (.func rows[i].fn) #[] rows[i].cap], .bool true]) ∧ w.grownBy w' none := by
  have hmf : ∀ (fn : Fn) (first cap : Array Value) (w : World), (Instr.makeFunc fn first cap).run Tryz.prog w = .ok (.func fn first cap) w := fun _ _ _ _ => rfl
  have HR : Hid (∀ j (h : j < rows.length), w.cell? ⟨A, j * 5, none⟩ = some (.string rows[j].kind) ∧ w.cell? ⟨A, j * 5 + 1, none⟩ = some (.int .i64 rows[j].near) ∧ w.cell? ⟨A, j * 5 + 2, none⟩ = some (.int .i64 rows[j].right) ∧ w.cell? ⟨A, j * 5 + 3, none⟩ = some (.bool rows[j].again) ∧ w.cell? ⟨A, j * 5 + 4, none⟩ = some (.func (.func rows[j].fn) #[] rows[j].cap)) := hr
  have H1 : Hid (fitsRow rows[i] (kindOf m.tok) n = true) := h1
  have H2 : Hid (∀ j (h : j < rows.length), j < i → fitsRow rows[j] (kindOf m.tok) n = false) := h2
  clear hr h2 h1
  have h6' : (((w.alloc (.cells #[.pointer (some ⟨b, 0, none⟩)] 96 (0, 0))).alloc (.cells #[.int .i64 n] 3 (0, 0))).alloc (.cells #[.string ⟨#[]⟩, .int .i64 0, .int .i64 0, .bool false, .nilFunc] 124 (0, 0))).cell? ⟨b, 6, none⟩ = some (.slice (some ⟨A, 0, none⟩) rows.length rows.length) := by
    rw [World.cell?_of_block (a := ⟨b, 6, none⟩) (w := w) ((grown_alloc (grown_alloc (grown_alloc (grown_refl w none) _) _) _).block b h.lt (by simp))]; exact h6
  go_enter Tryz.func127, Tryz.ntmps127
  go_wp2_with fail
  have hg0 : w.grownBy (((w.alloc (.cells #[.pointer (some ⟨b, 0, none⟩)] 96 (0, 0))).alloc (.cells #[.int .i64 n] 3 (0, 0))).alloc (.cells #[.string ⟨#[]⟩, .int .i64 0, .int .i64 0, .bool false, .nilFunc] 124 (0, 0))) none := grown_alloc (grown_alloc (grown_alloc (grown_refl _ _) _) _) _
  have hx0 : (((w.alloc (.cells #[.pointer (some ⟨b, 0, none⟩)] 96 (0, 0))).alloc (.cells #[.int .i64 n] 3 (0, 0))).alloc (.cells #[.string ⟨#[]⟩, .int .i64 0, .int .i64 0, .bool false, .nilFunc] 124 (0, 0))).heap[w.heap.size]? = some (.cells #[.pointer (some ⟨b, 0, none⟩)] 96 (0, 0)) := by
    rw [Below.heap_alloc _ _ _ (by simp; omega), Below.heap_alloc _ _ _ (by simp)]; exact alloc_at _ _ _ rfl
  have hx1 : (((w.alloc (.cells #[.pointer (some ⟨b, 0, none⟩)] 96 (0, 0))).alloc (.cells #[.int .i64 n] 3 (0, 0))).alloc (.cells #[.string ⟨#[]⟩, .int .i64 0, .int .i64 0, .bool false, .nilFunc] 124 (0, 0))).heap[w.heap.size + 1]? = some (.cells #[.int .i64 n] 3 (0, 0)) := by
    rw [Below.heap_alloc _ _ _ (by simp)]; exact alloc_at _ _ _ (by simp)
  have hx2 : (((w.alloc (.cells #[.pointer (some ⟨b, 0, none⟩)] 96 (0, 0))).alloc (.cells #[.int .i64 n] 3 (0, 0))).alloc (.cells #[.string ⟨#[]⟩, .int .i64 0, .int .i64 0, .bool false, .nilFunc] 124 (0, 0))).heap[w.heap.size + 1 + 1]? = some (.cells #[.string ⟨#[]⟩, .int .i64 0, .int .i64 0, .bool false, .nilFunc] 124 (0, 0)) := alloc_at _ _ _ (by simp)
  generalize ((w.alloc (.cells #[.pointer (some ⟨b, 0, none⟩)] 96 (0, 0))).alloc (.cells #[.int .i64 n] 3 (0, 0))).alloc (.cells #[.string ⟨#[]⟩, .int .i64 0, .int .i64 0, .bool false, .nilFunc] 124 (0, 0)) = W at hg0 hx0 hx1 hx2 h6' ⊢
  have HW : Hid (∀ j (h : j < rows.length), W.cell? ⟨A, j * 5, none⟩ = some (.string rows[j].kind) ∧ W.cell? ⟨A, j * 5 + 1, none⟩ = some (.int .i64 rows[j].near) ∧ W.cell? ⟨A, j * 5 + 2, none⟩ = some (.int .i64 rows[j].right) ∧ W.cell? ⟨A, j * 5 + 3, none⟩ = some (.bool rows[j].again) ∧ W.cell? ⟨A, j * 5 + 4, none⟩ = some (.func (.func rows[j].fn) #[] rows[j].cap)) := fun j hj => by
    have e := hg0.block A hA (by simp)
    rw [World.cell?_of_block (a := ⟨A, j * 5, none⟩) e, World.cell?_of_block (a := ⟨A, j * 5 + 1, none⟩) e, World.cell?_of_block (a := ⟨A, j * 5 + 2, none⟩) e, World.cell?_of_block (a := ⟨A, j * 5 + 3, none⟩) e, World.cell?_of_block (a := ⟨A, j * 5 + 4, none⟩) e]; exact HR.out j hj
  have hAW : A < W.heap.size := Nat.lt_of_lt_of_le hA hg0.size
  refine (pidxI_some (h.grown hg0) _ _ hx0 hx1 A rows hl hAW HW.out i hi H1.out H2.out).mono ?_
  rintro e w1 ⟨rfl, hg1⟩
  obtain ⟨r1, r2, r3, r4, r5⟩ := HW.out i hi
  have e := hg1.block A hAW (by simp)
  have q1 : w1.cell? ⟨A, i * 5, none⟩ = some (.string rows[i].kind) := by rw [World.cell?_of_block e]; exact r1
  have q2 : w1.cell? ⟨A, i * 5 + 1, none⟩ = some (.int .i64 rows[i].near) := by rw [World.cell?_of_block e]; exact r2
  have q3 : w1.cell? ⟨A, i * 5 + 2, none⟩ = some (.int .i64 rows[i].right) := by rw [World.cell?_of_block e]; exact r3
  have q4 : w1.cell? ⟨A, i * 5 + 3, none⟩ = some (.bool rows[i].again) := by rw [World.cell?_of_block e]; exact r4
  have q5 : w1.cell? ⟨A, i * 5 + 4, none⟩ = some (.func (.func rows[i].fn) #[] rows[i].cap) := by rw [World.cell?_of_block e]; exact r5
  clear r1 r2 r3 r4 r5 e
  have hz : w1.heap[w.heap.size + 1 + 1]? = some (.cells #[.string ⟨#[]⟩, .int .i64 0, .int .i64 0, .bool false, .nilFunc] 124 (0, 0)) := by rw [hg1.block _ (Array.getElem?_eq_some_iff.1 hx2).1 (by simp)]; exact hx2
  have hp0 : w1.cell? ⟨w.heap.size, 0, none⟩ = some (.pointer (some ⟨b, 0, none⟩)) := by
    apply cells1; rw [hg1.block _ (Array.getElem?_eq_some_iff.1 hx0).1 (by simp)]; exact hx0
  have h61 : w1.cell? ⟨b, 6, none⟩ = some (.slice (some ⟨A, 0, none⟩) rows.length rows.length) := by
    rw [World.cell?_of_block (a := ⟨b, 6, none⟩) (hg1.block b (h.grown hg0).lt (by simp))]; exact h6'
  obtain ⟨z0, z1, z2, z3, z4⟩ := cells5 hz
  have zf : ∀ o, w1.frozen? ⟨w.heap.size + 1 + 1, o, none⟩ = false := fun o => by simp [World.frozen?, hz]
  go_wp2_with fail
  exact bodyPost_ret (v := .tuple #[.agg #[.string rows[i].kind, .int .i64 rows[i].near, .int .i64 rows[i].right, .bool rows[i].again, .func (.func rows[i].fn) #[] rows[i].cap], .bool true]) (by simp [results, Tryz.results127, go_sem, z0, z1, z2, z3, z4]) rfl ⟨rfl, grown_setnew (grown_setnew (grown_setnew (grown_setnew (grown_setnew (grown_trans hg0 hg1) (by omega) 0 _) (by omega) 1 _) (by omega) 2 _) (by omega) 3 _) (by omega) 4 _⟩

set_option maxRecDepth 100000 in
set_option maxHeartbeats 1000000 in
theorem pbetween_none {b s m w} {n : Nat} (h : PS b s m w) (A : Nat) (rows : List IRow) (hl : rows.length ≤ 10) (hA : A < w.heap.size) (h6 : w.cell? ⟨b, 6, none⟩ = some (.slice (some ⟨A, 0, none⟩) rows.length rows.length))
    (hr : ∀ j (h : j < rows.length), w.cell? ⟨A, j * 5, none⟩ = some (.string rows[j].kind) ∧ w.cell? ⟨A, j * 5 + 1, none⟩ = some (.int .i64 rows[j].near) ∧ w.cell? ⟨A, j * 5 + 2, none⟩ = some (.int .i64 rows[j].right) ∧ w.cell? ⟨A, j * 5 + 3, none⟩ = some (.bool rows[j].again) ∧ w.cell? ⟨A, j * 5 + 4, none⟩ = some (.func (.func rows[j].fn) #[] rows[j].cap))
    (h2 : ∀ j (h : j < rows.length), fitsRow rows[j] (kindOf m.tok) n = false) :
    Calls Tryz.prog 127 #[.pointer (some ⟨b, 0, none⟩), .int .i64 n] w fun e w' => e = .returned (.tuple #[.agg #[.string ⟨#[]⟩, .int .i64 0, .int .i64 0, .bool false, .nilFunc], .bool false]) ∧ w.grownBy w' none := by
  have hmf : ∀ (fn : Fn) (first cap : Array Value) (w : World), (Instr.makeFunc fn first cap).run Tryz.prog w = .ok (.func fn first cap) w := fun _ _ _ _ => rfl
  have HR : Hid (∀ j (h : j < rows.length), w.cell? ⟨A, j * 5, none⟩ = some (.string rows[j].kind) ∧ w.cell? ⟨A, j * 5 + 1, none⟩ = some (.int .i64 rows[j].near) ∧ w.cell? ⟨A, j * 5 + 2, none⟩ = some (.int .i64 rows[j].right) ∧ w.cell? ⟨A, j * 5 + 3, none⟩ = some (.bool rows[j].again) ∧ w.cell? ⟨A, j * 5 + 4, none⟩ = some (.func (.func rows[j].fn) #[] rows[j].cap)) := hr
  have H2 : Hid (∀ j (h : j < rows.length), fitsRow rows[j] (kindOf m.tok) n = false) := h2
  clear hr h2
  have h6' : (((w.alloc (.cells #[.pointer (some ⟨b, 0, none⟩)] 96 (0, 0))).alloc (.cells #[.int .i64 n] 3 (0, 0))).alloc (.cells #[.string ⟨#[]⟩, .int .i64 0, .int .i64 0, .bool false, .nilFunc] 124 (0, 0))).cell? ⟨b, 6, none⟩ = some (.slice (some ⟨A, 0, none⟩) rows.length rows.length) := by
    rw [World.cell?_of_block (a := ⟨b, 6, none⟩) (w := w) ((grown_alloc (grown_alloc (grown_alloc (grown_refl w none) _) _) _).block b h.lt (by simp))]; exact h6
  go_enter Tryz.func127, Tryz.ntmps127
  go_wp2_with fail
  have hg0 : w.grownBy (((w.alloc (.cells #[.pointer (some ⟨b, 0, none⟩)] 96 (0, 0))).alloc (.cells #[.int .i64 n] 3 (0, 0))).alloc (.cells #[.string ⟨#[]⟩, .int .i64 0, .int .i64 0, .bool false, .nilFunc] 124 (0, 0))) none := grown_alloc (grown_alloc (grown_alloc (grown_refl _ _) _) _) _
  have hx0 : (((w.alloc (.cells #[.pointer (some ⟨b, 0, none⟩)] 96 (0, 0))).alloc (.cells #[.int .i64 n] 3 (0, 0))).alloc (.cells #[.string ⟨#[]⟩, .int .i64 0, .int .i64 0, .bool false, .nilFunc] 124 (0, 0))).heap[w.heap.size]? = some (.cells #[.pointer (some ⟨b, 0, none⟩)] 96 (0, 0)) := by
    rw [Below.heap_alloc _ _ _ (by simp; omega), Below.heap_alloc _ _ _ (by simp)]; exact alloc_at _ _ _ rfl
  have hx1 : (((w.alloc (.cells #[.pointer (some ⟨b, 0, none⟩)] 96 (0, 0))).alloc (.cells #[.int .i64 n] 3 (0, 0))).alloc (.cells #[.string ⟨#[]⟩, .int .i64 0, .int .i64 0, .bool false, .nilFunc] 124 (0, 0))).heap[w.heap.size + 1]? = some (.cells #[.int .i64 n] 3 (0, 0)) := by
    rw [Below.heap_alloc _ _ _ (by simp)]; exact alloc_at _ _ _ (by simp)
  have hx2 : (((w.alloc (.cells #[.pointer (some ⟨b, 0, none⟩)] 96 (0, 0))).alloc (.cells #[.int .i64 n] 3 (0, 0))).alloc (.cells #[.string ⟨#[]⟩, .int .i64 0, .int .i64 0, .bool false, .nilFunc] 124 (0, 0))).heap[w.heap.size + 1 + 1]? = some (.cells #[.string ⟨#[]⟩, .int .i64 0, .int .i64 0, .bool false, .nilFunc] 124 (0, 0)) := alloc_at _ _ _ (by simp)
  generalize ((w.alloc (.cells #[.pointer (some ⟨b, 0, none⟩)] 96 (0, 0))).alloc (.cells #[.int .i64 n] 3 (0, 0))).alloc (.cells #[.string ⟨#[]⟩, .int .i64 0, .int .i64 0, .bool false, .nilFunc] 124 (0, 0)) = W at hg0 hx0 hx1 hx2 h6' ⊢
  have HW : Hid (∀ j (h : j < rows.length), W.cell? ⟨A, j * 5, none⟩ = some (.string rows[j].kind) ∧ W.cell? ⟨A, j * 5 + 1, none⟩ = some (.int .i64 rows[j].near) ∧ W.cell? ⟨A, j * 5 + 2, none⟩ = some (.int .i64 rows[j].right) ∧ W.cell? ⟨A, j * 5 + 3, none⟩ = some (.bool rows[j].again) ∧ W.cell? ⟨A, j * 5 + 4, none⟩ = some (.func (.func rows[j].fn) #[] rows[j].cap)) := fun j hj => by
    have e := hg0.block A hA (by simp)
    rw [World.cell?_of_block (a := ⟨A, j * 5, none⟩) e, World.cell?_of_block (a := ⟨A, j * 5 + 1, none⟩) e, World.cell?_of_block (a := ⟨A, j * 5 + 2, none⟩) e, World.cell?_of_block (a := ⟨A, j * 5 + 3, none⟩) e, World.cell?_of_block (a := ⟨A, j * 5 + 4, none⟩) e]; exact HR.out j hj
  have hAW : A < W.heap.size := Nat.lt_of_lt_of_le hA hg0.size
  refine (pidxI_none (h.grown hg0) _ _ hx0 hx1 A rows hl hAW HW.out H2.out).mono ?_
  rintro e w1 ⟨rfl, hg1⟩
  have hz : w1.heap[w.heap.size + 1 + 1]? = some (.cells #[.string ⟨#[]⟩, .int .i64 0, .int .i64 0, .bool false, .nilFunc] 124 (0, 0)) := by rw [hg1.block _ (Array.getElem?_eq_some_iff.1 hx2).1 (by simp)]; exact hx2
  have hp0 : w1.cell? ⟨w.heap.size, 0, none⟩ = some (.pointer (some ⟨b, 0, none⟩)) := by
    apply cells1; rw [hg1.block _ (Array.getElem?_eq_some_iff.1 hx0).1 (by simp)]; exact hx0
  have h61 : w1.cell? ⟨b, 6, none⟩ = some (.slice (some ⟨A, 0, none⟩) rows.length rows.length) := by
    rw [World.cell?_of_block (a := ⟨b, 6, none⟩) (hg1.block b (h.grown hg0).lt (by simp))]; exact h6'
  obtain ⟨z0, z1, z2, z3, z4⟩ := cells5 hz
  have zf : ∀ o, w1.frozen? ⟨w.heap.size + 1 + 1, o, none⟩ = false := fun o => by simp [World.frozen?, hz]
  go_wp2_with fail
  exact bodyPost_ret (v := .tuple #[.agg #[.string ⟨#[]⟩, .int .i64 0, .int .i64 0, .bool false, .nilFunc], .bool false]) (by simp [results, Tryz.results127, go_sem, z0, z1, z2, z3, z4]) rfl ⟨rfl, grown_setnew (grown_setnew (grown_setnew (grown_setnew (grown_setnew (grown_trans hg0 hg1) (by omega) 0 _) (by omega) 1 _) (by omega) 2 _) (by omega) 3 _) (by omega) 4 _⟩

end Go.Proofs.YtjjlgjmebnkdjaaGreatDoor
