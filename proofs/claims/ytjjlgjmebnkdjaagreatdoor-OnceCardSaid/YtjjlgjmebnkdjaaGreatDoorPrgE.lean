/-
  The program's parser: opened, between.
-/
import Derived.Test.YtjjlgjmebnkdjaaGreatDoorPrgD
import Derived.Laws.EntriesVeiled
namespace Go.Proofs.YtjjlgjmebnkdjaaGreatDoor
open Go Go.Proofs Go.RowKit Skein

theorem cells1 {w : World} {k : Nat} {a : Value} {T : TypeId} (h : w.heap[k]? = some (.cells #[a] T (0, 0))) : w.cell? ⟨k, 0, none⟩ = some a := by
  simp [World.cell?, h]

theorem cells2 {w : World} {k : Nat} {a b : Value} {T : TypeId} (h : w.heap[k]? = some (.cells #[a, b] T (0, 0))) :
    w.cell? ⟨k, 0, none⟩ = some a ∧ w.cell? ⟨k, 1, none⟩ = some b := by
  refine ⟨?_, ?_⟩
  all_goals simp [World.cell?, h]

set_option maxRecDepth 100000 in
set_option maxHeartbeats 1000000 in
theorem popened1 {b s m w} (h : PS b s m w) (c : Nat) (hc : w.heap[c]? = some (.cells #[.pointer (some ⟨b, 0, none⟩)] 96 (0, 0))) (k : ByteArray) (f : Nat) :
    Calls Tryz.prog 125 #[.agg #[.string k, .func (.func f) #[] #[]], .pointer (some ⟨c, 0, none⟩)] w fun e w' => e = .returned (.bool (eqb k (kindOf m.tok))) ∧ w.grownBy w' none := by
  obtain ⟨gv, iv, ev, av, hB, ho, ht⟩ := (h.grown (grown_alloc (grown_refl _ _) (.cells #[.string k, .func (.func f) #[] #[]] 128 (0, 0)))).blk
  obtain ⟨c0, c1, c2, c3, c4, c5, c6, c7, c8, hf, hlt0⟩ := hB.cells
  have hcc : (w.alloc (.cells #[.string k, .func (.func f) #[] #[]] 128 (0, 0))).cell? ⟨c, 0, none⟩ = some (.pointer (some ⟨b, 0, none⟩)) := by
    apply cells1; rw [Below.heap_alloc _ _ _ (Array.getElem?_eq_some_iff.1 hc).1]; exact hc
  go_enter Tryz.func125, Tryz.ntmps125
  go_wp2_with fail
  go_quiet (fail)
  go_wp2_with fail
  go_ret
  exact ⟨ret_bool (eqb_walk _ _), grown_drewN (grown_alloc (grown_refl _ _) _) _⟩

set_option maxRecDepth 100000 in
set_option maxHeartbeats 1000000 in
theorem pidx_some {b s m w} (h : PS b s m w) (c : Nat) (hc : w.heap[c]? = some (.cells #[.pointer (some ⟨b, 0, none⟩)] 96 (0, 0))) (A : Nat) (rows : List (ByteArray × Nat)) (hl : rows.length ≤ 10) (hA : A < w.heap.size)
    (hr : ∀ j (h : j < rows.length), w.cell? ⟨A, j * 2, none⟩ = some (.string rows[j].1) ∧ w.cell? ⟨A, j * 2 + 1, none⟩ = some (.func (.func rows[j].2) #[] #[]))
    (i : Nat) (hi : i < rows.length) (h1 : eqb rows[i].1 (kindOf m.tok) = true) (h2 : ∀ j (h : j < rows.length), j < i → eqb rows[j].1 (kindOf m.tok) = false) :
    Calls Tryz.prog 124 #[.slice (some ⟨A, 0, none⟩) rows.length rows.length, .func (.func 125) #[] #[.pointer (some ⟨c, 0, none⟩)]] w fun e w' => e = .returned (.int .i64 i) ∧ w.grownBy w' none := by
  have hcl := (Array.getElem?_eq_some_iff.1 hc).1
  go_enter Tryz.func124, Tryz.ntmps124
  go_wp2_with fail
  go_loopw [8] (fun v wr => ∃ k : Nat, k ≤ i ∧ v = .int .i64 k ∧ w.grownBy wr none) (fun v _ => rows.length - (intOf v).toNat)
  case atStart => exact ⟨0, Nat.zero_le _, rfl, grown_refl _ _⟩
  case round =>
    obtain ⟨k, hk, rfl, hg⟩ := hrel
    have hP := h.grown hg
    have hcr : wr.heap[c]? = some (.cells #[.pointer (some ⟨b, 0, none⟩)] 96 (0, 0)) := by rw [hg.block c hcl (by simp)]; exact hc
    have hlt : k < rows.length := by omega
    obtain ⟨r1, r2⟩ := hr k hlt
    have q1 : wr.cell? ⟨A, k * 2, none⟩ = some (.string rows[k].1) := by rw [World.cell?_of_block (hg.block A hA (by simp))]; exact r1
    have q2 : wr.cell? ⟨A, k * 2 + 1, none⟩ = some (.func (.func rows[k].2) #[] #[]) := by rw [World.cell?_of_block (hg.block A hA (by simp))]; exact r2
    clear r1 r2 hr
    by_cases he : k = i
    · have HE : Hid (eqb rows[k].1 (kindOf m.tok) = true) := by subst he; exact h1
      have he' : Hid (k = i) := he
      clear he h1 h2
      go_wp2_with fail
      refine (popened1 hP c hcr _ _).mono ?_
      rw [HE.out]
      rintro e w1 ⟨rfl, hg1⟩
      go_wp2_with fail
      go_ret
      have e1 := he'.out
      subst e1
      exact ⟨rfl, grown_trans hg hg1⟩
    · have HE : Hid (eqb rows[k].1 (kindOf m.tok) = false) := h2 k hlt (by omega)
      clear h1 h2
      go_wp2_with fail
      refine (popened1 hP c hcr _ _).mono ?_
      rw [HE.out]
      rintro e w1 ⟨rfl, hg1⟩
      go_wp2_with fail
      exact ⟨⟨k + 1, by omega, by go_num, grown_trans hg hg1⟩, by simp [intOf]; omega⟩

set_option maxRecDepth 100000 in
set_option maxHeartbeats 1000000 in
theorem pidx_none {b s m w} (h : PS b s m w) (c : Nat) (hc : w.heap[c]? = some (.cells #[.pointer (some ⟨b, 0, none⟩)] 96 (0, 0))) (A : Nat) (rows : List (ByteArray × Nat)) (hl : rows.length ≤ 10) (hA : A < w.heap.size)
    (hr : ∀ j (h : j < rows.length), w.cell? ⟨A, j * 2, none⟩ = some (.string rows[j].1) ∧ w.cell? ⟨A, j * 2 + 1, none⟩ = some (.func (.func rows[j].2) #[] #[]))
    (h2 : ∀ j (h : j < rows.length), eqb rows[j].1 (kindOf m.tok) = false) :
    Calls Tryz.prog 124 #[.slice (some ⟨A, 0, none⟩) rows.length rows.length, .func (.func 125) #[] #[.pointer (some ⟨c, 0, none⟩)]] w fun e w' => e = .returned (.int .i64 (-1)) ∧ w.grownBy w' none := by
  have hcl := (Array.getElem?_eq_some_iff.1 hc).1
  go_enter Tryz.func124, Tryz.ntmps124
  go_wp2_with fail
  go_loopw [8] (fun v wr => ∃ k : Nat, k ≤ rows.length ∧ v = .int .i64 k ∧ w.grownBy wr none) (fun v _ => rows.length - (intOf v).toNat)
  case atStart => exact ⟨0, Nat.zero_le _, rfl, grown_refl _ _⟩
  case round =>
    obtain ⟨k, hk, rfl, hg⟩ := hrel
    have hP := h.grown hg
    have hcr : wr.heap[c]? = some (.cells #[.pointer (some ⟨b, 0, none⟩)] 96 (0, 0)) := by rw [hg.block c hcl (by simp)]; exact hc
    by_cases hlt : k < rows.length
    · obtain ⟨r1, r2⟩ := hr k hlt
      have q1 : wr.cell? ⟨A, k * 2, none⟩ = some (.string rows[k].1) := by rw [World.cell?_of_block (hg.block A hA (by simp))]; exact r1
      have q2 : wr.cell? ⟨A, k * 2 + 1, none⟩ = some (.func (.func rows[k].2) #[] #[]) := by rw [World.cell?_of_block (hg.block A hA (by simp))]; exact r2
      clear r1 r2 hr
      have HE : Hid (eqb rows[k].1 (kindOf m.tok) = false) := h2 k hlt
      clear h2
      go_wp2_with fail
      refine (popened1 hP c hcr _ _).mono ?_
      rw [HE.out]
      rintro e w1 ⟨rfl, hg1⟩
      go_wp2_with fail
      exact ⟨⟨k + 1, by omega, by go_num, grown_trans hg hg1⟩, by simp [intOf]; omega⟩
    · clear h2 hr
      go_wp2_with fail
      go_ret
      exact ⟨rfl, hg⟩

set_option maxRecDepth 100000 in
set_option maxHeartbeats 1000000 in
theorem popened_some {b s m w} (h : PS b s m w) (A : Nat) (rows : List (ByteArray × Nat)) (hl : rows.length ≤ 10) (hA : A < w.heap.size)
    (hr : ∀ j (h : j < rows.length), w.cell? ⟨A, j * 2, none⟩ = some (.string rows[j].1) ∧ w.cell? ⟨A, j * 2 + 1, none⟩ = some (.func (.func rows[j].2) #[] #[]))
    (i : Nat) (hi : i < rows.length) (h1 : eqb rows[i].1 (kindOf m.tok) = true) (h2 : ∀ j (h : j < rows.length), j < i → eqb rows[j].1 (kindOf m.tok) = false) :
    Calls Tryz.prog 86 #[.pointer (some ⟨b, 0, none⟩), .slice (some ⟨A, 0, none⟩) rows.length rows.length] w fun e w' => e = .returned (.tuple #[.agg #[.string rows[i].1, .func (.func rows[i].2) #[] #[]], .bool true]) ∧ w.grownBy w' none := by
  have hmf : ∀ (fn : Fn) (first cap : Array Value) (w : World), (Instr.makeFunc fn first cap).run Tryz.prog w = .ok (.func fn first cap) w := fun _ _ _ _ => rfl
  have HR : Hid (∀ j (h : j < rows.length), w.cell? ⟨A, j * 2, none⟩ = some (.string rows[j].1) ∧ w.cell? ⟨A, j * 2 + 1, none⟩ = some (.func (.func rows[j].2) #[] #[])) := hr
  have H1 : Hid (eqb rows[i].1 (kindOf m.tok) = true) := h1
  have H2 : Hid (∀ j (h : j < rows.length), j < i → eqb rows[j].1 (kindOf m.tok) = false) := h2
  clear hr h1 h2
  go_enter Tryz.func86, Tryz.ntmps86
  go_wp2_with fail
  have hg0 : w.grownBy ((w.alloc (.cells #[.pointer (some ⟨b, 0, none⟩)] 96 (0, 0))).alloc (.cells #[.string ⟨#[]⟩, .nilFunc] 128 (0, 0))) none := grown_alloc (grown_alloc (grown_refl _ _) _) _
  have hx0 : ((w.alloc (.cells #[.pointer (some ⟨b, 0, none⟩)] 96 (0, 0))).alloc (.cells #[.string ⟨#[]⟩, .nilFunc] 128 (0, 0))).heap[w.heap.size]? = some (.cells #[.pointer (some ⟨b, 0, none⟩)] 96 (0, 0)) := by
    rw [Below.heap_alloc _ _ _ (by simp)]; exact alloc_at _ _ _ rfl
  have hx1 : ((w.alloc (.cells #[.pointer (some ⟨b, 0, none⟩)] 96 (0, 0))).alloc (.cells #[.string ⟨#[]⟩, .nilFunc] 128 (0, 0))).heap[w.heap.size + 1]? = some (.cells #[.string ⟨#[]⟩, .nilFunc] 128 (0, 0)) := alloc_at _ _ _ (by simp)
  generalize (w.alloc (.cells #[.pointer (some ⟨b, 0, none⟩)] 96 (0, 0))).alloc (.cells #[.string ⟨#[]⟩, .nilFunc] 128 (0, 0)) = W at hg0 hx0 hx1 ⊢
  have hRW : ∀ j (h : j < rows.length), W.cell? ⟨A, j * 2, none⟩ = some (.string rows[j].1) ∧ W.cell? ⟨A, j * 2 + 1, none⟩ = some (.func (.func rows[j].2) #[] #[]) := fun j hj => by
    rw [World.cell?_of_block (a := ⟨A, j * 2, none⟩) (hg0.block A hA (by simp)), World.cell?_of_block (a := ⟨A, j * 2 + 1, none⟩) (hg0.block A hA (by simp))]; exact HR.out j hj
  have HW : Hid (∀ j (h : j < rows.length), W.cell? ⟨A, j * 2, none⟩ = some (.string rows[j].1) ∧ W.cell? ⟨A, j * 2 + 1, none⟩ = some (.func (.func rows[j].2) #[] #[])) := hRW
  clear hRW
  have hAW : A < W.heap.size := Nat.lt_of_lt_of_le hA hg0.size
  refine (pidx_some (h.grown hg0) _ hx0 A rows hl hAW HW.out i hi H1.out H2.out).mono ?_
  rintro e w1 ⟨rfl, hg1⟩
  have q1 : w1.cell? ⟨A, i * 2, none⟩ = some (.string rows[i].1) := by rw [World.cell?_of_block (hg1.block A hAW (by simp))]; exact (HW.out i hi).1
  have q2 : w1.cell? ⟨A, i * 2 + 1, none⟩ = some (.func (.func rows[i].2) #[] #[]) := by rw [World.cell?_of_block (hg1.block A hAW (by simp))]; exact (HW.out i hi).2
  have hz : w1.heap[w.heap.size + 1]? = some (.cells #[.string ⟨#[]⟩, .nilFunc] 128 (0, 0)) := by rw [hg1.block _ (Array.getElem?_eq_some_iff.1 hx1).1 (by simp)]; exact hx1
  obtain ⟨z0, z1⟩ := cells2 hz
  have zf : ∀ o, w1.frozen? ⟨w.heap.size + 1, o, none⟩ = false := fun o => by simp [World.frozen?, hz]
  go_wp2_with fail
  exact bodyPost_ret (v := .tuple #[.agg #[.string rows[i].1, .func (.func rows[i].2) #[] #[]], .bool true]) (by simp [results, Tryz.results86, go_sem, z0, z1]) rfl ⟨rfl, grown_setnew (grown_setnew (grown_trans hg0 hg1) (Nat.le_succ _) 0 _) (Nat.le_succ _) 1 _⟩

set_option maxRecDepth 100000 in
set_option maxHeartbeats 1000000 in
theorem popened_none {b s m w} (h : PS b s m w) (A : Nat) (rows : List (ByteArray × Nat)) (hl : rows.length ≤ 10) (hA : A < w.heap.size)
    (hr : ∀ j (h : j < rows.length), w.cell? ⟨A, j * 2, none⟩ = some (.string rows[j].1) ∧ w.cell? ⟨A, j * 2 + 1, none⟩ = some (.func (.func rows[j].2) #[] #[]))
    (h2 : ∀ j (h : j < rows.length), eqb rows[j].1 (kindOf m.tok) = false) :
    Calls Tryz.prog 86 #[.pointer (some ⟨b, 0, none⟩), .slice (some ⟨A, 0, none⟩) rows.length rows.length] w fun e w' => e = .returned (.tuple #[.agg #[.string ⟨#[]⟩, .nilFunc], .bool false]) ∧ w.grownBy w' none := by
  have hmf : ∀ (fn : Fn) (first cap : Array Value) (w : World), (Instr.makeFunc fn first cap).run Tryz.prog w = .ok (.func fn first cap) w := fun _ _ _ _ => rfl
  have HR : Hid (∀ j (h : j < rows.length), w.cell? ⟨A, j * 2, none⟩ = some (.string rows[j].1) ∧ w.cell? ⟨A, j * 2 + 1, none⟩ = some (.func (.func rows[j].2) #[] #[])) := hr
  have H2 : Hid (∀ j (h : j < rows.length), eqb rows[j].1 (kindOf m.tok) = false) := h2
  clear hr h2
  go_enter Tryz.func86, Tryz.ntmps86
  go_wp2_with fail
  have hg0 : w.grownBy ((w.alloc (.cells #[.pointer (some ⟨b, 0, none⟩)] 96 (0, 0))).alloc (.cells #[.string ⟨#[]⟩, .nilFunc] 128 (0, 0))) none := grown_alloc (grown_alloc (grown_refl _ _) _) _
  have hx0 : ((w.alloc (.cells #[.pointer (some ⟨b, 0, none⟩)] 96 (0, 0))).alloc (.cells #[.string ⟨#[]⟩, .nilFunc] 128 (0, 0))).heap[w.heap.size]? = some (.cells #[.pointer (some ⟨b, 0, none⟩)] 96 (0, 0)) := by
    rw [Below.heap_alloc _ _ _ (by simp)]; exact alloc_at _ _ _ rfl
  have hx1 : ((w.alloc (.cells #[.pointer (some ⟨b, 0, none⟩)] 96 (0, 0))).alloc (.cells #[.string ⟨#[]⟩, .nilFunc] 128 (0, 0))).heap[w.heap.size + 1]? = some (.cells #[.string ⟨#[]⟩, .nilFunc] 128 (0, 0)) := alloc_at _ _ _ (by simp)
  generalize (w.alloc (.cells #[.pointer (some ⟨b, 0, none⟩)] 96 (0, 0))).alloc (.cells #[.string ⟨#[]⟩, .nilFunc] 128 (0, 0)) = W at hg0 hx0 hx1 ⊢
  have hRW : ∀ j (h : j < rows.length), W.cell? ⟨A, j * 2, none⟩ = some (.string rows[j].1) ∧ W.cell? ⟨A, j * 2 + 1, none⟩ = some (.func (.func rows[j].2) #[] #[]) := fun j hj => by
    rw [World.cell?_of_block (a := ⟨A, j * 2, none⟩) (hg0.block A hA (by simp)), World.cell?_of_block (a := ⟨A, j * 2 + 1, none⟩) (hg0.block A hA (by simp))]; exact HR.out j hj
  have HW : Hid (∀ j (h : j < rows.length), W.cell? ⟨A, j * 2, none⟩ = some (.string rows[j].1) ∧ W.cell? ⟨A, j * 2 + 1, none⟩ = some (.func (.func rows[j].2) #[] #[])) := hRW
  clear hRW
  have hAW : A < W.heap.size := Nat.lt_of_lt_of_le hA hg0.size
  refine (pidx_none (h.grown hg0) _ hx0 A rows hl hAW HW.out H2.out).mono ?_
  rintro e w1 ⟨rfl, hg1⟩
  have hz : w1.heap[w.heap.size + 1]? = some (.cells #[.string ⟨#[]⟩, .nilFunc] 128 (0, 0)) := by rw [hg1.block _ (Array.getElem?_eq_some_iff.1 hx1).1 (by simp)]; exact hx1
  obtain ⟨z0, z1⟩ := cells2 hz
  have zf : ∀ o, w1.frozen? ⟨w.heap.size + 1, o, none⟩ = false := fun o => by simp [World.frozen?, hz]
  go_wp2_with fail
  exact bodyPost_ret (v := .tuple #[.agg #[.string ⟨#[]⟩, .nilFunc], .bool false]) (by simp [results, Tryz.results86, go_sem, z0, z1]) rfl ⟨rfl, grown_setnew (grown_setnew (grown_trans hg0 hg1) (Nat.le_succ _) 0 _) (Nat.le_succ _) 1 _⟩

end Go.Proofs.YtjjlgjmebnkdjaaGreatDoor
