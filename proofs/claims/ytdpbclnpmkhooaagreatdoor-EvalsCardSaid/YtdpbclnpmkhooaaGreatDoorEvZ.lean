/-
  The statement's own look for lists; evaled.
-/
import Derived.Test.YtdpbclnpmkhooaaGreatDoorEvY
import Derived.Test.YtdpbclnpmkhooaaGreatDoorRefW
namespace Go.Proofs.YtdpbclnpmkhooaaGreatDoor
open Go Go.Proofs Go.RowKit Skein

theorem lw_len : lw.length = 5 := rfl
theorem lw_pos {x : ByteArray} (h : x ∈ lw) : 1 ≤ x.size ∧ x.size ≤ 4 := by
  simp only [lw, List.mem_cons, List.not_mem_nil, or_false] at h
  rcases h with rfl | rfl | rfl | rfl | rfl <;> decide
def Free (s : ByteArray) (i : Nat) (x : ByteArray) : Prop := i + x.size ≤ s.size → s.extract i (i + x.size) ≠ x
def lwCells : Array Value := #[.string ⟨#[91]⟩, .string ⟨#[58]⟩, .string ⟨#[104, 101, 97, 100]⟩, .string ⟨#[116, 97, 105, 108]⟩, .string ⟨#[110, 117, 108, 108]⟩]
theorem lw_cells {w : World} {g : Nat} (h : w.heap[g]? = some (.cells lwCells 9 (0, 0))) (k : Nat) (hk : k < lw.length) : w.cell? ⟨g, k, none⟩ = some (.string lw[k]) := by
  have hk' : k < 5 := hk
  have : k = 0 ∨ k = 1 ∨ k = 2 ∨ k = 3 ∨ k = 4 := by omega
  rcases this with rfl | rfl | rfl | rfl | rfl <;> simp [World.cell?, h, lwCells, lw]

set_option maxRecDepth 100000 in
set_option maxHeartbeats 4000000 in
theorem lists_ok (s : ByteArray) (hs : s.size ≤ 9223372036854775807) (w : World) :
    Calls Tryz.prog 13 #[.string s] w fun e w' => ∃ b, e = .returned (.bool b) ∧ (b = false → NoSub s) ∧ w.grownBy w' none := by
  have hg0 := grown_alloc (grown_refl w none) (.cells lwCells 9 (0, 0))
  have hx0 := alloc_at w (.cells lwCells 9 (0, 0)) _ rfl
  go_enter Tryz.func13, Tryz.ntmps13
  go_wp2_with fail
  generalize hW : w.alloc (.cells #[.string ⟨#[91]⟩, .string ⟨#[58]⟩, .string ⟨#[104, 101, 97, 100]⟩, .string ⟨#[116, 97, 105, 108]⟩, .string ⟨#[110, 117, 108, 108]⟩] 9 (0, 0)) = W
  have hg : World.grownBy w W none := by rw [← hW]; exact hg0
  have hx : W.heap[w.heap.size]? = some (.cells lwCells 9 (0, 0)) := by rw [← hW]; exact hx0
  clear hW hg0 hx0
  go_loopw [4] (fun v wr => ∃ i : Nat, i ≤ s.size ∧ v = .int .i64 i ∧ Hid (∀ a, a < i → ∀ x ∈ lw, Free s a x) ∧ ∃ nd, wr = W.drewN nd) (fun v _ => s.size - (intOf v).toNat)
  case atStart => exact ⟨0, Nat.zero_le _, rfl, fun a h => by omega, 0, rfl⟩
  case round =>
    obtain ⟨i, hi, rfl, H, nd, rfl⟩ := hrel
    by_cases hlt : i < s.size
    · have d1 : decide ((i : Int) < s.size) = true := by simp; omega
      go_wp2_with fail
      go_loopw [5] (fun v wr => ∃ k : Nat, k ≤ 5 ∧ v = .int .i64 k ∧ Hid (∀ j (h : j < lw.length), j < k → Free s i lw[j]) ∧ ∃ nd, wr = W.drewN nd) (fun v _ => 5 - (intOf v).toNat)
      case atStart => exact ⟨0, Nat.zero_le _, rfl, fun j _ h => by omega, _, rfl⟩
      case round =>
        obtain ⟨k, hk, rfl, H2, nd2, rfl⟩ := hrel
        by_cases hk5 : k < 5
        · have hkl : k < lw.length := hk5
          have hck := lw_cells (w := W) hx k hkl
          have hcd : (W.drewN nd2).cell? ⟨w.heap.size, k, none⟩ = some (.string lw[k]) := hck
          have hsz := lw_pos (List.getElem_mem hkl)
          have hk6 : (k : Int) < 5 := by omega
          generalize hx' : lw[k] = x at hck hcd hsz
          have HX : Hid (lw[k] = x) := hx'
          clear hx'
          have fin : Free s i x → Hid (∀ j (h : j < lw.length), j < k + 1 → Free s i lw[j]) := fun hfr j h hj => by
            by_cases e : j = k
            · subst e; rw [HX.out]; exact hfr
            · exact H2.out j h (by omega)
          by_cases hfit : i + x.size ≤ s.size
          · have d2 : decide ((x.size : Int) ≤ (s.size : Int) - (i : Int)) = true := by simp; omega
            cases heq : eqb (s.extract i (i + x.size)) x
            · have hq : ((s.extract i (i + x.size)).toList == x.toList) = false := by rw [eqb_walk, heq]
              have hF := fin (fun _ => eqb_ne.1 heq)
              clear fin heq
              go_wp2_with fail
              go_quiet (fail)
              go_wp2_with fail
              exact ⟨⟨k + 1, by omega, by go_num, hF, _, rfl⟩, by simp [intOf]; omega⟩
            · have hq : ((s.extract i (i + x.size)).toList == x.toList) = true := by rw [eqb_walk, heq]
              clear fin heq
              go_wp2_with fail
              go_quiet (fail)
              go_wp2_with fail
              go_ret
              exact ⟨true, rfl, by simp, grown_drewN (grown_drewN hg _) _⟩
          · have d2 : decide ((x.size : Int) ≤ (s.size : Int) - (i : Int)) = false := by simp; omega
            have hF := fin (fun h => absurd h hfit)
            clear fin
            go_wp2_with fail
            go_quiet (fail)
            go_wp2_with fail
            exact ⟨⟨k + 1, by omega, by go_num, hF, _, rfl⟩, by simp [intOf]; omega⟩
        · go_wp2_with fail
          refine ⟨⟨i + 1, by omega, by go_num, fun a ha x hxm => ?_, _, rfl⟩, by simp [intOf]; omega⟩
          by_cases e : a = i
          · subst e
            obtain ⟨j, hj, rfl⟩ := List.mem_iff_getElem.1 hxm
            exact H2.out j hj (by have : j < 5 := hj; omega)
          · exact H.out a (by omega) x hxm
    · go_wp2_with fail
      go_ret
      refine ⟨false, rfl, fun _ a x hx hsz => ?_, grown_drewN hg _⟩
      have := (lw_pos hx).1
      exact H.out a (by omega) x hx hsz

theorem ans3 {w : World} {k : Nat} {x y z : Value} (h : w.heap[k]? = some (.cells #[x, y, z] 30 (0, 0))) : w.cell? ⟨k, 0, none⟩ = some x ∧ w.cell? ⟨k, 1, none⟩ = some y ∧ w.cell? ⟨k, 2, none⟩ = some z :=
  ⟨(ans_cells h).1, (ans_cells h).2.1, (ans_cells h).2.2.1⟩

set_option maxRecDepth 100000 in
set_option maxHeartbeats 4000000 in
theorem evaled_of (s : ByteArray) (lim : Int) (w : World) (ht : Tab w) (a : ByteArray) (n z : Int)
    (hC : ∀ w, Tab w → Calls Tryz.prog 15 #[.string s, .int .i64 lim] w fun e w' => e = .returned (answer a n z) ∧ Below w.heap.size w w')
    (hD : ∀ w, Calls Tryz.prog 23 #[.string s, .int .i64 lim] w fun e w' => e = .returned (answer a n z) ∧ Below w.heap.size w w') :
    Calls Tryz.prog 12 #[.string s, .int .i64 lim] w fun e w' => e = .returned (.bool true) ∧ Below w.heap.size w w' := by
  have HC : Hid (∀ w, Tab w → Calls Tryz.prog 15 #[.string s, .int .i64 lim] w fun e w' => e = .returned (.agg #[.string a, .int .i64 n, .int .i64 z]) ∧ Below w.heap.size w w') := hC
  have HD : Hid (∀ w, Calls Tryz.prog 23 #[.string s, .int .i64 lim] w fun e w' => e = .returned (.agg #[.string a, .int .i64 n, .int .i64 z]) ∧ Below w.heap.size w w') := hD
  have HT : Hid (Tab w) := ht
  clear hC hD ht
  go_enter Tryz.func12, Tryz.ntmps12
  go_wp2_with fail
  refine (HC.out _ HT.out).mono ?_
  rintro e w1 ⟨rfl, hb1⟩
  have hg1 := grown_alloc (grown_refl w1 none) (.cells #[.string a, .int .i64 n, .int .i64 z] 30 (0, 0))
  have hx1 := alloc_at w1 (.cells #[.string a, .int .i64 n, .int .i64 z] 30 (0, 0)) _ rfl
  have hB1 := hb1.grown hg1 hb1.size (by simp)
  go_wp2_with fail
  refine (HD.out _).mono ?_
  rintro e w2 ⟨rfl, hb2⟩
  have hx2 := (hb2.block w1.heap.size (heap_lt hx1)).trans hx1
  have hB2 := hB1.trans (hb2.mono hB1.size)
  have hg3 := grown_alloc (grown_refl w2 none) (.cells #[.string a, .int .i64 n, .int .i64 z] 30 (0, 0))
  have hx3 := alloc_at w2 (.cells #[.string a, .int .i64 n, .int .i64 z] 30 (0, 0)) _ rfl
  have hx4 := keepB' hx2 hg3
  have hB3 := hB2.grown hg3 hB2.size (by simp)
  obtain ⟨c0, c1, c2⟩ := ans3 hx4
  obtain ⟨d0, d1, d2⟩ := ans3 hx3
  have q0 : (a.toList == a.toList) = true := by simp
  clear hx1 hx2 hx3 hx4
  go_wp2_with fail
  go_ret
  exact ⟨rfl, hB3⟩
end Go.Proofs.YtdpbclnpmkhooaaGreatDoor
