/-
  The program: reckon, Eval.
-/
import Derived.Test.YtdpbclnpmkhooaaGreatDoorEvT
namespace Go.Proofs.YtdpbclnpmkhooaaGreatDoor
open Go Go.Proofs Go.RowKit Skein

def txtOf : R → ByteArray
  | .ok v => textOf v
  | .err _ => ⟨#[]⟩
def errOf : R → Int
  | .ok _ => 0
  | .err z => z
def answer (t : ByteArray) (n e : Int) : Value := .agg #[.string t, .int .i64 n, .int .i64 e]

theorem Tab.lt {w : World} (h : Tab w) : 3 < w.heap.size := by
  unfold Tab Lib.TabIs World.var? at h
  rw [gPow] at h
  simp only [Option.bind_some] at h
  rcases Nat.lt_or_ge 3 w.heap.size with h' | h'
  · exact h'
  · rw [Array.getElem?_eq_none h'] at h; simp at h

theorem set3 {w : World} {k : Nat} {x y z : Value} (h : w.heap[k]? = some (.cells #[x, y, z] 30 (0, 0))) (a b c : Value) :
    (((w.setCell ⟨k, 0, none⟩ a).setCell ⟨k, 1, none⟩ b).setCell ⟨k, 2, none⟩ c).heap[k]? = some (.cells #[a, b, c] 30 (0, 0)) := by
  simp [World.setCell, Array.getElem?_modify, h]

set_option maxRecDepth 100000 in
set_option maxHeartbeats 4000000 in
theorem preckE (x : T) (hx : Tidy 0 x) (hd : dep x ≤ 1000) {L n : Nat} {r : R × E} (he : ev L n (.need x []) ⟨[], 0⟩ = some r) (hin : RIn r.1) (w : World) (hL : L ≤ 500) (ht : Tab w) :
    Calls Tryz.prog 26 #[pv x, .int .i64 L] w fun e w' => e = .returned (answer (txtOf r.1) r.2.steps (errOf r.1)) ∧ Below w.heap.size w w' := by
  have hmf : ∀ (fn : Fn) (first cap : Array Value) (w : World), (Instr.makeFunc fn first cap).run Tryz.prog w = .ok (.func fn first cap) w := fun _ _ _ _ => rfl
  obtain ⟨T1, x1, e1⟩ := pv_iface x
  have hg1 := grown_alloc (grown_alloc (grown_refl w none) (.cells #[.string ⟨#[]⟩, .int .i64 0, .int .i64 0] 30 (0, 0))) (.cells #[.int .i64 L, .int .i64 0] 74 (0, 0))
  have hka := keepB' (alloc_at w (.cells #[.string ⟨#[]⟩, .int .i64 0, .int .i64 0] 30 (0, 0)) _ rfl) (grown_alloc (grown_refl _ none) (.cells #[.int .i64 L, .int .i64 0] 74 (0, 0)))
  have hsb : SB _ (w.heap.size + 1) L 0 := alloc_at (w.alloc (.cells #[.string ⟨#[]⟩, .int .i64 0, .int .i64 0] 30 (0, 0))) (.cells #[.int .i64 L, .int .i64 0] 74 (0, 0)) (w.heap.size + 1) (by rw [alloc_size])
  have h3 := ht.lt
  have HC : Hid (Calls Tryz.prog 37 #[.iface T1 x1, ptr (w.heap.size + 1)] _ _) := e1 ▸ ptext x hx hd he hin (b := w.heap.size + 1) (Nat.le_refl _) hsb hL (ht.grown hg1) (by omega)
  rw [e1]
  clear e1 he hin hsb
  go_enter_defers Tryz.func26, Tryz.ntmps26
  go_wp2_with fail
  refine HC.out.mono ?_
  rintro e w1 ⟨hb, hs1, h⟩
  have hk1 := (hb.block w.heap.size (by omega)).trans hka
  have hB1 : Below w.heap.size w w1 := ((Below.refl _ w).grown hg1 (Nat.le_refl _) (by simp)).trans (hb.mono (by omega))
  obtain ⟨c0, c1, c2, cf, clt⟩ := ans_cells hk1
  clear hb hka hg1
  rcases h with ⟨v, hr, rfl⟩ | ⟨z, hr, rfl⟩
  · have HR : Hid (r.1 = .ok v) := hr
    clear hr
    go_wp2_with fail
    refine leaves_cons (f := 36) (args := #[ptr (w.heap.size + 1), ptr w.heap.size]) (by simp) (by simp [go_sem]) ?_
    have hk2 := set3 hk1 (.string (textOf v)) (.int .i64 0) (.int .i64 0)
    have hB2 := ((hB1.setCell (p := ⟨w.heap.size, 0, none⟩) (Nat.le_refl _) (.string (textOf v))).setCell (p := ⟨w.heap.size, 1, none⟩) (Nat.le_refl _) (.int .i64 0)).setCell (p := ⟨w.heap.size, 2, none⟩) (Nat.le_refl _) (.int .i64 0)
    have hs2 : SB (((w1.setCell ⟨w.heap.size, 0, none⟩ (.string (textOf v))).setCell ⟨w.heap.size, 1, none⟩ (.int .i64 0)).setCell ⟨w.heap.size, 2, none⟩ (.int .i64 0)) (w.heap.size + 1) L r.2.steps := by
      unfold SB
      rw [Below.heap_setCell _ _ _ _ (by show w.heap.size + 1 ≠ w.heap.size; omega), Below.heap_setCell _ _ _ _ (by show w.heap.size + 1 ≠ w.heap.size; omega), Below.heap_setCell _ _ _ _ (by show w.heap.size + 1 ≠ w.heap.size; omega)]
      exact hs1
    refine (rclose_returning (w.heap.size + 1) w.heap.size _ _ _ _ _ _ hk2 hs2).mono ?_
    rintro e u' w2 ⟨rfl, rfl, hk3, hb3⟩
    have hB3 := hB2.trans hb3
    obtain ⟨d0, d1, d2, df, dlt⟩ := ans_cells hk3
    clear hk1 hk2 hk3 c0 c1 c2 cf hB2 hb3 hs2
    simp [Leaves, settle, results, Tryz.results26, go_sem, d0, d1, d2]
    rw [HR.out]
    exact ⟨rfl, hB3⟩
  · have HR : Hid (r.1 = .err z) := hr
    clear hr
    unfold oops
    go_wp2_with fail
    refine leaves_cons (f := 36) (args := #[ptr (w.heap.size + 1), ptr w.heap.size]) (by simp) (by simp [go_sem]) ?_
    refine (rclose_panicking (w.heap.size + 1) w.heap.size _ _ _ _ _ z [] _ hk1 hs1).mono ?_
    rintro e u' w2 ⟨rfl, rfl, hk3, hb3⟩
    have hB3 := hB1.trans hb3
    obtain ⟨d0, d1, d2, df, dlt⟩ := ans_cells hk3
    clear hk1 hk3 c0 c1 c2 cf hb3
    simp [Leaves, settle, results, Tryz.results26, go_sem, d0, d1, d2]
    rw [HR.out]
    exact ⟨rfl, hB3⟩
end Go.Proofs.YtdpbclnpmkhooaaGreatDoor
