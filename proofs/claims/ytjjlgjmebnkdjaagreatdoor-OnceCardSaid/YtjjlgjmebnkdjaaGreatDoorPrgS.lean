/-
  The program: Whole.
-/
import Derived.Test.YtjjlgjmebnkdjaaGreatDoorPrgQ
import Derived.Test.YtjjlgjmebnkdjaaGreatDoorPrgR
namespace Go.Proofs.YtjjlgjmebnkdjaaGreatDoor
open Go Go.Proofs Go.RowKit Skein

theorem finish_bad {m : M} {q : Nat} (h : m.bad = some q) : finish m = (2, (q : Int)) := by
  unfold finish M.isBad M.place; simp [h]

theorem finish_eof {s : ByteArray} {m : M} (hi : Inv s m) (hb : m.bad = none) (hk : m.tok.k = .eof) : finish m = if 0 ≤ m.free then (3, m.free) else (0, 0) := by
  obtain ⟨i, hi, e⟩ := hi.ex
  have ht : m.tok.text = ⟨#[]⟩ := by
    rw [e] at hk ⊢
    rcases tokAt_shape (skip_le s i hi) with ⟨a, b⟩ | ⟨a, b⟩ | ⟨a, c, r, b, d⟩ | ⟨a, hw, c, r, b, d⟩ | ⟨a, b⟩
    · exact b
    · exact b
    all_goals (unfold tok at hk; rw [a] at hk; cases hk)
  unfold finish M.isBad
  rw [hb, hk, ht]
  rfl

theorem syms_full (x : ByteArray) (hx : x ∈ syms) : x ≠ ⟨#[]⟩ := by
  intro e; rw [e] at hx
  exact absurd (mem_iff.2 hx) (by decide)

theorem finish_else {s : ByteArray} {m : M} (hi : Inv s m) (hb : m.bad = none) (hk : m.tok.k ≠ .eof) : finish m = (2, (m.tok.at_ : Int)) := by
  have hi' := hi
  obtain ⟨i, hi, e⟩ := hi.ex
  have hor : m.tok.k = .bad ∨ m.tok.text ≠ ⟨#[]⟩ := by
    rw [e] at hk ⊢
    rcases tokAt_shape (skip_le s i hi) with ⟨a, b⟩ | ⟨a, b⟩ | ⟨a, c, r, b, d⟩ | ⟨a, hw, c, r, b, d⟩ | ⟨a, b⟩
    · exact absurd a hk
    · exact .inl a
    · right; intro e2; unfold tok at e2; rw [e2] at b; cases b
    · right; intro e2; unfold tok at e2; rw [e2] at b; cases b
    · right; exact syms_full _ (mem_iff.1 b)
  unfold finish M.isBad M.place
  rw [hb]
  rcases hor with h | h
  · rw [h]; rfl
  · rw [eqb_ne.2 h]; simp

/-- What Whole comes to. -/
def WPost (w : World) (t : T) (m : M) (e : Ending) (w' : World) : Prop :=
  Below w.heap.size w w' ∧ ((finish m = (0, 0) ∧ e = .returned (pv t)) ∨ ((finish m).1 ≠ 0 ∧ e = .panicked [{ v := flt (finish m).1 (finish m).2, recovered := false }]))

set_option maxRecDepth 100000 in
set_option maxHeartbeats 1000000 in
theorem pwhole_long (s : ByteArray) (w : World) (hs : 300 < s.size) :
    Calls Tryz.prog 41 #[.string s] w fun e w' => e = .panicked [{ v := flt 1 0, recovered := false }] ∧ w' = w := by
  have hgt : decide ((300 : Int) < s.size) = true := by simp; omega
  go_enter Tryz.func41, Tryz.ntmps41
  go_wp2_with fail
  exact ⟨rfl, rfl, rfl⟩

theorem start_state {s : ByteArray} {w : World} {I k1 k2 k3 k4 k5 E A : Nat} (hl : s.size ≤ 300) (hI : w.heap[I]? = some (.cells (infixCells k1 k2 k3 k4 k5) 124 (0, 0)))
    (h1 : w.heap[k1]? = some (.cells #[.string ⟨#[61]⟩] 9 (0, 0))) (h2 : w.heap[k2]? = some (.cells #[.string ⟨#[60]⟩] 9 (0, 0))) (h3 : w.heap[k3]? = some (.cells #[.string ⟨#[43]⟩] 9 (0, 0))) (h4 : w.heap[k4]? = some (.cells #[.string ⟨#[45]⟩] 9 (0, 0))) (h5 : w.heap[k5]? = some (.cells #[.string ⟨#[42]⟩] 9 (0, 0)))
    (hE : w.heap[E]? = some (.cells exprCells 128 (0, 0))) (hA : w.heap[A]? = some (.cells atomCells 128 (0, 0))) :
    PS w.heap.size s (Skein.start s) (w.alloc (.cells #[.string s, .string (kindOf (tok s 0)), .string (tok s 0).text, .int .i64 (tok s 0).at_, .slice none 0 0, .int .i64 (-1), .slice (some ⟨I, 0, none⟩) 6 6, .slice (some ⟨E, 0, none⟩) 3 3, .slice (some ⟨A, 0, none⟩) 7 7] 106 (0, 0))) := by
  have hg := grown_alloc (grown_refl w none) (.cells #[.string s, .string (kindOf (tok s 0)), .string (tok s 0).text, .int .i64 (tok s 0).at_, .slice none 0 0, .int .i64 (-1), .slice (some ⟨I, 0, none⟩) 6 6, .slice (some ⟨E, 0, none⟩) 3 3, .slice (some ⟨A, 0, none⟩) 7 7] 106 (0, 0))
  refine ⟨⟨.slice none 0 0, _, _, _, alloc_at _ _ _ rfl, World.ownsRow_nil _ _ _ _, ⟨⟨I, k1, k2, k3, k4, k5, rfl, ltOf hI, ltOf h1, ltOf h2, ltOf h3, ltOf h4, ltOf h5, keep hI hg, keep h1 hg, keep h2 hg, keep h3 hg, keep h4 hg, keep h5 hg⟩, ⟨E, rfl, ltOf hE, keep hE hg⟩, ⟨A, rfl, ltOf hA, keep hA hg⟩⟩⟩, Inv.start s, hl, Nat.zero_le _, rfl, Int.le_refl _⟩

set_option maxRecDepth 100000 in
set_option maxHeartbeats 2000000 in
theorem pwhole (s : ByteArray) (w : World) (hl : s.size ≤ 300) (N : Nat) (t : T) (m : M) (hP : PM s N .expr (Skein.start s) = some (t, m)) :
    Calls Tryz.prog 41 #[.string s] w (WPost w t m) := by
  have hgt : decide ((300 : Int) < s.size) = false := by simp; omega
  have HP : Hid (PM s N .expr (Skein.start s) = some (t, m)) := hP
  have hIm : Hid (Inv s m) := ((PM_keeps s N .expr _ _ hP).1 (Inv.start s))
  clear hP
  go_enter Tryz.func41, Tryz.ntmps41
  go_wp2_with fail
  refine (pnext s 0 _ hl (Nat.zero_le _)).mono ?_
  rintro e w1 ⟨rfl, hg1⟩
  unfold sgn
  go_wp2_with fail
  refine (tab_infixes w1).mono ?_
  rintro e w2 ⟨I, k1, k2, k3, k4, k5, rfl, hg2, hI, h1, h2, h3, h4, h5⟩
  go_wp2_with fail
  refine (pexprs w2).mono ?_
  rintro e w3 ⟨rfl, e3⟩
  have hg3 : w2.grownBy w3 none := by rw [e3]; exact grown_alloc (grown_refl _ _) _
  have hE : w3.heap[w2.heap.size]? = some (.cells exprCells 128 (0, 0)) := by rw [e3]; exact alloc_at _ _ _ rfl
  clear e3
  go_wp2_with fail
  refine (patoms w3).mono ?_
  rintro e w4 ⟨rfl, e4⟩
  have hg4 : w3.grownBy w4 none := by rw [e4]; exact grown_alloc (grown_refl _ _) _
  have hA : w4.heap[w3.heap.size]? = some (.cells atomCells 128 (0, 0)) := by rw [e4]; exact alloc_at _ _ _ rfl
  clear e4
  have hg24 := grown_trans hg3 hg4
  have hS := start_state hl (keep hI hg24) (keep h1 hg24) (keep h2 hg24) (keep h3 hg24) (keep h4 hg24) (keep h5 hg24) (keep hE hg4) hA
  have hg14 := grown_trans hg1 (grown_trans hg2 hg24)
  have hB4 : Below w.heap.size w w4 := ⟨hg14.os, hg14.tape, hg14.output, hg14.size, fun k hk => hg14.block k hk (by simp)⟩
  have hle : w.heap.size ≤ w4.heap.size := hg14.size
  have hBS := hB4.alloc hle (.cells #[.string s, .string (kindOf (tok s 0)), .string (tok s 0).text, .int .i64 (tok s 0).at_, .slice none 0 0, .int .i64 (-1), .slice (some ⟨I, 0, none⟩) 6 6, .slice (some ⟨w2.heap.size, 0, none⟩) 3 3, .slice (some ⟨w3.heap.size, 0, none⟩) 7 7] 106 (0, 0))
  clear hg1 hg2 hI h1 h2 h3 h4 h5 hg3 hE hg4 hA hg24 hg14 hB4
  go_wp2_with fail
  generalize (w4.alloc (.cells #[.string s, .string (kindOf (tok s 0)), .string (tok s 0).text, .int .i64 (tok s 0).at_, .slice none 0 0, .int .i64 (-1), .slice (some ⟨I, 0, none⟩) 6 6, .slice (some ⟨w2.heap.size, 0, none⟩) 3 3, .slice (some ⟨w3.heap.size, 0, none⟩) 7 7] 106 (0, 0))) = W at hS hBS ⊢
  generalize w4.heap.size = b at hS hle ⊢
  refine ((all_p N).1 b s _ W t m hS HP.out).mono ?_
  rintro e w5 (⟨hn, rfl, h5, k5⟩ | ⟨q, hq, rfl, hb5⟩)
  · have HN : Hid (m.bad = none) := hn
    clear hn
    obtain ⟨T1, x1, e1⟩ := pv_iface t
    have E1 : Hid (pv t = .iface T1 x1) := e1
    rw [e1]
    clear e1
    have hB5 := hBS.trans (k5.below.mono hle)
    clear hBS
    go_wp2_with fail
    by_cases hk : m.tok.k = .eof
    · have hx : eqb (kindOf m.tok) ⟨#[101, 110, 100]⟩ = true := by rw [kind_end hIm.out, hk]; rfl
      refine (ptake_yes _ h5 hx).mono ?_
      rintro e w6 ⟨rfl, h6, k6⟩
      unfold sgn
      have hB6 := hB5.trans (k6.below.mono hle)
      have HF : Hid (finish m = if 0 ≤ m.free then (3, m.free) else (0, 0)) := finish_eof hIm.out HN.out hk
      have hfr := h6.fr
      have hfr' : -1 ≤ m.free := hfr
      clear hfr
      obtain ⟨gv, iv, ev, av, hB, ho, ht⟩ := h6.blk
      obtain ⟨c0, c1, c2, c3, c4, c5, c6, c7, c8, hf, hlt0⟩ := hB.cells
      have c5' : w6.cell? ⟨b, 5, none⟩ = some (.int .i64 m.free) := c5
      clear c5 hx hk c0 c1 c2 c3 c4 c6 c7 c8 hB ho ht
      by_cases hz : m.free = -1
      · have hz2 : (m.free != -1) = false := by simp [hz]
        have HZ : Hid (m.free = -1) := hz
        clear hz hfr'
        go_wp2_with fail
        go_ret
        refine ⟨hB6, .inl ⟨?_, by rw [E1.out]; rfl⟩⟩
        rw [HF.out, HZ.out]; rfl
      · have hz2 : (m.free != -1) = true := by simp [hz]
        have HZ : Hid (0 ≤ m.free) := by unfold Hid; omega
        clear hz hfr'
        go_wp2_with fail
        refine ⟨rfl, hB6, .inr ⟨?_, ?_⟩⟩
        · rw [HF.out, if_pos HZ.out]; simp
        · rw [HF.out, if_pos HZ.out]; rfl
    · have hx : eqb (kindOf m.tok) ⟨#[101, 110, 100]⟩ = false := by rw [kind_end hIm.out]; simpa using hk
      refine (ptake_no _ h5 hx).mono ?_
      rintro e w6 ⟨rfl, hb6⟩
      have HF : Hid (finish m = (2, (m.tok.at_ : Int))) := finish_else hIm.out HN.out hk
      clear hk hx
      have hB6 := hB5.trans (hb6.mono hle)
      go_wp2_with fail
      refine ⟨rfl, hB6, .inr ⟨?_, ?_⟩⟩
      · rw [HF.out]; simp
      · rw [HF.out]
  · have HF : Hid (finish m = (2, (q : Int))) := finish_bad hq
    clear hq
    have hB5 := hBS.trans (hb5.mono hle)
    clear hBS
    go_wp2_with fail
    refine ⟨rfl, hB5, .inr ⟨?_, ?_⟩⟩
    · rw [HF.out]; simp
    · rw [HF.out]; rfl
end Go.Proofs.YtjjlgjmebnkdjaaGreatDoor
