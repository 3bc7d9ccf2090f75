/-
  The document's reader: 'next', the next sign.
-/
import Derived.Test.YtjjlgjmebnkdjaaGreatDoorRefA
import Derived.Maps.AppendAt
namespace Go.Proofs.YtjjlgjmebnkdjaaGreatDoor
open Go Go.Proofs Go.RowKit Skein

/-- The reader's block. -/
def RB (b : Nat) (s : ByteArray) (p : Int) (t : ByteArray) (a : Int) (nu na : Bool) (gv : Value) (bd : Bool) (pl fr : Int) (w : World) : Prop :=
  w.heap[b]? = some (.cells #[.string s, .int .i64 p, .string t, .int .i64 a, .bool nu, .bool na, gv, .bool bd, .int .i64 pl, .int .i64 fr] 62 (0, 0))

theorem RB.cells {b s p t a nu na gv bd pl fr w} (h : RB b s p t a nu na gv bd pl fr w) :
    w.cell? ⟨b, 0, none⟩ = some (.string s) ∧ w.cell? ⟨b, 1, none⟩ = some (.int .i64 p) ∧ w.cell? ⟨b, 2, none⟩ = some (.string t) ∧ w.cell? ⟨b, 3, none⟩ = some (.int .i64 a) ∧ w.cell? ⟨b, 4, none⟩ = some (.bool nu) ∧ w.cell? ⟨b, 5, none⟩ = some (.bool na) ∧ w.cell? ⟨b, 6, none⟩ = some gv ∧ w.cell? ⟨b, 7, none⟩ = some (.bool bd) ∧ w.cell? ⟨b, 8, none⟩ = some (.int .i64 pl) ∧ w.cell? ⟨b, 9, none⟩ = some (.int .i64 fr) ∧ (∀ o, w.frozen? ⟨b, o, none⟩ = false) ∧ b < w.heap.size := by
  unfold RB at h
  refine ⟨?_, ?_, ?_, ?_, ?_, ?_, ?_, ?_, ?_, ?_, fun o => ?_, (Array.getElem?_eq_some_iff.1 h).1⟩
  all_goals simp [World.cell?, World.frozen?, h]

theorem RB.set {b : Nat} {c : Array Value} {T : TypeId} {w : World} (h : w.heap[b]? = some (.cells c T (0, 0))) (o : Nat) (v : Value) :
    (w.setCell ⟨b, o, none⟩ v).heap[b]? = some (.cells (c.setIfInBounds o v) T (0, 0)) := by
  simp only [World.setCell, Array.getElem?_modify]
  rw [if_pos trivial, h]; rfl

theorem grown_set {w w' : World} {b : Nat} (h : w.grownBy w' (some b)) (o : Nat) (v : Value) : w.grownBy (w'.setCell ⟨b, o, none⟩ v) (some b) :=
  ⟨h.os, h.tape, h.output, by simp [World.setCell]; exact h.size, fun k hk hn => by
    rw [Below.heap_setCell _ _ _ _ (by rintro rfl; exact hn rfl)]; exact h.block k hk hn⟩
theorem grown_refl (w : World) (r : Option Nat) : w.grownBy w r := ⟨rfl, rfl, rfl, Nat.le_refl _, fun _ _ _ => rfl⟩
theorem grown_drew {w w' : World} {r : Option Nat} (h : w.grownBy w' r) : w.grownBy w'.drew r := ⟨h.os, h.tape, h.output, h.size, h.block⟩
theorem grown_drewN {w w' : World} {r : Option Nat} (h : w.grownBy w' r) (n : Nat) : w.grownBy (w'.drewN n) r := ⟨h.os, h.tape, h.output, h.size, h.block⟩

def atOf (b : Nat) (w : World) : Nat := match w.cell? ⟨b, 1, none⟩ with | some v => (intOf v).toNat | none => 0
theorem atOf_eq {b : Nat} {w : World} {k : Nat} (h : w.cell? ⟨b, 1, none⟩ = some (.int .i64 k)) : atOf b w = k := by simp [atOf, h, intOf]


theorem in_list (xs : List ByteArray) (n : Nat) (hn : xs.length = n) (hn2 : n ≤ 100) (x : ByteArray) (g : Nat) (T : TypeId) (w : World) (hc : w.heap[g]? = some (.cells (xs.map Value.string).toArray T (0, 0))) :
    Calls Tryz.prog 47 #[.string x, .slice (some ⟨g, 0, none⟩) n n] w fun e w' => e = .returned (.bool (mem xs x)) ∧ w' = w := by
  subst hn
  refine in_any x g xs w hn2 fun j h => ?_
  simp [World.cell?, hc, h]

theorem skip_blank (s : ByteArray) (i : Nat) (h : i < s.size) (hb : isBlank s[i] = true) : skip s i = skip s (i + 1) := by
  rw [skip, dif_pos h, if_pos hb]
theorem skip_stop (s : ByteArray) (i : Nat) (h : i < s.size) (hb : isBlank s[i] = false) : skip s i = i := by
  rw [skip, dif_pos h, if_neg (by simp [hb])]
theorem skip_end (s : ByteArray) (i : Nat) (h : ¬ i < s.size) : skip s i = i := by
  rw [skip, dif_neg h]

theorem heap_drewN (w : World) (n : Nat) : (w.drewN n).heap = w.heap := rfl

theorem eqi (c d : UInt8) : ((c.toNat : Int) == (d.toNat : Int)) = (c == d) := by
  rw [Bool.eq_iff_iff, beq_iff_eq, beq_iff_eq]
  constructor
  · intro h
    apply UInt8.toNat_inj.1
    omega
  · rintro rfl
    rfl

theorem RB.alloc {b s p t a nu na gv bd pl fr w} (h : RB b s p t a nu na gv bd pl fr w) (o : Obj) : RB b s p t a nu na gv bd pl fr (w.alloc o) := by
  unfold RB at *; rw [Below.heap_alloc _ _ _ (Array.getElem?_eq_some_iff.1 h).1]; exact h
theorem RB.drewN {b s p t a nu na gv bd pl fr w} (h : RB b s p t a nu na gv bd pl fr w) (n : Nat) : RB b s p t a nu na gv bd pl fr (w.drewN n) := h
theorem grown_alloc {w w' : World} {r : Option Nat} (h : w.grownBy w' r) (o : Obj) : w.grownBy (w'.alloc o) r :=
  ⟨h.os, h.tape, h.output, Nat.le_trans h.size (by simp), fun k hk hn => by rw [Below.heap_alloc _ _ _ (Nat.lt_of_lt_of_le hk h.size)]; exact h.block k hk hn⟩
theorem alloc_at (X : World) (o : Obj) (n : Nat) (h : n = X.heap.size) : (X.alloc o).heap[n]? = some o := by
  subst h; show (X.heap.push o)[X.heap.size]? = _; simp

theorem ext_size (s : ByteArray) (k n : Nat) (h : k + n ≤ s.size) : (s.extract k (k + n)).size = n := by
  rw [ByteArray.size_extract]; omega
theorem dig_not_let {c : UInt8} (hd : isDig c = true) : isLet c = false := by
  simp only [isDig, isLet, Bool.and_eq_true, decide_eq_true_eq, Bool.and_eq_false_iff, decide_eq_false_iff_not, UInt8.le_iff_toNat_le] at hd ⊢
  left
  have : (57 : UInt8).toNat = 57 := rfl
  have : (97 : UInt8).toNat = 97 := rfl
  omega
section
variable {s : ByteArray} {k : Nat} (hlt : k < s.size)
include hlt
theorem tokAt_dig_bad (hd : isDig s[k] = true) (h : 9 < runLen s false k) : tokAt s k = ⟨.bad, ⟨#[]⟩, k⟩ := by
  unfold tokAt; rw [dif_pos hlt, if_pos hd, if_pos h]
theorem tokAt_dig (hd : isDig s[k] = true) (h : ¬ 9 < runLen s false k) : tokAt s k = ⟨.num, s.extract k (k + runLen s false k), k⟩ := by
  unfold tokAt; rw [dif_pos hlt, if_pos hd, if_neg h]
theorem tokAt_let_bad (hd : isDig s[k] = false) (hl : isLet s[k] = true) (h : 6 < runLen s true k) : tokAt s k = ⟨.bad, ⟨#[]⟩, k⟩ := by
  unfold tokAt; rw [dif_pos hlt, if_neg (by simp [hd]), if_pos hl, if_pos h]
theorem tokAt_word (hd : isDig s[k] = false) (hl : isLet s[k] = true) (h : ¬ 6 < runLen s true k) (hm : mem words (s.extract k (k + runLen s true k)) = true) : tokAt s k = ⟨.sym, s.extract k (k + runLen s true k), k⟩ := by
  unfold tokAt; rw [dif_pos hlt, if_neg (by simp [hd]), if_pos hl, if_neg h, if_pos hm]
theorem tokAt_name (hd : isDig s[k] = false) (hl : isLet s[k] = true) (h : ¬ 6 < runLen s true k) (hm : mem words (s.extract k (k + runLen s true k)) = false) : tokAt s k = ⟨.name, s.extract k (k + runLen s true k), k⟩ := by
  unfold tokAt; rw [dif_pos hlt, if_neg (by simp [hd]), if_pos hl, if_neg h, if_neg (by simp [hm])]
theorem tokAt_br (hd : isDig s[k] = false) (hl : isLet s[k] = false) (h1 : s[k] = 91) (h2 : k + 1 < s.size) (h3 : s[k + 1] = 93) : tokAt s k = ⟨.sym, s.extract k (k + 2), k⟩ := by
  unfold tokAt; rw [dif_pos hlt, if_neg (by simp [hd]), if_neg (by simp [hl]), if_pos (by simp [h1]), dif_pos h2, if_pos (by simp [h3])]
theorem tokAt_br_bad (hd : isDig s[k] = false) (hl : isLet s[k] = false) (h1 : s[k] = 91) (h : ∀ h2 : k + 1 < s.size, s[k + 1] ≠ 93) : tokAt s k = ⟨.bad, ⟨#[]⟩, k⟩ := by
  unfold tokAt; rw [dif_pos hlt, if_neg (by simp [hd]), if_neg (by simp [hl]), if_pos (by simp [h1])]
  by_cases h2 : k + 1 < s.size
  · rw [dif_pos h2, if_neg (by simp [h h2])]
  · rw [dif_neg h2]
theorem tokAt_mark (hd : isDig s[k] = false) (hl : isLet s[k] = false) (h1 : s[k] ≠ 91) (hm : mem marks (s.extract k (k + 1)) = true) : tokAt s k = ⟨.sym, s.extract k (k + 1), k⟩ := by
  unfold tokAt; rw [dif_pos hlt, if_neg (by simp [hd]), if_neg (by simp [hl]), if_neg (by simp [h1]), if_pos hm]
theorem tokAt_mark_bad (hd : isDig s[k] = false) (hl : isLet s[k] = false) (h1 : s[k] ≠ 91) (hm : mem marks (s.extract k (k + 1)) = false) : tokAt s k = ⟨.bad, ⟨#[]⟩, k⟩ := by
  unfold tokAt; rw [dif_pos hlt, if_neg (by simp [hd]), if_neg (by simp [hl]), if_neg (by simp [h1]), if_neg (by simp [hm])]
end

theorem blank_round {b s k t a nu na gv pl fr} {w wr : World} {p : Nat} (nq : Nat) (hlt : k < s.size) (hbl : isBlank s[k] = true) (hB : RB b s (k : Nat) t a nu na gv false pl fr wr) (hg : w.grownBy wr (some b)) (H : Hid (skip s p = skip s k)) :
  (∃ k_1 : Nat,
    k_1 ≤ s.size ∧
      RB b s k_1 t a nu na gv false pl fr
          ((wr.drewN nq).setCell { block := b, off := 1 } (Value.int IntKind.i64 (↑k + 1))) ∧
        w.grownBy ((wr.drewN nq).setCell { block := b, off := 1 } (Value.int IntKind.i64 (↑k + 1))) (some b) ∧
          Hid (skip s p = skip s k_1)) ∧
  s.size - atOf b ((wr.drewN nq).setCell { block := b, off := 1 } (Value.int IntKind.i64 (↑k + 1))) < s.size - atOf b wr := by
  have hB' : RB b s ((k + 1 : Nat)) t a nu na gv false pl fr ((wr.drewN nq).setCell { block := b, off := 1 } (Value.int IntKind.i64 (↑k + 1))) :=
    RB.set (w := wr.drewN nq) hB 1 _
  refine ⟨⟨k + 1, hlt, hB', grown_set (grown_drewN hg nq) 1 _, ?_⟩, ?_⟩
  · unfold Hid; rw [H.out, skip_blank s k hlt hbl]
  · rw [atOf_eq hB'.cells.2.1, atOf_eq hB.cells.2.1]; omega

theorem now_set {b s p t a nu na gv bd pl fr w} (h : RB b s p t a nu na gv bd pl fr w) (t' : ByteArray) (a' : Int) (nu' na' : Bool) :
    RB b s p t' a' nu' na' gv bd pl fr ((((w.setCell ⟨b, 2, none⟩ (.string t')).setCell ⟨b, 3, none⟩ (.int .i64 a')).setCell ⟨b, 4, none⟩ (.bool nu')).setCell ⟨b, 5, none⟩ (.bool na')) :=
  RB.set (RB.set (RB.set (RB.set h 2 _) 3 _) 4 _) 5 _
theorem now_grown {b w w'} (h : World.grownBy w w' (some b)) (t' : ByteArray) (a' : Int) (nu' na' : Bool) :
    w.grownBy ((((w'.setCell ⟨b, 2, none⟩ (.string t')).setCell ⟨b, 3, none⟩ (.int .i64 a')).setCell ⟨b, 4, none⟩ (.bool nu')).setCell ⟨b, 5, none⟩ (.bool na')) (some b) :=
  grown_set (grown_set (grown_set (grown_set h 2 _) 3 _) 4 _) 5 _

set_option maxRecDepth 100000 in
set_option maxHeartbeats 16000000 in
theorem next_any (b : Nat) (s : ByteArray) (p : Nat) (t : ByteArray) (a : Int) (nu na : Bool) (gv : Value) (pl fr : Int) (w : World) (hs : s.size ≤ 300) (hp : p ≤ s.size) (hb : RB b s p t a nu na gv false pl fr w) :
    Calls Tryz.prog 33 #[.pointer (some ⟨b, 0, none⟩)] w fun e w' => e = .returned (.tuple #[]) ∧ w.grownBy w' (some b) ∧
      ∃ pl' : Int, RB b s ((tok s p).at_ + (tok s p).text.size) (tok s p).text (tok s p).at_ ((tok s p).k == .num) ((tok s p).k == .name) gv ((tok s p).k == .bad) pl' fr w' ∧ ((tok s p).k = .bad → pl' = (tok s p).at_) := by
  go_enter Tryz.func33, Tryz.ntmps33
  go_wp2
  go_loopw [] (fun wr => ∃ k : Nat, k ≤ s.size ∧ RB b s k t a nu na gv false pl fr wr ∧ w.grownBy wr (some b) ∧ Hid (skip s p = skip s k)) (fun wr => s.size - atOf b wr)
  case atStart => exact ⟨p, hp, hb, grown_refl _ _, rfl⟩
  case round =>
    clear hb
    obtain ⟨k, hk, hB, hg, H⟩ := hrel
    obtain ⟨c0, c1, c2, c3, c4, c5, c6, c7, c8, c9, hf, hlt0⟩ := hB.cells
    by_cases hlt : k < s.size
    · have d1 : decide ((k : Int) < s.size) = true := by simp; omega
      cases e1 : ((s[k].toNat : Int) == 32)
      · cases e2 : ((s[k].toNat : Int) == 9)
        · cases e3 : ((s[k].toNat : Int) == 10)
          · cases e4 : ((s[k].toNat : Int) == 13)
            · have HB : Hid (isBlank s[k] = false) := by
                unfold Hid isBlank
                have f1 : ((s[k].toNat : Int) == 32) = (s[k] == 32) := eqi s[k] 32
                have f2 : ((s[k].toNat : Int) == 9) = (s[k] == 9) := eqi s[k] 9
                have f3 : ((s[k].toNat : Int) == 10) = (s[k] == 10) := eqi s[k] 10
                have f4 : ((s[k].toNat : Int) == 13) = (s[k] == 13) := eqi s[k] 13
                rw [e1] at f1; rw [e2] at f2; rw [e3] at f3; rw [e4] at f4
                rw [← f1, ← f2, ← f3, ← f4]; rfl
              have et : tok s p = tokAt s k := by unfold tok; rw [H.out, skip_stop s k hlt HB.out]
              have hne : ((k : Int) == s.size) = false := by simp; omega
              cases hd : isDig s[k]
              · cases hl : isLet s[k]
                · cases h91 : ((s[k].toNat : Int) == 91)
                  · -- another byte
                    have hx : Hid (s[k] ≠ 91) := by
                      have f : ((s[k].toNat : Int) == 91) = (s[k] == 91) := eqi s[k] 91
                      rw [h91] at f; intro e; rw [e] at f; simp at f
                    cases hm : mem marks (s.extract k (k + 1))
                    · rw [tokAt_mark_bad hlt hd hl hx.out hm] at et
                      go_wp2
                      go_quiet (fail)
                      go_wp2_with (first | (go_at_call 44; refine (digit_any _ _).mono ?_; rintro e w' ⟨rfl, rfl⟩) | (go_at_call 45; refine (letter_any _ _).mono ?_; rintro e w' ⟨rfl, rfl⟩))
                      have hsz : (((((wr.drewN nq).setCell ⟨b, 2, none⟩ (.string ⟨#[]⟩)).setCell ⟨b, 3, none⟩ (.int .i64 k)).setCell ⟨b, 4, none⟩ (.bool false)).setCell ⟨b, 5, none⟩ (.bool false)).heap.size = wr.heap.size := by simp
                      have hB1 := now_set (w := wr.drewN nq) hB ⟨#[]⟩ k false false
                      have hg1 := now_grown (grown_drewN hg nq) ⟨#[]⟩ k false false
                      clear c0 c1 c2 c3 c4 c5 c6 c7 c8 c9 hf hlt0 hB hg
                      generalize (((wr.drewN nq).setCell ⟨b, 2, none⟩ (.string ⟨#[]⟩)).setCell ⟨b, 3, none⟩ (.int .i64 k)).setCell ⟨b, 4, none⟩ (.bool false) = W0 at hB1 hg1 hsz ⊢
                      generalize W0.setCell ⟨b, 5, none⟩ (.bool false) = W1 at hB1 hg1 hsz ⊢
                      obtain ⟨c0, c1, c2, c3, c4, c5, c6, c7, c8, c9, hf, hlt0⟩ := hB1.cells
                      refine (in_list marks 10 rfl (by decide) _ _ 9 _ ?_).mono ?_
                      · exact alloc_at _ _ _ (by simp [hsz])
                      rintro e w' ⟨rfl, rfl⟩
                      have hB2 := hB1.alloc (Obj.cells #[Value.string ⟨#[92]⟩, Value.string ⟨#[46]⟩, Value.string ⟨#[61]⟩, Value.string ⟨#[60]⟩, Value.string ⟨#[43]⟩, Value.string ⟨#[45]⟩, Value.string ⟨#[42]⟩, Value.string ⟨#[58]⟩, Value.string ⟨#[40]⟩, Value.string ⟨#[41]⟩] 9 (0, 0))
                      have hg2 := grown_alloc hg1 (Obj.cells #[Value.string ⟨#[92]⟩, Value.string ⟨#[46]⟩, Value.string ⟨#[61]⟩, Value.string ⟨#[60]⟩, Value.string ⟨#[43]⟩, Value.string ⟨#[45]⟩, Value.string ⟨#[42]⟩, Value.string ⟨#[58]⟩, Value.string ⟨#[40]⟩, Value.string ⟨#[41]⟩] 9 (0, 0))
                      clear c0 c1 c2 c3 c4 c5 c6 c7 c8 c9 hf hlt0 hB1 hg1
                      generalize W1.alloc (Obj.cells #[Value.string ⟨#[92]⟩, Value.string ⟨#[46]⟩, Value.string ⟨#[61]⟩, Value.string ⟨#[60]⟩, Value.string ⟨#[43]⟩, Value.string ⟨#[45]⟩, Value.string ⟨#[42]⟩, Value.string ⟨#[58]⟩, Value.string ⟨#[40]⟩, Value.string ⟨#[41]⟩] 9 (0, 0)) = W2 at hB2 hg2 ⊢
                      clear hsz
                      obtain ⟨c0, c1, c2, c3, c4, c5, c6, c7, c8, c9, hf, hlt0⟩ := hB2.cells
                      go_wp2_with fail
                      refine (fails_ok b _ _ c7 hf ⟨_, c8⟩).mono ?_
                      rintro e w' ⟨rfl, rfl⟩
                      go_wp2_with fail
                      refine bodyPost_ret (results_none rfl _ _ _) rfl ?_
                      rw [et]
                      exact ⟨rfl, grown_set (grown_set hg2 7 _) 8 _, k, RB.set (RB.set hB2 7 _) 8 _, fun _ => rfl⟩
                    · rw [tokAt_mark hlt hd hl hx.out hm] at et
                      go_wp2
                      go_quiet (fail)
                      go_wp2_with (first | (go_at_call 44; refine (digit_any _ _).mono ?_; rintro e w' ⟨rfl, rfl⟩) | (go_at_call 45; refine (letter_any _ _).mono ?_; rintro e w' ⟨rfl, rfl⟩))
                      have hsz : (((((wr.drewN nq).setCell ⟨b, 2, none⟩ (.string ⟨#[]⟩)).setCell ⟨b, 3, none⟩ (.int .i64 k)).setCell ⟨b, 4, none⟩ (.bool false)).setCell ⟨b, 5, none⟩ (.bool false)).heap.size = wr.heap.size := by simp
                      have hB1 := now_set (w := wr.drewN nq) hB ⟨#[]⟩ k false false
                      have hg1 := now_grown (grown_drewN hg nq) ⟨#[]⟩ k false false
                      clear c0 c1 c2 c3 c4 c5 c6 c7 c8 c9 hf hlt0 hB hg
                      generalize (((wr.drewN nq).setCell ⟨b, 2, none⟩ (.string ⟨#[]⟩)).setCell ⟨b, 3, none⟩ (.int .i64 k)).setCell ⟨b, 4, none⟩ (.bool false) = W0 at hB1 hg1 hsz ⊢
                      generalize W0.setCell ⟨b, 5, none⟩ (.bool false) = W1 at hB1 hg1 hsz ⊢
                      obtain ⟨c0, c1, c2, c3, c4, c5, c6, c7, c8, c9, hf, hlt0⟩ := hB1.cells
                      refine (in_list marks 10 rfl (by decide) _ _ 9 _ ?_).mono ?_
                      · exact alloc_at _ _ _ (by simp [hsz])
                      rintro e w' ⟨rfl, rfl⟩
                      have hB2 := hB1.alloc (Obj.cells #[Value.string ⟨#[92]⟩, Value.string ⟨#[46]⟩, Value.string ⟨#[61]⟩, Value.string ⟨#[60]⟩, Value.string ⟨#[43]⟩, Value.string ⟨#[45]⟩, Value.string ⟨#[42]⟩, Value.string ⟨#[58]⟩, Value.string ⟨#[40]⟩, Value.string ⟨#[41]⟩] 9 (0, 0))
                      have hg2 := grown_alloc hg1 (Obj.cells #[Value.string ⟨#[92]⟩, Value.string ⟨#[46]⟩, Value.string ⟨#[61]⟩, Value.string ⟨#[60]⟩, Value.string ⟨#[43]⟩, Value.string ⟨#[45]⟩, Value.string ⟨#[42]⟩, Value.string ⟨#[58]⟩, Value.string ⟨#[40]⟩, Value.string ⟨#[41]⟩] 9 (0, 0))
                      clear c0 c1 c2 c3 c4 c5 c6 c7 c8 c9 hf hlt0 hB1 hg1
                      generalize W1.alloc (Obj.cells #[Value.string ⟨#[92]⟩, Value.string ⟨#[46]⟩, Value.string ⟨#[61]⟩, Value.string ⟨#[60]⟩, Value.string ⟨#[43]⟩, Value.string ⟨#[45]⟩, Value.string ⟨#[42]⟩, Value.string ⟨#[58]⟩, Value.string ⟨#[40]⟩, Value.string ⟨#[41]⟩] 9 (0, 0)) = W2 at hB2 hg2 ⊢
                      clear hsz
                      obtain ⟨c0, c1, c2, c3, c4, c5, c6, c7, c8, c9, hf, hlt0⟩ := hB2.cells
                      go_wp2_with fail
                      go_quiet (fail)
                      go_wp2_with fail
                      refine (in_list words 8 rfl (by decide) _ _ 9 _ ?_).mono ?_
                      · exact alloc_at _ _ _ (by first | rfl | simp)
                      rintro e w' ⟨rfl, rfl⟩
                      go_wp2_with fail
                      go_end0
                      rw [et]
                      refine ⟨rfl, grown_alloc (now_grown (grown_drewN (grown_set hg2 1 _) _) _ _ _ _) _, pl, ?_, fun h => by cases h⟩
                      have hz := ext_size s k 1 (by omega)
                      simp only [hz]
                      exact (now_set (RB.drewN (RB.set hB2 1 _) _) _ _ _ _).alloc _
                  · -- a square bracket
                    have hx : Hid (s[k] = 91) := by
                      have f : ((s[k].toNat : Int) == 91) = (s[k] == 91) := eqi s[k] 91
                      rw [h91] at f; exact beq_iff_eq.1 f.symm
                    by_cases h2 : k + 1 < s.size
                    · have g1 : decide ((s.size : Int) ≤ k + 1) = false := by simp; omega
                      cases h93 : ((s[k + 1].toNat : Int) == 93)
                      · have g2 : ((s[k + 1].toNat : Int) != 93) = true := by simp [bne, h93]
                        rw [tokAt_br_bad hlt hd hl hx.out (fun _ e => by rw [e] at h93; cases h93)] at et
                        go_wp2
                        go_quiet (fail)
                        go_wp2_with (first | (go_at_call 44; refine (digit_any _ _).mono ?_; rintro e w' ⟨rfl, rfl⟩) | (go_at_call 45; refine (letter_any _ _).mono ?_; rintro e w' ⟨rfl, rfl⟩))
                        have hB1 := now_set (w := wr.drewN nq) hB ⟨#[]⟩ k false false
                        have hg1 := now_grown (grown_drewN hg nq) ⟨#[]⟩ k false false
                        clear c0 c1 c2 c3 c4 c5 c6 c7 c8 c9 hf hlt0 hB hg
                        generalize (((wr.drewN nq).setCell ⟨b, 2, none⟩ (.string ⟨#[]⟩)).setCell ⟨b, 3, none⟩ (.int .i64 k)).setCell ⟨b, 4, none⟩ (.bool false) = W0 at hB1 hg1 ⊢
                        generalize W0.setCell ⟨b, 5, none⟩ (.bool false) = W1 at hB1 hg1 ⊢
                        obtain ⟨c0, c1, c2, c3, c4, c5, c6, c7, c8, c9, hf, hlt0⟩ := hB1.cells
                        go_wp2_with fail
                        refine (fails_ok b _ _ c7 hf ⟨_, c8⟩).mono ?_
                        rintro e w' ⟨rfl, rfl⟩
                        go_wp2_with fail
                        refine bodyPost_ret (results_none rfl _ _ _) rfl ?_
                        rw [et]
                        exact ⟨rfl, grown_set (grown_set hg1 7 _) 8 _, k, RB.set (RB.set hB1 7 _) 8 _, fun _ => rfl⟩
                      · have g2 : ((s[k + 1].toNat : Int) != 93) = false := by simp [bne, h93]
                        have h93' : s[k + 1] = 93 := by
                          have f : ((s[k + 1].toNat : Int) == 93) = (s[k + 1] == 93) := eqi s[k + 1] 93
                          rw [h93] at f; exact beq_iff_eq.1 f.symm
                        rw [tokAt_br hlt hd hl hx.out h2 h93'] at et
                        clear h93'
                        go_wp2
                        go_quiet (fail)
                        go_wp2_with (first | (go_at_call 44; refine (digit_any _ _).mono ?_; rintro e w' ⟨rfl, rfl⟩) | (go_at_call 45; refine (letter_any _ _).mono ?_; rintro e w' ⟨rfl, rfl⟩))
                        have hB1 := now_set (w := wr.drewN nq) hB ⟨#[]⟩ k false false
                        have hg1 := now_grown (grown_drewN hg nq) ⟨#[]⟩ k false false
                        clear c0 c1 c2 c3 c4 c5 c6 c7 c8 c9 hf hlt0 hB hg
                        generalize (((wr.drewN nq).setCell ⟨b, 2, none⟩ (.string ⟨#[]⟩)).setCell ⟨b, 3, none⟩ (.int .i64 k)).setCell ⟨b, 4, none⟩ (.bool false) = W0 at hB1 hg1 ⊢
                        generalize W0.setCell ⟨b, 5, none⟩ (.bool false) = W1 at hB1 hg1 ⊢
                        obtain ⟨c0, c1, c2, c3, c4, c5, c6, c7, c8, c9, hf, hlt0⟩ := hB1.cells
                        go_wp2_with fail
                        go_quiet (fail)
                        go_wp2_with fail
                        refine (in_list words 8 rfl (by decide) _ _ 9 _ ?_).mono ?_
                        · exact alloc_at _ _ _ (by first | rfl | simp)
                        rintro e w' ⟨rfl, rfl⟩
                        go_wp2_with fail
                        go_end0
                        rw [et]
                        refine ⟨rfl, grown_alloc (now_grown (grown_drewN (grown_set hg1 1 _) _) _ _ _ _) _, pl, ?_, fun h => by cases h⟩
                        have hz := ext_size s k 2 (by omega)
                        simp only [hz]
                        exact (now_set (RB.drewN (RB.set hB1 1 _) _) _ _ _ _).alloc _
                    · have g1 : decide ((s.size : Int) ≤ k + 1) = true := by simp; omega
                      rw [tokAt_br_bad hlt hd hl hx.out (fun h => absurd h h2)] at et
                      go_wp2
                      go_quiet (fail)
                      go_wp2_with (first | (go_at_call 44; refine (digit_any _ _).mono ?_; rintro e w' ⟨rfl, rfl⟩) | (go_at_call 45; refine (letter_any _ _).mono ?_; rintro e w' ⟨rfl, rfl⟩))
                      have hB1 := now_set (w := wr.drewN nq) hB ⟨#[]⟩ k false false
                      have hg1 := now_grown (grown_drewN hg nq) ⟨#[]⟩ k false false
                      clear c0 c1 c2 c3 c4 c5 c6 c7 c8 c9 hf hlt0 hB hg
                      generalize (((wr.drewN nq).setCell ⟨b, 2, none⟩ (.string ⟨#[]⟩)).setCell ⟨b, 3, none⟩ (.int .i64 k)).setCell ⟨b, 4, none⟩ (.bool false) = W0 at hB1 hg1 ⊢
                      generalize W0.setCell ⟨b, 5, none⟩ (.bool false) = W1 at hB1 hg1 ⊢
                      obtain ⟨c0, c1, c2, c3, c4, c5, c6, c7, c8, c9, hf, hlt0⟩ := hB1.cells
                      go_wp2_with fail
                      refine (fails_ok b _ _ c7 hf ⟨_, c8⟩).mono ?_
                      rintro e w' ⟨rfl, rfl⟩
                      go_wp2_with fail
                      refine bodyPost_ret (results_none rfl _ _ _) rfl ?_
                      rw [et]
                      exact ⟨rfl, grown_set (grown_set hg1 7 _) 8 _, k, RB.set (RB.set hB1 7 _) 8 _, fun _ => rfl⟩
                · by_cases h9 : 6 < runLen s true k
                  · rw [tokAt_let_bad hlt hd hl h9] at et
                    go_wp2
                    go_quiet (fail)
                    go_wp2_with (first | (go_at_call 44; refine (digit_any _ _).mono ?_; rintro e w' ⟨rfl, rfl⟩) | (go_at_call 45; refine (letter_any _ _).mono ?_; rintro e w' ⟨rfl, rfl⟩))
                    have hB1 := now_set (w := wr.drewN nq) hB ⟨#[]⟩ k false false
                    have hg1 := now_grown (grown_drewN hg nq) ⟨#[]⟩ k false false
                    clear c0 c1 c2 c3 c4 c5 c6 c7 c8 c9 hf hlt0 hB hg
                    generalize (((wr.drewN nq).setCell ⟨b, 2, none⟩ (.string ⟨#[]⟩)).setCell ⟨b, 3, none⟩ (.int .i64 k)).setCell ⟨b, 4, none⟩ (.bool false) = W0 at hB1 hg1 ⊢
                    generalize W0.setCell ⟨b, 5, none⟩ (.bool false) = W1 at hB1 hg1 ⊢
                    obtain ⟨c0, c1, c2, c3, c4, c5, c6, c7, c8, c9, hf, hlt0⟩ := hB1.cells
                    have hr := runLen_le s true k hk
                    refine (long_any b s k true _ hs hk c0).mono ?_
                    rintro e w' ⟨rfl, rfl⟩
                    generalize HN : runLen s true k = n at *
                    clear HN
                    go_wp2_with fail
                    refine (fails_ok b _ _ c7 hf ⟨_, c8⟩).mono ?_
                    rintro e w' ⟨rfl, rfl⟩
                    go_wp2_with fail
                    refine bodyPost_ret (results_none rfl _ _ _) rfl ?_
                    rw [et]
                    exact ⟨rfl, grown_set (grown_set hg1 7 _) 8 _, k, RB.set (RB.set hB1 7 _) 8 _, fun _ => rfl⟩
                  · cases hm : mem words (s.extract k (k + runLen s true k))
                    · rw [tokAt_name hlt hd hl h9 hm] at et
                      go_wp2
                      go_quiet (fail)
                      go_wp2_with (first | (go_at_call 44; refine (digit_any _ _).mono ?_; rintro e w' ⟨rfl, rfl⟩) | (go_at_call 45; refine (letter_any _ _).mono ?_; rintro e w' ⟨rfl, rfl⟩))
                      have hB1 := now_set (w := wr.drewN nq) hB ⟨#[]⟩ k false false
                      have hg1 := now_grown (grown_drewN hg nq) ⟨#[]⟩ k false false
                      clear c0 c1 c2 c3 c4 c5 c6 c7 c8 c9 hf hlt0 hB hg
                      generalize (((wr.drewN nq).setCell ⟨b, 2, none⟩ (.string ⟨#[]⟩)).setCell ⟨b, 3, none⟩ (.int .i64 k)).setCell ⟨b, 4, none⟩ (.bool false) = W0 at hB1 hg1 ⊢
                      generalize W0.setCell ⟨b, 5, none⟩ (.bool false) = W1 at hB1 hg1 ⊢
                      obtain ⟨c0, c1, c2, c3, c4, c5, c6, c7, c8, c9, hf, hlt0⟩ := hB1.cells
                      have hr := runLen_le s true k hk
                      refine (long_any b s k true _ hs hk c0).mono ?_
                      rintro e w' ⟨rfl, rfl⟩
                      generalize HN : runLen s true k = n at *
                      clear HN
                      go_wp2_with fail
                      go_quiet (fail)
                      go_wp2_with fail
                      refine (in_list words 8 rfl (by decide) _ _ 9 _ ?_).mono ?_
                      · exact alloc_at _ _ _ (by first | rfl | simp)
                      rintro e w' ⟨rfl, rfl⟩
                      go_wp2_with fail
                      go_end0
                      rw [et]
                      refine ⟨rfl, grown_alloc (now_grown (grown_drewN (grown_set hg1 1 _) _) _ _ _ _) _, pl, ?_, fun h => by cases h⟩
                      have hz := ext_size s k n (by omega)
                      simp only [hz]
                      exact (now_set (RB.drewN (RB.set hB1 1 _) _) _ _ _ _).alloc _
                    · rw [tokAt_word hlt hd hl h9 hm] at et
                      go_wp2
                      go_quiet (fail)
                      go_wp2_with (first | (go_at_call 44; refine (digit_any _ _).mono ?_; rintro e w' ⟨rfl, rfl⟩) | (go_at_call 45; refine (letter_any _ _).mono ?_; rintro e w' ⟨rfl, rfl⟩))
                      have hB1 := now_set (w := wr.drewN nq) hB ⟨#[]⟩ k false false
                      have hg1 := now_grown (grown_drewN hg nq) ⟨#[]⟩ k false false
                      clear c0 c1 c2 c3 c4 c5 c6 c7 c8 c9 hf hlt0 hB hg
                      generalize (((wr.drewN nq).setCell ⟨b, 2, none⟩ (.string ⟨#[]⟩)).setCell ⟨b, 3, none⟩ (.int .i64 k)).setCell ⟨b, 4, none⟩ (.bool false) = W0 at hB1 hg1 ⊢
                      generalize W0.setCell ⟨b, 5, none⟩ (.bool false) = W1 at hB1 hg1 ⊢
                      obtain ⟨c0, c1, c2, c3, c4, c5, c6, c7, c8, c9, hf, hlt0⟩ := hB1.cells
                      have hr := runLen_le s true k hk
                      refine (long_any b s k true _ hs hk c0).mono ?_
                      rintro e w' ⟨rfl, rfl⟩
                      generalize HN : runLen s true k = n at *
                      clear HN
                      go_wp2_with fail
                      go_quiet (fail)
                      go_wp2_with fail
                      refine (in_list words 8 rfl (by decide) _ _ 9 _ ?_).mono ?_
                      · exact alloc_at _ _ _ (by first | rfl | simp)
                      rintro e w' ⟨rfl, rfl⟩
                      go_wp2_with fail
                      go_end0
                      rw [et]
                      refine ⟨rfl, grown_alloc (now_grown (grown_drewN (grown_set hg1 1 _) _) _ _ _ _) _, pl, ?_, fun h => by cases h⟩
                      have hz := ext_size s k n (by omega)
                      simp only [hz]
                      exact (now_set (RB.drewN (RB.set hB1 1 _) _) _ _ _ _).alloc _
              · have hl : isLet s[k] = false := dig_not_let hd
                by_cases h9 : 9 < runLen s false k
                · rw [tokAt_dig_bad hlt hd h9] at et
                  go_wp2
                  go_quiet (fail)
                  go_wp2_with (first | (go_at_call 44; refine (digit_any _ _).mono ?_; rintro e w' ⟨rfl, rfl⟩) | (go_at_call 45; refine (letter_any _ _).mono ?_; rintro e w' ⟨rfl, rfl⟩))
                  have hB1 := now_set (w := wr.drewN nq) hB ⟨#[]⟩ k false false
                  have hg1 := now_grown (grown_drewN hg nq) ⟨#[]⟩ k false false
                  clear c0 c1 c2 c3 c4 c5 c6 c7 c8 c9 hf hlt0 hB hg
                  generalize (((wr.drewN nq).setCell ⟨b, 2, none⟩ (.string ⟨#[]⟩)).setCell ⟨b, 3, none⟩ (.int .i64 k)).setCell ⟨b, 4, none⟩ (.bool false) = W0 at hB1 hg1 ⊢
                  generalize W0.setCell ⟨b, 5, none⟩ (.bool false) = W1 at hB1 hg1 ⊢
                  obtain ⟨c0, c1, c2, c3, c4, c5, c6, c7, c8, c9, hf, hlt0⟩ := hB1.cells
                  have hr := runLen_le s false k hk
                  refine (long_any b s k false _ hs hk c0).mono ?_
                  rintro e w' ⟨rfl, rfl⟩
                  generalize HN : runLen s false k = n at *
                  clear HN
                  go_wp2_with fail
                  refine (fails_ok b _ _ c7 hf ⟨_, c8⟩).mono ?_
                  rintro e w' ⟨rfl, rfl⟩
                  go_wp2_with fail
                  refine bodyPost_ret (results_none rfl _ _ _) rfl ?_
                  rw [et]
                  exact ⟨rfl, grown_set (grown_set hg1 7 _) 8 _, k, RB.set (RB.set hB1 7 _) 8 _, fun _ => rfl⟩
                · rw [tokAt_dig hlt hd h9] at et
                  go_wp2
                  go_quiet (fail)
                  go_wp2_with (first | (go_at_call 44; refine (digit_any _ _).mono ?_; rintro e w' ⟨rfl, rfl⟩) | (go_at_call 45; refine (letter_any _ _).mono ?_; rintro e w' ⟨rfl, rfl⟩))
                  have hB1 := now_set (w := wr.drewN nq) hB ⟨#[]⟩ k false false
                  have hg1 := now_grown (grown_drewN hg nq) ⟨#[]⟩ k false false
                  clear c0 c1 c2 c3 c4 c5 c6 c7 c8 c9 hf hlt0 hB hg
                  generalize (((wr.drewN nq).setCell ⟨b, 2, none⟩ (.string ⟨#[]⟩)).setCell ⟨b, 3, none⟩ (.int .i64 k)).setCell ⟨b, 4, none⟩ (.bool false) = W0 at hB1 hg1 ⊢
                  generalize W0.setCell ⟨b, 5, none⟩ (.bool false) = W1 at hB1 hg1 ⊢
                  obtain ⟨c0, c1, c2, c3, c4, c5, c6, c7, c8, c9, hf, hlt0⟩ := hB1.cells
                  have hr := runLen_le s false k hk
                  refine (long_any b s k false _ hs hk c0).mono ?_
                  rintro e w' ⟨rfl, rfl⟩
                  generalize HN : runLen s false k = n at *
                  clear HN
                  go_wp2_with fail
                  go_quiet (fail)
                  go_wp2_with fail
                  refine (in_list words 8 rfl (by decide) _ _ 9 _ ?_).mono ?_
                  · exact alloc_at _ _ _ (by first | rfl | simp)
                  rintro e w' ⟨rfl, rfl⟩
                  go_wp2_with fail
                  go_end0
                  rw [et]
                  refine ⟨rfl, grown_alloc (now_grown (grown_drewN (grown_set hg1 1 _) _) _ _ _ _) _, pl, ?_, fun h => by cases h⟩
                  have hz := ext_size s k n (by omega)
                  simp only [hz]
                  exact (now_set (RB.drewN (RB.set hB1 1 _) _) _ _ _ _).alloc _
            · have hbl : isBlank s[k] = true := by
                have f : ((s[k].toNat : Int) == 13) = (s[k] == 13) := eqi s[k] 13
                rw [e4] at f
                unfold isBlank; rw [← f]; simp
              go_wp2
              go_quiet (fail)
              go_wp2
              exact blank_round _ hlt hbl hB hg H
          · have hbl : isBlank s[k] = true := by
              have f : ((s[k].toNat : Int) == 10) = (s[k] == 10) := eqi s[k] 10
              rw [e3] at f
              unfold isBlank; rw [← f]; simp
            go_wp2
            go_quiet (fail)
            go_wp2
            exact blank_round _ hlt hbl hB hg H
        · have hbl : isBlank s[k] = true := by
            have f : ((s[k].toNat : Int) == 9) = (s[k] == 9) := eqi s[k] 9
            rw [e2] at f
            unfold isBlank; rw [← f]; simp
          go_wp2
          go_quiet (fail)
          go_wp2
          exact blank_round _ hlt hbl hB hg H
      · have hbl : isBlank s[k] = true := by
          have f : ((s[k].toNat : Int) == 32) = (s[k] == 32) := eqi s[k] 32
          rw [e1] at f
          unfold isBlank; rw [← f]; simp
        go_wp2
        go_quiet (fail)
        go_wp2
        exact blank_round _ hlt hbl hB hg H
    · have d1 : decide ((k : Int) < s.size) = false := by simp; omega
      go_wp2
      go_quiet (fail)
      go_wp2
      refine bodyPost_ret (results_none rfl _ _ _) rfl ?_
      have ek : k = s.size := by omega
      have et : tok s p = ⟨.eof, ⟨#[]⟩, s.size⟩ := by
        unfold tok; rw [H.out, skip_end s k hlt]; unfold tokAt; rw [dif_neg hlt, ek]
      rw [et]
      have hB2 := now_set (w := wr.drewN nq) hB ⟨#[]⟩ s.size false false
      subst ek
      exact ⟨rfl, now_grown (grown_drewN hg nq) _ _ _ _, pl, hB2, fun h => by cases h⟩
end Go.Proofs.YtjjlgjmebnkdjaaGreatDoor
