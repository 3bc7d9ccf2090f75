/-
  Show, and the law on it.
-/
import Derived.Test.YtjjlgjmebnkdjaaGreatDoorPlJ
import Derived.Test.YtjjlgjmebnkdjaaGreatDoorPrgU
import Derived.Test.YtjjlgjmebnkdjaaGreatDoorRefL
import Derived.BigQuiet
namespace Go.Proofs.YtjjlgjmebnkdjaaGreatDoor
open Go Go.Proofs Go.RowKit Skein

theorem NodeAt.lt {b : Nat} {w : World} {t : T} {v : Value} (h : NodeAt b w t v) (hc : Clean t) : b < w.heap.size := by
  have key : ∀ {op n : Int} {x y z : Value}, IsN b w v op n x y z → b < w.heap.size := fun ⟨k, _, hk, hh⟩ => Nat.lt_trans hk (Array.getElem?_eq_some_iff.1 hh).1
  cases t with
  | junk => exact hc.elim
  | free => exact hc.elim
  | nil => exact key h
  | num n => exact key h
  | var n => exact key h
  | letE n p q => obtain ⟨x, y, h, _⟩ := h; exact key h
  | fn n p => obtain ⟨x, h, _⟩ := h; exact key h
  | ite p q r => obtain ⟨x, y, z, h, _⟩ := h; exact key h
  | app p q => obtain ⟨x, y, h, _⟩ := h; exact key h
  | un op p => obtain ⟨x, h, _⟩ := h; exact key h
  | bin op p q => obtain ⟨x, y, h, _⟩ := h; exact key h

theorem Tab.below {w w' : World} (h : Tab w) (hb : Below w.heap.size w w') : Tab w' := h.grown (grown_below hb)
theorem below_grown {w w' : World} (hg : w.grownBy w' none) : Below w.heap.size w w' := ⟨hg.os, hg.tape, hg.output, hg.size, fun k hk => hg.block k hk (by simp)⟩

set_option maxRecDepth 100000 in
set_option maxHeartbeats 2000000 in
theorem pshow_err (s : ByteArray) (w : World) (t : T) (f : Int × Int) (hf : f.1 ≠ 0) (hR : ∀ w, Calls Tryz.prog 31 #[.string s] w (RPost w t f)) :
    Calls Tryz.prog 26 #[.string s] w fun e w' => e = .returned (.tuple #[.string ⟨#[]⟩, .int .i64 f.1]) ∧ Below w.heap.size w w' := by
  have HR : Hid (∀ w, Calls Tryz.prog 31 #[.string s] w (RPost w t f)) := hR
  have hne : (f.1 != 0) = true := by simpa using hf
  clear hR hf
  go_enter Tryz.func26, Tryz.ntmps26
  go_wp2_with fail
  refine (HR.out _).mono ?_
  rintro e w1 ⟨v, rfl, -, hv, hb⟩
  rcases hv with rfl | ⟨T1, x1, rfl⟩
  all_goals
    go_wp2_with fail
    go_quiet (fail)
    go_wp2_with fail
    have hB := hb.alloc hb.size (.cells #[.int .i64 f.1, .int .i64 f.2] 53 (0, 0))
    exact bodyPost_ret (v := .tuple #[.string ⟨#[]⟩, .int .i64 f.1]) (by simp [results, Tryz.results26, go_sem]) rfl ⟨rfl, hB.os, hB.tape, hB.output, hB.size, hB.block⟩

set_option maxRecDepth 100000 in
set_option maxHeartbeats 2000000 in
theorem pshow_ok (s : ByteArray) (w : World) (ht : Tab w) (t : T) {T1 : TypeId} {x1 : Value} {f1 : Nat} {p : ByteArray} (he : pv t = .iface T1 x1) (hs : Says T1 x1 f1 p) (hR : ∀ w, Calls Tryz.prog 31 #[.string s] w (RPost w t (0, 0))) :
    Calls Tryz.prog 26 #[.string s] w fun e w' => e = .returned (.tuple #[.string p, .int .i64 0]) ∧ Below w.heap.size w w' := by
  have HR : Hid (∀ w, Calls Tryz.prog 31 #[.string s] w (RPost w t (0, 0))) := hR
  have HT : Hid (Tab w) := ht
  have HE : Hid (pv t = .iface T1 x1) := he
  have hm1 := hs.meth
  have he1 := hs.ent
  have C1 : Hid (∀ w, Tab w → Calls Tryz.prog f1 #[x1] w fun e w' => e = .returned (.string p) ∧ w.grownBy w' none) := hs.call
  clear hR ht he hs
  go_enter Tryz.func26, Tryz.ntmps26
  go_wp2_with fail
  refine (HR.out _).mono ?_
  rintro e w1 ⟨v, rfl, hv, -, hb⟩
  have hv' := hv rfl
  rw [HE.out] at hv'
  subst hv'
  clear hv
  go_wp2_with fail
  have hB := hb.alloc hb.size (.cells #[.int .i64 0, .int .i64 0] 53 (0, 0))
  refine (C1.out _ (HT.out.below hB)).mono ?_
  rintro e w2 ⟨rfl, hg2⟩
  have hB2 := hB.trans ((below_grown hg2).mono hB.size)
  go_wp2_with fail
  exact bodyPost_ret (v := .tuple #[.string p, .int .i64 0]) (by simp [results, Tryz.results26, go_sem]) rfl ⟨rfl, hB2⟩

set_option maxRecDepth 100000 in
set_option maxHeartbeats 2000000 in
theorem rshow_err (s : ByteArray) (w : World) (f1 f2 : Int) (hf : f1 ≠ 0) (hD : ∀ w, Calls Tryz.prog 27 #[.string s] w fun e w' => ∃ a, e = .returned (.tuple #[.pointer a, .int .i64 f1, .int .i64 f2]) ∧ Below w.heap.size w w') :
    Calls Tryz.prog 28 #[.string s] w fun e w' => e = .returned (.tuple #[.string ⟨#[]⟩, .int .i64 f1]) ∧ Below w.heap.size w w' := by
  have HD : Hid (∀ w, Calls Tryz.prog 27 #[.string s] w fun e w' => ∃ a, e = .returned (.tuple #[.pointer a, .int .i64 f1, .int .i64 f2]) ∧ Below w.heap.size w w') := hD
  have hne : (f1 != 0) = true := by simpa using hf
  clear hD hf
  go_enter Tryz.func28, Tryz.ntmps28
  go_wp2_with fail
  refine (HD.out _).mono ?_
  rintro e w1 ⟨a, rfl, hb⟩
  go_wp2_with fail
  exact bodyPost_ret (v := .tuple #[.string ⟨#[]⟩, .int .i64 f1]) (by simp [results, Tryz.results28, go_sem]) rfl ⟨rfl, hb⟩

set_option maxRecDepth 100000 in
set_option maxHeartbeats 2000000 in
theorem rshow_ok (s : ByteArray) (w : World) (t : T) (hc : Clean t) (hz : nodes t ≤ 600) (hD : ∀ w, Calls Tryz.prog 27 #[.string s] w fun e w' => ∃ a, e = .returned (.tuple #[.pointer a, .int .i64 0, .int .i64 0]) ∧ NodeAt w.heap.size w' t (.pointer a) ∧ Below w.heap.size w w') :
    Calls Tryz.prog 28 #[.string s] w fun e w' => e = .returned (.tuple #[.string (plain t), .int .i64 0]) ∧ Below w.heap.size w w' := by
  have HD : Hid (∀ w, Calls Tryz.prog 27 #[.string s] w fun e w' => ∃ a, e = .returned (.tuple #[.pointer a, .int .i64 0, .int .i64 0]) ∧ NodeAt w.heap.size w' t (.pointer a) ∧ Below w.heap.size w w') := hD
  clear hD
  go_enter Tryz.func28, Tryz.ntmps28
  go_wp2_with fail
  refine (HD.out _).mono ?_
  rintro e w1 ⟨a, rfl, hn, hb⟩
  have HN : Hid (NodeAt w.heap.size w1 t (.pointer a)) := hn
  clear hn
  go_wp2_with fail
  refine (shn_all t _ _ _ HN.out (HN.out.lt hc) hc hz).mono ?_
  rintro e w2 ⟨rfl, hg⟩
  have hB2 := hb.trans ((below_grown hg).mono hb.size)
  go_wp2_with fail
  exact bodyPost_ret (v := .tuple #[.string (plain t), .int .i64 0]) (by simp [results, Tryz.results28, go_sem]) rfl ⟨rfl, hB2⟩

set_option maxRecDepth 100000 in
set_option maxHeartbeats 2000000 in
theorem showed_of (s : ByteArray) (w : World) (ht : Tab w) (q : ByteArray) (f : Int)
    (hC : ∀ w, Tab w → Calls Tryz.prog 26 #[.string s] w fun e w' => e = .returned (.tuple #[.string q, .int .i64 f]) ∧ Below w.heap.size w w')
    (hD : ∀ w, Calls Tryz.prog 28 #[.string s] w fun e w' => e = .returned (.tuple #[.string q, .int .i64 f]) ∧ Below w.heap.size w w') :
    Calls Tryz.prog 16 #[.string s] w fun e w' => e = .returned (.bool true) ∧ Below w.heap.size w w' := by
  have HC : Hid (∀ w, Tab w → Calls Tryz.prog 26 #[.string s] w fun e w' => e = .returned (.tuple #[.string q, .int .i64 f]) ∧ Below w.heap.size w w') := hC
  have HD : Hid (∀ w, Calls Tryz.prog 28 #[.string s] w fun e w' => e = .returned (.tuple #[.string q, .int .i64 f]) ∧ Below w.heap.size w w') := hD
  have HT : Hid (Tab w) := ht
  clear hC hD ht
  go_enter Tryz.func16, Tryz.ntmps16
  go_wp2_with fail
  refine (HC.out _ HT.out).mono ?_
  rintro e w1 ⟨rfl, hb1⟩
  go_wp2_with fail
  refine (HD.out _).mono ?_
  rintro e w2 ⟨rfl, hb2⟩
  have hb := hb1.trans (hb2.mono hb1.size)
  clear hb1 hb2
  go_wp2_with fail
  go_ret
  refine ⟨?_, hb⟩
  first | rfl | simp

theorem showed_ok (s : ByteArray) (w : World) (ht : Tab w) : Calls Tryz.prog 16 #[.string s] w fun e w' => e = .returned (.bool true) ∧ Below w.heap.size w w' := by
  by_cases hl : s.size ≤ 300
  · obtain ⟨t, m, hP⟩ := PM_ends s
    by_cases hf : (finish m).1 = 0
    · have hf0 : finish m = (0, 0) := by
        unfold finish at hf ⊢
        split at hf
        · simp at hf
        · rename_i h1
          rw [if_neg h1]
          split at hf
          · simp at hf
          · rename_i h2
            rw [if_neg h2]
            split at hf
            · simp at hf
            · rename_i h3; rw [if_neg h3]
      obtain ⟨hc, hz⟩ := whole_good hl hP hf0
      obtain ⟨T1, x1, f1, he, hs⟩ := spk_all t hc hz
      refine showed_of s w ht (plain t) 0 (fun w ht => pshow_ok s w ht t he hs (fun w => by rw [← hf0]; exact pread s w hl _ t m hP)) (fun w => rshow_ok s w t hc hz fun w => ?_)
      refine (parse_ok s w hl _ t m hP).mono ?_
      rintro e w' ⟨v, he, hn, ⟨a, rfl⟩, hb⟩
      rw [hf0] at he hn
      exact ⟨a, he, hn rfl, hb⟩
    · refine showed_of s w ht ⟨#[]⟩ (finish m).1 (fun w _ => pshow_err s w t (finish m) hf (fun w => pread s w hl _ t m hP)) (fun w => rshow_err s w (finish m).1 (finish m).2 hf fun w => ?_)
      refine (parse_ok s w hl _ t m hP).mono ?_
      rintro e w' ⟨v, he, -, ⟨a, rfl⟩, hb⟩
      exact ⟨a, he, hb⟩
  · have hs : 300 < s.size := by omega
    refine showed_of s w ht ⟨#[]⟩ 1 (fun w _ => pshow_err s w .nil (1, 0) (by decide) (fun w => pread_long s w hs .nil)) (fun w => rshow_err s w 1 0 (by decide) fun w => ?_)
    refine (parse_long s w hs).mono ?_
    rintro e w' ⟨rfl, rfl⟩
    exact ⟨none, rfl, Below.refl _ _⟩

set_option maxRecDepth 100000 in
set_option maxHeartbeats 1000000 in
theorem shows_ok (s : ByteArray) (w : World) (ht : Tab w) : Calls Tryz.prog 4 #[.string s] w fun e w' => e = .returned (.bool true) ∧ Below w.heap.size w w' := by
  have HT : Hid (Tab w) := ht
  clear ht
  go_enter Tryz.func4, Tryz.ntmps4
  go_wp2_with fail
  refine (showed_ok _ _ HT.out).mono ?_
  rintro e w1 ⟨rfl, hb1⟩
  go_wp2_with fail
  refine (showed_ok _ _ (HT.out.below hb1)).mono ?_
  rintro e w2 ⟨rfl, hb2⟩
  have hb := hb1.trans (hb2.mono hb1.size)
  clear hb1 hb2
  go_wp2_with fail
  go_ret
  exact ⟨rfl, hb⟩
end Go.Proofs.YtjjlgjmebnkdjaaGreatDoor
