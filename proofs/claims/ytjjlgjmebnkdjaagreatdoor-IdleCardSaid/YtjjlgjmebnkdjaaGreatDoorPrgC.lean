/-
  The program's signs: mark, Next.
-/
import Derived.Test.YtjjlgjmebnkdjaaGreatDoorPrgB
namespace Go.Proofs.YtjjlgjmebnkdjaaGreatDoor
open Go Go.Proofs Go.RowKit Skein

set_option maxRecDepth 100000 in
set_option maxHeartbeats 2000000 in
theorem pmark (s : ByteArray) (k : Nat) (w : World) (hs : s.size ≤ 300) (hlt : k < s.size) (hd : isDig s[k] = false) (hl : isLet s[k] = false) :
    Calls Tryz.prog 75 #[.string s, .int .i64 k] w fun e w' => e = .returned (sgn (tokAt s k)) ∧ w.grownBy w' none := by
  have ho := one_ext hlt
  cases hp : Lib.hasPrefix (s.extract k s.size).data.toList (ByteArray.mk #[91, 93]).data.toList
  · have HP : Hid (Lib.hasPrefix (s.extract k s.size).data.toList (ByteArray.mk #[91, 93]).data.toList = false) := hp
    have hnp : ¬ ∃ h2 : k + 1 < s.size, s[k] = 91 ∧ s[k + 1] = 93 := fun h => by rw [← pre_ext hlt, hp] at h; cases h
    cases hm : mem marks ⟨#[s[k]]⟩
    · have et : Hid (tokAt s k = ⟨.bad, ⟨#[]⟩, k⟩) := by
        by_cases hx : s[k] = 91
        · exact tokAt_br_bad hlt hd hl hx fun h2 e => hnp ⟨h2, hx, e⟩
        · exact tokAt_mark_bad hlt hd hl hx (by rw [ho]; exact hm)
      have HM : Hid (mem marks ⟨#[s[k]]⟩ = false) := hm
      have HO : Hid (s.extract k (k + 1) = ⟨#[s[k]]⟩) := ho
      clear hd hl hp hnp hm ho
      go_enter Tryz.func75, Tryz.ntmps75
      go_wp2_with fail
      refine (Tryz.strings_HasPrefix _ _ _).mono ?_
      rw [HP.out]
      rintro e w1 ⟨rfl, rfl⟩
      go_wp2_with fail
      rw [HO.out]
      refine (Tryz.strings_Contains_one _ _ _).mono ?_
      rw [marks_idx, HM.out]
      rintro e w1 ⟨rfl, rfl⟩
      go_wp2_with fail
      rw [et.out]
      exact bodyPost_ret (v := .agg #[.string ⟨#[98, 97, 100]⟩, .string ⟨#[]⟩, .int .i64 k]) (by simp [results, Tryz.results75, go_sem]) rfl ⟨rfl, grown_alloc (grown_refl _ _) _⟩
    · have hx : s[k] ≠ 91 := by
        intro e; rw [e] at hm; revert hm; decide
      have et : Hid (tokAt s k = ⟨.sym, s.extract k (k + 1), k⟩) := tokAt_mark hlt hd hl hx (by rw [ho]; exact hm)
      have HM : Hid (mem marks ⟨#[s[k]]⟩ = true) := hm
      have HO : Hid (s.extract k (k + 1) = ⟨#[s[k]]⟩) := ho
      clear hd hl hp hnp hm ho hx
      go_enter Tryz.func75, Tryz.ntmps75
      go_wp2_with fail
      refine (Tryz.strings_HasPrefix _ _ _).mono ?_
      rw [HP.out]
      rintro e w1 ⟨rfl, rfl⟩
      go_wp2_with fail
      rw [HO.out]
      refine (Tryz.strings_Contains_one _ _ _).mono ?_
      rw [marks_idx, HM.out]
      rintro e w1 ⟨rfl, rfl⟩
      go_wp2_with fail
      rw [et.out, HO.out]
      exact bodyPost_ret (v := .agg #[.string ⟨#[s[k]]⟩, .string ⟨#[s[k]]⟩, .int .i64 k]) (by simp [results, Tryz.results75, go_sem]) rfl ⟨rfl, grown_alloc (grown_refl _ _) _⟩
  · have HP : Hid (Lib.hasPrefix (s.extract k s.size).data.toList (ByteArray.mk #[91, 93]).data.toList = true) := hp
    obtain ⟨h2, e1, e2⟩ := (pre_ext hlt).1 hp
    have et : Hid (tokAt s k = ⟨.sym, ⟨#[91, 93]⟩, k⟩) := by
      have := tokAt_br hlt hd hl e1 h2 e2
      rw [two_ext h2 e1 e2] at this; exact this
    clear hd hl hp e1 e2 ho
    go_enter Tryz.func75, Tryz.ntmps75
    go_wp2_with fail
    refine (Tryz.strings_HasPrefix _ _ _).mono ?_
    rw [HP.out]
    rintro e w1 ⟨rfl, rfl⟩
    go_wp2_with fail
    rw [et.out]
    exact bodyPost_ret (v := .agg #[.string ⟨#[91, 93]⟩, .string ⟨#[91, 93]⟩, .int .i64 k]) (by simp [results, Tryz.results75, go_sem]) rfl ⟨rfl, grown_alloc (grown_refl _ _) _⟩

theorem cells3 {w : World} {k : Nat} {a b c : Value} {T : TypeId} (h : w.heap[k]? = some (.cells #[a, b, c] T (0, 0))) :
    w.cell? ⟨k, 0, none⟩ = some a ∧ w.cell? ⟨k, 1, none⟩ = some b ∧ w.cell? ⟨k, 2, none⟩ = some c := by
  refine ⟨?_, ?_, ?_⟩
  all_goals simp [World.cell?, h]

set_option maxRecDepth 100000 in
set_option maxHeartbeats 4000000 in
theorem pnext (s : ByteArray) (p : Nat) (w : World) (hs : s.size ≤ 300) (hp : p ≤ s.size) :
    Calls Tryz.prog 59 #[.string s, .int .i64 p] w fun e w' => e = .returned (sgn (tok s p)) ∧ w.grownBy w' none := by
  go_enter Tryz.func59, Tryz.ntmps59
  go_wp2
  go_loop [5] (fun i => ∃ k : Nat, k ≤ s.size ∧ i = .int .i64 k ∧ Hid (skip s p = skip s k)) (fun i => s.size - (intOf i).toNat)
  case atStart => exact ⟨p, hp, rfl, rfl⟩
  case round =>
    obtain ⟨k, hk, rfl, H⟩ := hrel
    by_cases hlt : k < s.size
    · have d1 : decide ((k : Int) < s.size) = true := by simp; omega
      cases hbl : isBlank s[k]
      · have et : Hid (tok s p = tokAt s k) := by unfold Hid tok; rw [H.out, skip_stop s k hlt hbl]
        have hne : ((k : Int) == s.size) = false := by simp; omega
        cases hd : isDig s[k]
        · cases hl : isLet s[k]
          · go_wp2_with (first | (go_at_call 70; refine (pblank _ _).mono ?_; rintro e w' ⟨rfl, rfl⟩) | (go_at_call 71; refine (pdigit _ _).mono ?_; rintro e w' ⟨rfl, rfl⟩) | (go_at_call 73; refine (pletter _ _).mono ?_; rintro e w' ⟨rfl, rfl⟩))
            refine (pmark s k _ hs hlt hd hl).mono ?_
            rintro e w1 ⟨rfl, hg⟩
            have hg1 : w.grownBy w1 none := grown_trans (grown_alloc (grown_refl _ _) _) hg
            have hb1 : w1.heap[w.heap.size]? = some (.cells #[.string ⟨#[]⟩, .string ⟨#[]⟩, .int .i64 0] 99 (0, 0)) := by
              rw [hg.block _ (by simp) (by simp)]; exact alloc_at _ _ _ rfl
            obtain ⟨y0, y1, y2⟩ := cells3 hb1
            have hy : ∀ o, w1.frozen? ⟨w.heap.size, o, none⟩ = false := fun o => by simp [World.frozen?, hb1]
            unfold sgn
            go_wp2_with fail
            rw [et.out]
            exact bodyPost_ret (v := sgn (tokAt s k)) (by simp [results, Tryz.results59, go_sem, sgn, y0, y1, y2]) rfl ⟨rfl, grown_setnew (grown_setnew (grown_setnew hg1 (Nat.le_refl _) 0 _) (Nat.le_refl _) 1 _) (Nat.le_refl _) 2 _⟩
          · go_wp2_with (first | (go_at_call 70; refine (pblank _ _).mono ?_; rintro e w' ⟨rfl, rfl⟩) | (go_at_call 71; refine (pdigit _ _).mono ?_; rintro e w' ⟨rfl, rfl⟩) | (go_at_call 73; refine (pletter _ _).mono ?_; rintro e w' ⟨rfl, rfl⟩))
            refine (pword s k _ hs hlt hd hl).mono ?_
            rintro e w1 ⟨rfl, hg⟩
            have hg1 : w.grownBy w1 none := grown_trans (grown_alloc (grown_refl _ _) _) hg
            have hb1 : w1.heap[w.heap.size]? = some (.cells #[.string ⟨#[]⟩, .string ⟨#[]⟩, .int .i64 0] 99 (0, 0)) := by
              rw [hg.block _ (by simp) (by simp)]; exact alloc_at _ _ _ rfl
            obtain ⟨y0, y1, y2⟩ := cells3 hb1
            have hy : ∀ o, w1.frozen? ⟨w.heap.size, o, none⟩ = false := fun o => by simp [World.frozen?, hb1]
            unfold sgn
            go_wp2_with fail
            rw [et.out]
            exact bodyPost_ret (v := sgn (tokAt s k)) (by simp [results, Tryz.results59, go_sem, sgn, y0, y1, y2]) rfl ⟨rfl, grown_setnew (grown_setnew (grown_setnew hg1 (Nat.le_refl _) 0 _) (Nat.le_refl _) 1 _) (Nat.le_refl _) 2 _⟩
        · go_wp2_with (first | (go_at_call 70; refine (pblank _ _).mono ?_; rintro e w' ⟨rfl, rfl⟩) | (go_at_call 71; refine (pdigit _ _).mono ?_; rintro e w' ⟨rfl, rfl⟩) | (go_at_call 73; refine (pletter _ _).mono ?_; rintro e w' ⟨rfl, rfl⟩))
          refine (pnumber s k _ hs hlt hd).mono ?_
          rintro e w1 ⟨rfl, hg⟩
          have hg1 : w.grownBy w1 none := grown_trans (grown_alloc (grown_refl _ _) _) hg
          have hb1 : w1.heap[w.heap.size]? = some (.cells #[.string ⟨#[]⟩, .string ⟨#[]⟩, .int .i64 0] 99 (0, 0)) := by
            rw [hg.block _ (by simp) (by simp)]; exact alloc_at _ _ _ rfl
          obtain ⟨y0, y1, y2⟩ := cells3 hb1
          have hy : ∀ o, w1.frozen? ⟨w.heap.size, o, none⟩ = false := fun o => by simp [World.frozen?, hb1]
          unfold sgn
          go_wp2_with fail
          rw [et.out]
          exact bodyPost_ret (v := sgn (tokAt s k)) (by simp [results, Tryz.results59, go_sem, sgn, y0, y1, y2]) rfl ⟨rfl, grown_setnew (grown_setnew (grown_setnew hg1 (Nat.le_refl _) 0 _) (Nat.le_refl _) 1 _) (Nat.le_refl _) 2 _⟩
      · go_wp2_with (first | (go_at_call 70; refine (pblank _ _).mono ?_; rintro e w' ⟨rfl, rfl⟩))
        exact ⟨⟨k + 1, by omega, by go_num, by unfold Hid; rw [H.out, skip_blank s k hlt hbl]⟩, by simp [intOf]; omega⟩
    · have d1 : decide ((k : Int) < s.size) = false := by simp; omega
      have et : Hid (tok s p = ⟨.eof, ⟨#[]⟩, s.size⟩) := by
        unfold Hid tok; rw [H.out, skip_end s k hlt]; unfold tokAt; rw [dif_neg hlt]; congr 1; omega
      have hne : ((k : Int) == s.size) = true := by simp; omega
      go_wp2_with fail
      have ek : k = s.size := by omega
      rw [et.out]
      subst ek
      exact bodyPost_ret (v := .agg #[.string ⟨#[101, 110, 100]⟩, .string ⟨#[]⟩, .int .i64 s.size]) (by simp [results, Tryz.results59, go_sem]) rfl ⟨rfl, grown_alloc (grown_refl _ _) _⟩
end Go.Proofs.YtjjlgjmebnkdjaaGreatDoor
