/-
  Laid: a text in brackets, as a name, and handed to a function that gives it back.
-/
import Derived.Test.YtjjlgjmebnkdjaaGreatDoorWf00
import Derived.Test.YtjjlgjmebnkdjaaGreatDoorWf02
namespace Go.Proofs.YtjjlgjmebnkdjaaGreatDoor
open Go Go.Proofs Go.RowKit Skein

theorem runs_let {L : Nat} {t : T} {a : Except Int ByteArray} {k : Nat} (h : Runs L t a k) : Runs L (.letE 0 (lft 1 t) (.var 0)) a k := by
  obtain ⟨n, r, he, h⟩ := h
  have hs := ev_sh .busy [0] 0 L n (.need t []) ⟨[], 0⟩
  rw [he] at hs
  have hs2 : ev L n (.need (lft 1 t) [0]) ⟨[.busy], 0⟩ = some (shR [0] r.1, shE .busy [0] 0 r.2) := hs
  rcases h with ⟨z, hz, rfl, rfl⟩ | ⟨v, j, q, hv, hq, rfl, rfl⟩
  · refine ⟨n + 3, (.err z, shE .busy [0] 0 r.2), ?_, .inl ⟨z, rfl, rfl, rfl⟩⟩
    rw [hz] at hs2
    simp only [ev, List.length_nil, List.nil_append, List.getElem?_cons_zero, List.set_cons_zero, hs2]
    rfl
  · refine ⟨n + 3, (.ok (shV [0] v), shE (.known (shV [0] v)) [0] 0 r.2), ?_, .inr ⟨shV [0] v, j, (q.1, shE (.known (shV [0] v)) [0] 0 q.2), rfl, ?_, rfl, rfl⟩⟩
    · rw [hv] at hs2
      simp only [ev, List.length_nil, List.nil_append, List.getElem?_cons_zero, List.set_cons_zero, hs2]
      rfl
    · have ht := tell_sh (.known (shV [0] v)) [0] 0 L numT fnText j (.val v) r.2
      rw [hq] at ht
      exact ht
theorem runs_fn {L : Nat} {t : T} {a : Except Int ByteArray} {k : Nat} (h : Runs L t a k) : Runs (L + 1) (.app (.fn 0 (.var 0)) t) a (k + 1) := by
  obtain ⟨n, r, he, h⟩ := h
  have hs := ev_sh .busy [] 1 L n (.need t []) ⟨[], 0⟩
  rw [he] at hs
  have hs2 : ev (L + 1) n (.need (lft 0 t) []) ⟨[.busy], 1⟩ = some (shR [] r.1, shE .busy [] 1 r.2) := hs
  rw [lft_zero] at hs2
  have hlt : ¬ L + 1 ≤ 0 := by omega
  obtain ⟨n1, hn1⟩ : ∃ n1, n + 2 = n1 + 1 := ⟨n + 1, rfl⟩
  rcases h with ⟨z, hz, rfl, rfl⟩ | ⟨v, j, q, hv, hq, rfl, rfl⟩
  · refine ⟨n + 3, (.err z, shE .busy [] 1 r.2), ?_, .inl ⟨z, rfl, rfl, rfl⟩⟩
    rw [hz] at hs2
    simp only [ev, Option.bind_some, R.fn, List.length_nil, List.nil_append, List.getElem?_cons_zero, List.set_cons_zero, if_neg hlt, Nat.zero_add, hs2]
    rfl
  · refine ⟨n + 3, (.ok (shV [] v), shE (.known (shV [] v)) [] 1 r.2), ?_, .inr ⟨shV [] v, j, (q.1, shE (.known (shV [] v)) [] 1 q.2), rfl, ?_, rfl, rfl⟩⟩
    · rw [hv] at hs2
      simp only [ev, Option.bind_some, R.fn, List.length_nil, List.nil_append, List.getElem?_cons_zero, List.set_cons_zero, if_neg hlt, Nat.zero_add, hs2]
      rfl
    · have ht := tell_sh (.known (shV [] v)) [] 1 L numT fnText j (.val v) r.2
      rw [hq] at ht
      exact ht

def lpA : List Pc := [.mark 40, .blank 32]
def lqA : List Pc := [.blank 32, .mark 41]
def lpB : List Pc := [.word [108, 101, 116], .blank 32, .word [113, 113, 113, 113, 113, 113], .blank 32, .mark 61, .blank 32]
def lqB : List Pc := [.blank 32, .word [105, 110], .blank 32, .word [113, 113, 113, 113, 113, 113]]
def lpC : List Pc := [.mark 40, .mark 92, .word [120], .mark 46, .word [120], .mark 41, .mark 40]
def lqC : List Pc := [.blank 10, .mark 41]

/-- The signs of a text between pieces. -/
theorem laid_signs {s S : ByteArray} {l : List Tk} (hl : Str s (tok s 0) l) (hb : Tk.bad ∉ l) (p q : List Pc) (hS : S.data.toList = flat p ++ (s.data.toList ++ flat q)) (hp : ∀ nx, fin p nx = true) (hq : fin q none = true) (hh : halt (firstN q none) = true) :
    Str S (tok S 0) (tks p ++ (l ++ tks q)) := by
  have h0 : D S 0 (flat p ++ (s.data.toList ++ flat q)) := D_whole hS
  have h1 : D S (0 + (flat p).length) (s.data.toList ++ flat q) := h0.app
  have h2 : D S (0 + (flat p).length + s.size) (flat q) := by
    have := h1.app
    simpa using this
  have hz : 0 + (flat p).length + s.size ≤ S.size := by
    have e : S.size = S.data.toList.length := by simp
    rw [e, hS]; simp
  refine Str_pre (rest := s.data.toList ++ flat q) p 0 (Nat.zero_le _) h0 (hp _) ?_
  have := Str_in (s := s) h1 (halts_of hq hh true) (halts_of hq hh false) (Str_of q _ hz h2 hq) l 0 (Nat.zero_le _) hl hb
  simpa using this

theorem laid_bytes (a s b : ByteArray) : (a ++ s ++ b).data.toList = a.data.toList ++ (s.data.toList ++ b.data.toList) := by
  simp

def lA : ByteArray := ⟨#[40, 32]⟩
def lA2 : ByteArray := ⟨#[32, 41]⟩
def lB : ByteArray := ⟨#[108, 101, 116, 32, 113, 113, 113, 113, 113, 113, 32, 61, 32]⟩
def lB2 : ByteArray := ⟨#[32, 105, 110, 32, 113, 113, 113, 113, 113, 113]⟩
def lC : ByteArray := ⟨#[40, 92, 120, 46, 120, 41, 40]⟩
def lC2 : ByteArray := ⟨#[10, 41]⟩

theorem noFree_of : ∀ (t : T), Clean t → NoFree t := by
  intro t
  induction t with
  | junk => intro h; exact h.elim
  | free => intro h; exact h.elim
  | nil => intro _; trivial
  | num n => intro _; trivial
  | var n => intro _; trivial
  | letE n a b ia ib => intro h; exact ⟨ia h.2.1, ib h.2.2⟩
  | fn n a ia => intro h; exact ia h.2
  | ite a b c ia ib ic => intro h; exact ⟨ia h.1, ib h.2.1, ic h.2.2⟩
  | app a b ia ib => intro h; exact ⟨ia h.1, ib h.2⟩
  | un op a ia => intro h; exact ia h.2
  | bin op a b ia ib => intro h; exact ⟨ia h.2.1, ib h.2.2⟩

/-- The four answers. -/
theorem laid_four {s : ByteArray} (hs : s.size ≤ 270) {t : T} {m : M} (hP : PM s (8 * s.size + 8) .expr (Skein.start s) = some (t, m)) (hf0 : finish m = (0, 0)) : ∃ a k z,
    (∀ w, Tab w → Calls Tryz.prog 20 #[.string s, .int .i64 400] w fun r w' => r = .returned (.agg #[.string a, .int .i64 k, .int .i64 z]) ∧ Below w.heap.size w w') ∧
    (∀ w, Tab w → Calls Tryz.prog 20 #[.string (lA ++ s ++ lA2), .int .i64 400] w fun r w' => r = .returned (.agg #[.string a, .int .i64 k, .int .i64 z]) ∧ Below w.heap.size w w') ∧
    (∀ w, Tab w → Calls Tryz.prog 20 #[.string (lB ++ s ++ lB2), .int .i64 400] w fun r w' => r = .returned (.agg #[.string a, .int .i64 k, .int .i64 z]) ∧ Below w.heap.size w w') ∧
    (∀ w, Tab w → Calls Tryz.prog 20 #[.string (lC ++ s ++ lC2), .int .i64 401] w fun r w' => r = .returned (.agg #[.string a, .int .i64 (k + 1), .int .i64 z]) ∧ Below w.heap.size w w') ∧ 0 ≤ k ∧ k ≤ 400 := by
  have hl : s.size ≤ 300 := by omega
  obtain ⟨htd, hsm, hdp⟩ := whole_tree hl hP hf0
  obtain ⟨hc, _⟩ := whole_good hl hP hf0
  obtain ⟨a, k, hR⟩ := runs_ex 400 t htd
  obtain ⟨l, hl1, hl2, hl3⟩ := whole_signs hP hf0 (noFree_of t hc)
  have hz : ∀ a b : ByteArray, (a ++ s ++ b).size = a.size + s.size + b.size := fun a b => by simp only [ByteArray.size_append]
  refine ⟨txtA a, k, errA a, fun w ht => pev_ok (L := 400) hl hP hf0 (by decide) hR w ht, fun w ht => ?_, fun w ht => ?_, fun w ht => ?_, by omega, by have := (runs_steps hR).1; omega⟩
  · have hS := laid_signs (S := lA ++ s ++ lA2) hl1 hl2 lpA lqA (laid_bytes _ _ _) (fun nx => rfl) rfl rfl
    have hp : PT (8 * s.size + 8 + 7) .expr [] (.sym ⟨#[40]⟩ :: (l ++ [.sym ⟨#[41]⟩])) = some (t, []) := PT_up (PT_paren hl3) rfl rfl rfl
    obtain ⟨m', h1, h2⟩ := whole_str hS hp
    exact pev_ok (L := 400) (by rw [hz]; show 2 + s.size + 2 ≤ 300; omega) h1 h2 (by decide) hR w ht
  · have hS := laid_signs (S := lB ++ s ++ lB2) hl1 hl2 lpB lqB (laid_bytes _ _ _) (fun nx => rfl) rfl rfl
    have hp := PT_laid_let (x := ⟨#[113, 113, 113, 113, 113, 113]⟩) (Str.lft 1 l _ hl1) hl3
    obtain ⟨m', h1, h2⟩ := whole_str hS hp
    exact pev_ok (L := 400) (by rw [hz]; show 13 + s.size + 10 ≤ 300; omega) h1 h2 (by decide) (runs_let hR) w ht
  · have hS := laid_signs (S := lC ++ s ++ lC2) hl1 hl2 lpC lqC (laid_bytes _ _ _) (fun nx => rfl) rfl rfl
    have hp := PT_laid_fn hl3
    obtain ⟨m', h1, h2⟩ := whole_str hS hp
    exact pev_ok (L := 401) (by rw [hz]; show 7 + s.size + 2 ≤ 300; omega) h1 h2 (by decide) (runs_fn hR) w ht

theorem one_ok (w : World) (ht : Tab w) : Calls Tryz.prog 20 #[.string ⟨#[40, 49, 41]⟩, .int .i64 0] w fun e w' => e = .returned (.agg #[.string ⟨#[49]⟩, .int .i64 0, .int .i64 0]) ∧ Below w.heap.size w w' := by
  obtain ⟨m, h1, h2⟩ := whole_of (s := ⟨#[40, 49, 41]⟩) (l := [.mark 40, .num [49], .mark 41]) (n := 20) (t := .num 1) (by rfl) (by rfl) (by rfl)
  refine pev_ok (L := 0) (a := .ok ⟨#[49]⟩) (k := 0) (by decide) h1 h2 (by decide) ⟨2, _, rfl, .inr ⟨.num 1, 1, _, rfl, rfl, ?_, rfl⟩⟩ w ht
  show Except.ok _ = Except.ok (numT 1)
  rw [numT_in (by unfold Skein.Int64; omega)]
  unfold sdig
  rw [show (1 : Int) = ((1 : Nat) : Int) from rfl, Lib.itoa_nonneg, Lib.decDigits, dif_pos (by decide)]; rfl

set_option maxRecDepth 100000 in
set_option maxHeartbeats 8000000 in
theorem laid_ok (s : ByteArray) (hsz : s.size ≤ 9223372036854775807) (w : World) (ht : Tab w) : Calls Tryz.prog 13 #[.string s] w fun e w' => e = .returned (.bool true) ∧ Below w.heap.size w w' := by
  have HK : Hid (∀ w, Tab w → Calls Tryz.prog 20 #[.string ⟨#[40, 49, 41]⟩, .int .i64 0] w fun e w' => e = .returned (.agg #[.string ⟨#[49]⟩, .int .i64 0, .int .i64 0]) ∧ Below w.heap.size w w') := one_ok
  have HT : Hid (∀ w', Below w.heap.size w w' → Tab w') := fun w' hb => ht.belowB hb ht.lt
  have hC : ∃ e x, (∀ w, Calls Tryz.prog 25 #[.string s] w fun r w' => r = .returned (.tuple #[.int .i64 e, .int .i64 x]) ∧ Below w.heap.size w w') ∧ (e ≠ 0 ∨ (e = 0 ∧ (s.size ≤ 270 → ∃ t m, PM s (8 * s.size + 8) .expr (Skein.start s) = some (t, m) ∧ finish m = (0, 0)))) := by
    by_cases hl : s.size ≤ 300
    · obtain ⟨t, m, hP⟩ := PM_ends s
      refine ⟨(finish m).1, (finish m).2, fun w => pcheck_of s w t (finish m) fun w => pread s w hl _ t m hP, ?_⟩
      by_cases hf : (finish m).1 = 0
      · exact .inr ⟨hf, fun _ => ⟨t, m, hP, finish_zero hf⟩⟩
      · exact .inl hf
    · exact ⟨1, 0, fun w => pcheck_of s w .nil (1, 0) fun w => pread_long s w (by omega) .nil, .inl (by decide)⟩
  obtain ⟨e, x, hC1, hC2⟩ := hC
  have HC : Hid (∀ w, Calls Tryz.prog 25 #[.string s] w fun r w' => r = .returned (.tuple #[.int .i64 e, .int .i64 x]) ∧ Below w.heap.size w w') := hC1
  have HC2 : Hid (_ ∨ _) := hC2
  clear ht hC1 hC2
  have q0 : ((⟨#[49]⟩ : ByteArray).toList == (⟨#[49]⟩ : ByteArray).toList) = true := by simp
  have q1 : ((⟨#[49]⟩ : ByteArray).toList != (⟨#[49]⟩ : ByteArray).toList) = false := by simp
  go_enter Tryz.func13, Tryz.ntmps13
  go_wp2_with fail
  refine (HK.out _ (HT.out _ (Below.refl _ _))).mono ?_
  rintro e0 w1 ⟨rfl, hb1⟩
  have hg1 := grown_alloc (grown_refl w1 none) (.cells #[.string ⟨#[49]⟩, .int .i64 0, .int .i64 0] 30 (0, 0))
  have hB1 := hb1.grown hg1 hb1.size (by simp)
  clear hb1 hg1
  go_wp2_with fail
  refine (HC.out _).mono ?_
  rintro e0 w2 ⟨rfl, hb2⟩
  have hB2 := hB1.trans (hb2.mono hB1.size)
  clear hb2 hB1 q0 q1
  rcases HC2.out with he | ⟨rfl, hrest⟩
  · have d1 : (e == 0) = false := by simpa using he
    have d2 : (e != 0) = true := by simp [bne, d1]
    clear HC2 he
    go_wp2_with fail
    go_ret
    exact ⟨rfl, hB2⟩
  · clear HC2
    by_cases hl : s.size ≤ 270
    · obtain ⟨t, m, hP, hf⟩ := hrest hl
      obtain ⟨a, k, z, h4a, h4b, h4c, h4d, k0, k1⟩ := laid_four hl hP hf
      have HA : Hid (∀ w, Tab w → _) := h4a
      have HB : Hid (∀ w, Tab w → _) := h4b
      have HCc : Hid (∀ w, Tab w → _) := h4c
      have HD : Hid (∀ w, Tab w → _) := h4d
      clear h4a h4b h4c h4d hrest hP hf
      have dl : decide ((270 : Int) < (s.size : Int)) = false := by simp; omega
      go_wp2_with fail
      have s1 : (⟨#[40, 32]⟩ : ByteArray).size + s.size ≤ 9223372036854775807 := by show 2 + s.size ≤ _; omega
      have s1' : 2 + s.size ≤ 9223372036854775807 := by omega
      have s2 : ((⟨#[40, 32]⟩ : ByteArray) ++ s).size + 2 ≤ 9223372036854775807 := by rw [ByteArray.size_append]; show 2 + s.size + 2 ≤ _; omega
      have s3 : 13 + s.size ≤ 9223372036854775807 := by omega
      have s4 : ((⟨#[108, 101, 116, 32, 113, 113, 113, 113, 113, 113, 32, 61, 32]⟩ : ByteArray) ++ s).size + 10 ≤ 9223372036854775807 := by rw [ByteArray.size_append]; show 13 + s.size + 10 ≤ _; omega
      have s5 : 7 + s.size ≤ 9223372036854775807 := by omega
      have s6 : ((⟨#[40, 92, 120, 46, 120, 41, 40]⟩ : ByteArray) ++ s).size + 2 ≤ 9223372036854775807 := by rw [ByteArray.size_append]; show 7 + s.size + 2 ≤ _; omega
      refine (HA.out _ (HT.out _ hB2)).mono ?_
      rintro e0 w3 ⟨rfl, hb3⟩
      have hC3 := hB2.trans (hb3.mono hB2.size)
      have hg3 := grown_alloc (grown_refl w3 none) (.cells #[.string a, .int .i64 k, .int .i64 z] 30 (0, 0))
      have xa3 := alloc_at w3 (.cells #[.string a, .int .i64 k, .int .i64 z] 30 (0, 0)) _ rfl
      have hB3 := hC3.grown hg3 hC3.size (by simp)
      clear hb3 hg3 hC3 hB2
      go_wp2_with fail
      refine (HB.out _ (HT.out _ hB3)).mono ?_
      rintro e0 w4 ⟨rfl, hb4⟩
      have xa4 := (hb4.block w3.heap.size (heap_lt xa3)).trans xa3
      have hC4 := hB3.trans (hb4.mono hB3.size)
      have hg4 := grown_alloc (grown_refl w4 none) (.cells #[.string a, .int .i64 k, .int .i64 z] 30 (0, 0))
      have ya4 := keepB' xa4 hg4
      have xb4 := alloc_at w4 (.cells #[.string a, .int .i64 k, .int .i64 z] 30 (0, 0)) _ rfl
      have hB4 := hC4.grown hg4 hC4.size (by simp)
      clear hb4 hg4 hC4 hB3 xa3 xa4
      go_wp2_with fail
      refine (HCc.out _ (HT.out _ hB4)).mono ?_
      rintro e0 w5 ⟨rfl, hb5⟩
      have xa5 := (hb5.block w3.heap.size (heap_lt ya4)).trans ya4
      have xb5 := (hb5.block w4.heap.size (heap_lt xb4)).trans xb4
      have hC5 := hB4.trans (hb5.mono hB4.size)
      have hg5 := grown_alloc (grown_refl w5 none) (.cells #[.string a, .int .i64 k, .int .i64 z] 30 (0, 0))
      have ya5 := keepB' xa5 hg5
      have yb5 := keepB' xb5 hg5
      have xc5 := alloc_at w5 (.cells #[.string a, .int .i64 k, .int .i64 z] 30 (0, 0)) _ rfl
      have hB5 := hC5.grown hg5 hC5.size (by simp)
      clear hb5 hg5 hC5 hB4 ya4 xb4 xa5 xb5
      go_wp2_with fail
      refine (HD.out _ (HT.out _ hB5)).mono ?_
      rintro e0 w6 ⟨rfl, hb6⟩
      have xa6 := (hb6.block w3.heap.size (heap_lt ya5)).trans ya5
      have xb6 := (hb6.block w4.heap.size (heap_lt yb5)).trans yb5
      have xc6 := (hb6.block w5.heap.size (heap_lt xc5)).trans xc5
      have hC6 := hB5.trans (hb6.mono hB5.size)
      have hg6 := grown_alloc (grown_refl w6 none) (.cells #[.string a, .int .i64 (k + 1), .int .i64 z] 30 (0, 0))
      have za := ans3 (keepB' xa6 hg6)
      have zb := ans3 (keepB' xb6 hg6)
      have zc := ans3 (keepB' xc6 hg6)
      have zd := ans3 (alloc_at w6 (.cells #[.string a, .int .i64 (k + 1), .int .i64 z] 30 (0, 0)) _ rfl)
      have hB6 := hC6.grown hg6 hC6.size (by simp)
      obtain ⟨a0, a1, a2⟩ := za
      obtain ⟨b0, b1, b2⟩ := zb
      obtain ⟨c0, c1, c2⟩ := zc
      obtain ⟨d0, d1, d2⟩ := zd
      have q2 : (a.toList == a.toList) = true := by simp
      have q3 : (k == k) = true := by simp
      have q4 : (z == z) = true := by simp
      have q5 : (k + 1 == k + 1) = true := by simp
      clear hb6 hg6 hC6 hB5 ya5 yb5 xc5 xa6 xb6 xc6
      go_wp2_with fail
      go_ret
      exact ⟨rfl, hB6⟩
    · have dl : decide ((270 : Int) < (s.size : Int)) = true := by simp; omega
      clear hrest
      go_wp2_with fail
      go_ret
      exact ⟨rfl, hB2⟩
end Go.Proofs.YtjjlgjmebnkdjaaGreatDoor
