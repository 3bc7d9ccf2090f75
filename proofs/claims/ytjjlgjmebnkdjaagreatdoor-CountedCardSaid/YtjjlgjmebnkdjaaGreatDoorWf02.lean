/-
  A text that stands within another: its signs (for Laid).
  The reader over signs, put together; the plain form of an expression is read as the expression (for Renamed).
  The plain form of an expression is read as the expression (for Renamed).
-/
import Derived.Test.YtjjlgjmebnkdjaaGreatDoorWf00
import Derived.Test.YtjjlgjmebnkdjaaGreatDoorWc06
namespace Skein

section
variable {s S : ByteArray} {o : Nat} {q : List UInt8}

theorem D.at {l r : List UInt8} (h : D S o (l ++ r)) {j : Nat} (hj : j < l.length) : ∃ hh : o + j < S.size, S[o + j] = l[j] := by
  have h2 : D S (o + j) (l.drop j ++ r) := by
    have e : l ++ r = l.take j ++ (l.drop j ++ r) := by rw [← List.append_assoc, List.take_append_drop]
    rw [e] at h
    have := h.app
    rwa [List.length_take, Nat.min_eq_left (by omega)] at this
  rw [List.drop_eq_getElem_cons hj] at h2
  exact h2.get

theorem at_in (h : D S o (s.data.toList ++ q)) {j : Nat} (hj : j < s.size) : ∃ hh : o + j < S.size, S[o + j] = s[j] := by
  have hj' : j < s.data.toList.length := by simpa using hj
  obtain ⟨hh, e⟩ := D.at h hj'
  exact ⟨hh, by rw [e]; simp [ByteArray.getElem_eq_getElem_data]⟩

theorem skip_in (h : D S o (s.data.toList ++ q)) : ∀ (i : Nat), skip s i < s.size → skip S (o + i) = o + skip s i := by
  intro i
  fun_induction skip s i with
  | case1 i hi hb ih =>
    intro hs
    obtain ⟨hh, e⟩ := at_in h hi
    rw [skip, dif_pos hh, e, if_pos hb]
    exact ih hs
  | case2 i hi hb =>
    intro _
    obtain ⟨hh, e⟩ := at_in h hi
    rw [skip, dif_pos hh, e, if_neg hb]
  | case3 i hi => intro hs; exact absurd hs hi
theorem skip_out (h : D S o (s.data.toList ++ q)) : ∀ (i : Nat), i ≤ s.size → ¬ skip s i < s.size → skip S (o + i) = skip S (o + s.size) := by
  intro i
  fun_induction skip s i with
  | case1 i hi hb ih =>
    intro _ hs
    obtain ⟨hh, e⟩ := at_in h hi
    rw [skip, dif_pos hh, e, if_pos hb]
    exact ih hi hs
  | case2 i hi hb => intro _ hs; exact absurd hi hs
  | case3 i hi => intro h1 _; rw [show i = s.size by omega]
theorem run_in (h : D S o (s.data.toList ++ q)) {b : Bool} (hq : Halts b q) : ∀ (i : Nat), i ≤ s.size → runLen S b (o + i) = runLen s b i := by
  intro i
  fun_induction runLen s b i with
  | case1 i hi hb ih =>
    intro _
    obtain ⟨hh, e⟩ := at_in h hi
    rw [runLen, dif_pos hh, e, if_pos hb, Nat.add_assoc, ih hi]
  | case2 i hi hb =>
    intro _
    obtain ⟨hh, e⟩ := at_in h hi
    rw [runLen, dif_pos hh, e, if_neg hb]
  | case3 i hi =>
    intro h1
    obtain rfl : i = s.size := by omega
    have hD : D S (o + s.size) q := by
      have := h.app
      simpa using this
    rw [runLen]
    cases q with
    | nil => simp [hD.stop]
    | cons c r =>
      obtain ⟨hh, e⟩ := hD.get
      simp [hh, e, hq c r rfl]
theorem extract_in (h : D S o (s.data.toList ++ q)) {a k : Nat} (hk : a + k ≤ s.size) : S.extract (o + a) (o + a + k) = s.extract a (a + k) := by
  have hs : s.data.toList.length = s.size := by simp
  have h2 : D S (o + a) (s.data.toList.drop a ++ q) := by
    have e : s.data.toList ++ q = s.data.toList.take a ++ (s.data.toList.drop a ++ q) := by rw [← List.append_assoc, List.take_append_drop]
    rw [e] at h
    have := h.app
    rwa [List.length_take, Nat.min_eq_left (by omega)] at this
  have e2 : s.data.toList.drop a ++ q = (s.data.toList.drop a).take k ++ ((s.data.toList.drop a).drop k ++ q) := by rw [← List.append_assoc, List.take_append_drop]
  rw [e2] at h2
  have h3 := h2.extract
  rw [List.length_take, List.length_drop, Nat.min_eq_left (by omega)] at h3
  rw [h3]
  apply ByteArray.ext
  apply Array.ext'
  simp [ByteArray.data_extract, Array.toList_extract]

theorem tok_in (h : D S o (s.data.toList ++ q)) (hq1 : Halts true q) (hq0 : Halts false q) {i : Nat} (h1 : (tok s i).k ≠ .eof) (h2 : (tok s i).k ≠ .bad) : tok S (o + i) = ⟨(tok s i).k, (tok s i).text, o + (tok s i).at_⟩ := by
  have hlt : skip s i < s.size := by
    rcases Nat.lt_or_ge (skip s i) s.size with h | h
    · exact h
    · exfalso; apply h1; unfold tok tokAt; rw [dif_neg (by omega)]
  have hsk := skip_in h i hlt
  obtain ⟨hh, e⟩ := at_in h hlt
  have r0 := run_in h hq0 (skip s i) (Nat.le_of_lt hlt)
  have r1 := run_in h hq1 (skip s i) (Nat.le_of_lt hlt)
  have l0 := runLen_le s false (skip s i) (Nat.le_of_lt hlt)
  have l1 := runLen_le s true (skip s i) (Nat.le_of_lt hlt)
  have x0 := extract_in h l0
  have x1 := extract_in h l1
  have x2 := extract_in h (a := skip s i) (k := 1) (by omega)
  unfold tok at h1 h2 ⊢
  rw [hsk]
  unfold tokAt at h1 h2 ⊢
  rw [dif_pos hlt] at h1 h2 ⊢
  rw [dif_pos hh, e, r0, r1, x0, x1, x2]
  split
  · rename_i hd
    rw [if_pos hd] at h2
    split
    · rename_i h9; exact absurd (by rw [if_pos h9]) h2
    · rfl
  · rename_i hd
    rw [if_neg hd] at h2
    split
    · rename_i hl
      rw [if_pos hl] at h2
      split
      · rename_i h9; exact absurd (by rw [if_pos h9]) h2
      · split <;> rfl
    · rename_i hl
      rw [if_neg hl] at h2
      split
      · rename_i h91
        rw [if_pos h91] at h2
        by_cases hn : skip s i + 1 < s.size
        · rw [dif_pos hn] at h2
          obtain ⟨hh2, e2⟩ := at_in h hn
          have x3 := extract_in h (a := skip s i) (k := 2) (by omega)
          rw [dif_pos hn, dif_pos (show o + skip s i + 1 < S.size from hh2)]
          have e2' : S[o + skip s i + 1] = s[skip s i + 1] := e2
          rw [e2', x3]
          split
          · rfl
          · rename_i h93; exact absurd (by rw [if_neg h93]) h2
        · rw [dif_neg hn] at h2; exact absurd rfl h2
      · rename_i h91
        rw [if_neg h91] at h2
        split
        · rfl
        · rename_i hm; exact absurd (by rw [if_neg hm]) h2

/-- The signs of what stands within, then those behind. -/
theorem Str_in (h : D S o (s.data.toList ++ q)) (hq1 : Halts true q) (hq0 : Halts false q) {r : List Tk} (hr : Str S (tok S (o + s.size)) r) : ∀ (l : List Tk) (i : Nat), i ≤ s.size → Str s (tok s i) l → Tk.bad ∉ l → Str S (tok S (o + i)) (l ++ r) := by
  intro l
  induction l with
  | nil =>
    intro i hi hs _
    have hns : ¬ skip s i < s.size := by
      intro hlt
      have hk := hs.1
      have ht := hs.2
      have hb := tok_kind s i hi
      unfold tok tokAt at hk
      rw [dif_pos hlt] at hk
      repeat' split at hk
      all_goals cases hk
    rw [List.nil_append]
    unfold tok at hr ⊢
    rw [skip_out h i hi hns]; exact hr
  | cons k l ih =>
    intro i hi hs hb
    have hbl : Tk.bad ∉ l := fun hx => hb (List.mem_cons_of_mem _ hx)
    have hbe := tok_behind s i hi
    cases k with
    | bad => exact absurd (List.mem_cons_self) hb
    | tree t => exact hs.elim
    | num x =>
      obtain ⟨a1, a2, a3, a4⟩ := hs
      rw [tok_in h hq1 hq0 (by rw [a1]; decide) (by rw [a1]; decide)]
      refine ⟨a1, a2, a3, ?_⟩
      have := ih _ hbe a4 hbl
      rw [← Nat.add_assoc] at this; exact this
    | name x =>
      obtain ⟨a1, a2, a3, a4⟩ := hs
      rw [tok_in h hq1 hq0 (by rw [a1]; decide) (by rw [a1]; decide)]
      refine ⟨a1, a2, a3, ?_⟩
      have := ih _ hbe a4 hbl
      rw [← Nat.add_assoc] at this; exact this
    | sym x =>
      obtain ⟨a1, a2, a3, a4⟩ := hs
      rw [tok_in h hq1 hq0 (by rw [a1]; decide) (by rw [a1]; decide)]
      refine ⟨a1, a2, a3, ?_⟩
      have := ih _ hbe a4 hbl
      rw [← Nat.add_assoc] at this; exact this
end

theorem halts_pre {r : List Pc} {rest : List UInt8} (hr : fin r rest.head? = true) (h : halt (firstN r rest.head?) = true) (b : Bool) : Halts b (flat r ++ rest) := by
  intro c q e
  have hc : fits true c = false := by
    cases r with
    | nil =>
      have e2 : rest = c :: q := e
      rw [e2] at h
      simpa [firstN, halt] using h
    | cons p r =>
      simp only [fin, Bool.and_eq_true] at hr
      obtain ⟨c', q', e'⟩ := ok_cons hr.1.1
      simp only [flat, List.flatMap_cons, e', List.cons_append, List.append_assoc, List.cons.injEq] at e
      simp only [firstN, e', List.head?_cons, halt, Bool.not_eq_true'] at h
      rw [← e.1]; exact h
  cases b with
  | true => exact hc
  | false =>
    simp only [fits, Bool.or_eq_false_iff] at hc ⊢
    exact ⟨hc.1, by simp⟩

/-- The signs of pieces, then those behind. -/
theorem Str_pre {s : ByteArray} {rest : List UInt8} {r' : List Tk} : ∀ (l : List Pc) (i : Nat), i ≤ s.size → D s i (flat l ++ rest) → fin l rest.head? = true → Str s (tok s (i + (flat l).length)) r' → Str s (tok s i) (tks l ++ r') := by
  intro l
  induction l with
  | nil => intro i _ h _ hr; simpa [flat, tks] using hr
  | cons p r ih =>
    intro i hi h hf hr
    simp only [fin, Bool.and_eq_true] at hf
    obtain ⟨⟨hok, hrun⟩, hfr⟩ := hf
    have hD : D s i (p.txt ++ (flat r ++ rest)) := by simpa [flat] using h
    have el : (flat (p :: r)).length = p.txt.length + (flat r).length := by simp [flat]
    rw [el, ← Nat.add_assoc] at hr
    have hn := ih (i + p.txt.length) (by have := D.le hD hi; simp at this; omega) hD.app hfr hr
    have et : tks (p :: r) ++ r' = p.tk ++ (tks r ++ r') := by simp [tks]
    rw [et]
    clear et
    have hk := tok_kind s i hi
    cases p with
    | blank c =>
      rw [tok_skip (r := flat r ++ rest) hD hok]
      exact hn
    | num x =>
      simp only [Pc.ok, Bool.and_eq_true, Bool.not_eq_true', List.isEmpty_eq_false_iff, decide_eq_true_eq, List.all_eq_true] at hok
      simp only [Pc.runs, Bool.not_true, Bool.false_or] at hrun
      have e := tok_num hD hok.1.1 hok.1.2 hok.2 (halts_pre hfr hrun false)
      rw [e] at hk
      have hm : mem specials ⟨x.toArray⟩ = false := by
        rcases hk with ⟨h, _⟩ | ⟨h, _⟩ | ⟨_, h, _⟩ | ⟨h, _⟩ | ⟨h, _⟩ <;> first | exact h | cases h
      rw [e]
      refine ⟨rfl, rfl, hm, ?_⟩
      have e2 : (⟨x.toArray⟩ : ByteArray).size = x.length := by simp [ByteArray.size]
      show Str s (tok s (i + (⟨x.toArray⟩ : ByteArray).size)) _
      rw [e2]; exact hn
    | word x =>
      cases x with
      | nil => simp [Pc.ok] at hok
      | cons c w =>
        simp only [Pc.ok, Bool.and_eq_true, decide_eq_true_eq, List.all_eq_true] at hok
        simp only [Pc.runs, Bool.not_true, Bool.false_or] at hrun
        have hc : isBlank c = false ∧ isDig c = false ∧ isLet c = true := by
          have h1 := hok.1.1
          refine ⟨?_, ?_, h1⟩
          · simp only [isLet, isBlank, Bool.and_eq_true, decide_eq_true_eq, Bool.or_eq_false_iff, beq_eq_false_iff_ne] at h1 ⊢
            refine ⟨⟨⟨?_, ?_⟩, ?_⟩, ?_⟩ <;> (rintro rfl; revert h1; decide)
          · simp only [isLet, isDig, Bool.and_eq_true, decide_eq_true_eq, Bool.and_eq_false_iff, decide_eq_false_iff_not] at h1 ⊢
            right
            intro h2
            have h3 := UInt8.le_trans h1.1 h2
            revert h3; decide
        have e := tok_word (c := c) (w := w) hD hc hok.1.2 hok.2 (halts_pre hfr hrun true)
        have e2 : (⟨(c :: w).toArray⟩ : ByteArray).size = (c :: w).length := by simp [ByteArray.size]
        show Str s (tok s i) ([if mem words ⟨(c :: w).toArray⟩ then Tk.sym ⟨(c :: w).toArray⟩ else Tk.name ⟨(c :: w).toArray⟩] ++ (tks r ++ r'))
        rw [e] at hk ⊢
        cases hw : mem words ⟨(c :: w).toArray⟩ with
        | true =>
          refine ⟨by simp, rfl, by rw [e2]; simp, ?_⟩
          show Str s (tok s (i + (⟨(c :: w).toArray⟩ : ByteArray).size)) _
          rw [e2]; exact hn
        | false =>
          rw [hw] at hk
          have hm : mem specials ⟨(c :: w).toArray⟩ = false := by
            rcases hk with ⟨h, _⟩ | ⟨h, _⟩ | ⟨h, _⟩ | ⟨_, h, _⟩ | ⟨h, _⟩ <;> first | exact h | cases h
          refine ⟨by simp, rfl, hm, ?_⟩
          show Str s (tok s (i + (⟨(c :: w).toArray⟩ : ByteArray).size)) _
          rw [e2]; exact hn
    | mark c =>
      simp only [Pc.ok, Bool.and_eq_true, Bool.not_eq_true'] at hok
      have e := tok_mark (r := flat r ++ rest) hD ⟨hok.1.1.1.1, hok.1.1.1.2, hok.1.1.2, hok.1.2, hok.2⟩
      rw [e]
      exact ⟨rfl, rfl, Nat.one_pos, hn⟩
    | nil =>
      have hD2 : D s i (91 :: 93 :: (flat r ++ rest)) := hD
      obtain ⟨h1, e1⟩ := hD2.get
      obtain ⟨h2, e2⟩ := hD2.next.get
      have e : tok s i = ⟨.sym, ⟨#[91, 93]⟩, i⟩ := by
        unfold tok; rw [skip_here hD2 (by decide)]
        unfold tokAt
        have hx : s.extract i (i + 2) = ⟨#[91, 93]⟩ := D.extract (l := [91, 93]) hD2
        rw [dif_pos h1, e1]
        rw [if_neg (by decide), if_neg (by decide), if_pos (by decide), dif_pos h2, e2, if_pos (by decide), hx]
      rw [e]
      exact ⟨rfl, rfl, by decide, hn⟩


/-- A sign that is bad is passed by nobody. -/
def NB (l l' : List Tk) : Prop := Tk.bad ∉ l' → Tk.bad ∉ l
theorem NB.rfl' (l : List Tk) : NB l l := id
theorem NB.tr {a b c : List Tk} (h : NB a b) (k : NB b c) : NB a c := fun x => h (k x)
theorem NB.hd {x : ByteArray} {l : List Tk} (hx : Skein.hd x l = true) : NB l l.tail := by
  cases l with
  | nil => cases hx
  | cons k l => cases k <;> first | cases hx | (intro h; simpa using h)
theorem NB.eat {x : ByteArray} {l l1 : List Tk} (he : Skein.eat x l = some l1) : NB l l1 := by
  obtain ⟨h1, rfl⟩ := eat_ok he
  exact NB.hd h1
theorem NB.name {l : List Tk} {y : ByteArray × List Tk} (he : eatName l = some y) : NB l y.2 := by
  cases l with
  | nil => cases he
  | cons k l => cases k <;> first | (cases he; done) | (cases he; intro h; simpa using h)

theorem no_bad : ∀ (n : Nat) (nt : NT) (g : List ByteArray) (l : List Tk) (r : T × List Tk), PT n nt g l = some r → NB l r.2 := by
  intro n
  induction n with
  | zero => intro nt g l r h; simp [PT] at h
  | succ n ih =>
    intro nt g l r h
    cases nt with
    | expr =>
      rw [PT] at h
      split at h
      · rename_i hx
        obtain ⟨y, h1, h⟩ := Option.bind_eq_some_iff.1 h
        obtain ⟨l2, h2, h⟩ := Option.bind_eq_some_iff.1 h
        obtain ⟨r1, h3, h⟩ := Option.bind_eq_some_iff.1 h
        obtain ⟨l3, h4, h⟩ := Option.bind_eq_some_iff.1 h
        obtain ⟨q, h5, h⟩ := Option.bind_eq_some_iff.1 h
        cases h
        exact (NB.hd hx).tr ((NB.name h1).tr ((NB.eat h2).tr ((ih _ _ _ _ h3).tr ((NB.eat h4).tr (ih _ _ _ q h5)))))
      · split at h
        · rename_i hx
          obtain ⟨y, h1, h⟩ := Option.bind_eq_some_iff.1 h
          obtain ⟨l2, h2, h⟩ := Option.bind_eq_some_iff.1 h
          obtain ⟨r1, h3, h⟩ := Option.bind_eq_some_iff.1 h
          cases h
          exact (NB.hd hx).tr ((NB.name h1).tr ((NB.eat h2).tr (ih _ _ _ r1 h3)))
        · split at h
          · rename_i hx
            obtain ⟨r1, h1, h⟩ := Option.bind_eq_some_iff.1 h
            obtain ⟨l2, h2, h⟩ := Option.bind_eq_some_iff.1 h
            obtain ⟨q, h3, h⟩ := Option.bind_eq_some_iff.1 h
            obtain ⟨l3, h4, h⟩ := Option.bind_eq_some_iff.1 h
            obtain ⟨p, h5, h⟩ := Option.bind_eq_some_iff.1 h
            cases h
            exact (NB.hd hx).tr ((ih _ _ _ _ h1).tr ((NB.eat h2).tr ((ih _ _ _ _ h3).tr ((NB.eat h4).tr (ih _ _ _ p h5)))))
          · exact ih _ _ _ _ h
    | list =>
      rw [PT] at h
      obtain ⟨r1, h1, h⟩ := Option.bind_eq_some_iff.1 h
      split at h
      · rename_i hx
        obtain ⟨q, h2, h⟩ := Option.bind_eq_some_iff.1 h
        cases h
        exact (ih _ _ _ _ h1).tr ((NB.hd hx).tr (ih _ _ _ q h2))
      · cases h; exact ih _ _ _ _ h1
    | order =>
      rw [PT] at h
      obtain ⟨r1, h1, h⟩ := Option.bind_eq_some_iff.1 h
      split at h
      · rename_i hx
        obtain ⟨q, h2, h⟩ := Option.bind_eq_some_iff.1 h
        cases h
        rcases Bool.or_eq_true _ _ |>.mp hx with hx | hx
        · exact (ih _ _ _ _ h1).tr ((NB.hd hx).tr (ih _ _ _ q h2))
        · exact (ih _ _ _ _ h1).tr ((NB.hd hx).tr (ih _ _ _ q h2))
      · cases h; exact ih _ _ _ _ h1
    | sum =>
      rw [PT] at h
      obtain ⟨r1, h1, h⟩ := Option.bind_eq_some_iff.1 h
      exact (ih _ _ _ _ h1).tr (ih _ _ _ _ h)
    | prod =>
      rw [PT] at h
      obtain ⟨r1, h1, h⟩ := Option.bind_eq_some_iff.1 h
      exact (ih _ _ _ _ h1).tr (ih _ _ _ _ h)
    | use =>
      rw [PT] at h
      obtain ⟨r1, h1, h⟩ := Option.bind_eq_some_iff.1 h
      exact (ih _ _ _ _ h1).tr (ih _ _ _ _ h)
    | sumL a =>
      rw [PT] at h
      split at h
      · rename_i hx
        obtain ⟨r1, h1, h⟩ := Option.bind_eq_some_iff.1 h
        rcases Bool.or_eq_true _ _ |>.mp hx with hx | hx
        · exact (NB.hd hx).tr ((ih _ _ _ _ h1).tr (ih _ _ _ _ h))
        · exact (NB.hd hx).tr ((ih _ _ _ _ h1).tr (ih _ _ _ _ h))
      · cases h; exact NB.rfl' _
    | prodL a =>
      rw [PT] at h
      split at h
      · rename_i hx
        obtain ⟨r1, h1, h⟩ := Option.bind_eq_some_iff.1 h
        exact (NB.hd hx).tr ((ih _ _ _ _ h1).tr (ih _ _ _ _ h))
      · cases h; exact NB.rfl' _
    | useL a =>
      rw [PT] at h
      split at h
      · obtain ⟨r1, h1, h⟩ := Option.bind_eq_some_iff.1 h
        exact (ih _ _ _ _ h1).tr (ih _ _ _ _ h)
      · cases h; exact NB.rfl' _
    | atom =>
      cases l with
      | nil => simp [PT] at h
      | cons k l =>
        cases k with
        | num x => simp only [PT, Option.some.injEq] at h; subst h; intro h; simpa using h
        | tree x => simp only [PT, Option.some.injEq] at h; subst h; intro h; simpa using h
        | bad => simp [PT] at h
        | name x =>
          simp only [PT] at h
          obtain ⟨i, h1, h⟩ := Option.bind_eq_some_iff.1 h
          cases h; intro h; simpa using h
        | sym x =>
          have hc : ∀ {l : List Tk}, NB (Tk.sym x :: l) l := fun h => by simpa using h
          simp only [PT] at h
          split at h
          · cases h; exact hc
          · split at h
            · obtain ⟨r1, h1, h⟩ := Option.bind_eq_some_iff.1 h
              obtain ⟨l2, h2, h⟩ := Option.bind_eq_some_iff.1 h
              cases h
              exact hc.tr ((ih _ _ _ _ h1).tr (NB.eat h2))
            · split at h
              · obtain ⟨r1, h1, h⟩ := Option.bind_eq_some_iff.1 h
                cases h
                exact hc.tr (ih _ _ _ r1 h1)
              · cases h

/-- The signs of a text that is an expression. -/
theorem whole_signs {s : ByteArray} {n : Nat} {t : T} {m : M} (hP : PM s n .expr (start s) = some (t, m)) (hf : finish m = (0, 0)) (hnf : NoFree t) : ∃ l, Str s (tok s 0) l ∧ Tk.bad ∉ l ∧ PT n .expr [] l = some (t, []) := by
  obtain ⟨l, hl⟩ := lex s (s.size + 1) 0 (Nat.zero_le _) (by omega)
  have hb : m.bad = none ∧ (m.tok.k == K.bad) = false ∧ m.tok.text = ⟨#[]⟩ := by
    unfold finish at hf
    split at hf
    · simp at hf
    · rename_i h1
      split at hf
      · simp at hf
      · rename_i h2
        unfold M.isBad at h1
        simp only [Bool.not_eq_true, Bool.or_eq_false_iff] at h1
        simp only [Bool.not_eq_true', Bool.not_eq_false] at h2
        exact ⟨by cases e : m.bad with | none => rfl | some q => rw [e] at h1; simp at h1, h1.2, eqb_iff.1 h2⟩
  obtain ⟨l', p, hs⟩ := PM_PT s n .expr (start s) (t, m) hP hb.1 hnf l hl
  have hi := (PM_keeps s n _ _ _ hP).1 (Inv.start s)
  have e : l' = [] := by
    cases l' with
    | nil => rfl
    | cons k r =>
      exfalso
      cases k with
      | num x => have := sign_pos hi (.inl hs.1); rw [hb.2.2] at this; exact absurd this (by decide)
      | name x => have := sign_pos hi (.inr hs.1); rw [hb.2.2] at this; exact absurd this (by decide)
      | sym x => have h0 := hs.2.2.1; rw [← hs.2.1, hb.2.2] at h0; exact absurd h0 (by decide)
      | bad => have h0 := hb.2.1; rw [hs.1] at h0; cases h0
      | tree t => exact hs.elim
  subst e
  exact ⟨l, hl, no_bad _ _ _ _ _ p (by simp), p⟩

theorem term_close (r : List Tk) : Term (.sym ⟨#[41]⟩ :: r) := ⟨rfl, rfl, rfl, rfl, rfl, rfl, rfl, rfl, rfl, rfl⟩
theorem term_in (r : List Tk) : Term (.sym ⟨#[105, 110]⟩ :: r) := ⟨rfl, rfl, rfl, rfl, rfl, rfl, rfl, rfl, rfl, rfl⟩

/-- In brackets. -/
theorem PT_paren {n : Nat} {g : List ByteArray} {l : List Tk} {t : T} (h : PT n .expr g l = some (t, [])) : PT (n + 1) .atom g (.sym ⟨#[40]⟩ :: (l ++ [.sym ⟨#[41]⟩])) = some (t, []) := by
  have h2 := PT_ext (term_close []) _ _ _ _ _ _ h
  rw [PT]
  rw [if_neg (by decide), if_pos (by decide), h2]
  rfl
theorem PT_up {n : Nat} {g : List ByteArray} {l : List Tk} {t : T} (h : PT (n + 1) .atom g l = some (t, [])) (h1 : hd ⟨#[108, 101, 116]⟩ l = false) (h2 : hd ⟨#[92]⟩ l = false) (h3 : hd ⟨#[105, 102]⟩ l = false) : PT (n + 7) .expr g l = some (t, []) := by
  rw [PT, h1, h2, h3]
  simp only [Bool.false_eq_true, if_false]
  rw [PT, PT, PT, PT, PT, h]
  rfl
theorem PT_up2 {n : Nat} {g : List ByteArray} {l : List Tk} {t : T} (h : PT (n + 1) .use g l = some (t, [])) (h1 : hd ⟨#[108, 101, 116]⟩ l = false) (h2 : hd ⟨#[92]⟩ l = false) (h3 : hd ⟨#[105, 102]⟩ l = false) : PT (n + 6) .expr g l = some (t, []) := by
  rw [PT, h1, h2, h3]
  simp only [Bool.false_eq_true, if_false]
  rw [PT, PT, PT, PT, h]
  rfl
theorem PT_laid_let {n : Nat} {l : List Tk} {t : T} {x : ByteArray} (hl : l.map (lftK 1) = l) (h : PT n .expr [] l = some (t, [])) : PT (n + 20) .expr [] (.sym ⟨#[108, 101, 116]⟩ :: .name x :: .sym ⟨#[61]⟩ :: (l ++ (.sym ⟨#[105, 110]⟩ :: [.name x]))) = some (.letE 0 (lft 1 t) (.var 0), []) := by
  have h1 := PT_lft [x] _ _ _ _ _ _ h
  simp only [List.length_singleton, lftN, List.append_nil, hl, List.map_nil] at h1
  have h2 := PT_more (PT_ext (term_in [.name x]) _ _ _ _ _ _ h1) (show n ≤ n + 19 by omega)
  have h3 : PT (n + 19) .expr [x] [.name x] = some (.var 0, []) := by
    have ha : PT (n + 12 + 1) .atom [x] [.name x] = some (.var 0, []) := by
      simp only [PT, lastIdx]
      rw [if_pos (eqb_iff.2 rfl)]; rfl
    exact PT_up ha rfl rfl rfl
  rw [PT]
  rw [if_pos (by rfl)]
  simp only [List.tail_cons, eatName, Option.bind_some]
  have e1 : eat ⟨#[61]⟩ (.sym ⟨#[61]⟩ :: (l ++ (.sym ⟨#[105, 110]⟩ :: [.name x]))) = some (l ++ (.sym ⟨#[105, 110]⟩ :: [.name x])) := rfl
  rw [e1, Option.bind_some, List.nil_append, h2, Option.bind_some]
  have e2 : eat ⟨#[105, 110]⟩ (.sym ⟨#[105, 110]⟩ :: [Tk.name x]) = some [.name x] := rfl
  rw [List.nil_append, e2, Option.bind_some, h3]
  rfl
theorem PT_laid_fn {n : Nat} {l : List Tk} {t : T} (h : PT n .expr [] l = some (t, [])) : PT (n + 41) .expr [] ([.sym ⟨#[40]⟩, .sym ⟨#[92]⟩, .name ⟨#[120]⟩, .sym ⟨#[46]⟩, .name ⟨#[120]⟩, .sym ⟨#[41]⟩] ++ (.sym ⟨#[40]⟩ :: (l ++ [.sym ⟨#[41]⟩]))) = some (.app (.fn 0 (.var 0)) t, []) := by
  have hA := PT_more (PT_paren h) (show n + 1 ≤ n + 34 by omega)
  have hF : PT 15 .atom [] [.sym ⟨#[40]⟩, .sym ⟨#[92]⟩, .name ⟨#[120]⟩, .sym ⟨#[46]⟩, .name ⟨#[120]⟩, .sym ⟨#[41]⟩] = some (.fn 0 (.var 0), []) := rfl
  have hF2 := PT_more (PT_any (.sym ⟨#[40]⟩ :: (l ++ [.sym ⟨#[41]⟩])) _ _ _ _ _ _ hF (.inr rfl)) (show 15 ≤ n + 35 by omega)
  rw [List.nil_append] at hF2
  have hU : PT (n + 36) .use [] ([.sym ⟨#[40]⟩, .sym ⟨#[92]⟩, .name ⟨#[120]⟩, .sym ⟨#[46]⟩, .name ⟨#[120]⟩, .sym ⟨#[41]⟩] ++ (.sym ⟨#[40]⟩ :: (l ++ [.sym ⟨#[41]⟩]))) = some (.app (.fn 0 (.var 0)) t, []) := by
    rw [PT, hF2, Option.bind_some, PT]
    rw [if_pos (show beg _ = true from rfl), hA, Option.bind_some]
    rfl
  exact PT_more (PT_up2 hU rfl rfl rfl) (by omega)
end Skein

namespace Skein

/-- Signs that are an atom; signs that are an expression. -/
def At (g : List ByteArray) (l : List Tk) (t : T) : Prop := ∃ k, ∀ n, k ≤ n → ∀ r, PT n .atom g (l ++ r) = some (t, r)
def Ex (g : List ByteArray) (l : List Tk) (t : T) : Prop := ∃ k, ∀ n, k ≤ n → ∀ r, Term r → PT n .expr g (l ++ r) = some (t, r)
structure Beg (l : List Tk) : Prop where
  b : ∀ r, beg (l ++ r) = true
  k1 : ∀ r, hd ⟨#[108, 101, 116]⟩ (l ++ r) = false
  k2 : ∀ r, hd ⟨#[92]⟩ (l ++ r) = false
  k3 : ∀ r, hd ⟨#[105, 102]⟩ (l ++ r) = false

theorem stepN {k : Nat} {P : Nat → Prop} (h : ∀ n, k ≤ n → P (n + 1)) : ∃ k, ∀ n, k ≤ n → P n := ⟨k + 1, fun n hn => by
  obtain ⟨m, rfl⟩ : ∃ m, n = m + 1 := ⟨n - 1, by omega⟩
  exact h m (by omega)⟩

/-- What goes up through the levels. -/
theorem up_use {g l t r k} (h : ∀ n, k ≤ n → PT n .use g l = some (t, r)) (hr : Term r) (h1 : hd ⟨#[108, 101, 116]⟩ l = false) (h2 : hd ⟨#[92]⟩ l = false) (h3 : hd ⟨#[105, 102]⟩ l = false) : ∀ n, k + 5 ≤ n → PT n .expr g l = some (t, r) := by
  intro n hn
  obtain ⟨n, rfl⟩ : ∃ m, n = m + 5 := ⟨n - 5, by omega⟩
  rw [PT, h1, h2, h3]
  simp only [Bool.false_eq_true, if_false]
  rw [PT, PT, PT, PT, h n (by omega), Option.bind_some]
  obtain ⟨m, rfl⟩ : ∃ m, n = m + 1 := ⟨n - 1, by
    have : n ≠ 0 := by rintro rfl; have := h 0 (by omega); simp [PT] at this
    omega⟩
  rw [PT, hr.o6]
  simp only [Bool.false_eq_true, if_false, Option.bind_some]
  rw [PT, hr.o4, hr.o5]
  simp [hr.o1, hr.o2, hr.o3]
theorem use_at {g l t r k} (h : ∀ n, k ≤ n → PT n .atom g l = some (t, r)) (hr : beg r = false) : ∀ n, k + 2 ≤ n → PT n .use g l = some (t, r) := by
  intro n hn
  obtain ⟨n, rfl⟩ : ∃ m, n = m + 2 := ⟨n - 2, by omega⟩
  rw [PT, h (n + 1) (by omega), Option.bind_some, PT, hr]; rfl
theorem At.ex {g l t} (h : At g l t) (hb : Beg l) : Ex g l t := by
  obtain ⟨k, h⟩ := h
  exact ⟨k + 7, fun n hn r hr => up_use (use_at (fun n hn => h n hn r) hr.b) hr (hb.k1 r) (hb.k2 r) (hb.k3 r) n (by omega)⟩
theorem At.app {g a b ta tb} (ha : At g a ta) (hb : At g b tb) (ba : Beg a) (bb : Beg b) : Ex g (a ++ b) (.app ta tb) := by
  obtain ⟨k, ha⟩ := ha
  obtain ⟨j, hb⟩ := hb
  refine ⟨k + j + 9, fun n hn r hr => ?_⟩
  rw [List.append_assoc]
  refine up_use (k := k + j + 3) (fun n hn => ?_) hr (ba.k1 _) (ba.k2 _) (ba.k3 _) n (by omega)
  obtain ⟨n, rfl⟩ : ∃ m, n = m + 3 := ⟨n - 3, by omega⟩
  rw [PT, ha (n + 2) (by omega), Option.bind_some, PT, bb.b, if_pos rfl, hb (n + 1) (by omega), Option.bind_some, PT, hr.b]; rfl
theorem At.paren {g l t} (h : Ex g l t) : At g (.sym ⟨#[40]⟩ :: (l ++ [.sym ⟨#[41]⟩])) t := by
  obtain ⟨k, h⟩ := h
  refine ⟨k + 1, fun n hn r => ?_⟩
  obtain ⟨n, rfl⟩ : ∃ m, n = m + 1 := ⟨n - 1, by omega⟩
  rw [List.cons_append, List.append_assoc, List.singleton_append, PT]
  rw [if_neg (by decide), if_pos (by decide), h n (by omega) _ (term_close r)]; rfl
theorem At.un {g l t} (op : UInt8) (x : ByteArray) (hx : (op = 104 ∧ x = ⟨#[104, 101, 97, 100]⟩) ∨ (op = 116 ∧ x = ⟨#[116, 97, 105, 108]⟩) ∨ (op = 110 ∧ x = ⟨#[110, 117, 108, 108]⟩)) (h : At g l t) : At g (.sym x :: l) (.un op t) := by
  obtain ⟨k, h⟩ := h
  refine ⟨k + 1, fun n hn r => ?_⟩
  obtain ⟨n, rfl⟩ : ∃ m, n = m + 1 := ⟨n - 1, by omega⟩
  rw [List.cons_append, PT]
  rcases hx with ⟨rfl, rfl⟩ | ⟨rfl, rfl⟩ | ⟨rfl, rfl⟩ <;> (rw [if_neg (by decide), if_neg (by decide), if_pos (by decide), h n (by omega) r]; rfl)

theorem l_prod {g l t r k} (h : ∀ n, k ≤ n → PT n .use g l = some (t, r)) (h1 : hd ⟨#[42]⟩ r = false) : ∀ n, k + 2 ≤ n → PT n .prod g l = some (t, r) := by
  intro n hn
  obtain ⟨n, rfl⟩ : ∃ m, n = m + 2 := ⟨n - 2, by omega⟩
  rw [PT, h (n + 1) (by omega), Option.bind_some, PT, h1]; rfl
theorem l_sum {g l t r k} (h : ∀ n, k ≤ n → PT n .prod g l = some (t, r)) (h1 : hd ⟨#[43]⟩ r = false) (h2 : hd ⟨#[45]⟩ r = false) : ∀ n, k + 2 ≤ n → PT n .sum g l = some (t, r) := by
  intro n hn
  obtain ⟨n, rfl⟩ : ∃ m, n = m + 2 := ⟨n - 2, by omega⟩
  rw [PT, h (n + 1) (by omega), Option.bind_some, PT, h1, h2]; rfl
theorem l_order {g l t r k} (h : ∀ n, k ≤ n → PT n .sum g l = some (t, r)) (h1 : hd ⟨#[61]⟩ r = false) (h2 : hd ⟨#[60]⟩ r = false) : ∀ n, k + 1 ≤ n → PT n .order g l = some (t, r) := by
  intro n hn
  obtain ⟨n, rfl⟩ : ∃ m, n = m + 1 := ⟨n - 1, by omega⟩
  rw [PT, h n (by omega), Option.bind_some, h1, h2]; rfl
theorem l_list {g l t r k} (h : ∀ n, k ≤ n → PT n .order g l = some (t, r)) (h1 : hd ⟨#[58]⟩ r = false) : ∀ n, k + 1 ≤ n → PT n .list g l = some (t, r) := by
  intro n hn
  obtain ⟨n, rfl⟩ : ∃ m, n = m + 1 := ⟨n - 1, by omega⟩
  rw [PT, h n (by omega), Option.bind_some, h1]; rfl
theorem l_expr {g l t r k} (h : ∀ n, k ≤ n → PT n .list g l = some (t, r)) (h1 : hd ⟨#[108, 101, 116]⟩ l = false) (h2 : hd ⟨#[92]⟩ l = false) (h3 : hd ⟨#[105, 102]⟩ l = false) : ∀ n, k + 1 ≤ n → PT n .expr g l = some (t, r) := by
  intro n hn
  obtain ⟨n, rfl⟩ : ∃ m, n = m + 1 := ⟨n - 1, by omega⟩
  rw [PT, h1, h2, h3]
  simp only [Bool.false_eq_true, if_false]
  exact h n (by omega)

theorem At.bin {g a b ta tb} (op : UInt8) (hop : op = 58 ∨ op = 43 ∨ op = 45 ∨ op = 42 ∨ op = 61 ∨ op = 60) (ha : At g a ta) (hb : At g b tb) (ba : Beg a) : Ex g (a ++ (.sym ⟨#[op]⟩ :: b)) (.bin op ta tb) := by
  obtain ⟨k, ha⟩ := ha
  obtain ⟨j, hb⟩ := hb
  refine ⟨k + j + 30, fun n hn r hr => ?_⟩
  rw [List.append_assoc, List.cons_append]
  have use1 := use_at (fun n hn => ha n hn (.sym ⟨#[op]⟩ :: (b ++ r))) (by rcases hop with rfl | rfl | rfl | rfl | rfl | rfl <;> rfl)
  have use2 := use_at (fun n hn => hb n hn r) hr.b
  rcases hop with rfl | rfl | rfl | rfl | rfl | rfl
  · have o1 := l_order (l_sum (l_prod use1 rfl) rfl rfl) rfl rfl
    have o2 := l_list (l_order (l_sum (l_prod use2 hr.o6) hr.o4 hr.o5) hr.o2 hr.o3) hr.o1
    refine l_expr (k := k + j + 20) (fun n hn => ?_) (ba.k1 _) (ba.k2 _) (ba.k3 _) n (by omega)
    obtain ⟨n, rfl⟩ : ∃ m, n = m + 1 := ⟨n - 1, by omega⟩
    rw [PT, o1 n (by omega), Option.bind_some, if_pos (show hd _ _ = true from rfl)]
    simp only [List.tail_cons]
    rw [o2 n (by omega)]; rfl
  · have o1 := l_prod use1 rfl
    have o2 := l_prod use2 hr.o6
    refine l_expr (l_list (l_order (k := k + j + 10) (fun n hn => ?_) hr.o2 hr.o3) hr.o1) (ba.k1 _) (ba.k2 _) (ba.k3 _) n (by omega)
    obtain ⟨n, rfl⟩ : ∃ m, n = m + 3 := ⟨n - 3, by omega⟩
    rw [PT, o1 (n + 2) (by omega), Option.bind_some, PT, if_pos (show (hd _ _ || hd _ _) = true from rfl)]
    simp only [List.tail_cons]
    rw [o2 (n + 1) (by omega), Option.bind_some, PT, hr.o4, hr.o5]; rfl
  · have o1 := l_prod use1 rfl
    have o2 := l_prod use2 hr.o6
    refine l_expr (l_list (l_order (k := k + j + 10) (fun n hn => ?_) hr.o2 hr.o3) hr.o1) (ba.k1 _) (ba.k2 _) (ba.k3 _) n (by omega)
    obtain ⟨n, rfl⟩ : ∃ m, n = m + 3 := ⟨n - 3, by omega⟩
    rw [PT, o1 (n + 2) (by omega), Option.bind_some, PT, if_pos (show (hd _ _ || hd _ _) = true from rfl)]
    simp only [List.tail_cons]
    rw [o2 (n + 1) (by omega), Option.bind_some, PT, hr.o4, hr.o5]; rfl
  · refine l_expr (l_list (l_order (l_sum (k := k + j + 10) (fun n hn => ?_) hr.o4 hr.o5) hr.o2 hr.o3) hr.o1) (ba.k1 _) (ba.k2 _) (ba.k3 _) n (by omega)
    obtain ⟨n, rfl⟩ : ∃ m, n = m + 3 := ⟨n - 3, by omega⟩
    rw [PT, use1 (n + 2) (by omega), Option.bind_some, PT, if_pos (show hd _ _ = true from rfl)]
    simp only [List.tail_cons]
    rw [use2 (n + 1) (by omega), Option.bind_some, PT, hr.o6]; rfl
  · have o1 := l_sum (l_prod use1 rfl) rfl rfl
    have o2 := l_sum (l_prod use2 hr.o6) hr.o4 hr.o5
    refine l_expr (l_list (k := k + j + 10) (fun n hn => ?_) hr.o1) (ba.k1 _) (ba.k2 _) (ba.k3 _) n (by omega)
    obtain ⟨n, rfl⟩ : ∃ m, n = m + 1 := ⟨n - 1, by omega⟩
    rw [PT, o1 n (by omega), Option.bind_some, if_pos (show (hd _ _ || hd _ _) = true from rfl)]
    simp only [List.tail_cons]
    rw [o2 n (by omega)]; rfl
  · have o1 := l_sum (l_prod use1 rfl) rfl rfl
    have o2 := l_sum (l_prod use2 hr.o6) hr.o4 hr.o5
    refine l_expr (l_list (k := k + j + 10) (fun n hn => ?_) hr.o1) (ba.k1 _) (ba.k2 _) (ba.k3 _) n (by omega)
    obtain ⟨n, rfl⟩ : ∃ m, n = m + 1 := ⟨n - 1, by omega⟩
    rw [PT, o1 n (by omega), Option.bind_some, if_pos (show (hd _ _ || hd _ _) = true from rfl)]
    simp only [List.tail_cons]
    rw [o2 n (by omega)]; rfl

theorem term_then (r : List Tk) : Term (.sym ⟨#[116, 104, 101, 110]⟩ :: r) := ⟨rfl, rfl, rfl, rfl, rfl, rfl, rfl, rfl, rfl, rfl⟩
theorem term_else (r : List Tk) : Term (.sym ⟨#[101, 108, 115, 101]⟩ :: r) := ⟨rfl, rfl, rfl, rfl, rfl, rfl, rfl, rfl, rfl, rfl⟩
theorem Ex.ite {g a b c ta tb tc} (ha : Ex g a ta) (hb : Ex g b tb) (hc : Ex g c tc) : Ex g (.sym ⟨#[105, 102]⟩ :: (a ++ (.sym ⟨#[116, 104, 101, 110]⟩ :: (b ++ (.sym ⟨#[101, 108, 115, 101]⟩ :: c))))) (.ite ta tb tc) := by
  obtain ⟨i, ha⟩ := ha
  obtain ⟨j, hb⟩ := hb
  obtain ⟨k, hc⟩ := hc
  refine ⟨i + j + k + 1, fun n hn r hr => ?_⟩
  obtain ⟨n, rfl⟩ : ∃ m, n = m + 1 := ⟨n - 1, by omega⟩
  simp only [List.cons_append, List.append_assoc]
  rw [PT, if_neg (by rw [show ∀ l, hd ⟨#[108, 101, 116]⟩ (Tk.sym ⟨#[105, 102]⟩ :: l) = false from fun _ => rfl]; exact Bool.false_ne_true), if_neg (by rw [show ∀ l, hd ⟨#[92]⟩ (Tk.sym ⟨#[105, 102]⟩ :: l) = false from fun _ => rfl]; exact Bool.false_ne_true), if_pos (show hd _ _ = true from rfl)]
  simp only [List.tail_cons]
  rw [ha n (by omega) _ (term_then _), Option.bind_some]
  rw [show eat ⟨#[116, 104, 101, 110]⟩ (Tk.sym ⟨#[116, 104, 101, 110]⟩ :: (b ++ (.sym ⟨#[101, 108, 115, 101]⟩ :: (c ++ r)))) = some (b ++ (.sym ⟨#[101, 108, 115, 101]⟩ :: (c ++ r))) from rfl, Option.bind_some, hb n (by omega) _ (term_else _), Option.bind_some]
  rw [show eat ⟨#[101, 108, 115, 101]⟩ (Tk.sym ⟨#[101, 108, 115, 101]⟩ :: (c ++ r)) = some (c ++ r) from rfl, Option.bind_some, hc n (by omega) _ hr]; rfl
theorem Ex.fn {g a ta} (x : ByteArray) (ha : Ex (g ++ [x]) a ta) : Ex g (.sym ⟨#[92]⟩ :: .name x :: .sym ⟨#[46]⟩ :: a) (.fn g.length ta) := by
  obtain ⟨i, ha⟩ := ha
  refine ⟨i + 1, fun n hn r hr => ?_⟩
  obtain ⟨n, rfl⟩ : ∃ m, n = m + 1 := ⟨n - 1, by omega⟩
  simp only [List.cons_append]
  rw [PT, if_neg (by rw [show ∀ l, hd ⟨#[108, 101, 116]⟩ (Tk.sym ⟨#[92]⟩ :: l) = false from fun _ => rfl]; exact Bool.false_ne_true), if_pos (show hd _ _ = true from rfl)]
  simp only [List.tail_cons, eatName, Option.bind_some]
  rw [show eat ⟨#[46]⟩ (Tk.sym ⟨#[46]⟩ :: (a ++ r)) = some (a ++ r) from rfl, Option.bind_some, ha n (by omega) _ hr]; rfl
theorem Ex.letE {g a b ta tb} (x : ByteArray) (ha : Ex (g ++ [x]) a ta) (hb : Ex (g ++ [x]) b tb) : Ex g (.sym ⟨#[108, 101, 116]⟩ :: .name x :: .sym ⟨#[61]⟩ :: (a ++ (.sym ⟨#[105, 110]⟩ :: b))) (.letE g.length ta tb) := by
  obtain ⟨i, ha⟩ := ha
  obtain ⟨j, hb⟩ := hb
  refine ⟨i + j + 1, fun n hn r hr => ?_⟩
  obtain ⟨n, rfl⟩ : ∃ m, n = m + 1 := ⟨n - 1, by omega⟩
  simp only [List.cons_append, List.append_assoc]
  rw [PT, if_pos (show hd _ _ = true from rfl)]
  simp only [List.tail_cons, eatName, Option.bind_some]
  rw [show eat ⟨#[61]⟩ (Tk.sym ⟨#[61]⟩ :: (a ++ (.sym ⟨#[105, 110]⟩ :: (b ++ r)))) = some (a ++ (.sym ⟨#[105, 110]⟩ :: (b ++ r))) from rfl, Option.bind_some, ha n (by omega) _ (term_in _), Option.bind_some]
  rw [show eat ⟨#[105, 110]⟩ (Tk.sym ⟨#[105, 110]⟩ :: (b ++ r)) = some (b ++ r) from rfl, Option.bind_some, hb n (by omega) _ hr]; rfl
theorem term_nil : Term [] := ⟨rfl, rfl, rfl, rfl, rfl, rfl, rfl, rfl, rfl, rfl⟩
theorem Ex.whole {l t} (h : Ex [] l t) : ∃ n, PT n .expr [] l = some (t, []) := by
  obtain ⟨k, h⟩ := h
  exact ⟨k, by simpa using h k (Nat.le_refl _) [] term_nil⟩
theorem Beg.paren (l : List Tk) : Beg (.sym ⟨#[40]⟩ :: l) := ⟨fun _ => rfl, fun _ => rfl, fun _ => rfl, fun _ => rfl⟩
end Skein

namespace Go.Proofs.YtjjlgjmebnkdjaaGreatDoor
open Go Go.Proofs Go.RowKit Skein

theorem dd_step (n : Nat) (h : ¬ n < 10) : Lib.decDigits n = Lib.decDigits (n / 10) ++ [UInt8.ofNat (48 + n % 10)] := by rw [Lib.decDigits, dif_neg h]
theorem dig_isDig (d : Nat) (h : d < 10) : isDig (UInt8.ofNat (48 + d)) = true := by
  have : d = 0 ∨ d = 1 ∨ d = 2 ∨ d = 3 ∨ d = 4 ∨ d = 5 ∨ d = 6 ∨ d = 7 ∨ d = 8 ∨ d = 9 := by omega
  rcases this with rfl | rfl | rfl | rfl | rfl | rfl | rfl | rfl | rfl | rfl <;> decide
theorem dig_toNat (d : Nat) (h : d < 10) : (UInt8.ofNat (48 + d)).toNat - 48 = d := by
  have : d = 0 ∨ d = 1 ∨ d = 2 ∨ d = 3 ∨ d = 4 ∨ d = 5 ∨ d = 6 ∨ d = 7 ∨ d = 8 ∨ d = 9 := by omega
  rcases this with rfl | rfl | rfl | rfl | rfl | rfl | rfl | rfl | rfl | rfl <;> decide
theorem dd_all : ∀ (n : Nat), (∀ c ∈ Lib.decDigits n, isDig c = true) ∧ Lib.decDigits n ≠ [] ∧ (Lib.decDigits n).foldl (fun n c => n * 10 + (c.toNat - 48)) 0 = n := by
  intro n
  induction n using Nat.strongRecOn with
  | _ n ih =>
    by_cases h : n < 10
    · rw [Lib.decDigits_one h]
      refine ⟨fun c hc => ?_, by simp, ?_⟩
      · rw [List.mem_singleton.1 hc]; exact dig_isDig n h
      · simp only [List.foldl_cons, List.foldl_nil]; rw [dig_toNat n h]; omega
    · obtain ⟨i1, i2, i3⟩ := ih (n / 10) (by omega)
      rw [dd_step n h]
      refine ⟨fun c hc => ?_, by simp, ?_⟩
      · rcases List.mem_append.1 hc with hc | hc
        · exact i1 c hc
        · rw [List.mem_singleton.1 hc]; exact dig_isDig _ (by omega)
      · rw [List.foldl_append, i3]
        simp only [List.foldl_cons, List.foldl_nil]; rw [dig_toNat _ (by omega)]; omega
theorem dd_len : ∀ (k n : Nat), n < 10 ^ (k + 1) → (Lib.decDigits n).length ≤ k + 1 := by
  intro k
  induction k with
  | zero => intro n h; rw [Lib.decDigits_one (by simpa using h)]; simp
  | succ k ih =>
    intro n h
    by_cases h1 : n < 10
    · rw [Lib.decDigits_one h1]; simp
    · rw [dd_step n h1]
      have := ih (n / 10) (by rw [Nat.pow_succ] at h; omega)
      simp; omega
theorem dd_inj {i j : Nat} (h : Lib.decDigits i = Lib.decDigits j) : i = j := by
  have a := (dd_all i).2.2
  rw [h, (dd_all j).2.2] at a; exact a.symm

def vn (i : Nat) : List UInt8 := 118 :: Lib.decDigits i
def vname (i : Nat) : ByteArray := ⟨(vn i).toArray⟩
theorem vname_inj {i j : Nat} (h : vname i = vname j) : i = j := by
  have := congrArg (fun b : ByteArray => b.data.toList) h
  simp [vname, vn] at this
  exact dd_inj this
def gN (d : Nat) : List ByteArray := (List.range d).map vname
theorem gN_succ (d : Nat) : gN (d + 1) = gN d ++ [vname d] := by simp [gN, List.range_succ]
theorem gN_len (d : Nat) : (gN d).length = d := by simp [gN]
theorem lastIdx_snoc (x y : ByteArray) : ∀ l : List ByteArray, lastIdx x (l ++ [y]) = if eqb y x then some l.length else lastIdx x l := by
  intro l
  induction l with
  | nil => simp [lastIdx]
  | cons z r ih =>
    simp only [List.cons_append, lastIdx, ih]
    split
    · rename_i i hi
      split at hi
      · rename_i hy; cases hi; rw [if_pos hy]; simp
      · rename_i hne; rw [if_neg hne, hi]
    · rename_i hi
      split at hi
      · cases hi
      · rename_i hne; rw [if_neg hne, hi]
theorem gN_find {i : Nat} : ∀ d, i < d → lastIdx (vname i) (gN d) = some i := by
  intro d
  induction d with
  | zero => intro h; omega
  | succ d ih =>
    intro h
    rw [gN_succ, lastIdx_snoc]
    by_cases e : d = i
    · subst e; rw [if_pos (eqb_iff.2 rfl), gN_len]
    · rw [if_neg (by rw [Bool.not_eq_true, eqb_ne]; exact fun h => e (vname_inj h)), ih (by omega)]
theorem vname_word (i : Nat) : mem words (vname i) = false := by simp [mem, words, eqb, vname, vn]

def unW (op : UInt8) : List UInt8 := if op == 104 then [104, 101, 97, 100] else if op == 116 then [116, 97, 105, 108] else [110, 117, 108, 108]
/-- The pieces of the plain form. -/
def ppcs : T → List Pc
  | .junk => [] | .free => []
  | .nil => [.nil]
  | .num n => [.num (Lib.decDigits n)]
  | .var n => [.word (vn n)]
  | .letE n a b => .mark 40 :: .word [108, 101, 116] :: .blank 32 :: .word (vn n) :: .blank 32 :: .mark 61 :: .blank 32 :: (ppcs a ++ (.blank 32 :: .word [105, 110] :: .blank 32 :: (ppcs b ++ [.mark 41])))
  | .fn n a => .mark 40 :: .mark 92 :: .word (vn n) :: .mark 46 :: .blank 32 :: (ppcs a ++ [.mark 41])
  | .ite a b c => .mark 40 :: .word [105, 102] :: .blank 32 :: (ppcs a ++ (.blank 32 :: .word [116, 104, 101, 110] :: .blank 32 :: (ppcs b ++ (.blank 32 :: .word [101, 108, 115, 101] :: .blank 32 :: (ppcs c ++ [.mark 41])))))
  | .app a b => .mark 40 :: (ppcs a ++ (.blank 32 :: (ppcs b ++ [.mark 41])))
  | .un op a => .mark 40 :: .word (unW op) :: .blank 32 :: (ppcs a ++ [.mark 41])
  | .bin op a b => .mark 40 :: (ppcs a ++ (.blank 32 :: .mark op :: .blank 32 :: (ppcs b ++ [.mark 41])))

theorem ppcs_flat : ∀ t, Clean t → flat (ppcs t) = (plain t).data.toList := by
  intro t
  induction t with
  | junk => intro h; exact h.elim
  | free => intro h; exact h.elim
  | nil => intro _; rfl
  | num n => intro _; simp [ppcs, flat, Pc.txt, plain, dig]
  | var n => intro _; simp [ppcs, flat, Pc.txt, plain, dig, vn]
  | letE n a b ia ib => intro h; have ia := ia h.2.1; have ib := ib h.2.2; simp only [flat] at ia ib; simp [ppcs, flat, Pc.txt, plain, dig, vn, ia, ib]
  | fn n a ia => intro h; have ia := ia h.2; simp only [flat] at ia; simp [ppcs, flat, Pc.txt, plain, dig, vn, ia]
  | ite a b c ia ib ic => intro h; have ia := ia h.1; have ib := ib h.2.1; have ic := ic h.2.2; simp only [flat] at ia ib ic; simp [ppcs, flat, Pc.txt, plain, ia, ib, ic]
  | app a b ia ib => intro h; have ia := ia h.1; have ib := ib h.2; simp only [flat] at ia ib; simp [ppcs, flat, Pc.txt, plain, ia, ib]
  | un op a ia =>
    intro h; have ia := ia h.2; simp only [flat] at ia
    rcases h.1 with rfl | rfl | rfl <;> simp [ppcs, flat, Pc.txt, plain, wordOf, unW, ia]
  | bin op a b ia ib => intro h; have ia := ia h.2.1; have ib := ib h.2.2; simp only [flat] at ia ib; simp [ppcs, flat, Pc.txt, plain, ia, ib]

theorem num_pc {n : Nat} (h : n < 10 ^ 9) : (Pc.num (Lib.decDigits n)).ok = true := by
  obtain ⟨h1, h2, _⟩ := dd_all n
  simp only [Pc.ok, Bool.and_eq_true, Bool.not_eq_true', List.isEmpty_eq_false_iff, decide_eq_true_eq, List.all_eq_true]
  exact ⟨⟨h2, dd_len 8 n h⟩, h1⟩
theorem var_pc {n : Nat} (h : n ≤ 300) : (Pc.word (vn n)).ok = true := by
  obtain ⟨h1, h2, _⟩ := dd_all n
  have := dd_len 2 n (by omega)
  simp only [Pc.ok, vn, Bool.and_eq_true, List.all_eq_true, List.length_cons]
  refine ⟨⟨by decide, decide_eq_true (by omega)⟩, fun c hc => ?_⟩
  rcases List.mem_cons.1 hc with rfl | hc
  · decide
  · simp [fits, h1 c hc]
theorem ppcs_fin : ∀ t, Clean t → ∀ nx, halt nx = true → fin (ppcs t) nx = true := by
  intro t
  induction t with
  | junk => intro h; exact h.elim
  | free => intro h; exact h.elim
  | nil => intro _ nx _; rfl
  | num n => intro h nx hn; simp [ppcs, fin, num_pc h, firstN, hn]
  | var n => intro h nx hn; simp [ppcs, fin, var_pc h, firstN, hn]
  | letE n a b ia ib =>
    intro h nx hn
    have e1 := fin_app (ppcs b) [.mark 41] nx (ib h.2.2 _ rfl) rfl
    have e2 : fin (.blank 32 :: .word [105, 110] :: .blank 32 :: (ppcs b ++ [.mark 41])) nx = true := by
      simp only [fin, Bool.and_eq_true]; exact ⟨⟨rfl, rfl⟩, ⟨rfl, rfl⟩, ⟨rfl, rfl⟩, e1⟩
    have e3 := fin_app (ppcs a) _ nx (ia h.2.1 _ rfl) e2
    simp only [ppcs]
    have hv := var_pc h.1
    simp only [fin, Bool.and_eq_true] at e3 ⊢
    exact ⟨⟨rfl, rfl⟩, ⟨rfl, rfl⟩, ⟨rfl, rfl⟩, ⟨hv, rfl⟩, ⟨rfl, rfl⟩, ⟨rfl, rfl⟩, ⟨rfl, rfl⟩, e3⟩
  | fn n a ia =>
    intro h nx hn
    have e1 := fin_app (ppcs a) [.mark 41] nx (ia h.2 _ rfl) rfl
    have hv := var_pc h.1
    simp only [ppcs]
    simp only [fin, Bool.and_eq_true] at e1 ⊢
    exact ⟨⟨rfl, rfl⟩, ⟨rfl, rfl⟩, ⟨hv, rfl⟩, ⟨rfl, rfl⟩, ⟨rfl, rfl⟩, e1⟩
  | ite a b c ia ib ic =>
    intro h nx hn
    have e1 := fin_app (ppcs c) [.mark 41] nx (ic h.2.2 _ rfl) rfl
    have e2 : fin (.blank 32 :: .word [101, 108, 115, 101] :: .blank 32 :: (ppcs c ++ [.mark 41])) nx = true := by
      simp only [fin, Bool.and_eq_true]; exact ⟨⟨rfl, rfl⟩, ⟨rfl, rfl⟩, ⟨rfl, rfl⟩, e1⟩
    have e3 := fin_app (ppcs b) _ nx (ib h.2.1 _ rfl) e2
    have e4 : fin (.blank 32 :: .word [116, 104, 101, 110] :: .blank 32 :: (ppcs b ++ (.blank 32 :: .word [101, 108, 115, 101] :: .blank 32 :: (ppcs c ++ [.mark 41])))) nx = true := by
      simp only [fin, Bool.and_eq_true] at e3 ⊢; exact ⟨⟨rfl, rfl⟩, ⟨rfl, rfl⟩, ⟨rfl, rfl⟩, e3⟩
    have e5 := fin_app (ppcs a) _ nx (ia h.1 _ rfl) e4
    simp only [ppcs]
    simp only [fin, Bool.and_eq_true] at e5 ⊢
    exact ⟨⟨rfl, rfl⟩, ⟨rfl, rfl⟩, ⟨rfl, rfl⟩, e5⟩
  | app a b ia ib =>
    intro h nx hn
    have e1 := fin_app (ppcs b) [.mark 41] nx (ib h.2 _ rfl) rfl
    have e2 : fin (.blank 32 :: (ppcs b ++ [.mark 41])) nx = true := by
      simp only [fin, Bool.and_eq_true]; exact ⟨⟨rfl, rfl⟩, e1⟩
    have e3 := fin_app (ppcs a) _ nx (ia h.1 _ rfl) e2
    simp only [ppcs]
    simp only [fin, Bool.and_eq_true] at e3 ⊢
    exact ⟨⟨rfl, rfl⟩, e3⟩
  | un op a ia =>
    intro h nx hn
    have e1 := fin_app (ppcs a) [.mark 41] nx (ia h.2 _ rfl) rfl
    simp only [ppcs]
    simp only [fin, Bool.and_eq_true] at e1 ⊢
    rcases h.1 with rfl | rfl | rfl <;> exact ⟨⟨rfl, rfl⟩, ⟨rfl, rfl⟩, ⟨rfl, rfl⟩, e1⟩
  | bin op a b ia ib =>
    intro h nx hn
    have e1 := fin_app (ppcs b) [.mark 41] nx (ib h.2.2 _ rfl) rfl
    have hop : (Pc.mark op).ok = true := by rcases h.1 with rfl | rfl | rfl | rfl | rfl | rfl <;> decide
    have e2 : fin (.blank 32 :: .mark op :: .blank 32 :: (ppcs b ++ [.mark 41])) nx = true := by
      simp only [fin, Bool.and_eq_true]; exact ⟨⟨rfl, rfl⟩, ⟨hop, rfl⟩, ⟨rfl, rfl⟩, e1⟩
    have e3 := fin_app (ppcs a) _ nx (ia h.2.1 _ rfl) e2
    simp only [ppcs]
    simp only [fin, Bool.and_eq_true] at e3 ⊢
    exact ⟨⟨rfl, rfl⟩, e3⟩

theorem ppcs_at : ∀ (t : T) (d : Nat), Tidy d t → Clean t → At (gN d) (tks (ppcs t)) t ∧ Beg (tks (ppcs t)) := by
  have w1 : mem words ⟨#[108, 101, 116]⟩ = true := by decide
  have w2 : mem words ⟨#[105, 110]⟩ = true := by decide
  have w3 : mem words ⟨#[105, 102]⟩ = true := by decide
  have w4 : mem words ⟨#[116, 104, 101, 110]⟩ = true := by decide
  have w5 : mem words ⟨#[101, 108, 115, 101]⟩ = true := by decide
  have w6 : ∀ n, mem words ⟨(118 :: Lib.decDigits n).toArray⟩ = false := vname_word
  intro t
  induction t with
  | junk => intro d h; exact h.elim
  | free => intro d h; exact h.elim
  | nil => intro d _ _; exact ⟨⟨1, fun n hn r => by obtain ⟨n, rfl⟩ : ∃ m, n = m + 1 := ⟨n - 1, by omega⟩
                                                    rfl⟩, fun _ => rfl, fun _ => rfl, fun _ => rfl, fun _ => rfl⟩
  | num k =>
    intro d _ h
    refine ⟨⟨1, fun n hn r => ?_⟩, fun _ => rfl, fun _ => rfl, fun _ => rfl, fun _ => rfl⟩
    obtain ⟨n, rfl⟩ : ∃ m, n = m + 1 := ⟨n - 1, by omega⟩
    have e : val ⟨(Lib.decDigits k).toArray⟩ = k := (dd_all k).2.2
    show some (T.num (val ⟨(Lib.decDigits k).toArray⟩), r) = _
    rw [e]
  | var k =>
    intro d h _
    have e : tks (ppcs (.var k)) = [.name (vname k)] := by
      show [if mem words (vname k) then Tk.sym (vname k) else Tk.name (vname k)] ++ [] = _
      rw [vname_word]; rfl
    rw [e]
    refine ⟨⟨1, fun n hn r => ?_⟩, fun _ => rfl, fun _ => rfl, fun _ => rfl, fun _ => rfl⟩
    obtain ⟨n, rfl⟩ : ∃ m, n = m + 1 := ⟨n - 1, by omega⟩
    simp only [List.singleton_append, PT, gN_find d h]; rfl
  | letE k a b ia ib =>
    rintro d ⟨rfl, ta, tb⟩ ⟨hk, ca, cb⟩
    obtain ⟨a1, a2⟩ := ia _ ta ca
    obtain ⟨b1, b2⟩ := ib _ tb cb
    rw [gN_succ] at a1 b1
    have h := Ex.letE (vname k) (a1.ex a2) (b1.ex b2)
    rw [gN_len] at h
    have e : tks (ppcs (.letE k a b)) = .sym ⟨#[40]⟩ :: ((.sym ⟨#[108, 101, 116]⟩ :: .name (vname k) :: .sym ⟨#[61]⟩ :: (tks (ppcs a) ++ (.sym ⟨#[105, 110]⟩ :: tks (ppcs b)))) ++ [.sym ⟨#[41]⟩]) := by
      simp [ppcs, tks, Pc.tk, w1, w2, vname, vn, w6]
    rw [e]; exact ⟨At.paren h, Beg.paren _⟩
  | fn k a ia =>
    rintro d ⟨rfl, ta⟩ ⟨hk, ca⟩
    obtain ⟨a1, a2⟩ := ia _ ta ca
    rw [gN_succ] at a1
    have h := Ex.fn (vname k) (a1.ex a2)
    rw [gN_len] at h
    have e : tks (ppcs (.fn k a)) = .sym ⟨#[40]⟩ :: ((.sym ⟨#[92]⟩ :: .name (vname k) :: .sym ⟨#[46]⟩ :: tks (ppcs a)) ++ [.sym ⟨#[41]⟩]) := by
      simp [ppcs, tks, Pc.tk, vname, vn, w6]
    rw [e]; exact ⟨At.paren h, Beg.paren _⟩
  | ite a b c ia ib ic =>
    rintro d ⟨ta, tb, tc⟩ ⟨ca, cb, cc⟩
    obtain ⟨a1, a2⟩ := ia _ ta ca
    obtain ⟨b1, b2⟩ := ib _ tb cb
    obtain ⟨c1, c2⟩ := ic _ tc cc
    have h := Ex.ite (a1.ex a2) (b1.ex b2) (c1.ex c2)
    have e : tks (ppcs (.ite a b c)) = .sym ⟨#[40]⟩ :: ((.sym ⟨#[105, 102]⟩ :: (tks (ppcs a) ++ (.sym ⟨#[116, 104, 101, 110]⟩ :: (tks (ppcs b) ++ (.sym ⟨#[101, 108, 115, 101]⟩ :: tks (ppcs c)))))) ++ [.sym ⟨#[41]⟩]) := by
      simp [ppcs, tks, Pc.tk, w3, w4, w5]
    rw [e]; exact ⟨At.paren h, Beg.paren _⟩
  | app a b ia ib =>
    rintro d ⟨ta, tb⟩ ⟨ca, cb⟩
    obtain ⟨a1, a2⟩ := ia _ ta ca
    obtain ⟨b1, b2⟩ := ib _ tb cb
    have e : tks (ppcs (.app a b)) = .sym ⟨#[40]⟩ :: ((tks (ppcs a) ++ tks (ppcs b)) ++ [.sym ⟨#[41]⟩]) := by
      simp [ppcs, tks, Pc.tk]
    rw [e]; exact ⟨At.paren (At.app a1 b1 a2 b2), Beg.paren _⟩
  | un op a ia =>
    rintro d ⟨_, ta⟩ ⟨hop, ca⟩
    obtain ⟨a1, a2⟩ := ia _ ta ca
    rcases hop with rfl | rfl | rfl
    · have w7 : mem words ⟨#[104, 101, 97, 100]⟩ = true := by decide
      have e : tks (ppcs (.un 104 a)) = .sym ⟨#[40]⟩ :: ((.sym ⟨#[104, 101, 97, 100]⟩ :: tks (ppcs a)) ++ [.sym ⟨#[41]⟩]) := by simp [ppcs, tks, Pc.tk, unW, w7]
      rw [e]
      exact ⟨At.paren (At.ex (At.un 104 _ (.inl ⟨rfl, rfl⟩) a1) ⟨fun _ => rfl, fun _ => rfl, fun _ => rfl, fun _ => rfl⟩), Beg.paren _⟩
    · have w7 : mem words ⟨#[116, 97, 105, 108]⟩ = true := by decide
      have e : tks (ppcs (.un 116 a)) = .sym ⟨#[40]⟩ :: ((.sym ⟨#[116, 97, 105, 108]⟩ :: tks (ppcs a)) ++ [.sym ⟨#[41]⟩]) := by simp [ppcs, tks, Pc.tk, unW, w7]
      rw [e]
      exact ⟨At.paren (At.ex (At.un 116 _ (.inr (.inl ⟨rfl, rfl⟩)) a1) ⟨fun _ => rfl, fun _ => rfl, fun _ => rfl, fun _ => rfl⟩), Beg.paren _⟩
    · have w7 : mem words ⟨#[110, 117, 108, 108]⟩ = true := by decide
      have e : tks (ppcs (.un 110 a)) = .sym ⟨#[40]⟩ :: ((.sym ⟨#[110, 117, 108, 108]⟩ :: tks (ppcs a)) ++ [.sym ⟨#[41]⟩]) := by simp [ppcs, tks, Pc.tk, unW, w7]
      rw [e]
      exact ⟨At.paren (At.ex (At.un 110 _ (.inr (.inr ⟨rfl, rfl⟩)) a1) ⟨fun _ => rfl, fun _ => rfl, fun _ => rfl, fun _ => rfl⟩), Beg.paren _⟩
  | bin op a b ia ib =>
    rintro d ⟨_, ta, tb⟩ ⟨hop, ca, cb⟩
    obtain ⟨a1, a2⟩ := ia _ ta ca
    obtain ⟨b1, b2⟩ := ib _ tb cb
    have e : tks (ppcs (.bin op a b)) = .sym ⟨#[40]⟩ :: ((tks (ppcs a) ++ (.sym ⟨#[op]⟩ :: tks (ppcs b))) ++ [.sym ⟨#[41]⟩]) := by
      simp [ppcs, tks, Pc.tk]
    rw [e]; exact ⟨At.paren (At.bin op (by rcases hop with h | h | h | h | h | h <;> simp [h]) a1 b1 a2), Beg.paren _⟩

/-- The plain form is read as the expression that it is. -/
theorem plain_whole {t : T} (ht : Tidy 0 t) (hc : Clean t) : ∃ m, PM (plain t) (8 * (plain t).size + 8) .expr (Skein.start (plain t)) = some (t, m) ∧ finish m = (0, 0) := by
  obtain ⟨h1, h2⟩ := ppcs_at t 0 ht hc
  obtain ⟨n, hn⟩ := Ex.whole (At.ex h1 h2)
  exact whole_of (ppcs_flat t hc).symm (ppcs_fin t hc none rfl) hn
end Go.Proofs.YtjjlgjmebnkdjaaGreatDoor
