/-
  The program's parser: kinds of signs; number, name, empty.
-/
import Derived.Test.YtjjlgjmebnkdjaaGreatDoorPrgH
import Derived.Test.YtjjlgjmebnkdjaaGreatDoorPureB
namespace Go.Proofs.YtjjlgjmebnkdjaaGreatDoor
open Go Go.Proofs Go.RowKit Skein

/- Kinds. -/
def syms : List ByteArray := words ++ marks ++ [⟨#[91, 93]⟩]

theorem tokAt_shape {s : ByteArray} {k : Nat} (hk : k ≤ s.size) :
    ((tokAt s k).k = .eof ∧ (tokAt s k).text = ⟨#[]⟩) ∨ ((tokAt s k).k = .bad ∧ (tokAt s k).text = ⟨#[]⟩) ∨
    ((tokAt s k).k = .num ∧ ∃ c r, (tokAt s k).text.data.toList = c :: r ∧ isDig c = true) ∨
    ((tokAt s k).k = .name ∧ mem words (tokAt s k).text = false ∧ ∃ c r, (tokAt s k).text.data.toList = c :: r ∧ isLet c = true) ∨
    ((tokAt s k).k = .sym ∧ mem syms (tokAt s k).text = true) := by
  have hfirst : ∀ n, 0 < n → k + n ≤ s.size → ∃ (h : k < s.size), ∃ r, (s.extract k (k + n)).data.toList = s[k] :: r := by
    intro n h1 h2
    refine ⟨by omega, ?_⟩
    have hz := ext_size s k n h2
    cases hl : (s.extract k (k + n)).data.toList with
    | nil =>
      have : (s.extract k (k + n)).data.toList.length = n := by rw [Array.length_toList]; exact hz
      rw [hl] at this; simp at this; omega
    | cons c r =>
      refine ⟨r, ?_⟩
      have h3 : (s.extract k (k + n)).data.toList[0]? = some c := by rw [hl]; rfl
      have h4 : (s.extract k (k + n)).data.toList[0]? = some (s[k]) := by
        rw [Array.getElem?_toList, Array.getElem?_eq_getElem (by show 0 < (s.extract k (k + n)).size; omega)]
        simp [ByteArray.getElem_eq_getElem_data]
      rw [h3] at h4; cases h4; rfl
  by_cases hlt : k < s.size
  · have r1 := runLen_le s false k hk
    have r2 := runLen_le s true k hk
    cases hd : isDig s[k]
    · cases hl : isLet s[k]
      · by_cases hx : s[k] = 91
        · by_cases h2 : ∃ h2 : k + 1 < s.size, s[k + 1] = 93
          · obtain ⟨h2, h3⟩ := h2
            rw [tokAt_br hlt hd hl hx h2 h3, two_ext h2 hx h3]
            right; right; right; right; exact ⟨rfl, by show mem syms ⟨#[91, 93]⟩ = true; decide⟩
          · rw [tokAt_br_bad hlt hd hl hx fun h e => h2 ⟨h, e⟩]
            right; left; exact ⟨rfl, rfl⟩
        · cases hm : mem marks (s.extract k (k + 1))
          · rw [tokAt_mark_bad hlt hd hl hx hm]; right; left; exact ⟨rfl, rfl⟩
          · rw [tokAt_mark hlt hd hl hx hm]; right; right; right; right
            refine ⟨rfl, ?_⟩
            unfold mem syms at *
            simp only [List.any_append, hm, Bool.or_true, Bool.true_or]
      · by_cases h9 : 6 < runLen s true k
        · rw [tokAt_let_bad hlt hd hl h9]; right; left; exact ⟨rfl, rfl⟩
        · have p2 := runLen_pos s true k hlt (by simp [fits, hl])
          cases hm : mem words (s.extract k (k + runLen s true k))
          · rw [tokAt_name hlt hd hl h9 hm]; right; right; right; left
            obtain ⟨_, r, e⟩ := hfirst _ p2 r2
            exact ⟨rfl, hm, _, r, e, hl⟩
          · rw [tokAt_word hlt hd hl h9 hm]; right; right; right; right
            refine ⟨rfl, ?_⟩
            unfold mem syms at *
            simp only [List.any_append, hm, Bool.true_or]
    · by_cases h9 : 9 < runLen s false k
      · rw [tokAt_dig_bad hlt hd h9]; right; left; exact ⟨rfl, rfl⟩
      · have p1 := runLen_pos s false k hlt (by simp [fits, hd])
        rw [tokAt_dig hlt hd h9]; right; right; left
        obtain ⟨_, r, e⟩ := hfirst _ p1 r1
        exact ⟨rfl, _, r, e, hd⟩
  · left; unfold tokAt; rw [dif_neg hlt]; exact ⟨rfl, rfl⟩

theorem syms_first : ∀ x ∈ syms, x ∉ words → ∀ c r, x.data.toList = c :: r → isLet c = false ∧ isDig c = false := by
  intro x hx hw c r e
  unfold syms at hx
  simp only [List.mem_append] at hx
  rcases hx with (hx | hx) | hx
  · exact absurd hx hw
  · revert e
    simp only [marks, List.mem_cons, List.not_mem_nil, or_false] at hx
    rcases hx with rfl | rfl | rfl | rfl | rfl | rfl | rfl | rfl | rfl | rfl
    all_goals (intro e; cases e; decide)
  · simp only [List.mem_cons, List.not_mem_nil, or_false] at hx
    subst hx; cases e; decide
theorem words_first : ∀ x ∈ words, ∀ c r, x.data.toList = c :: r → isDig c = false := by
  intro x hx c r e
  revert e
  simp only [words, List.mem_cons, List.not_mem_nil, or_false] at hx
  rcases hx with rfl | rfl | rfl | rfl | rfl | rfl | rfl | rfl
  all_goals (intro e; cases e; decide)
theorem syms_kind : ∀ x ∈ syms, eqb ⟨#[101, 110, 100]⟩ x = false ∧ eqb ⟨#[98, 97, 100]⟩ x = false ∧ eqb ⟨#[110, 117, 109, 98, 101, 114]⟩ x = false ∧ eqb ⟨#[110, 97, 109, 101]⟩ x = false ∧ eqb ⟨#[]⟩ x = false := by
  decide

theorem mem_iff {l : List ByteArray} {x : ByteArray} : mem l x = true ↔ x ∈ l := by
  unfold mem; rw [List.any_eq_true]
  constructor
  · rintro ⟨y, hy, e⟩; rw [← eqb_iff.1 e]; exact hy
  · intro h; exact ⟨x, h, eqb_iff.2 rfl⟩

theorem kind_sym {s m} (h : Inv s m) (x : ByteArray) (hx : x ∈ syms) : eqb (kindOf m.tok) x = eqb m.tok.text x := by
  obtain ⟨i, hi, e⟩ := h.ex
  rw [e]
  obtain ⟨k1, k2, k3, k4, k5⟩ := syms_kind x hx
  rcases tokAt_shape (skip_le s i hi) with ⟨a, b⟩ | ⟨a, b⟩ | ⟨a, c, r, b, d⟩ | ⟨a, hw, c, r, b, d⟩ | ⟨a, b⟩
  · unfold tok kindOf; rw [a, b]; exact k1.trans k5.symm
  · unfold tok kindOf; rw [a, b]; exact k2.trans k5.symm
  · have : eqb (tok s i).text x = false := by
      rw [eqb_ne]; intro e2
      have b' : x.data.toList = c :: r := by rw [← e2]; exact b
      by_cases hxw : x ∈ words
      · have := words_first x hxw c r b'; rw [d] at this; cases this
      · have := (syms_first x hx hxw c r b').2; rw [d] at this; cases this
    rw [this]; unfold tok kindOf; rw [a]; exact k3
  · have : eqb (tok s i).text x = false := by
      rw [eqb_ne]; intro e2
      have b' : x.data.toList = c :: r := by rw [← e2]; exact b
      by_cases hxw : x ∈ words
      · have hw' : mem words (tok s i).text = false := hw
        rw [e2, mem_iff.2 hxw] at hw'; cases hw'
      · have := (syms_first x hx hxw c r b').1; rw [d] at this; cases this
    rw [this]; unfold tok kindOf; rw [a]; exact k4
  · unfold tok kindOf; rw [a]

theorem sym_of {s m} (h : Inv s m) (hk : m.tok.k = .sym) : m.tok.text ∈ syms := by
  obtain ⟨i, hi, e⟩ := h.ex
  rw [e] at hk ⊢
  rcases tokAt_shape (skip_le s i hi) with ⟨a, b⟩ | ⟨a, b⟩ | ⟨a, c, r, b, d⟩ | ⟨a, hw, c, r, b, d⟩ | ⟨a, b⟩
  · unfold tok at hk; rw [a] at hk; cases hk
  · unfold tok at hk; rw [a] at hk; cases hk
  · unfold tok at hk; rw [a] at hk; cases hk
  · unfold tok at hk; rw [a] at hk; cases hk
  · exact mem_iff.1 b

theorem kind_num {s m} (h : Inv s m) : eqb (kindOf m.tok) ⟨#[110, 117, 109, 98, 101, 114]⟩ = (m.tok.k == .num) := by
  cases hk : m.tok.k <;> (unfold kindOf; rw [hk])
  all_goals first | rfl | (have := (syms_kind _ (sym_of h hk)).2.2.1; rw [eqb_comm]; exact this) | decide
theorem kind_name {s m} (h : Inv s m) : eqb (kindOf m.tok) ⟨#[110, 97, 109, 101]⟩ = (m.tok.k == .name) := by
  cases hk : m.tok.k <;> (unfold kindOf; rw [hk])
  all_goals first | rfl | (have := (syms_kind _ (sym_of h hk)).2.2.2.1; rw [eqb_comm]; exact this) | decide
theorem kind_end {s m} (h : Inv s m) : eqb (kindOf m.tok) ⟨#[101, 110, 100]⟩ = (m.tok.k == .eof) := by
  cases hk : m.tok.k <;> (unfold kindOf; rw [hk])
  all_goals first | rfl | (have := (syms_kind _ (sym_of h hk)).1; rw [eqb_comm]; exact this) | decide
end Go.Proofs.YtjjlgjmebnkdjaaGreatDoor
