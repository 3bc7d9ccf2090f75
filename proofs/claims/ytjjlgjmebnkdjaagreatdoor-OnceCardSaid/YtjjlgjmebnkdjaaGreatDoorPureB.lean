/-
  The plain model ends: so much fuel is enough.
-/
import Derived.Test.YtjjlgjmebnkdjaaGreatDoorPure
namespace Skein

def isLoopN : NT → Bool
  | .sumL _ => true | .prodL _ => true | .useL _ => true | _ => false
def rank : NT → Nat
  | .atom => 0 | .useL _ => 1 | .use => 2 | .prodL _ => 0 | .prod => 3 | .sumL _ => 0 | .sum => 4 | .order => 5 | .list => 6 | .expr => 7

theorem adv_b (s : ByteArray) (m : M) : m.tok.at_ + m.tok.text.size ≤ (m.adv s).tok.at_ := by
  show _ ≤ (tok s _).at_
  rw [tok_at]; exact skip_ge _ _
theorem gives_b (s : ByteArray) (m : M) : m.tok.at_ ≤ (m.gives s).2.tok.at_ := by
  unfold M.gives; split
  · exact Nat.le_trans (Nat.le_add_right _ _) (adv_b s m)
  · exact Nat.le_refl _
theorem want_b (s x : ByteArray) (m : M) : m.tok.at_ ≤ (m.want s x).tok.at_ := by
  unfold M.want; split
  · exact Nat.le_trans (Nat.le_add_right _ _) (adv_b s m)
  · exact Nat.le_refl _
theorem gives_bad (s : ByteArray) (m : M) (h : m.bad.isSome = true) : (m.gives s).2.bad.isSome = true := by
  unfold M.gives; split
  · exact h
  · rfl
theorem want_bad (s x : ByteArray) (m : M) (h : m.bad.isSome = true) : (m.want s x).bad.isSome = true := by
  unfold M.want; split
  · exact h
  · rfl

theorem eqb_size {t x : ByteArray} (h : eqb t x = true) : t.size = x.size := by rw [eqb_iff.1 h]
theorem has_size {m : M} {x : ByteArray} (h : m.has x = true) : m.tok.text.size = x.size := by
  unfold M.has at h; rw [Bool.and_eq_true] at h; exact eqb_size h.2

theorem mem_pos : ∀ (l : List ByteArray) (t : ByteArray), (∀ y ∈ l, 0 < y.size) → mem l t = true → 0 < t.size := by
  intro l t hl h
  unfold mem at h
  rw [List.any_eq_true] at h
  obtain ⟨y, hy, e⟩ := h
  rw [← eqb_iff.1 e]; exact hl y hy

theorem sign_pos {s m} (h : Inv s m) (hk : m.tok.k = .num ∨ m.tok.k = .name) : 0 < m.tok.text.size := by
  obtain ⟨i, hi, e⟩ := h.ex
  rw [e] at hk ⊢
  unfold tok at hk ⊢
  have hks := skip_le s i hi
  generalize skip s i = k at *
  unfold tokAt at hk ⊢
  by_cases hlt : k < s.size
  · simp only [dif_pos hlt] at hk ⊢
    have r1 := runLen_le s false k hks
    have r2 := runLen_le s true k hks
    by_cases hd : isDig s[k] = true
    · have p1 := runLen_pos s false k hlt (by simp [fits, hd])
      simp only [if_pos hd] at hk ⊢
      split
      · rename_i h9; simp [h9] at hk
      · simp only [ByteArray.size_extract]; omega
    · simp only [if_neg hd] at hk ⊢
      by_cases hl : isLet s[k] = true
      · have p2 := runLen_pos s true k hlt (by simp [fits, hl])
        simp only [if_pos hl] at hk ⊢
        split
        · rename_i h9; simp [h9] at hk
        · split
          all_goals simp only [ByteArray.size_extract]; omega
      · simp only [if_neg hl] at hk
        exfalso
        revert hk
        repeat' split
        all_goals simp
  · simp [hlt] at hk

theorem begins_pos {s m} (h : Inv s m) (hb : m.begins = true) : 0 < m.tok.text.size := by
  unfold M.begins at hb
  simp only [Bool.and_eq_true, Bool.or_eq_true, beq_iff_eq] at hb
  rcases hb.2 with (h1 | h1) | h1
  · exact sign_pos h (.inl h1)
  · exact sign_pos h (.inr h1)
  · exact mem_pos openers _ (by decide) h1

def Ok (s : ByteArray) (n : Nat) (nt : NT) (m : M) : Prop := (m.bad.isSome = true ∧ 1 ≤ n) ∨ 8 * (s.size - m.tok.at_) + rank nt + 1 ≤ n

theorem rank_le (nt : NT) : rank nt ≤ 7 := by cases nt <;> simp [rank]

theorem ok_later {s : ByteArray} {n a : Nat} {nt : NT} {m : M} (hi : Inv s m) (ha : 8 * (s.size - a) + 1 ≤ n + 1) (h1 : 1 ≤ n) (h : m.bad.isSome = true ∨ a < m.tok.at_) : Ok s n nt m := by
  rcases h with h | h
  · exact .inl ⟨h, h1⟩
  · right
    have := hi.at_le; have := rank_le nt; omega

theorem isSome_or (o : Option Nat) : o.isSome = true ∨ o = none := by cases o <;> simp

/-- A fault stays. -/
theorem PM_sticky (s : ByteArray) : ∀ (n : Nat) (nt : NT) (m : M) (r : T × M), PM s n nt m = some r → m.bad.isSome = true → r.2.bad.isSome = true := by
  intro n nt m r h hbs
  have hh : ∀ x, m.has x = false := fun x => by
    unfold M.has; rw [Option.isNone_eq_false_iff.2 hbs]; rfl
  have hg : m.begins = false := by
    unfold M.begins; rw [Option.isNone_eq_false_iff.2 hbs]; rfl
  cases n with
  | zero => simp [PM] at h
  | succ n =>
    cases nt with
    | sumL a => simp [PM, hh] at h; subst h; exact hbs
    | prodL a => simp [PM, hh] at h; subst h; exact hbs
    | useL a => simp [PM, hg] at h; subst h; exact hbs
    | atom => simp [PM, hg] at h; subst h; rfl
    | expr => simp [PM, hbs] at h; subst h; exact hbs
    | list => simp [PM, hbs] at h; subst h; exact hbs
    | order => simp [PM, hbs] at h; subst h; exact hbs
    | sum => simp [PM, hbs] at h; subst h; exact hbs
    | prod => simp [PM, hbs] at h; subst h; exact hbs
    | use => simp [PM, hbs] at h; subst h; exact hbs

theorem PM_fuel (s : ByteArray) : ∀ (n : Nat) (nt : NT) (m : M), Inv s m → Ok s n nt m →
    ∃ r, PM s n nt m = some r ∧ m.tok.at_ ≤ r.2.tok.at_ ∧ Inv s r.2 ∧ (isLoopN nt = false → r.2.bad = none → m.tok.at_ < r.2.tok.at_) := by
  intro n
  induction n with
  | zero => intro nt m hi hk; rcases hk with hk | hk <;> omega
  | succ n ih =>
    intro nt m hi hk
    -- a fault stands
    by_cases hbs : m.bad.isSome = true
    · have hh : ∀ x, m.has x = false := fun x => by
        unfold M.has; rw [Option.isNone_eq_false_iff.2 hbs]; rfl
      have hg : m.begins = false := by
        unfold M.begins; rw [Option.isNone_eq_false_iff.2 hbs]; rfl
      have hne : m.bad ≠ none := fun e => by rw [e] at hbs; cases hbs
      cases nt with
      | expr => exact ⟨(.junk, m), by simp [PM, hbs], Nat.le_refl _, hi, fun _ h => absurd h hne⟩
      | list => exact ⟨(.junk, m), by simp [PM, hbs], Nat.le_refl _, hi, fun _ h => absurd h hne⟩
      | order => exact ⟨(.junk, m), by simp [PM, hbs], Nat.le_refl _, hi, fun _ h => absurd h hne⟩
      | sum => exact ⟨(.junk, m), by simp [PM, hbs], Nat.le_refl _, hi, fun _ h => absurd h hne⟩
      | prod => exact ⟨(.junk, m), by simp [PM, hbs], Nat.le_refl _, hi, fun _ h => absurd h hne⟩
      | use => exact ⟨(.junk, m), by simp [PM, hbs], Nat.le_refl _, hi, fun _ h => absurd h hne⟩
      | atom => exact ⟨(.junk, m.fail), by simp [PM, hg], Nat.le_refl _, hi.fail, fun _ h => by cases h⟩
      | sumL a => exact ⟨(a, m), by simp [PM, hh], Nat.le_refl _, hi, fun h => by cases h⟩
      | prodL a => exact ⟨(a, m), by simp [PM, hh], Nat.le_refl _, hi, fun h => by cases h⟩
      | useL a => exact ⟨(a, m), by simp [PM, hg], Nat.le_refl _, hi, fun h => by cases h⟩
    · have hb : 8 * (s.size - m.tok.at_) + rank nt + 1 ≤ n + 1 := by
        rcases hk with hk | hk
        · exact absurd hk.1 hbs
        · exact hk
      cases nt with
      | expr =>
        simp only [rank] at hb
        have hl : ∀ m1 nt, Inv s m1 → (m1.bad.isSome = true ∨ m.tok.at_ < m1.tok.at_) → ∃ r, PM s n nt m1 = some r ∧ m1.tok.at_ ≤ r.2.tok.at_ ∧ Inv s r.2 ∧ (isLoopN nt = false → r.2.bad = none → m1.tok.at_ < r.2.tok.at_) := fun m1 nt h1 h2 =>
          ih nt m1 h1 (ok_later h1 (by omega) (by omega) h2)
        simp only [PM]
        rw [if_neg hbs]
        have ha := adv_b s m
        by_cases q1 : eqb m.tok.text ⟨#[108, 101, 116]⟩ = true
        · rw [if_pos q1]
          have e3 : m.tok.text.size = 3 := eqb_size q1
          have g1 := gives_b s (m.adv s)
          have g2 := want_b s ⟨#[61]⟩ ((m.adv s).gives s).2
          obtain ⟨r, h1, h2, h3, h4⟩ := hl ((((m.adv s).gives s).2.want s ⟨#[61]⟩).push ((m.adv s).gives s).1) .expr hi.adv.gives.want.push (.inr (by simp; omega))
          rw [h1]
          have g3 := want_b s ⟨#[105, 110]⟩ r.2
          simp only [push_tok] at h2
          obtain ⟨q, h5, h6, h7, h8⟩ := hl (r.2.want s ⟨#[105, 110]⟩) .expr h3.want (.inr (by omega))
          refine ⟨(.letE m.given.length r.1 q.1, q.2.pop m.given.length), by simp [h5], by simp; omega, h7.pop, fun _ _ => by simp; omega⟩
        · rw [if_neg q1]
          by_cases q2 : eqb m.tok.text ⟨#[92]⟩ = true
          · rw [if_pos q2]
            have e3 : m.tok.text.size = 1 := eqb_size q2
            have g1 := gives_b s (m.adv s)
            have g2 := want_b s ⟨#[46]⟩ ((m.adv s).gives s).2
            obtain ⟨r, h1, h2, h3, h4⟩ := hl ((((m.adv s).gives s).2.want s ⟨#[46]⟩).push ((m.adv s).gives s).1) .expr hi.adv.gives.want.push (.inr (by simp; omega))
            rw [h1]
            simp only [push_tok] at h2
            exact ⟨(.fn m.given.length r.1, r.2.pop m.given.length), by simp, by simp; omega, h3.pop, fun _ _ => by simp; omega⟩
          · rw [if_neg q2]
            by_cases q3 : eqb m.tok.text ⟨#[105, 102]⟩ = true
            · rw [if_pos q3]
              have e3 : m.tok.text.size = 2 := eqb_size q3
              obtain ⟨r, h1, h2, h3, h4⟩ := hl (m.adv s) .expr hi.adv (.inr (by omega))
              rw [h1]
              have g3 := want_b s ⟨#[116, 104, 101, 110]⟩ r.2
              obtain ⟨q, h5, h6, h7, h8⟩ := hl (r.2.want s ⟨#[116, 104, 101, 110]⟩) .expr h3.want (.inr (by omega))
              have g4 := want_b s ⟨#[101, 108, 115, 101]⟩ q.2
              obtain ⟨p, h9, h10, h11, h12⟩ := hl (q.2.want s ⟨#[101, 108, 115, 101]⟩) .expr h7.want (.inr (by omega))
              exact ⟨(.ite r.1 q.1 p.1, p.2), by simp [h5, h9], by simp; omega, h11, fun _ _ => by simp; omega⟩
            · rw [if_neg q3]
              exact ih .list m hi (.inr (by simp only [rank]; omega))
      | list =>
        simp only [rank] at hb
        simp only [PM]
        rw [if_neg hbs]
        obtain ⟨r, h1, h2, h3, h4⟩ := ih .order m hi (.inr (by simp only [rank]; omega))
        rw [h1]
        simp only [Option.bind_some]
        by_cases q : r.2.has ⟨#[58]⟩ = true
        · have ha := adv_b s r.2
          have e3 : r.2.tok.text.size = 1 := has_size q
          obtain ⟨q', h5, h6, h7, h8⟩ := ih .list (r.2.adv s) h3.adv (ok_later h3.adv (a := m.tok.at_) (by omega) (by omega) (.inr (by omega)))
          rw [if_pos q, h5]
          exact ⟨(.bin 58 r.1 q'.1, q'.2), by simp, by simp; omega, h7, fun _ _ => by simp; omega⟩
        · rw [if_neg q]
          exact ⟨r, rfl, h2, h3, h4⟩
      | order =>
        simp only [rank] at hb
        simp only [PM]
        rw [if_neg hbs]
        obtain ⟨r, h1, h2, h3, h4⟩ := ih .sum m hi (.inr (by simp only [rank]; omega))
        rw [h1]
        simp only [Option.bind_some]
        by_cases q : (r.2.has ⟨#[61]⟩ || r.2.has ⟨#[60]⟩) = true
        · have ha := adv_b s r.2
          have e3 : r.2.tok.text.size = 1 := by
            rw [Bool.or_eq_true] at q
            rcases q with q | q
            · exact has_size q
            · exact has_size q
          obtain ⟨q', h5, h6, h7, h8⟩ := ih .sum (r.2.adv s) h3.adv (ok_later h3.adv (a := m.tok.at_) (by omega) (by omega) (.inr (by omega)))
          rw [if_pos q, h5]
          exact ⟨(.bin (opOf r.2.tok.text) r.1 q'.1, q'.2), by simp, by simp; omega, h7, fun _ _ => by simp; omega⟩
        · rw [if_neg q]
          exact ⟨r, rfl, h2, h3, h4⟩
      | sum =>
        simp only [rank] at hb
        simp only [PM]
        rw [if_neg hbs]
        obtain ⟨r, h1, h2, h3, h4⟩ := ih .prod m hi (.inr (by simp only [rank]; omega))
        rw [h1]
        simp only [Option.bind_some]
        obtain ⟨q, h5, h6, h7, h8⟩ := ih (.sumL r.1) r.2 h3 (ok_later h3 (a := m.tok.at_) (by omega) (by omega) ((isSome_or _).imp id (h4 rfl)))
        refine ⟨q, h5, by omega, h7, fun _ hq => ?_⟩
        rcases isSome_or r.2.bad with e | e
        · have := (PM_sticky s n (.sumL r.1) r.2 q h5 e); rw [hq] at this; cases this
        · have := h4 rfl e; omega
      | prod =>
        simp only [rank] at hb
        simp only [PM]
        rw [if_neg hbs]
        obtain ⟨r, h1, h2, h3, h4⟩ := ih .use m hi (.inr (by simp only [rank]; omega))
        rw [h1]
        simp only [Option.bind_some]
        obtain ⟨q, h5, h6, h7, h8⟩ := ih (.prodL r.1) r.2 h3 (ok_later h3 (a := m.tok.at_) (by omega) (by omega) ((isSome_or _).imp id (h4 rfl)))
        refine ⟨q, h5, by omega, h7, fun _ hq => ?_⟩
        rcases isSome_or r.2.bad with e | e
        · have := (PM_sticky s n (.prodL r.1) r.2 q h5 e); rw [hq] at this; cases this
        · have := h4 rfl e; omega
      | use =>
        simp only [rank] at hb
        simp only [PM]
        rw [if_neg hbs]
        obtain ⟨r, h1, h2, h3, h4⟩ := ih .atom m hi (.inr (by simp only [rank]; omega))
        rw [h1]
        simp only [Option.bind_some]
        obtain ⟨q, h5, h6, h7, h8⟩ := ih (.useL r.1) r.2 h3 (ok_later h3 (a := m.tok.at_) (by omega) (by omega) ((isSome_or _).imp id (h4 rfl)))
        refine ⟨q, h5, by omega, h7, fun _ hq => ?_⟩
        rcases isSome_or r.2.bad with e | e
        · have := (PM_sticky s n (.useL r.1) r.2 q h5 e); rw [hq] at this; cases this
        · have := h4 rfl e; omega
      | sumL a =>
        simp only [rank] at hb
        simp only [PM]
        by_cases q : (m.has ⟨#[43]⟩ || m.has ⟨#[45]⟩) = true
        · have ha := adv_b s m
          have e3 : m.tok.text.size = 1 := by
            rw [Bool.or_eq_true] at q
            rcases q with q | q
            · exact has_size q
            · exact has_size q
          rw [if_pos q]
          have hle := hi.behind
          obtain ⟨r, h1, h2, h3, h4⟩ := ih .prod (m.adv s) hi.adv (ok_later hi.adv (a := m.tok.at_) (by omega) (by omega) (.inr (by omega)))
          rw [h1]
          simp only [Option.bind_some]
          obtain ⟨q', h5, h6, h7, h8⟩ := ih (.sumL (.bin (opOf m.tok.text) a r.1)) r.2 h3 (ok_later h3 (a := m.tok.at_) (by omega) (by omega) (.inr (by omega)))
          exact ⟨q', h5, by omega, h7, fun h => by cases h⟩
        · rw [if_neg q]
          exact ⟨(a, m), rfl, Nat.le_refl _, hi, fun h => by cases h⟩
      | prodL a =>
        simp only [rank] at hb
        simp only [PM]
        by_cases q : m.has ⟨#[42]⟩ = true
        · have ha := adv_b s m
          have e3 : m.tok.text.size = 1 := has_size q
          rw [if_pos q]
          have hle := hi.behind
          obtain ⟨r, h1, h2, h3, h4⟩ := ih .use (m.adv s) hi.adv (ok_later hi.adv (a := m.tok.at_) (by omega) (by omega) (.inr (by omega)))
          rw [h1]
          simp only [Option.bind_some]
          obtain ⟨q', h5, h6, h7, h8⟩ := ih (.prodL (.bin 42 a r.1)) r.2 h3 (ok_later h3 (a := m.tok.at_) (by omega) (by omega) (.inr (by omega)))
          exact ⟨q', h5, by omega, h7, fun h => by cases h⟩
        · rw [if_neg q]
          exact ⟨(a, m), rfl, Nat.le_refl _, hi, fun h => by cases h⟩
      | useL a =>
        simp only [rank] at hb
        simp only [PM]
        by_cases q : m.begins = true
        · rw [if_pos q]
          have hle := hi.behind
          have hp := begins_pos hi q
          obtain ⟨r, h1, h2, h3, h4⟩ := ih .atom m hi (.inr (by simp only [rank]; omega))
          rw [h1]
          simp only [Option.bind_some]
          obtain ⟨q', h5, h6, h7, h8⟩ := ih (.useL (.app a r.1)) r.2 h3 (ok_later h3 (a := m.tok.at_) (by omega) (by omega) ((isSome_or _).imp id (h4 rfl)))
          exact ⟨q', h5, by omega, h7, fun h => by cases h⟩
        · rw [if_neg q]
          exact ⟨(a, m), rfl, Nat.le_refl _, hi, fun h => by cases h⟩
      | atom =>
        simp only [rank] at hb
        simp only [PM]
        by_cases q : m.begins = true
        · rw [if_pos q]
          have hle := hi.behind
          have hp := begins_pos hi q
          have ha := adv_b s m
          split
          · exact ⟨_, rfl, by simp; omega, hi.adv, fun _ _ => by simp; omega⟩
          split
          · exact ⟨_, rfl, by simp; omega, hi.adv.named, fun _ _ => by simp; omega⟩
          split
          · exact ⟨_, rfl, by simp; omega, hi.adv, fun _ _ => by simp; omega⟩
          split
          · obtain ⟨r, h1, h2, h3, h4⟩ := ih .expr (m.adv s) hi.adv (ok_later hi.adv (a := m.tok.at_) (by omega) (by omega) (.inr (by omega)))
            rw [h1]
            have g := want_b s ⟨#[41]⟩ r.2
            exact ⟨(r.1, r.2.want s ⟨#[41]⟩), by simp, by simp; omega, h3.want, fun _ _ => by simp; omega⟩
          · obtain ⟨r, h1, h2, h3, h4⟩ := ih .atom (m.adv s) hi.adv (ok_later hi.adv (a := m.tok.at_) (by omega) (by omega) (.inr (by omega)))
            rw [h1]
            exact ⟨(.un (opOf m.tok.text) r.1, r.2), by simp, by simp; omega, h3, fun _ _ => by simp; omega⟩
        · rw [if_neg q]
          exact ⟨(.junk, m.fail), rfl, Nat.le_refl _, hi.fail, fun _ h => by cases h⟩

/-- Every text is read. -/
theorem PM_ends (s : ByteArray) : ∃ t m, PM s (8 * s.size + 8) .expr (start s) = some (t, m) := by
  obtain ⟨⟨t, m⟩, h, _⟩ := PM_fuel s (8 * s.size + 8) .expr (start s) (Inv.start s) (.inr (by simp only [rank]; omega))
  exact ⟨t, m, h⟩
end Skein
