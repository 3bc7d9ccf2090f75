/-
  A text that speaks of no list: its tree has none; names stand where they are given.
-/
import Derived.Test.YtdpbclnpmkhooaaGreatDoorGood
import Derived.Test.YtdpbclnpmkhooaaGreatDoorEvX
import Derived.Test.YtdpbclnpmkhooaaGreatDoorEvB
namespace Go.Proofs.YtdpbclnpmkhooaaGreatDoor
open Go Go.Proofs Go.RowKit Skein

def lw : List ByteArray := [⟨#[91]⟩, ⟨#[58]⟩, ⟨#[104, 101, 97, 100]⟩, ⟨#[116, 97, 105, 108]⟩, ⟨#[110, 117, 108, 108]⟩]
def NoSub (s : ByteArray) : Prop := ∀ (a : Nat) (x : ByteArray), x ∈ lw → a + x.size ≤ s.size → s.extract a (a + x.size) ≠ x
def NoTok (s : ByteArray) : Prop := ∀ i, i ≤ s.size → (tok s i).text ≠ ⟨#[91, 93]⟩ ∧ (tok s i).text ≠ ⟨#[58]⟩ ∧ (tok s i).text ≠ ⟨#[104, 101, 97, 100]⟩ ∧ (tok s i).text ≠ ⟨#[116, 97, 105, 108]⟩ ∧ (tok s i).text ≠ ⟨#[110, 117, 108, 108]⟩

theorem tok_cut (s : ByteArray) (i : Nat) (h : i ≤ s.size) : (tok s i).text = ⟨#[]⟩ ∨ ∃ a b, a ≤ b ∧ b ≤ s.size ∧ (tok s i).text = s.extract a b := by
  have h1 := skip_le s i h
  have r1 := runLen_le s false (skip s i) h1
  have r2 := runLen_le s true (skip s i) h1
  unfold tok tokAt
  split
  · rename_i hlt
    split
    · split
      · exact .inl rfl
      · exact .inr ⟨_, _, by omega, r1, rfl⟩
    · split
      · split
        · exact .inl rfl
        · split
          · exact .inr ⟨_, _, by omega, r2, rfl⟩
          · exact .inr ⟨_, _, by omega, r2, rfl⟩
      · split
        · split
          · split
            · exact .inr ⟨_, _, by omega, by omega, rfl⟩
            · exact .inl rfl
          · exact .inl rfl
        · split
          · exact .inr ⟨_, _, by omega, by omega, rfl⟩
          · exact .inl rfl
  · exact .inl rfl

theorem tok_not {s : ByteArray} (hN : NoSub s) {i : Nat} (hi : i ≤ s.size) (x : ByteArray) (hx : x ∈ lw) (hp : 0 < x.size) : (tok s i).text ≠ x := by
  intro e
  rcases tok_cut s i hi with h | ⟨a, b, hab, hb, h⟩
  · rw [e] at h; rw [h] at hp; exact absurd hp (by decide)
  · rw [e] at h
    have hs : x.size = b - a := by rw [h, ByteArray.size_extract]; omega
    refine hN a x hx (by omega) ?_
    rw [show a + x.size = b by omega]
    exact h.symm

theorem noTok_of {s : ByteArray} (hN : NoSub s) : NoTok s := by
  intro i hi
  refine ⟨fun e => ?_, tok_not hN hi _ (by simp [lw]) (by decide), tok_not hN hi _ (by simp [lw]) (by decide), tok_not hN hi _ (by simp [lw]) (by decide), tok_not hN hi _ (by simp [lw]) (by decide)⟩
  rcases tok_cut s i hi with h | ⟨a, b, hab, hb, h⟩
  · rw [e] at h; cases h
  · rw [e] at h
    have hs : (2 : Nat) = b - a := by
      have : (ByteArray.mk #[91, 93]).size = (s.extract a b).size := by rw [h]
      rw [ByteArray.size_extract] at this
      have e2 : (ByteArray.mk #[91, 93]).size = 2 := rfl
      omega
    refine hN a ⟨#[91]⟩ (by simp [lw]) (by show a + 1 ≤ s.size; omega) ?_
    show s.extract a (a + 1) = _
    have e3 : s.extract a (a + 1) = (s.extract a b).extract 0 1 := by
      rw [ByteArray.extract_extract]
      congr 1
      omega
    rw [e3, ← h]
    rfl

def Ok2 : Nat → T → Prop
  | d, .var i => i < d
  | d, .letE n a b => n = d ∧ Ok2 (d + 1) a ∧ Ok2 (d + 1) b
  | d, .fn n a => n = d ∧ Ok2 (d + 1) a
  | d, .ite a b c => Ok2 d a ∧ Ok2 d b ∧ Ok2 d c
  | d, .app a b => Ok2 d a ∧ Ok2 d b
  | _, .un _ _ => False
  | _, .nil => False
  | d, .bin op a b => op ≠ 58 ∧ Ok2 d a ∧ Ok2 d b
  | _, _ => True
def acc2 (d : Nat) : NT → Prop
  | .sumL a => Ok2 d a | .prodL a => Ok2 d a | .useL a => Ok2 d a | _ => True

theorem tidy_of : ∀ (t : T) (d : Nat), Clean t → Ok2 d t → Tidy d t := by
  intro t
  induction t with
  | junk => intro d h; exact h.elim
  | free => intro d h; exact h.elim
  | nil => intro d _ h; exact h.elim
  | num n => intro d _ _; trivial
  | var n => intro d _ h; exact h
  | letE n a b ia ib => rintro d ⟨_, ha, hb⟩ ⟨e, ka, kb⟩; exact ⟨e, ia _ ha ka, ib _ hb kb⟩
  | fn n a ia => rintro d ⟨_, ha⟩ ⟨e, ka⟩; exact ⟨e, ia _ ha ka⟩
  | ite a b c ia ib ic => rintro d ⟨ha, hb, hc⟩ ⟨ka, kb, kc⟩; exact ⟨ia _ ha ka, ib _ hb kb, ic _ hc kc⟩
  | app a b ia ib => rintro d ⟨ha, hb⟩ ⟨ka, kb⟩; exact ⟨ia _ ha ka, ib _ hb kb⟩
  | un op a _ => intro d _ h; exact h.elim
  | bin op a b ia ib =>
    rintro d ⟨ho, ha, hb⟩ ⟨hne, ka, kb⟩
    refine ⟨?_, ia _ ha ka, ib _ hb kb⟩
    rcases ho with rfl | rfl | rfl | rfl | rfl | rfl
    · exact absurd rfl hne
    all_goals simp
theorem small_of : ∀ (t : T), Clean t → Small t := by
  intro t
  induction t with
  | num n => exact fun h => h
  | letE n a b ia ib => rintro ⟨_, ha, hb⟩; exact ⟨ia ha, ib hb⟩
  | fn n a ia => rintro ⟨_, ha⟩; exact ia ha
  | ite a b c ia ib ic => rintro ⟨ha, hb, hc⟩; exact ⟨ia ha, ib hb, ic hc⟩
  | app a b ia ib => rintro ⟨ha, hb⟩; exact ⟨ia ha, ib hb⟩
  | un op a ia => rintro ⟨_, ha⟩; exact ia ha
  | bin op a b ia ib => rintro ⟨_, ha, hb⟩; exact ⟨ia ha, ib hb⟩
  | _ => intro _; trivial
theorem dep_le : ∀ (t : T), dep t ≤ nodes t := by
  intro t
  induction t with
  | letE n a b ia ib => simp only [dep, nodes]; omega
  | fn n a ia => simp only [dep, nodes]; omega
  | ite a b c ia ib ic => simp only [dep, nodes]; omega
  | app a b ia ib => simp only [dep, nodes]; omega
  | un op a ia => simp only [dep, nodes]; omega
  | bin op a b ia ib => simp only [dep, nodes]; omega
  | _ => simp [dep]

theorem has_text {m : M} {x : ByteArray} (h : m.has x = true) : m.tok.text = x := by
  unfold M.has at h
  simp only [Bool.and_eq_true] at h
  exact eqb_iff.1 h.2

theorem PM_ok2 (s : ByteArray) (hN : NoTok s) : ∀ (n : Nat) (nt : NT) (m : M) (r : T × M), PM s n nt m = some r → Inv s m → acc2 m.given.length nt → Ok2 m.given.length r.1 := by
  intro n
  induction n with
  | zero => intro nt m r h; simp [PM] at h
  | succ n ih =>
    intro nt m r h hi ha
    obtain ⟨i0, hi0, ht0⟩ := hi.ex
    have hno := hN i0 hi0
    rw [← ht0] at hno
    have op_ne : ∀ {m : M}, m.has ⟨#[61]⟩ = true ∨ m.has ⟨#[60]⟩ = true ∨ m.has ⟨#[43]⟩ = true ∨ m.has ⟨#[45]⟩ = true → opOf m.tok.text ≠ 58 := by
      rintro m (h | h | h | h)
      all_goals rw [opOf_has h]; decide
    cases nt with
    | expr =>
      simp only [PM] at h
      split at h
      · cases h; trivial
      split at h
      · obtain ⟨r1, h1, h⟩ := Option.bind_eq_some_iff.1 h
        obtain ⟨q, h2, h⟩ := Option.bind_eq_some_iff.1 h
        cases h
        have k1 := PM_keeps s n _ _ _ h1
        have a := ih _ _ _ h1 hi.adv.gives.want.push trivial
        have b := ih _ _ _ h2 (k1.1 hi.adv.gives.want.push).want trivial
        simp only [want_given, k1.2, push_given, gives_given, adv_given, List.length_append, List.length_singleton] at a b
        exact ⟨rfl, a, b⟩
      split at h
      · obtain ⟨r1, h1, h⟩ := Option.bind_eq_some_iff.1 h
        cases h
        have a := ih _ _ _ h1 hi.adv.gives.want.push trivial
        simp only [want_given, push_given, gives_given, adv_given, List.length_append, List.length_singleton] at a
        exact ⟨rfl, a⟩
      split at h
      · obtain ⟨r1, h1, h⟩ := Option.bind_eq_some_iff.1 h
        obtain ⟨q, h2, h⟩ := Option.bind_eq_some_iff.1 h
        obtain ⟨p, h3, h⟩ := Option.bind_eq_some_iff.1 h
        cases h
        have k1 := PM_keeps s n _ _ _ h1
        have k2 := PM_keeps s n _ _ _ h2
        have i1 := k1.1 hi.adv
        have i2 := k2.1 i1.want
        have a := ih _ _ _ h1 hi.adv trivial
        have b := ih _ _ _ h2 i1.want trivial
        have c := ih _ _ _ h3 i2.want trivial
        simp only [want_given, k1.2, k2.2, adv_given] at a b c
        exact ⟨a, b, c⟩
      · exact ih _ _ _ h hi trivial
    | list =>
      simp only [PM] at h
      split at h
      · cases h; trivial
      obtain ⟨r1, h1, h⟩ := Option.bind_eq_some_iff.1 h
      have a := ih _ _ _ h1 hi trivial
      split at h
      · rename_i hh
        obtain ⟨j, hj, e⟩ := ((PM_keeps s n _ _ _ h1).1 hi).ex
        have := (hN j hj).2.1
        rw [← e] at this
        exact absurd (has_text hh) this
      · cases h; exact a
    | order =>
      simp only [PM] at h
      split at h
      · cases h; trivial
      obtain ⟨r1, h1, h⟩ := Option.bind_eq_some_iff.1 h
      have k1 := PM_keeps s n _ _ _ h1
      have a := ih _ _ _ h1 hi trivial
      split at h
      · rename_i hh
        obtain ⟨q, h2, h⟩ := Option.bind_eq_some_iff.1 h
        cases h
        have b := ih _ _ _ h2 (k1.1 hi).adv trivial
        simp only [k1.2, adv_given] at b
        rw [Bool.or_eq_true] at hh
        exact ⟨op_ne (by rcases hh with hh | hh <;> simp [hh]), a, b⟩
      · cases h; exact a
    | sum =>
      simp only [PM] at h
      split at h
      · cases h; trivial
      obtain ⟨r1, h1, h⟩ := Option.bind_eq_some_iff.1 h
      have k1 := PM_keeps s n _ _ _ h1
      have a := ih _ _ _ h1 hi trivial
      have b := ih _ _ _ h (k1.1 hi) (by rw [k1.2]; exact a)
      rw [k1.2] at b; exact b
    | sumL x =>
      simp only [PM] at h
      split at h
      · rename_i hh
        obtain ⟨r1, h1, h⟩ := Option.bind_eq_some_iff.1 h
        have k1 := PM_keeps s n _ _ _ h1
        have a := ih _ _ _ h1 hi.adv trivial
        simp only [adv_given] at a
        rw [Bool.or_eq_true] at hh
        have b := ih _ _ _ h (k1.1 hi.adv) (by rw [k1.2]; exact ⟨op_ne (by rcases hh with hh | hh <;> simp [hh]), ha, a⟩)
        rw [k1.2] at b; exact b
      · cases h; exact ha
    | prod =>
      simp only [PM] at h
      split at h
      · cases h; trivial
      obtain ⟨r1, h1, h⟩ := Option.bind_eq_some_iff.1 h
      have k1 := PM_keeps s n _ _ _ h1
      have a := ih _ _ _ h1 hi trivial
      have b := ih _ _ _ h (k1.1 hi) (by rw [k1.2]; exact a)
      rw [k1.2] at b; exact b
    | prodL x =>
      simp only [PM] at h
      split at h
      · obtain ⟨r1, h1, h⟩ := Option.bind_eq_some_iff.1 h
        have k1 := PM_keeps s n _ _ _ h1
        have a := ih _ _ _ h1 hi.adv trivial
        simp only [adv_given] at a
        have b := ih _ _ _ h (k1.1 hi.adv) (by rw [k1.2]; exact ⟨by decide, ha, a⟩)
        rw [k1.2] at b; exact b
      · cases h; exact ha
    | use =>
      simp only [PM] at h
      split at h
      · cases h; trivial
      obtain ⟨r1, h1, h⟩ := Option.bind_eq_some_iff.1 h
      have k1 := PM_keeps s n _ _ _ h1
      have a := ih _ _ _ h1 hi trivial
      have b := ih _ _ _ h (k1.1 hi) (by rw [k1.2]; exact a)
      rw [k1.2] at b; exact b
    | useL x =>
      simp only [PM] at h
      split at h
      · obtain ⟨r1, h1, h⟩ := Option.bind_eq_some_iff.1 h
        have k1 := PM_keeps s n _ _ _ h1
        have a := ih _ _ _ h1 hi trivial
        have b := ih _ _ _ h (k1.1 hi) (by rw [k1.2]; exact ⟨ha, a⟩)
        rw [k1.2] at b; exact b
      · cases h; exact ha
    | atom =>
      simp only [PM] at h
      split at h
      · rename_i hb
        split at h
        · cases h; trivial
        rename_i hk1
        split at h
        · rename_i hk
          cases h
          unfold named
          split
          · rename_i i he
            exact lastIdx_lt _ _ _ he
          · trivial
        rename_i hk2
        split at h
        · rename_i hq; exact absurd (eqb_iff.1 hq) hno.1
        rename_i hq1
        split at h
        · obtain ⟨r1, h1, h⟩ := Option.bind_eq_some_iff.1 h
          cases h
          have a := ih _ _ _ h1 hi.adv trivial
          simp only [adv_given] at a
          exact a
        · rename_i hq2
          exfalso
          unfold M.begins at hb
          simp only [Bool.and_eq_true, Bool.or_eq_true] at hb
          rcases hb.2 with (h3 | h3) | h3
          · exact hk1 h3
          · exact hk2 h3
          · unfold mem openers at h3
            simp only [List.any_cons, List.any_nil, Bool.or_false, Bool.or_eq_true, eqb_iff] at h3
            rcases h3 with h3 | h3 | h3 | h3 | h3
            · exact hno.1 h3.symm
            · exact hq2 (eqb_iff.2 h3.symm)
            · exact hno.2.2.1 h3.symm
            · exact hno.2.2.2.1 h3.symm
            · exact hno.2.2.2.2 h3.symm
      · cases h; trivial
end Go.Proofs.YtdpbclnpmkhooaaGreatDoor
