/-
  The document's reader: nodes, faults that stand, named.
-/
import Derived.Test.YtjjlgjmebnkdjaaGreatDoorRefC
import Derived.Deep.LoopGhost
namespace Go.Proofs.YtjjlgjmebnkdjaaGreatDoor
open Go Go.Proofs Go.RowKit Skein

/- The plain model where a fault stands. -/
theorem fail_of_bad {m : M} (h : m.bad.isSome = true) : m.fail = m := by
  unfold M.fail
  obtain ⟨q, hq⟩ := Option.isSome_iff_exists.1 h
  cases m; simp_all

def isLoop : NT → Bool
  | .sumL _ => true | .prodL _ => true | .useL _ => true | _ => false

theorem inv_bad_text {s m} (h : Inv s m) (hk : m.tok.k = .bad) : m.tok.text = ⟨#[]⟩ := by
  obtain ⟨i, _, e⟩ := h.ex
  rw [e] at hk ⊢; exact tokAt_bad_text s _ hk

theorem PM_bad (s : ByteArray) : ∀ (n : Nat) (nt : NT) (m : M) (r : T × M), Inv s m → m.isBad = true → PM s n nt m = some r →
    (isLoop nt = false → r = (.junk, m.fail)) ∧ (m.bad.isSome = true → ∀ a, (nt = .sumL a ∨ nt = .prodL a ∨ nt = .useL a) → r = (a, m)) := by
  intro n
  induction n with
  | zero => intro nt m r _ _ h; simp [PM] at h
  | succ n ih =>
    intro nt m r hi hb h
    have hbb : m.bad = none → m.tok.k = .bad ∧ m.tok.text = ⟨#[]⟩ := fun e => by
      have hk : m.tok.k = .bad := by unfold M.isBad at hb; simp [e] at hb; exact hb
      exact ⟨hk, inv_bad_text hi hk⟩
    have hf1 : m.fail.bad.isSome = true := rfl
    have hfb : m.fail.isBad = true := by simp [M.isBad, M.fail]
    have hff : m.fail.fail = m.fail := fail_of_bad hf1
    have hhas : ∀ x, m.fail.has x = false := fun x => by simp [M.has, M.fail]
    have hbg : m.begins = false := by
      unfold M.begins
      cases hm : m.bad
      · obtain ⟨h1, h2⟩ := hbb hm; rw [h1, h2, openers_bad]; rfl
      · rfl
    cases nt with
    | expr =>
      refine ⟨fun _ => ?_, fun _ a h => by simp at h⟩
      simp only [PM] at h
      split at h
      · cases h; rw [fail_of_bad (by assumption)]
      · rename_i hn
        obtain ⟨h1, h2⟩ := hbb (by simpa using hn)
        rw [h2] at h
        rw [if_neg (by decide), if_neg (by decide), if_neg (by decide)] at h
        exact (ih _ _ _ hi hb h).1 rfl
    | list =>
      refine ⟨fun _ => ?_, fun _ a h => by simp at h⟩
      simp only [PM] at h
      split at h
      · cases h; rw [fail_of_bad (by assumption)]
      · obtain ⟨r1, h1, h⟩ := Option.bind_eq_some_iff.1 h
        have e := (ih _ _ _ hi hb h1).1 rfl
        subst e
        rw [if_neg (by simp [hhas])] at h
        cases h; rfl
    | order =>
      refine ⟨fun _ => ?_, fun _ a h => by simp at h⟩
      simp only [PM] at h
      split at h
      · cases h; rw [fail_of_bad (by assumption)]
      · obtain ⟨r1, h1, h⟩ := Option.bind_eq_some_iff.1 h
        have e := (ih _ _ _ hi hb h1).1 rfl
        subst e
        rw [if_neg (by simp [hhas])] at h
        cases h; rfl
    | sum =>
      refine ⟨fun _ => ?_, fun _ a h => by simp at h⟩
      simp only [PM] at h
      split at h
      · cases h; rw [fail_of_bad (by assumption)]
      · obtain ⟨r1, h1, h⟩ := Option.bind_eq_some_iff.1 h
        have e := (ih _ _ _ hi hb h1).1 rfl
        subst e
        exact (ih _ _ _ hi.fail hfb h).2 hf1 _ (.inl rfl)
    | prod =>
      refine ⟨fun _ => ?_, fun _ a h => by simp at h⟩
      simp only [PM] at h
      split at h
      · cases h; rw [fail_of_bad (by assumption)]
      · obtain ⟨r1, h1, h⟩ := Option.bind_eq_some_iff.1 h
        have e := (ih _ _ _ hi hb h1).1 rfl
        subst e
        exact (ih _ _ _ hi.fail hfb h).2 hf1 _ (.inr (.inl rfl))
    | use =>
      refine ⟨fun _ => ?_, fun _ a h => by simp at h⟩
      simp only [PM] at h
      split at h
      · cases h; rw [fail_of_bad (by assumption)]
      · obtain ⟨r1, h1, h⟩ := Option.bind_eq_some_iff.1 h
        have e := (ih _ _ _ hi hb h1).1 rfl
        subst e
        exact (ih _ _ _ hi.fail hfb h).2 hf1 _ (.inr (.inr rfl))
    | sumL t =>
      refine ⟨fun h => (by cases h), fun hx a h' => ?_⟩
      have hz : ∀ x, m.has x = false := fun x => by simp only [M.has]; rw [Option.isNone_eq_false_iff.2 hx]; rfl
      simp only [PM] at h
      rw [if_neg (by simp [hz])] at h
      cases h
      simp at h'; subst h'; rfl
    | prodL t =>
      refine ⟨fun h => (by cases h), fun hx a h' => ?_⟩
      have hz : ∀ x, m.has x = false := fun x => by simp only [M.has]; rw [Option.isNone_eq_false_iff.2 hx]; rfl
      simp only [PM] at h
      rw [if_neg (by simp [hz])] at h
      cases h
      simp at h'; subst h'; rfl
    | useL t =>
      refine ⟨fun h => (by cases h), fun hx a h' => ?_⟩
      simp only [PM] at h
      rw [if_neg (by simp [hbg])] at h
      cases h
      simp at h'; subst h'; rfl
    | atom =>
      refine ⟨fun _ => ?_, fun _ a h => by simp at h⟩
      simp only [PM] at h
      rw [if_neg (by simp [hbg])] at h
      cases h; rfl

theorem Kp.drewN {b : Nat} {w w' : World} (h : Kp b w w') (n : Nat) : Kp b w (w'.drewN n) := ⟨⟨h.below.os, h.below.tape, h.below.output, h.below.size, h.below.block⟩, h.nodes⟩

/- Nodes. -/
def cellsN (op : Int) (n : Int) (a b c : Value) : Array Value := #[.int .u8 op, .int .i64 n, a, b, c]

def IsN (b : Nat) (w : World) (v : Value) (op n : Int) (x y z : Value) : Prop :=
  ∃ k, v = .pointer (some ⟨k, 0, none⟩) ∧ b < k ∧ w.heap[k]? = some (.cells (cellsN op n x y z) 86 (0, 0))

def unDo (op : UInt8) : Int := if op == 110 then 117 else op.toNat

def NodeAt (b : Nat) (w : World) : T → Value → Prop
  | .junk, v => ∃ a, v = .pointer (some a)
  | .free, v => ∃ a, v = .pointer (some a)
  | .nil, v => IsN b w v 101 0 (.pointer none) (.pointer none) (.pointer none)
  | .num n, v => IsN b w v 110 n (.pointer none) (.pointer none) (.pointer none)
  | .var n, v => IsN b w v 118 n (.pointer none) (.pointer none) (.pointer none)
  | .letE n p q, v => ∃ x y, IsN b w v 108 n x y (.pointer none) ∧ NodeAt b w p x ∧ NodeAt b w q y
  | .fn n p, v => ∃ x, IsN b w v 102 n x (.pointer none) (.pointer none) ∧ NodeAt b w p x
  | .ite p q r, v => ∃ x y z, IsN b w v 105 0 x y z ∧ NodeAt b w p x ∧ NodeAt b w q y ∧ NodeAt b w r z
  | .app p q, v => ∃ x y, IsN b w v 97 0 x y (.pointer none) ∧ NodeAt b w p x ∧ NodeAt b w q y
  | .un op p, v => ∃ x, IsN b w v (unDo op) 0 x (.pointer none) (.pointer none) ∧ NodeAt b w p x
  | .bin op p q, v => ∃ x y, IsN b w v op.toNat 0 x y (.pointer none) ∧ NodeAt b w p x ∧ NodeAt b w q y

theorem IsN.kept {b w w' v op n x y z} (h : IsN b w v op n x y z) (hk : Kp b w w') : IsN b w' v op n x y z := by
  obtain ⟨k, e, hb, hh⟩ := h
  exact ⟨k, e, hb, hk.nodes k _ 86 hb (by decide) hh⟩

theorem NodeAt.kept {b w w'} (hk : Kp b w w') : ∀ (t : T) (v : Value), NodeAt b w t v → NodeAt b w' t v := by
  intro t
  induction t with
  | junk => exact fun v h => h
  | free => exact fun v h => h
  | nil => exact fun v h => IsN.kept h hk
  | num n => exact fun v h => IsN.kept h hk
  | var n => exact fun v h => IsN.kept h hk
  | letE n p q ip iq => rintro v ⟨x, y, h, hp, hq⟩; exact ⟨x, y, h.kept hk, ip _ hp, iq _ hq⟩
  | fn n p ip => rintro v ⟨x, h, hp⟩; exact ⟨x, h.kept hk, ip _ hp⟩
  | ite p q r ip iq ir => rintro v ⟨x, y, z, h, hp, hq, hr⟩; exact ⟨x, y, z, h.kept hk, ip _ hp, iq _ hq, ir _ hr⟩
  | app p q ip iq => rintro v ⟨x, y, h, hp, hq⟩; exact ⟨x, y, h.kept hk, ip _ hp, iq _ hq⟩
  | un op p ip => rintro v ⟨x, h, hp⟩; exact ⟨x, h.kept hk, ip _ hp⟩
  | bin op p q ip iq => rintro v ⟨x, y, h, hp, hq⟩; exact ⟨x, y, h.kept hk, ip _ hp, iq _ hq⟩

theorem NodeAt.ptr {b w} : ∀ (t : T) (v : Value), NodeAt b w t v → ∃ a, v = .pointer (some a) := by
  intro t v h
  cases t with
  | junk => exact h
  | free => exact h
  | nil => obtain ⟨k, e, _⟩ := h; exact ⟨_, e⟩
  | num n => obtain ⟨k, e, _⟩ := h; exact ⟨_, e⟩
  | var n => obtain ⟨k, e, _⟩ := h; exact ⟨_, e⟩
  | letE n p q => obtain ⟨x, y, ⟨k, e, _⟩, _⟩ := h; exact ⟨_, e⟩
  | fn n p => obtain ⟨x, ⟨k, e, _⟩, _⟩ := h; exact ⟨_, e⟩
  | ite p q r => obtain ⟨x, y, z, ⟨k, e, _⟩, _⟩ := h; exact ⟨_, e⟩
  | app p q => obtain ⟨x, y, ⟨k, e, _⟩, _⟩ := h; exact ⟨_, e⟩
  | un op p => obtain ⟨x, ⟨k, e, _⟩, _⟩ := h; exact ⟨_, e⟩
  | bin op p q => obtain ⟨x, y, ⟨k, e, _⟩, _⟩ := h; exact ⟨_, e⟩

/-- A new node. -/
theorem IsN.made {b : Nat} {w : World} (op n : Int) (x y z : Value) (h : b < w.heap.size) : IsN b (w.alloc (.cells #[.int .u8 op, .int .i64 n, x, y, z] 86 (0, 0))) (.pointer (some ⟨w.heap.size, 0, none⟩)) op n x y z :=
  ⟨w.heap.size, rfl, h, alloc_at _ _ _ rfl⟩

/-- The contract of a part of the grammar. -/
def CX (f : Nat) (nt : NT) (k : Nat) : Prop := ∀ b s m w t m', RS b s m w → PM s k nt m = some (t, m') →
  Calls Tryz.prog f #[.pointer (some ⟨b, 0, none⟩)] w fun e w' => ∃ v, e = .returned v ∧ NodeAt b w' t v ∧ RS b s m' w' ∧ Kp b w w'

/-- The contract where a fault stands. -/
def CB (f : Nat) : Prop := ∀ b s m w, RS b s m w → m.isBad = true →
  Calls Tryz.prog f #[.pointer (some ⟨b, 0, none⟩)] w fun e w' => ∃ v, e = .returned v ∧ (∃ a, v = .pointer (some a)) ∧ RS b s m.fail w' ∧ Kp b w w'

theorem CB.cx {f : Nat} (h : CB f) {nt : NT} (hn : isLoop nt = false) {k : Nat} {b s m w t m'} (hr : RS b s m w) (hb : m.isBad = true) (hp : PM s k nt m = some (t, m')) :
    Calls Tryz.prog f #[.pointer (some ⟨b, 0, none⟩)] w fun e w' => ∃ v, e = .returned v ∧ NodeAt b w' t v ∧ RS b s m' w' ∧ Kp b w w' := by
  have e := (PM_bad s k nt m _ hr.inv hb hp).1 hn
  cases e
  refine (h b s m w hr hb).mono ?_
  rintro e w' ⟨v, rfl, hv, h1, hk⟩
  exact ⟨v, rfl, hv, h1, hk⟩

theorem cells4 {w : World} {k : Nat} {a b c d : Value} {T : TypeId} (h : w.heap[k]? = some (.cells #[a, b, c, d] T (0, 0))) :
    w.cell? ⟨k, 0, none⟩ = some a ∧ w.cell? ⟨k, 1, none⟩ = some b ∧ w.cell? ⟨k, 2, none⟩ = some c ∧ w.cell? ⟨k, 3, none⟩ = some d := by
  refine ⟨?_, ?_, ?_, ?_⟩
  all_goals simp [World.cell?, h]

set_option maxRecDepth 100000 in
set_option maxHeartbeats 1000000 in
theorem atom_bad : CB 167 := by
  intro b s m w h hb
  obtain ⟨gv, pl, hB, ho, hp⟩ := h.blk
  obtain ⟨c0, c1, c2, c3, c4, c5, c6, c7, c8, c9, hf, hlt0⟩ := hB.cells
  have hbg : Hid (m.begins = false) := h.begins_bad hb
  have HB : Hid (m.isBad = true) := hb
  clear hb
  go_enter Tryz.func167, Tryz.ntmps167
  go_wp2_with fail
  refine (begins_rs (h.alloc _)).mono ?_
  rw [hbg.out]
  rintro e w1 ⟨rfl, h1, k1⟩
  have hx := k1.nodes w.heap.size _ 60 hlt0 (by decide) (alloc_at _ _ _ rfl)
  obtain ⟨x0, x1, x2, x3⟩ := cells4 hx
  have k1' : Kp b w w1 := ((Kp.refl b w).alloc (Nat.le_of_lt hlt0) _).trans k1
  clear c0 c1 c2 c3 c4 c5 c6 c7 c8 c9 hf ho hp hB k1 hx
  go_wp2_with fail
  refine (fails_rs h1).mono ?_
  rintro e w2 ⟨rfl, h2, k2⟩
  go_wp2_with fail
  go_ret
  exact ⟨_, rfl, ⟨_, rfl⟩, h2.alloc _, (k1'.trans k2).alloc (Nat.le_of_lt h2.lt) _⟩

theorem fail_isBad (m : M) : m.fail.isBad = true := by simp [M.isBad, M.fail]
theorem fail_fail (m : M) : m.fail.fail = m.fail := fail_of_bad rfl
theorem fail_begins (m : M) : m.fail.begins = false := by simp [M.begins, M.fail]

set_option maxRecDepth 100000 in
set_option maxHeartbeats 1000000 in
theorem use_bad : CB 159 := by
  intro b s m w h hb
  have HB : Hid (m.isBad = true) := hb
  clear hb
  go_enter Tryz.func159, Tryz.ntmps159
  go_wp2_with fail
  refine (atom_bad b s m w h HB.out).mono ?_
  rintro e w1 ⟨v, rfl, ⟨a, rfl⟩, h1, k1⟩
  go_wp2_with fail
  refine wp_loop_rounds 1 ?_
  rw [rounds_succ]
  go_wp2_with fail
  refine (begins_rs h1).mono ?_
  rw [fail_begins]
  rintro e w2 ⟨rfl, h2, k2⟩
  go_wp2_with fail
  go_ret
  exact ⟨_, rfl, ⟨_, rfl⟩, h2, k1.trans k2⟩

set_option maxRecDepth 100000 in
set_option maxHeartbeats 1000000 in
theorem prod_bad : CB 146 := by
  intro b s m w h hb
  have HB : Hid (m.isBad = true) := hb
  clear hb
  go_enter Tryz.func146, Tryz.ntmps146
  go_wp2_with fail
  refine (use_bad b s m w h HB.out).mono ?_
  rintro e w1 ⟨v, rfl, ⟨a, rfl⟩, h1, k1⟩
  obtain ⟨gv, pl, hB, ho, hp⟩ := h1.blk
  obtain ⟨c0, c1, c2, c3, c4, c5, c6, c7, c8, c9, hf, hlt0⟩ := hB.cells
  rw [fail_isBad] at c7
  go_wp2_with fail
  refine wp_loop_rounds 1 ?_
  rw [rounds_succ]
  go_wp2_with fail
  go_ret
  exact ⟨_, rfl, ⟨_, rfl⟩, h1, k1⟩

set_option maxRecDepth 100000 in
set_option maxHeartbeats 1000000 in
theorem sum_bad : CB 112 := by
  intro b s m w h hb
  have HB : Hid (m.isBad = true) := hb
  clear hb
  go_enter Tryz.func112, Tryz.ntmps112
  go_wp2_with fail
  refine (prod_bad b s m w h HB.out).mono ?_
  rintro e w1 ⟨v, rfl, ⟨a, rfl⟩, h1, k1⟩
  obtain ⟨gv, pl, hB, ho, hp⟩ := h1.blk
  obtain ⟨c0, c1, c2, c3, c4, c5, c6, c7, c8, c9, hf, hlt0⟩ := hB.cells
  rw [fail_isBad] at c7
  go_wp2_with fail
  refine wp_loop_rounds 1 ?_
  rw [rounds_succ]
  go_wp2_with fail
  go_ret
  exact ⟨_, rfl, ⟨_, rfl⟩, h1, k1⟩

set_option maxRecDepth 100000 in
set_option maxHeartbeats 1000000 in
theorem order_bad : CB 68 := by
  intro b s m w h hb
  have HB : Hid (m.isBad = true) := hb
  clear hb
  go_enter Tryz.func68, Tryz.ntmps68
  go_wp2_with fail
  refine (sum_bad b s m w h HB.out).mono ?_
  rintro e w1 ⟨v, rfl, ⟨a, rfl⟩, h1, k1⟩
  obtain ⟨gv, pl, hB, ho, hp⟩ := h1.blk
  obtain ⟨c0, c1, c2, c3, c4, c5, c6, c7, c8, c9, hf, hlt0⟩ := hB.cells
  rw [fail_isBad] at c7
  go_wp2_with fail
  go_ret
  exact ⟨_, rfl, ⟨_, rfl⟩, h1, k1⟩

set_option maxRecDepth 100000 in
set_option maxHeartbeats 1000000 in
theorem list_bad : CB 51 := by
  intro b s m w h hb
  have HB : Hid (m.isBad = true) := hb
  clear hb
  go_enter Tryz.func51, Tryz.ntmps51
  go_wp2_with fail
  refine (order_bad b s m w h HB.out).mono ?_
  rintro e w1 ⟨v, rfl, ⟨a, rfl⟩, h1, k1⟩
  go_wp2_with fail
  refine (takes_no _ (h1.has_bad (fail_isBad m) _ (by simp)) h1).mono ?_
  rintro e w2 ⟨rfl, rfl⟩
  go_wp2_with fail
  go_ret
  exact ⟨_, rfl, ⟨_, rfl⟩, h1, k1⟩

set_option maxRecDepth 100000 in
set_option maxHeartbeats 1000000 in
theorem expr_bad : CB 34 := by
  intro b s m w h hb
  have HB : Hid (m.isBad = true) := hb
  clear hb
  go_enter Tryz.func34, Tryz.ntmps34
  go_wp2_with fail
  refine (takes_no _ (h.has_bad HB.out _ (by simp)) h).mono ?_
  rintro e w2 ⟨rfl, rfl⟩
  go_wp2_with fail
  refine (takes_no _ (h.has_bad HB.out _ (by simp)) h).mono ?_
  rintro e w2 ⟨rfl, rfl⟩
  go_wp2_with fail
  refine (takes_no _ (h.has_bad HB.out _ (by simp)) h).mono ?_
  rintro e w2 ⟨rfl, rfl⟩
  go_wp2_with fail
  refine (list_bad b s m _ h HB.out).mono ?_
  rintro e w1 ⟨v, rfl, ⟨a, rfl⟩, h1, k1⟩
  go_wp2_with fail
  go_ret
  exact ⟨_, rfl, ⟨_, rfl⟩, h1, k1⟩
end Go.Proofs.YtjjlgjmebnkdjaaGreatDoor
