/-
  The program's parser: what it makes; number, name, empty.
-/
import Derived.Test.YtjjlgjmebnkdjaaGreatDoorPrgI
import Derived.Lib.AtoiErrMem
namespace Go.Proofs.YtjjlgjmebnkdjaaGreatDoor
open Go Go.Proofs Go.RowKit Skein

/-- An expression as the program holds it. -/
def pv : T → Value
  | .junk => .iface 170 (.agg #[])
  | .free => .iface 152 (.agg #[.int .i64 (-1)])
  | .nil => .iface 170 (.agg #[])
  | .num n => .iface 149 (.agg #[.int .i64 n])
  | .var n => .iface 152 (.agg #[.int .i64 n])
  | .letE n a b => .iface 161 (.agg #[.int .i64 n, pv a, pv b])
  | .fn n a => .iface 155 (.agg #[.int .i64 n, pv a])
  | .ite a b c => .iface 164 (.agg #[pv a, pv b, pv c])
  | .app a b => .iface 158 (.agg #[pv a, pv b])
  | .un op a => .iface 176 (.agg #[.string (if op == 104 then ⟨#[104, 101, 97, 100]⟩ else if op == 116 then ⟨#[116, 97, 105, 108]⟩ else ⟨#[110, 117, 108, 108]⟩), pv a])
  | .bin op a b => if op == 58 then .iface 173 (.agg #[pv a, pv b]) else .iface 167 (.agg #[.string ⟨#[op]⟩, pv a, pv b])

theorem pv_iface (t : T) : ∃ T x, pv t = .iface T x := by
  cases t with
  | bin op a b => unfold pv; split <;> exact ⟨_, _, rfl⟩
  | _ => exact ⟨_, _, rfl⟩

def flts (q : Nat) : List PanicEntry := [{ v := flt 2 q, recovered := false }]

/-- What a part of the grammar comes to: an expression; or the fault. -/
def Post (b : Nat) (s : ByteArray) (w : World) (t : T) (m' : M) (e : Ending) (w' : World) : Prop :=
  (m'.bad = none ∧ e = .returned (pv t) ∧ PS b s m' w' ∧ Kp b w w') ∨ (∃ q, m'.bad = some q ∧ e = .panicked (flts q) ∧ Below b w w')

def CP (f : Nat) (nt : NT) (k : Nat) : Prop := ∀ b s m w t m', PS b s m w → PM s k nt m = some (t, m') → Calls Tryz.prog f #[.pointer (some ⟨b, 0, none⟩)] w (Post b s w t m')
/-- The like at a level of nearness. -/
def CS (near : Nat) (nt : NT) (k : Nat) : Prop := ∀ b s m w t m', PS b s m w → PM s k nt m = some (t, m') → Calls Tryz.prog 87 #[.pointer (some ⟨b, 0, none⟩), .int .i64 near] w (Post b s w t m')

theorem parse_digits : ∀ (l : List UInt8) (acc : Nat), (∀ c ∈ l, isDig c = true) → (acc + 1) * 10 ^ l.length ≤ 10 ^ 9 → Lib.parseUintM (2 ^ 64 - 1) acc l = .ok (l.foldl (fun n c => n * 10 + (c.toNat - 48)) acc) := by
  intro l
  induction l with
  | nil => intro acc _ _; rfl
  | cons c r ih =>
    intro acc h hb
    have hd := h c (by simp)
    have hd1 : 48 ≤ c.toNat ∧ c.toNat ≤ 57 := by
      simp only [isDig, Bool.and_eq_true, decide_eq_true_eq, UInt8.le_iff_toNat_le] at hd
      exact hd
    rw [List.length_cons, Nat.pow_succ] at hb
    have hp : 1 ≤ 10 ^ r.length := Nat.one_le_pow _ _ (by omega)
    have hacc : (acc + 1) * 10 ≤ 10 ^ 9 := by
      have h1 : (acc + 1) * 10 * 1 ≤ (acc + 1) * 10 * 10 ^ r.length := Nat.mul_le_mul_left _ hp
      have h2 : (acc + 1) * 10 * 10 ^ r.length = (acc + 1) * (10 ^ r.length * 10) := by rw [Nat.mul_assoc, Nat.mul_comm 10]
      omega
    unfold Lib.parseUintM
    rw [if_pos hd1, if_neg (by omega), if_neg (by omega), ih _ (fun x hx => h x (by simp [hx])) ?_, List.foldl_cons]
    have h3 : (acc * 10 + (c.toNat - 48) + 1) * 10 ^ r.length ≤ ((acc + 1) * 10) * 10 ^ r.length := Nat.mul_le_mul_right _ (by omega)
    have h2 : (acc + 1) * 10 * 10 ^ r.length = (acc + 1) * (10 ^ r.length * 10) := by rw [Nat.mul_assoc, Nat.mul_comm 10]
    omega

theorem parse_num (t : ByteArray) (h : ∀ c ∈ t.data.toList, isDig c = true) (h1 : 0 < t.size) (h9 : t.size ≤ 9) : Lib.parseIntB 64 t.data.toList = .ok ((val t : Nat) : Int) := by
  cases hl : t.data.toList with
  | nil =>
    have : t.data.toList.length = t.size := Array.length_toList
    rw [hl] at this; simp at this; omega
  | cons c r =>
    have hd := h c (by rw [hl]; simp)
    have hd1 : 48 ≤ c.toNat ∧ c.toNat ≤ 57 := by
      simp only [isDig, Bool.and_eq_true, decide_eq_true_eq, UInt8.le_iff_toNat_le] at hd
      exact hd
    have hlen : (c :: r).length ≤ 9 := by rw [← hl]; show t.data.toList.length ≤ 9; rw [Array.length_toList]; exact h9
    have hp := parse_digits (c :: r) 0 (fun x hx => h x (by rw [hl]; exact hx)) (by rw [Nat.zero_add, Nat.one_mul]; exact Nat.pow_le_pow_right (by omega) hlen)
    have hv := valL_lt (c :: r) (fun x hx => h x (by rw [hl]; exact hx))
    have hv9 : 10 ^ (c :: r).length ≤ 10 ^ 9 := Nat.pow_le_pow_right (by omega) hlen
    have e : val t = valL (c :: r) := by rw [val_valL, hl]
    unfold Lib.parseIntB
    simp only
    rw [if_neg (by omega)]
    unfold Lib.parseUintB
    rw [if_neg (by simp), hp]
    simp only
    rw [if_neg (by show ¬ (¬ c.toNat = 45 ∧ 2 ^ (64 - 1) ≤ valL (c :: r)); omega), if_neg (by omega), if_neg (by omega), e]
    rfl

theorem field66 (x y z : Value) (w : World) : (Instr.field 99 (.agg #[x, y, z]) 1).run Tryz.prog w = .ok y w := by kernel_rfl

theorem grown_below {w w' : World} (h : Below w.heap.size w w') : w.grownBy w' none := ⟨h.os, h.tape, h.output, h.size, fun k hk _ => h.block k hk⟩

set_option maxRecDepth 100000 in
set_option maxHeartbeats 1000000 in
theorem pnum {b s m w} (h : PS b s m w) (hk : m.tok.k = .num) :
    Calls Tryz.prog 81 #[.pointer (some ⟨b, 0, none⟩)] w fun e w' => e = .returned (pv (.num (val m.tok.text))) ∧ PS b s (m.adv s) w' ∧ Kp b w w' := by
  obtain ⟨hn1, hn2⟩ := num_text h.inv hk
  have hp := parse_num m.tok.text hn1 (sign_pos h.inv (.inl hk)) hn2
  have HP : Hid (Lib.parseIntB 64 m.tok.text.data.toList = .ok ((val m.tok.text : Nat) : Int)) := hp
  have HT : Hid (eqb (kindOf m.tok) ⟨#[110, 117, 109, 98, 101, 114]⟩ = true) := by unfold Hid; rw [kind_num h.inv, hk]; rfl
  clear hn1 hp hk
  have hfld := field66
  go_enter Tryz.func81, Tryz.ntmps81
  go_wp2_with fail
  refine (ptake_yes _ h HT.out).mono ?_
  rintro e w1 ⟨rfl, h1, k1⟩
  unfold sgn
  go_wp2_with fail
  refine (Tryz.strconv_ParseInt_10_at64_ok _ (by omega) _ HP.out _).mono ?_
  rintro e w2 ⟨rfl, hw⟩
  have hg : w1.grownBy w2 none := by
    rcases hw with rfl | ⟨t, rfl⟩
    · exact grown_refl _ _
    · exact grown_below (Lib.bytesWorld_below _ _ _)
  clear hw
  go_wp2_with fail
  go_ret
  exact ⟨rfl, h1.grown hg, k1.trans (Kp.new h1.lt hg)⟩

set_option maxRecDepth 100000 in
set_option maxHeartbeats 1000000 in
theorem pempty {b s m w} (h : PS b s m w) (hk : eqb (kindOf m.tok) ⟨#[91, 93]⟩ = true) :
    Calls Tryz.prog 83 #[.pointer (some ⟨b, 0, none⟩)] w fun e w' => e = .returned (pv .nil) ∧ PS b s (m.adv s) w' ∧ Kp b w w' := by
  have HT : Hid (eqb (kindOf m.tok) ⟨#[91, 93]⟩ = true) := hk
  clear hk
  go_enter Tryz.func83, Tryz.ntmps83
  go_wp2_with fail
  refine (ptake_yes _ h HT.out).mono ?_
  rintro e w1 ⟨rfl, h1, k1⟩
  go_wp2_with fail
  go_ret
  exact ⟨rfl, h1, k1⟩

theorem cells3t {w : World} {k : Nat} {a b c : Value} {T : TypeId} (h : w.heap[k]? = some (.cells #[a, b, c] T (0, 0))) (w' : World) (hg : w.grownBy w' none) : w'.heap[k]? = some (.cells #[a, b, c] T (0, 0)) := by
  rw [hg.block k (Array.getElem?_eq_some_iff.1 h).1 (by simp)]; exact h

theorem PS.setFree {b s m w} (h : PS b s m w) (f : Int) (hf : -1 ≤ f) : PS b s { m with free := f } (w.setCell ⟨b, 5, none⟩ (.int .i64 f)) ∧ Kp b w (w.setCell ⟨b, 5, none⟩ (.int .i64 f)) := by
  obtain ⟨gv, iv, ev, av, hB, ho, ht⟩ := h.blk
  have hg : w.grownBy (w.setCell ⟨b, 5, none⟩ (.int .i64 f)) (some b) := grown_set (grown_refl _ _) 5 _
  have hk := Kp.grown hg h.lt
  exact ⟨⟨⟨gv, iv, ev, av, RB.set hB 5 _, ho.kept hg (own_ne ho), ht.kept hk.below⟩, ⟨h.inv.ex⟩, h.len, h.gl, h.bad, hf⟩, hk⟩

set_option maxRecDepth 100000 in
set_option maxHeartbeats 2000000 in
theorem pname {b s m w} (h : PS b s m w) (hk : m.tok.k = .name) :
    Calls Tryz.prog 82 #[.pointer (some ⟨b, 0, none⟩)] w fun e w' => e = .returned (pv (named m.tok (m.adv s)).1) ∧ PS b s (named m.tok (m.adv s)).2 w' ∧ Kp b w w' := by
  have HT : Hid (eqb (kindOf m.tok) ⟨#[110, 97, 109, 101]⟩ = true) := by unfold Hid; rw [kind_name h.inv, hk]; rfl
  clear hk
  go_enter Tryz.func82, Tryz.ntmps82
  go_wp2_with fail
  refine (ptake_yes _ h HT.out).mono ?_
  rintro e w1 ⟨rfl, h1, k1⟩
  unfold sgn
  go_wp2_with fail
  have hg0 : w1.grownBy (w1.alloc (.cells #[.string (kindOf m.tok), .string m.tok.text, .int .i64 m.tok.at_] 99 (0, 0))) none := grown_alloc (grown_refl _ _) _
  have hx0 : (w1.alloc (.cells #[.string (kindOf m.tok), .string m.tok.text, .int .i64 m.tok.at_] 99 (0, 0))).heap[w1.heap.size]? = some (.cells #[.string (kindOf m.tok), .string m.tok.text, .int .i64 m.tok.at_] 99 (0, 0)) := alloc_at _ _ _ rfl
  generalize w1.alloc (.cells #[.string (kindOf m.tok), .string m.tok.text, .int .i64 m.tok.at_] 99 (0, 0)) = W at hg0 hx0 ⊢
  have h2 := h1.grown hg0
  have k2 := k1.trans (Kp.new h1.lt hg0)
  refine (plevel m.tok.text h2).mono ?_
  rintro e w3 ⟨rfl, hg3⟩
  have h3 := h2.grown hg3
  have k3 := k2.trans (Kp.new h2.lt hg3)
  have hx3 := cells3t hx0 w3 hg3
  obtain ⟨y0, y1, y2⟩ := cells3 hx3
  obtain ⟨gv, iv, ev, av, hB, ho, ht⟩ := h3.blk
  obtain ⟨c0, c1, c2, c3, c4, c5, c6, c7, c8, hf, hlt0⟩ := hB.cells
  have hfr := h3.fr
  clear hg0 hx0 hg3 hx3 k1 k2 h1 h2 hB ho ht
  have hgv : (m.adv s).given = m.given := rfl
  cases hli : lastIdx m.tok.text (m.adv s).given with
  | some i =>
    have hlv : lv m.tok.text (m.adv s).given = (i : Int) := by unfold lv; rw [hli]
    have hnm : Hid (named m.tok (m.adv s) = (.var i, m.adv s)) := by unfold Hid named; rw [hli]
    rw [hlv]
    have hne : ((i : Int) == -1) = false := by rw [beq_eq_false_iff_ne]; omega
    clear hlv hli hgv
    go_wp2_with fail
    go_ret
    rw [hnm.out]
    exact ⟨rfl, h3, k3⟩
  | none =>
    have hlv : lv m.tok.text (m.adv s).given = -1 := by unfold lv; rw [hli]
    rw [hlv]
    by_cases hfree : (m.adv s).free < 0
    · have hfe : (m.adv s).free = -1 := by omega
      have hnm : Hid (named m.tok (m.adv s) = (.free, { m.adv s with free := (m.tok.at_ : Int) })) := by unfold Hid named; rw [hli]; simp only [if_pos hfree]
      have hq : ((m.adv s).free == -1) = true := by rw [hfe]; rfl
      obtain ⟨h4, k4⟩ := h3.setFree m.tok.at_ (by omega)
      have H4 : Hid (PS b s { m.adv s with free := (m.tok.at_ : Int) } (w3.setCell ⟨b, 5, none⟩ (.int .i64 m.tok.at_))) := h4
      rw [hfe] at c5
      clear hlv hli hgv hfe hq h4 hfr hfree
      go_wp2_with fail
      go_ret
      rw [hnm.out]
      exact ⟨rfl, H4.out, k3.trans k4⟩
    · have hnm : Hid (named m.tok (m.adv s) = (.free, m.adv s)) := by unfold Hid named; rw [hli]; simp only [if_neg hfree]
      have hq : ((m.adv s).free == -1) = false := by rw [beq_eq_false_iff_ne]; omega
      clear hlv hli hgv
      go_wp2_with fail
      go_ret
      rw [hnm.out]
      exact ⟨rfl, h3, k3⟩
end Go.Proofs.YtjjlgjmebnkdjaaGreatDoor
