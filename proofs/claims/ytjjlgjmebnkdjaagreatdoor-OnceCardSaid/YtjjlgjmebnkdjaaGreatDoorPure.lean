/-
  The plain model of skein's reader: signs of a text, and the grammar by descent, with a sticky fault. It imports nothing of the program.
-/
namespace Skein

def isDig (c : UInt8) : Bool := 48 ≤ c && c ≤ 57
def isLet (c : UInt8) : Bool := 97 ≤ c && c ≤ 122
def isBlank (c : UInt8) : Bool := c == 32 || c == 9 || c == 10 || c == 13

def skip (s : ByteArray) (i : Nat) : Nat :=
  if h : i < s.size then (if isBlank s[i] then skip s (i + 1) else i) else i
termination_by s.size - i

def fits (letters : Bool) (c : UInt8) : Bool := isDig c || (letters && isLet c)

def runLen (s : ByteArray) (letters : Bool) (i : Nat) : Nat :=
  if h : i < s.size then (if fits letters s[i] then 1 + runLen s letters (i + 1) else 0) else 0
termination_by s.size - i

/-- Are two texts one? -/
def eqb (x y : ByteArray) : Bool := x.data.toList == y.data.toList
theorem eqb_iff {x y : ByteArray} : eqb x y = true ↔ x = y := by
  unfold eqb
  constructor
  · intro h
    have := eq_of_beq h
    cases x; cases y; simp_all
  · rintro rfl; simp
theorem eqb_ne {x y : ByteArray} : eqb x y = false ↔ x ≠ y := by
  rw [← Bool.not_eq_true, eqb_iff]
def mem (xs : List ByteArray) (x : ByteArray) : Bool := xs.any fun y => eqb y x

def words : List ByteArray := [⟨#[108, 101, 116]⟩, ⟨#[105, 110]⟩, ⟨#[105, 102]⟩, ⟨#[116, 104, 101, 110]⟩, ⟨#[101, 108, 115, 101]⟩, ⟨#[104, 101, 97, 100]⟩, ⟨#[116, 97, 105, 108]⟩, ⟨#[110, 117, 108, 108]⟩]
def marks : List ByteArray := [⟨#[92]⟩, ⟨#[46]⟩, ⟨#[61]⟩, ⟨#[60]⟩, ⟨#[43]⟩, ⟨#[45]⟩, ⟨#[42]⟩, ⟨#[58]⟩, ⟨#[40]⟩, ⟨#[41]⟩]
def openers : List ByteArray := [⟨#[91, 93]⟩, ⟨#[40]⟩, ⟨#[104, 101, 97, 100]⟩, ⟨#[116, 97, 105, 108]⟩, ⟨#[110, 117, 108, 108]⟩]

inductive K where
  | eof | bad | num | name | sym
deriving DecidableEq

structure Tok where
  k : K
  text : ByteArray
  at_ : Nat

def tokAt (s : ByteArray) (a : Nat) : Tok :=
  if h : a < s.size then
    if isDig s[a] then
      (if 9 < runLen s false a then ⟨.bad, ⟨#[]⟩, a⟩ else ⟨.num, s.extract a (a + runLen s false a), a⟩)
    else if isLet s[a] then
      (if 6 < runLen s true a then ⟨.bad, ⟨#[]⟩, a⟩
       else if mem words (s.extract a (a + runLen s true a)) then ⟨.sym, s.extract a (a + runLen s true a), a⟩
       else ⟨.name, s.extract a (a + runLen s true a), a⟩)
    else if s[a] == 91 then
      (if h2 : a + 1 < s.size then (if s[a + 1] == 93 then ⟨.sym, s.extract a (a + 2), a⟩ else ⟨.bad, ⟨#[]⟩, a⟩) else ⟨.bad, ⟨#[]⟩, a⟩)
    else if mem marks (s.extract a (a + 1)) then ⟨.sym, s.extract a (a + 1), a⟩
    else ⟨.bad, ⟨#[]⟩, a⟩
  else ⟨.eof, ⟨#[]⟩, a⟩

def tok (s : ByteArray) (i : Nat) : Tok := tokAt s (skip s i)

inductive T where
  | junk | free | nil
  | num (n : Nat)
  | var (n : Nat)
  | letE (n : Nat) (a b : T)
  | fn (n : Nat) (a : T)
  | ite (a b c : T)
  | app (a b : T)
  | un (op : UInt8) (a : T)
  | bin (op : UInt8) (a b : T)

structure M where
  tok : Tok
  given : List ByteArray
  free : Int
  bad : Option Nat

def M.isBad (m : M) : Bool := m.bad.isSome || m.tok.k == .bad
def M.place (m : M) : Nat := m.bad.getD m.tok.at_
def M.fail (m : M) : M := { m with bad := some (m.bad.getD m.tok.at_) }
def M.adv (s : ByteArray) (m : M) : M := { m with tok := Skein.tok s (m.tok.at_ + m.tok.text.size) }
def M.has (m : M) (x : ByteArray) : Bool := m.bad.isNone && eqb m.tok.text x
def M.want (s : ByteArray) (x : ByteArray) (m : M) : M := if m.has x then m.adv s else m.fail
def M.gives (s : ByteArray) (m : M) : ByteArray × M := if m.bad.isNone && m.tok.k == .name then (m.tok.text, m.adv s) else (⟨#[]⟩, m.fail)
def M.begins (m : M) : Bool := m.bad.isNone && (m.tok.k == .num || m.tok.k == .name || mem openers m.tok.text)
def M.push (x : ByteArray) (m : M) : M := { m with given := m.given ++ [x] }
def M.pop (n : Nat) (m : M) : M := { m with given := m.given.take n }

def val (t : ByteArray) : Nat := t.data.toList.foldl (fun n c => n * 10 + (c.toNat - 48)) 0

/-- The last place of x in a list. -/
def lastIdx (x : ByteArray) : List ByteArray → Option Nat
  | [] => none
  | y :: r => match lastIdx x r with
    | some i => some (i + 1)
    | none => if eqb y x then some 0 else none

def named (t : Tok) (m : M) : T × M :=
  match lastIdx t.text m.given with
  | some i => (.var i, m)
  | none => (.free, { m with free := if m.free < 0 then (t.at_ : Int) else m.free })

inductive NT where
  | expr | list | order | sum | sumL (a : T) | prod | prodL (a : T) | use | useL (a : T) | atom

def opOf (t : ByteArray) : UInt8 := t.data.getD 0 0

def PM (s : ByteArray) : Nat → NT → M → Option (T × M)
  | 0, _, _ => none
  | n + 1, .expr, m =>
    if m.bad.isSome then some (.junk, m)
    else if eqb m.tok.text ⟨#[108, 101, 116]⟩ then
      (PM s n .expr (((((m.adv s).gives s).2.want s ⟨#[61]⟩)).push ((m.adv s).gives s).1)).bind fun r =>
        (PM s n .expr (r.2.want s ⟨#[105, 110]⟩)).bind fun q =>
          some (.letE m.given.length r.1 q.1, q.2.pop m.given.length)
    else if eqb m.tok.text ⟨#[92]⟩ then
      (PM s n .expr (((((m.adv s).gives s).2.want s ⟨#[46]⟩)).push ((m.adv s).gives s).1)).bind fun r =>
        some (.fn m.given.length r.1, r.2.pop m.given.length)
    else if eqb m.tok.text ⟨#[105, 102]⟩ then
      (PM s n .expr (m.adv s)).bind fun r =>
        (PM s n .expr (r.2.want s ⟨#[116, 104, 101, 110]⟩)).bind fun q =>
          (PM s n .expr (q.2.want s ⟨#[101, 108, 115, 101]⟩)).bind fun p =>
            some (.ite r.1 q.1 p.1, p.2)
    else PM s n .list m
  | n + 1, .list, m =>
    if m.bad.isSome then some (.junk, m)
    else (PM s n .order m).bind fun r =>
      if r.2.has ⟨#[58]⟩ then (PM s n .list (r.2.adv s)).bind fun q => some (.bin 58 r.1 q.1, q.2) else some r
  | n + 1, .order, m =>
    if m.bad.isSome then some (.junk, m)
    else (PM s n .sum m).bind fun r =>
      if r.2.has ⟨#[61]⟩ || r.2.has ⟨#[60]⟩ then (PM s n .sum (r.2.adv s)).bind fun q => some (.bin (opOf r.2.tok.text) r.1 q.1, q.2) else some r
  | n + 1, .sum, m =>
    if m.bad.isSome then some (.junk, m)
    else (PM s n .prod m).bind fun r => PM s n (.sumL r.1) r.2
  | n + 1, .sumL a, m =>
    if m.has ⟨#[43]⟩ || m.has ⟨#[45]⟩ then (PM s n .prod (m.adv s)).bind fun r => PM s n (.sumL (.bin (opOf m.tok.text) a r.1)) r.2
    else some (a, m)
  | n + 1, .prod, m =>
    if m.bad.isSome then some (.junk, m)
    else (PM s n .use m).bind fun r => PM s n (.prodL r.1) r.2
  | n + 1, .prodL a, m =>
    if m.has ⟨#[42]⟩ then (PM s n .use (m.adv s)).bind fun r => PM s n (.prodL (.bin 42 a r.1)) r.2
    else some (a, m)
  | n + 1, .use, m =>
    if m.bad.isSome then some (.junk, m)
    else (PM s n .atom m).bind fun r => PM s n (.useL r.1) r.2
  | n + 1, .useL a, m =>
    if m.begins then (PM s n .atom m).bind fun r => PM s n (.useL (.app a r.1)) r.2
    else some (a, m)
  | n + 1, .atom, m =>
    if m.begins then
      if m.tok.k == .num then some (.num (val m.tok.text), m.adv s)
      else if m.tok.k == .name then some (named m.tok (m.adv s))
      else if eqb m.tok.text ⟨#[91, 93]⟩ then some (.nil, m.adv s)
      else if eqb m.tok.text ⟨#[40]⟩ then (PM s n .expr (m.adv s)).bind fun r => some (r.1, r.2.want s ⟨#[41]⟩)
      else (PM s n .atom (m.adv s)).bind fun r => some (.un (opOf m.tok.text) r.1, r.2)
    else some (.junk, m.fail)

def start (s : ByteArray) : M := { tok := tok s 0, given := [], free := -1, bad := none }

/-- What Check says: the error (0 OK, 1 ErrLong, 2 ErrSyntax, 3 ErrName) and the place. -/
def finish (m : M) : Int × Int :=
  if m.isBad then (2, m.place) else if !(eqb m.tok.text ⟨#[]⟩) then (2, m.tok.at_) else if 0 ≤ m.free then (3, m.free) else (0, 0)

/- Signs: their places. -/
theorem skip_ge (s : ByteArray) (i : Nat) : i ≤ skip s i := by
  fun_induction skip s i <;> omega
theorem skip_le (s : ByteArray) (i : Nat) (h : i ≤ s.size) : skip s i ≤ s.size := by
  fun_induction skip s i <;> omega
theorem tokAt_at (s : ByteArray) (a : Nat) : (tokAt s a).at_ = a := by
  unfold tokAt; repeat' split
  all_goals rfl
theorem tok_at (s : ByteArray) (i : Nat) : (tok s i).at_ = skip s i := tokAt_at _ _
theorem runLen_le (s : ByteArray) (l : Bool) (i : Nat) (h : i ≤ s.size) : i + runLen s l i ≤ s.size := by
  fun_induction runLen s l i <;> omega
theorem runLen_pos (s : ByteArray) (l : Bool) (i : Nat) (h : i < s.size) (hf : fits l s[i] = true) : 0 < runLen s l i := by
  rw [runLen, dif_pos h, if_pos hf]; omega

structure Inv (s : ByteArray) (m : M) : Prop where
  ex : ∃ i, i ≤ s.size ∧ m.tok = tok s i

theorem tok_behind (s : ByteArray) (i : Nat) (h : i ≤ s.size) : (tok s i).at_ + (tok s i).text.size ≤ s.size := by
  have h1 := skip_le s i h
  unfold tok tokAt
  have r1 := runLen_le s false (skip s i) h1
  have r2 := runLen_le s true (skip s i) h1
  have e0 : (ByteArray.mk #[]).size = 0 := rfl
  repeat' split
  all_goals simp only [ByteArray.size_extract, e0]
  all_goals omega

theorem Inv.at_le {s : ByteArray} {m : M} (h : Inv s m) : m.tok.at_ ≤ s.size := by
  obtain ⟨i, hi, e⟩ := h.ex
  rw [e, tok_at]; exact skip_le s i hi
theorem Inv.behind {s : ByteArray} {m : M} (h : Inv s m) : m.tok.at_ + m.tok.text.size ≤ s.size := by
  obtain ⟨i, hi, e⟩ := h.ex
  rw [e]; exact tok_behind s i hi
theorem Inv.adv {s : ByteArray} {m : M} (h : Inv s m) : Inv s (m.adv s) := ⟨_, h.behind, rfl⟩
theorem Inv.fail {s : ByteArray} {m : M} (h : Inv s m) : Inv s m.fail := ⟨h.ex⟩
theorem Inv.want {s x : ByteArray} {m : M} (h : Inv s m) : Inv s (m.want s x) := by
  unfold M.want; split
  · exact h.adv
  · exact h.fail
theorem Inv.gives {s : ByteArray} {m : M} (h : Inv s m) : Inv s (m.gives s).2 := by
  unfold M.gives; split
  · exact h.adv
  · exact h.fail
theorem Inv.push {s x : ByteArray} {m : M} (h : Inv s m) : Inv s (m.push x) := ⟨h.ex⟩
theorem Inv.pop {s : ByteArray} {n : Nat} {m : M} (h : Inv s m) : Inv s (m.pop n) := ⟨h.ex⟩
theorem Inv.named {s : ByteArray} {t : Tok} {m : M} (h : Inv s m) : Inv s (named t m).2 := by
  unfold Skein.named; split
  · exact h
  · exact ⟨h.ex⟩
theorem Inv.start (s : ByteArray) : Inv s (start s) := ⟨0, Nat.zero_le _, rfl⟩

@[simp] theorem adv_given (s : ByteArray) (m : M) : (m.adv s).given = m.given := rfl
@[simp] theorem fail_given (m : M) : m.fail.given = m.given := rfl
@[simp] theorem want_given (s x : ByteArray) (m : M) : (m.want s x).given = m.given := by unfold M.want; split <;> rfl
@[simp] theorem gives_given (s : ByteArray) (m : M) : (m.gives s).2.given = m.given := by unfold M.gives; split <;> rfl
@[simp] theorem push_given (x : ByteArray) (m : M) : (m.push x).given = m.given ++ [x] := rfl
@[simp] theorem pop_given (n : Nat) (m : M) : (m.pop n).given = m.given.take n := rfl
@[simp] theorem named_given (t : Tok) (m : M) : (named t m).2.given = m.given := by unfold named; split <;> rfl
@[simp] theorem adv_bad (s : ByteArray) (m : M) : (m.adv s).bad = m.bad := rfl
@[simp] theorem fail_bad (m : M) : m.fail.bad = some (m.bad.getD m.tok.at_) := rfl
@[simp] theorem push_bad (x : ByteArray) (m : M) : (m.push x).bad = m.bad := rfl
@[simp] theorem pop_bad (n : Nat) (m : M) : (m.pop n).bad = m.bad := rfl
@[simp] theorem named_bad (t : Tok) (m : M) : (named t m).2.bad = m.bad := by unfold named; split <;> rfl
@[simp] theorem push_tok (x : ByteArray) (m : M) : (m.push x).tok = m.tok := rfl
@[simp] theorem pop_tok (n : Nat) (m : M) : (m.pop n).tok = m.tok := rfl
@[simp] theorem fail_tok (m : M) : m.fail.tok = m.tok := rfl
@[simp] theorem named_tok (t : Tok) (m : M) : (named t m).2.tok = m.tok := by unfold named; split <;> rfl

/-- The names that are given behind a part are those ahead of it; the signs are the text's. -/
theorem PM_keeps (s : ByteArray) : ∀ (n : Nat) (nt : NT) (m : M) (r : T × M), PM s n nt m = some r → (Inv s m → Inv s r.2) ∧ r.2.given = m.given := by
  intro n
  induction n with
  | zero => intro nt m r h; simp [PM] at h
  | succ n ih =>
    intro nt m r h
    cases nt with
    | expr =>
      simp only [PM] at h
      split at h
      · cases h; exact ⟨id, rfl⟩
      split at h
      · obtain ⟨r1, h1, h⟩ := Option.bind_eq_some_iff.1 h
        obtain ⟨q, h2, h⟩ := Option.bind_eq_some_iff.1 h
        cases h
        have a := ih _ _ _ h1
        have b := ih _ _ _ h2
        exact ⟨fun i => (b.1 (a.1 i.adv.gives.want.push).want).pop, by simp [b.2, a.2]⟩
      split at h
      · obtain ⟨r1, h1, h⟩ := Option.bind_eq_some_iff.1 h
        cases h
        have a := ih _ _ _ h1
        exact ⟨fun i => (a.1 i.adv.gives.want.push).pop, by simp [a.2]⟩
      split at h
      · obtain ⟨r1, h1, h⟩ := Option.bind_eq_some_iff.1 h
        obtain ⟨q, h2, h⟩ := Option.bind_eq_some_iff.1 h
        obtain ⟨p, h3, h⟩ := Option.bind_eq_some_iff.1 h
        cases h
        have a := ih _ _ _ h1
        have b := ih _ _ _ h2
        have c := ih _ _ _ h3
        exact ⟨fun i => c.1 (b.1 (a.1 i.adv).want).want, by simp [c.2, b.2, a.2]⟩
      · exact ih _ _ _ h
    | list =>
      simp only [PM] at h
      split at h
      · cases h; exact ⟨id, rfl⟩
      obtain ⟨r1, h1, h⟩ := Option.bind_eq_some_iff.1 h
      have a := ih _ _ _ h1
      split at h
      · obtain ⟨q, h2, h⟩ := Option.bind_eq_some_iff.1 h
        cases h
        have b := ih _ _ _ h2
        exact ⟨fun i => b.1 (a.1 i).adv, by simp [b.2, a.2]⟩
      · cases h; exact a
    | order =>
      simp only [PM] at h
      split at h
      · cases h; exact ⟨id, rfl⟩
      obtain ⟨r1, h1, h⟩ := Option.bind_eq_some_iff.1 h
      have a := ih _ _ _ h1
      split at h
      · obtain ⟨q, h2, h⟩ := Option.bind_eq_some_iff.1 h
        cases h
        have b := ih _ _ _ h2
        exact ⟨fun i => b.1 (a.1 i).adv, by simp [b.2, a.2]⟩
      · cases h; exact a
    | sum =>
      simp only [PM] at h
      split at h
      · cases h; exact ⟨id, rfl⟩
      obtain ⟨r1, h1, h⟩ := Option.bind_eq_some_iff.1 h
      have a := ih _ _ _ h1
      have b := ih _ _ _ h
      exact ⟨fun i => b.1 (a.1 i), by simp [b.2, a.2]⟩
    | prod =>
      simp only [PM] at h
      split at h
      · cases h; exact ⟨id, rfl⟩
      obtain ⟨r1, h1, h⟩ := Option.bind_eq_some_iff.1 h
      have a := ih _ _ _ h1
      have b := ih _ _ _ h
      exact ⟨fun i => b.1 (a.1 i), by simp [b.2, a.2]⟩
    | use =>
      simp only [PM] at h
      split at h
      · cases h; exact ⟨id, rfl⟩
      obtain ⟨r1, h1, h⟩ := Option.bind_eq_some_iff.1 h
      have a := ih _ _ _ h1
      have b := ih _ _ _ h
      exact ⟨fun i => b.1 (a.1 i), by simp [b.2, a.2]⟩
    | sumL t =>
      simp only [PM] at h
      split at h
      · obtain ⟨r1, h1, h⟩ := Option.bind_eq_some_iff.1 h
        have a := ih _ _ _ h1
        have b := ih _ _ _ h
        exact ⟨fun i => b.1 (a.1 i.adv), by simp [b.2, a.2]⟩
      · cases h; exact ⟨id, rfl⟩
    | prodL t =>
      simp only [PM] at h
      split at h
      · obtain ⟨r1, h1, h⟩ := Option.bind_eq_some_iff.1 h
        have a := ih _ _ _ h1
        have b := ih _ _ _ h
        exact ⟨fun i => b.1 (a.1 i.adv), by simp [b.2, a.2]⟩
      · cases h; exact ⟨id, rfl⟩
    | useL t =>
      simp only [PM] at h
      split at h
      · obtain ⟨r1, h1, h⟩ := Option.bind_eq_some_iff.1 h
        have a := ih _ _ _ h1
        have b := ih _ _ _ h
        exact ⟨fun i => b.1 (a.1 i), by simp [b.2, a.2]⟩
      · cases h; exact ⟨id, rfl⟩
    | atom =>
      simp only [PM] at h
      split at h
      · split at h
        · cases h; exact ⟨fun i => i.adv, rfl⟩
        split at h
        · cases h; exact ⟨fun i => i.adv.named, by simp⟩
        split at h
        · cases h; exact ⟨fun i => i.adv, rfl⟩
        split at h
        · obtain ⟨r1, h1, h⟩ := Option.bind_eq_some_iff.1 h
          cases h
          have a := ih _ _ _ h1
          exact ⟨fun i => (a.1 i.adv).want, by simp [a.2]⟩
        · obtain ⟨r1, h1, h⟩ := Option.bind_eq_some_iff.1 h
          cases h
          have a := ih _ _ _ h1
          exact ⟨fun i => a.1 i.adv, by simp [a.2]⟩
      · cases h; exact ⟨fun i => i.fail, rfl⟩

end Skein
