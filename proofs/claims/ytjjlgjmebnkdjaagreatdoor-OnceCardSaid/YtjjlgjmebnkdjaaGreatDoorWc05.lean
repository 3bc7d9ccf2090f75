/-
  The program makes closures of a tree: which kind of node it is; number, name, function.
  The program's reckoning: what a value must be; a step.
  The program's reckoning: a scope with one name more.
  The program's reckoning: what is held is needed.
  The program's reckoning: the closures.
  The program's reckoning: the use of a function.
  The program's reckoning: a use, let, if, a sign.
  The program's reckoning: let, if, a sign; all closures.
-/
import Derived.Test.YtjjlgjmebnkdjaaGreatDoorWc04
import Derived.Test.YtjjlgjmebnkdjaaGreatDoorWc01
import Derived.Test.YtjjlgjmebnkdjaaGreatDoorWc02
import Derived.Deep.RegionHeld
import Derived.ArgAppend
import Derived.Deep.RegionHeld3
import Derived.Shelf.Abstract
import Derived.Laws.EntriesVeiled
import Derived.Test.YtjjlgjmebnkdjaaGreatDoorWc03
namespace Go.Proofs.YtjjlgjmebnkdjaaGreatDoor
open Go Go.Proofs Go.RowKit Skein

/-- A node becomes a closure. -/
def Made (st : Nat) (x : T) (w : World) (e : Ending) (w' : World) : Prop := ∃ f c, e = .returned (fnv f c) ∧ World.grownBy w w' none ∧ CodeAt st w' x f c
def CM (x : T) : Prop := ∀ (st A A2 : Nat) (w : World), TB w A A2 → Calls Tryz.prog 67 #[mk st A A2, pv x] w (Made st x w)

theorem ta_no (T U : TypeId) (y z : Value) (w : World) (h : ∀ w, (Instr.typeAssert (.iface T y) 51 U true).run Tryz.prog w = .ok (.tuple #[z, .bool false]) w) : (Instr.typeAssert (.iface T y) 51 U true).run Tryz.prog w = .ok (.tuple #[z, .bool false]) w := h w
theorem mf_ok (fn : Fn) (first cap : Array Value) (w : World) : (Instr.makeFunc fn first cap).run Tryz.prog w = .ok (.func fn first cap) w := rfl

set_option maxRecDepth 100000 in
set_option maxHeartbeats 2000000 in
theorem mnum (n : Nat) (st A A2 : Nat) (w : World) : Calls Tryz.prog 102 #[mk st A A2, .agg #[.int .i64 n]] w (Made st (.num n) w) := by
  have hmf := mf_ok
  have hg := grown_alloc (grown_alloc (grown_alloc (grown_refl w none) (.cells #[ptr st, .slice (some ⟨A, 0, none⟩) 5 5, .slice (some ⟨A2, 0, none⟩) 3 3] 114 (0, 0))) (.cells #[.int .i64 n] 149 (0, 0))) (.cells #[.int .i64 n] 134 (0, 0))
  have hx := alloc_at ((w.alloc (.cells #[ptr st, .slice (some ⟨A, 0, none⟩) 5 5, .slice (some ⟨A2, 0, none⟩) 3 3] 114 (0, 0))).alloc (.cells #[.int .i64 n] 149 (0, 0))) (.cells #[.int .i64 n] 134 (0, 0)) (w.heap.size + 1 + 1) (by rw [alloc_size, alloc_size])
  go_enter Tryz.func102, Tryz.ntmps102
  go_wp2_with fail
  go_ret
  exact ⟨128, #[ptr (w.heap.size + 1 + 1)], rfl, hg, rfl, _, rfl, hx⟩

set_option maxRecDepth 100000 in
set_option maxHeartbeats 2000000 in
theorem mvar (n : Nat) (st A A2 : Nat) (w : World) : Calls Tryz.prog 103 #[mk st A A2, .agg #[.int .i64 n]] w (Made st (.var n) w) := by
  have hmf := mf_ok
  have hg := grown_alloc (grown_alloc (grown_refl w none) (.cells #[ptr st, .slice (some ⟨A, 0, none⟩) 5 5, .slice (some ⟨A2, 0, none⟩) 3 3] 114 (0, 0))) (.cells #[.int .i64 n] 152 (0, 0))
  have hx := alloc_at (w.alloc (.cells #[ptr st, .slice (some ⟨A, 0, none⟩) 5 5, .slice (some ⟨A2, 0, none⟩) 3 3] 114 (0, 0))) (.cells #[.int .i64 n] 152 (0, 0)) (w.heap.size + 1) (by rw [alloc_size])
  go_enter Tryz.func103, Tryz.ntmps103
  go_wp2_with fail
  go_ret
  exact ⟨129, #[ptr (w.heap.size + 1)], rfl, hg, rfl, _, rfl, hx⟩

theorem CodeAt.grown {st w w' x f c} (h : CodeAt st w x f c) (hg : World.grownBy w w' none) : CodeAt st w' x f c := h.fr (b := 0) (Fr.grown (Nat.zero_le _) hg)

set_option maxRecDepth 100000 in
set_option maxHeartbeats 2000000 in
theorem mfn (m : Nat) (x : T) (ix : CM x) (st A A2 : Nat) (w : World) (hA : TB w A A2) : Calls Tryz.prog 104 #[mk st A A2, .agg #[.int .i64 m, pv x]] w (Made st (.fn m x) w) := by
  have hmf := mf_ok
  obtain ⟨T1, x1, e1⟩ := pv_iface x
  have hg := grown_alloc (grown_alloc (grown_refl w none) (.cells #[ptr st, .slice (some ⟨A, 0, none⟩) 5 5, .slice (some ⟨A2, 0, none⟩) 3 3] 114 (0, 0))) (.cells #[.int .i64 m, .iface T1 x1] 155 (0, 0))
  have HC : Hid (Calls Tryz.prog 67 #[mk st A A2, .iface T1 x1] _ _) := e1 ▸ ix st A A2 _ (TB.keep hA hg)
  rw [e1]
  clear e1
  go_enter Tryz.func104, Tryz.ntmps104
  go_wp2_with fail
  refine HC.out.mono ?_
  rintro e w1 ⟨f, c, rfl, hg1, hc1⟩
  have hg2 := grown_alloc (grown_refl w1 none) (.cells #[fnv f c] 118 (0, 0))
  have hx := alloc_at w1 (.cells #[fnv f c] 118 (0, 0)) _ rfl
  go_wp2_with fail
  go_ret
  exact ⟨130, #[ptr w1.heap.size], rfl, grown_trans (grown_trans hg hg1) hg2, rfl, _, f, c, rfl, hx, hc1.grown hg2⟩

set_option maxRecDepth 100000 in
set_option maxHeartbeats 2000000 in
theorem cm_num (n : Nat) : CM (.num n) := by
  intro st A A2 w hA
  have hta : ∀ (w : World), (Instr.typeAssert (.iface 149 (.agg #[.int .i64 n])) 51 149 true).run Tryz.prog w = .ok (.tuple #[.agg #[.int .i64 n], .bool true]) w := fun _ => by kernel_rfl
  show Calls Tryz.prog 67 #[mk st A A2, .iface 149 (.agg #[.int .i64 n])] w _
  go_enter Tryz.func67, Tryz.ntmps67
  go_wp2_with fail
  refine (mnum n st A A2 _).mono ?_
  rintro e w1 ⟨f, c, rfl, hg1, hc1⟩
  go_wp2_with fail
  go_ret
  exact ⟨f, c, rfl, grown_trans (grown_alloc (grown_alloc (grown_refl _ _) _) _) hg1, hc1⟩
end Go.Proofs.YtjjlgjmebnkdjaaGreatDoor

namespace Go.Proofs.YtjjlgjmebnkdjaaGreatDoor
open Go Go.Proofs Go.RowKit Skein

set_option maxRecDepth 100000 in
set_option maxHeartbeats 1000000 in
theorem as_fn (f : Nat) (c : Array Value) (w : World) :
    Calls Tryz.prog 134 #[.iface 196 (fnv f c)] w fun e w' => e = .returned (fnv f c) ∧ w' = w := by
  have hta : ∀ (w : World), (Instr.typeAssert (.iface 196 (fnv f c)) 116 196 true).run Tryz.prog w = .ok (.tuple #[fnv f c, .bool true]) w := fun _ => by kernel_rfl
  go_enter Tryz.func134, Tryz.ntmps134
  go_wp2_with fail
  go_ret
  exact ⟨rfl, rfl⟩

set_option maxRecDepth 100000 in
set_option maxHeartbeats 1000000 in
theorem as_fn_no (n : Int) (w : World) :
    Calls Tryz.prog 134 #[.iface 134 (.int .i64 n)] w fun e w' => e = .panicked (oops 5) ∧ w' = w := by
  have hta : ∀ (w : World), (Instr.typeAssert (.iface 134 (.int .i64 n)) 116 196 true).run Tryz.prog w = .ok (.tuple #[.nilFunc, .bool false]) w := fun _ => by kernel_rfl
  go_enter Tryz.func134, Tryz.ntmps134
  go_wp2_with fail
  exact ⟨rfl, rfl, rfl⟩

set_option maxRecDepth 100000 in
set_option maxHeartbeats 1000000 in
theorem as_num (n : Int) (w : World) :
    Calls Tryz.prog 138 #[.iface 134 (.int .i64 n)] w fun e w' => e = .returned (.int .i64 n) ∧ w' = w := by
  have hta : ∀ (w : World), (Instr.typeAssert (.iface 134 (.int .i64 n)) 116 134 true).run Tryz.prog w = .ok (.tuple #[.int .i64 n, .bool true]) w := fun _ => by kernel_rfl
  go_enter Tryz.func138, Tryz.ntmps138
  go_wp2_with fail
  go_ret
  exact ⟨rfl, rfl⟩

set_option maxRecDepth 100000 in
set_option maxHeartbeats 1000000 in
theorem as_num_no (f : Nat) (c : Array Value) (w : World) :
    Calls Tryz.prog 138 #[.iface 196 (fnv f c)] w fun e w' => e = .panicked (oops 5) ∧ w' = w := by
  have hta : ∀ (w : World), (Instr.typeAssert (.iface 196 (fnv f c)) 116 134 true).run Tryz.prog w = .ok (.tuple #[.int .i64 0, .bool false]) w := fun _ => by kernel_rfl
  go_enter Tryz.func138, Tryz.ntmps138
  go_wp2_with fail
  exact ⟨rfl, rfl, rfl⟩

set_option maxRecDepth 100000 in
set_option maxHeartbeats 1000000 in
theorem as_fn_nol (o1 o2 : Option Addr) (w : World) :
    Calls Tryz.prog 134 #[.iface 141 (.agg #[.pointer o1, .pointer o2])] w fun e w' => e = .panicked (oops 5) ∧ w' = w := by
  have hta : ∀ (w : World), (Instr.typeAssert (.iface 141 (.agg #[.pointer o1, .pointer o2])) 116 196 true).run Tryz.prog w = .ok (.tuple #[.nilFunc, .bool false]) w := fun _ => by kernel_rfl
  go_enter Tryz.func134, Tryz.ntmps134
  go_wp2_with fail
  exact ⟨rfl, rfl, rfl⟩

set_option maxRecDepth 100000 in
set_option maxHeartbeats 1000000 in
theorem as_num_nol (o1 o2 : Option Addr) (w : World) :
    Calls Tryz.prog 138 #[.iface 141 (.agg #[.pointer o1, .pointer o2])] w fun e w' => e = .panicked (oops 5) ∧ w' = w := by
  have hta : ∀ (w : World), (Instr.typeAssert (.iface 141 (.agg #[.pointer o1, .pointer o2])) 116 134 true).run Tryz.prog w = .ok (.tuple #[.int .i64 0, .bool false]) w := fun _ => by kernel_rfl
  go_enter Tryz.func138, Tryz.ntmps138
  go_wp2_with fail
  exact ⟨rfl, rfl, rfl⟩

theorem list_cells {w : World} {k : Nat} {x0 x1 : Value} (h : w.heap[k]? = some (.cells #[x0, x1] 141 (0, 0))) : w.cell? ⟨k, 0, none⟩ = some x0 ∧ w.cell? ⟨k, 1, none⟩ = some x1 ∧ (∀ o, w.frozen? ⟨k, o, none⟩ = false) ∧ k < w.heap.size := by
  refine ⟨?_, ?_, fun o => ?_, heap_lt h⟩ <;> simp [World.cell?, World.frozen?, h]
theorem fin_l {f : Func} {R : Ending → World → Prop} {t : Nat} {a : Act} {W : World} {k : Nat} {x0 x1 : Value} (hf : f.results = #[.cell t 141]) (ht : a.tmps[t]?.getD undef = .pointer (some ⟨k, 0, none⟩)) (hd : a.defers = []) (hk : W.heap[k]? = some (.cells #[x0, x1] 141 (0, 0)))
    (hR : R (.returned (.agg #[x0, x1])) W) : bodyPost Tryz.prog f R .ret a W := by
  obtain ⟨y0, y1, yf, ylt⟩ := list_cells hk
  refine bodyPost_ret (v := .agg #[x0, x1]) ?_ hd hR
  simp [results, hf, go_sem, ht, y0, y1]

set_option maxRecDepth 100000 in
set_option maxHeartbeats 1000000 in
theorem as_list (o1 o2 : Option Addr) (w : World) :
    Calls Tryz.prog 145 #[.iface 141 (.agg #[.pointer o1, .pointer o2])] w fun e w' => e = .returned (.agg #[.pointer o1, .pointer o2]) ∧ World.grownBy w w' none := by
  have hta : ∀ (w : World), (Instr.typeAssert (.iface 141 (.agg #[.pointer o1, .pointer o2])) 116 141 true).run Tryz.prog w = .ok (.tuple #[.agg #[.pointer o1, .pointer o2], .bool true]) w := fun _ => by kernel_rfl
  go_enter Tryz.func145, Tryz.ntmps145
  go_wp2_with fail
  exact fin_l (t := 2) Tryz.results145 rfl rfl (keepB' (alloc_at w (.cells #[.pointer o1, .pointer o2] 141 (0, 0)) _ rfl) (grown_alloc (grown_refl _ none) _)) ⟨rfl, grown_alloc (grown_alloc (grown_refl _ _) _) _⟩

set_option maxRecDepth 100000 in
set_option maxHeartbeats 1000000 in
theorem as_list_num (n : Int) (w : World) :
    Calls Tryz.prog 145 #[.iface 134 (.int .i64 n)] w fun e w' => e = .panicked (oops 5) ∧ World.grownBy w w' none := by
  have hta : ∀ (w : World), (Instr.typeAssert (.iface 134 (.int .i64 n)) 116 141 true).run Tryz.prog w = .ok (.tuple #[.agg #[.pointer none, .pointer none], .bool false]) w := fun _ => by kernel_rfl
  go_enter Tryz.func145, Tryz.ntmps145
  go_wp2_with fail
  exact ⟨rfl, rfl, grown_alloc (grown_alloc (grown_refl _ _) _) _⟩

set_option maxRecDepth 100000 in
set_option maxHeartbeats 1000000 in
theorem as_list_fn (f : Nat) (c : Array Value) (w : World) :
    Calls Tryz.prog 145 #[.iface 196 (fnv f c)] w fun e w' => e = .panicked (oops 5) ∧ World.grownBy w w' none := by
  have hta : ∀ (w : World), (Instr.typeAssert (.iface 196 (fnv f c)) 116 141 true).run Tryz.prog w = .ok (.tuple #[.agg #[.pointer none, .pointer none], .bool false]) w := fun _ => by kernel_rfl
  go_enter Tryz.func145, Tryz.ntmps145
  go_wp2_with fail
  exact ⟨rfl, rfl, grown_alloc (grown_alloc (grown_refl _ _) _) _⟩

/-- What must be a list is one, or the program says so. -/
theorem as_list_of {st w0 B v T x} (h : VP st w0 B v (.iface T x)) : (v = .nil ∧ T = 141 ∧ x = .agg #[.pointer none, .pointer none]) ∨ (∃ i j a c, v = .cons i j ∧ T = 141 ∧ x = .agg #[ptr a, ptr c] ∧ B[i]? = some a ∧ B[j]? = some c) ∨
    ((∀ w, Calls Tryz.prog 145 #[.iface T x] w fun e w' => e = .panicked (oops 5) ∧ World.grownBy w w' none) ∧ R.list (.ok v) = .error 5) := by
  cases v with
  | nil => simp only [VP, Value.iface.injEq] at h; exact .inl ⟨rfl, h.1, h.2⟩
  | cons i j => obtain ⟨a, c, h, h1, h2⟩ := h; simp only [Value.iface.injEq] at h; exact .inr (.inl ⟨i, j, a, c, rfl, h.1, h.2, h1, h2⟩)
  | num k => simp only [VP, Value.iface.injEq] at h; obtain ⟨rfl, rfl⟩ := h; exact .inr (.inr ⟨as_list_num k, rfl⟩)
  | fn t e => obtain ⟨_, j1, j2, g1, d1, sc', h, _⟩ := h; simp only [Value.iface.injEq] at h; obtain ⟨rfl, rfl⟩ := h; exact .inr (.inr ⟨as_list_fn _ _, rfl⟩)

/-- What must be a number is one, or the program says so. -/
theorem as_num_of {st w0 B v T x} (h : VP st w0 B v (.iface T x)) : (∃ k, v = .num k ∧ T = 134 ∧ x = .int .i64 k) ∨ ((∀ w, Calls Tryz.prog 138 #[.iface T x] w fun e w' => e = .panicked (oops 5) ∧ w' = w) ∧ R.num (.ok v) = .error 5) := by
  cases v with
  | num k => simp only [VP, Value.iface.injEq] at h; exact .inl ⟨k, rfl, h.1, h.2⟩
  | fn t e => obtain ⟨_, j1, j2, g1, d1, sc', h, _⟩ := h; simp only [Value.iface.injEq] at h; obtain ⟨rfl, rfl⟩ := h; exact .inr ⟨as_num_no _ _, rfl⟩
  | nil => simp only [VP, Value.iface.injEq] at h; obtain ⟨rfl, rfl⟩ := h; exact .inr ⟨as_num_nol _ _, rfl⟩
  | cons i j => obtain ⟨a, c, h, h1, h2⟩ := h; simp only [Value.iface.injEq] at h; obtain ⟨rfl, rfl⟩ := h; exact .inr ⟨as_num_nol _ _, rfl⟩

/-- What must be a function is one, or the program says so. -/
theorem as_fn_of {st w0 B v T x} (h : VP st w0 B v (.iface T x)) : (∃ y env, v = .fn y env) ∨ ((∀ w, Calls Tryz.prog 134 #[.iface T x] w fun e w' => e = .panicked (oops 5) ∧ w' = w) ∧ R.fn (.ok v) = .error 5) := by
  cases v with
  | fn t e => exact .inl ⟨t, e, rfl⟩
  | num k => simp only [VP, Value.iface.injEq] at h; obtain ⟨rfl, rfl⟩ := h; exact .inr ⟨as_fn_no _, rfl⟩
  | nil => simp only [VP, Value.iface.injEq] at h; obtain ⟨rfl, rfl⟩ := h; exact .inr ⟨as_fn_nol _ _, rfl⟩
  | cons i j => obtain ⟨a, c, h, h1, h2⟩ := h; simp only [Value.iface.injEq] at h; obtain ⟨rfl, rfl⟩ := h; exact .inr ⟨as_fn_nol _ _, rfl⟩

set_option maxRecDepth 100000 in
set_option maxHeartbeats 1000000 in
theorem count_ok {b w B st L S} (h : PE b w B st L S) (hl : ¬ L ≤ S.steps) :
    Calls Tryz.prog 135 #[ptr st] w fun e w' => e = .returned (.tuple #[]) ∧ FP b w w' ∧ PE b w' B st L ⟨S.heap, S.steps + 1⟩ := by
  obtain ⟨c0, c1, cf, hlt⟩ := h.steps.cells
  have hk : FP b w (w.setCell ⟨st, 1, none⟩ (.int .i64 ((S.steps : Int) + 1))) := Fr.set h.steps (.inr rfl) h.slo _ _
  have h' := h.stepped
  have hL := h.lim
  have hd : decide ((L : Int) ≤ (S.steps : Int)) = false := by simp; omega
  go_enter Tryz.func135, Tryz.ntmps135
  go_wp2_with fail
  go_quiet (fail)
  go_wp2_with fail
  go_end0
  exact ⟨rfl, ⟨⟨hk.below.os, hk.below.tape, hk.below.output, hk.below.size, hk.below.block⟩, hk.keep⟩, h'.grown (grown_same (grown_refl _ _) rfl rfl rfl rfl)⟩

set_option maxRecDepth 100000 in
set_option maxHeartbeats 1000000 in
theorem count_no {b w B st L S} (h : PE b w B st L S) (hl : L ≤ S.steps) :
    Calls Tryz.prog 135 #[ptr st] w fun e w' => e = .panicked (oops 8) ∧ Below b w w' ∧ SB w' st L S.steps := by
  obtain ⟨c0, c1, cf, hlt⟩ := h.steps.cells
  have hs := h.steps
  have hd : decide ((L : Int) ≤ (S.steps : Int)) = true := by simp; omega
  go_enter Tryz.func135, Tryz.ntmps135
  go_wp2_with fail
  go_quiet (fail)
  go_wp2_with fail
  exact ⟨rfl, rfl, ⟨rfl, rfl, rfl, Nat.le_refl _, fun _ _ => rfl⟩, hs⟩
end Go.Proofs.YtjjlgjmebnkdjaaGreatDoor

namespace Go.Proofs.YtjjlgjmebnkdjaaGreatDoor
open Go Go.Proofs Go.RowKit Skein

set_option maxRecDepth 100000 in
set_option maxHeartbeats 1000000 in
theorem clip_none (w : World) : Calls Tryz.prog 154 #[.slice none 0 0] w fun e w' => e = .returned (.slice none 0 0) ∧ w' = w := by
  go_enter Tryz.func154, Tryz.ntmps154
  go_wp2_with fail
  go_ret
  exact ⟨rfl, rfl⟩

set_option maxRecDepth 100000 in
set_option maxHeartbeats 1000000 in
theorem clip_some (g n cap : Nat) (hn : n ≤ cap) (w : World) : Calls Tryz.prog 154 #[.slice (some ⟨g, 0, none⟩) n cap] w fun e w' => e = .returned (.slice (some ⟨g, 0, none⟩) n n) ∧ w' = w := by
  go_enter Tryz.func154, Tryz.ntmps154
  go_wp2_with fail
  go_ret
  exact ⟨rfl, rfl⟩

theorem info173 : (Tryz.prog.info? 139).map (fun i => (i.zero, i.size, i.bytes)) = some (some (.pointer none), 1, 8) := by kernel_rfl

/-- The cells that a scope names. -/
def addrs (B : List Nat) (env : List Nat) : List Value := env.map fun i => ptr (B.getD i 0)
theorem ScAt.snoc {w w' : World} {B env : List Nat} {i a : Nat} {v : Value} (hi : B[i]? = some a) (hB : ∀ j ∈ env, ∃ x, B[j]? = some x) (h : w'.ownsRow w.heap.size 139 1 v (env.length + 1) (addrs B env ++ [ptr a])) : ScAt w' B (env ++ [i]) v := by
  obtain ⟨hl, ⟨_, h0⟩ | ⟨g, cap, cur, rfl, hg, hh, h1, h2, h3, h4⟩⟩ := h
  · omega
  · refine .inr ⟨g, cur, cap, by simp, by simp, by simpa using h1, by omega, hh, fun j k hj => ?_⟩
    have hjl := (List.getElem?_eq_some_iff.1 hj).1
    simp at hjl
    have hc : cur[j]? = (addrs B env ++ [ptr a])[j]? := by
      rw [← h4, List.getElem?_take]
      rw [if_pos (by omega)]
      simp
    by_cases hje : j < env.length
    · rw [List.getElem?_append_left hje] at hj
      obtain ⟨x, hx⟩ := hB k (List.mem_of_getElem? hj)
      refine ⟨x, hx, ?_⟩
      rw [hc, List.getElem?_append_left (by simp [addrs]; exact hje)]
      have hx' : B.getD k 0 = x := by simp [List.getD, hx]
      have hq : (addrs B env)[j]? = some (ptr (B.getD k 0)) := by unfold addrs; rw [List.getElem?_map, hj]; rfl
      rw [hq, hx']
    · have e : j = env.length := by omega
      subst e
      rw [List.getElem?_append_right (by omega)] at hj
      simp at hj
      subst hj
      refine ⟨a, hi, ?_⟩
      rw [hc, List.getElem?_append_right (by simp [addrs])]
      simp [addrs]

set_option maxRecDepth 100000 in
set_option maxHeartbeats 2000000 in
theorem with_ok {w : World} {B env : List Nat} {i a : Nat} {sc : Value} (h : ScAt w B env sc) (hi : B[i]? = some a) (hl : env.length ≤ 999) :
    Calls Tryz.prog 132 #[sc, ptr a] w fun e w' => ∃ o n c, e = .returned (.slice o n c) ∧ w.grownBy w' none ∧ ScAt w' B (env ++ [i]) (.slice o n c) := by
  obtain ⟨i0, hi0, hz0, hz1, hz2⟩ := info_parts info173
  have hcl : ∃ o cap, sc = .slice o env.length cap ∧ (∀ w, Calls Tryz.prog 154 #[sc] w fun e w' => e = .returned (.slice o env.length env.length) ∧ w' = w) ∧ (o = none → env.length = 0) ∧ (∀ b, o = some b → ∀ j u, (addrs B env)[j]? = some u → w.cell? (b.add j) = some u) ∧ ∀ j ∈ env, ∃ x, B[j]? = some x := by
    rcases h with ⟨rfl, rfl⟩ | ⟨g, cs, cap, rfl, hn, h1, h2, hh, ha⟩
    · exact ⟨none, 0, rfl, fun w => clip_none w, fun _ => rfl, (fun b e => by cases e), (fun j hj => by cases hj)⟩
    · refine ⟨some ⟨g, 0, none⟩, cap, rfl, fun w => clip_some g _ cap h1 w, fun e => (by cases e), fun b e j u hj => ?_, fun j hj => ?_⟩
      · cases e
        simp only [addrs, List.getElem?_map, Option.map_eq_some_iff] at hj
        obtain ⟨k, hk, rfl⟩ := hj
        obtain ⟨x, hx, hc⟩ := ha j k hk
        have e2 : B.getD k 0 = x := by simp [List.getD, hx]
        rw [e2]
        have e3 : (⟨g, 0, none⟩ : Addr).add j = ⟨g, j, none⟩ := by
          by_cases hj : j = 0
          · subst hj; simp [Addr.add]
          · simp [Addr.add, hj]
        rw [e3]
        simp [World.cell?, hh, hc]
      · obtain ⟨k, hk, e⟩ := List.mem_iff_getElem.1 hj
        obtain ⟨x, hx, _⟩ := ha k j (by rw [List.getElem?_eq_getElem hk, e])
        exact ⟨x, hx⟩
  obtain ⟨o, cap, rfl, hC, hno, hold, hB⟩ := hcl
  have HC : Hid (∀ w, Calls Tryz.prog 154 #[.slice o env.length cap] w fun e w' => e = .returned (.slice o env.length env.length) ∧ w' = w) := hC
  clear hC h
  go_enter Tryz.func132, Tryz.ntmps132
  go_wp2_with fail
  refine (HC.out _).mono ?_
  rintro e w1 ⟨rfl, rfl⟩
  have hold2 : ∀ b, o = some b → ∀ j u, (addrs B env)[j]? = some u → (w1.alloc (.cells #[ptr a] 139)).cell? (b.add j) = some u := fun b e j u hj => by
    have := hold b e j u hj
    rw [World.cell?_alloc_some _ _ _ (by rw [this]; rfl)]; exact this
  go_wp2_with (at_builtin; refine wpList_append_grows _ rfl _ _ 192 rfl 139 i0 (.pointer none) 1 8 Tryz.underlying192 hi0 hz0 hz1 hz2 rfl (by decide) o env.length env.length (addrs B env) rfl (fun e => ⟨hno e, hno e⟩) (by simp [addrs]) hold2 ⟨w1.heap.size, 0, none⟩ 1 1 [ptr a] rfl rfl (cell_one_new _ _ _) (fun u hu => by simp at hu; subst hu; rfl) (by omega) (by unfold maxLen; omega) (by omega) ?_; intro v' w4 hown hgr)
  have hs := ScAt.snoc (w := w1.alloc (.cells #[ptr a] 139)) hi hB hown
  obtain ⟨o', c', rfl⟩ := hs.shape
  go_ret
  exact ⟨o', _, c', rfl, grown_trans (grown_alloc (grown_refl _ _) _) hgr, hs⟩
end Go.Proofs.YtjjlgjmebnkdjaaGreatDoor

namespace Go.Proofs.YtjjlgjmebnkdjaaGreatDoor
open Go Go.Proofs Go.RowKit Skein

/-- A closure's function is entered. -/
theorem CodeAt.ent {st w x f c} (h : CodeAt st w x f c) : ∀ (args : Array Value) (w : World), (callFunc f args).run Tryz.prog w = .ok (.enter f args) w := by
  cases x with
  | num n => obtain ⟨rfl, _⟩ := h; exact enters_of Tryz.func128 (by kernel_rfl) rfl
  | var n => obtain ⟨rfl, _⟩ := h; exact enters_of Tryz.func129 (by kernel_rfl) rfl
  | fn n a => obtain ⟨rfl, _⟩ := h; exact enters_of Tryz.func130 (by kernel_rfl) rfl
  | app a d => obtain ⟨rfl, _⟩ := h; exact enters_of Tryz.func133 (by kernel_rfl) rfl
  | letE n a d => obtain ⟨rfl, _⟩ := h; exact enters_of Tryz.func136 (by kernel_rfl) rfl
  | ite a d g => obtain ⟨rfl, _⟩ := h; exact enters_of Tryz.func137 (by kernel_rfl) rfl
  | bin op a d =>
    rcases h with ⟨_, rfl, _⟩ | ⟨_, rfl, _⟩
    · exact enters_of Tryz.func142 (by kernel_rfl) rfl
    · exact enters_of Tryz.func140 (by kernel_rfl) rfl
  | junk => exact h.elim
  | free => exact h.elim
  | nil => obtain ⟨rfl, _⟩ := h; exact enters_of Tryz.func141 (by kernel_rfl) rfl
  | un op a => obtain ⟨_, rfl, _⟩ := h; exact enters_of Tryz.func144 (by kernel_rfl) rfl

theorem held_cells {w : World} {a : Nat} {s x y z : Value} (h : w.heap[a]? = some (.cells #[s, x, y, z] 194 (0, 0))) :
    w.cell? ⟨a, 0, none⟩ = some s ∧ w.cell? ⟨a, 1, none⟩ = some x ∧ w.cell? ⟨a, 2, none⟩ = some y ∧ w.cell? ⟨a, 3, none⟩ = some z ∧ (∀ o, w.frozen? ⟨a, o, none⟩ = false) ∧ a < w.heap.size := by
  refine ⟨?_, ?_, ?_, ?_, fun o => ?_, heap_lt h⟩
  all_goals simp [World.cell?, World.frozen?, h]

set_option maxRecDepth 100000 in
set_option maxHeartbeats 2000000 in
theorem hneed_known {v : V} {L i : Nat} {S : E} {b : Nat} {w : World} {B : List Nat} {st a : Nat} (h : PE b w B st L S) (ha : B[i]? = some a) (hS : S.heap[i]? = some (.known v)) :
    Calls Tryz.prog 98 #[ptr a] w (GP b w B st L (.ok v, S)) := by
  obtain ⟨x, y, z, hh, hv⟩ := h.hd i _ a hS ha
  obtain ⟨T1, z1, rfl⟩ := hv.shape
  obtain ⟨c0, c1, c2, c3, cf, hlt⟩ := held_cells hh
  clear hh
  go_enter Tryz.func98, Tryz.ntmps98
  go_wp2_with fail
  go_ret
  exact GPV.got ⟨B, T1, z1, rfl, Fr.refl _ _ _ _, Ext.refl _, h, hv⟩

set_option maxRecDepth 100000 in
set_option maxHeartbeats 2000000 in
theorem hneed_busy {L i : Nat} {S : E} {b : Nat} {w : World} {B : List Nat} {st a : Nat} (h : PE b w B st L S) (ha : B[i]? = some a) (hS : S.heap[i]? = some .busy) :
    Calls Tryz.prog 98 #[ptr a] w (GP b w B st L (.err 7, S)) := by
  obtain ⟨x, y, z, hh⟩ := h.hd i _ a hS ha
  obtain ⟨c0, c1, c2, c3, cf, hlt⟩ := held_cells hh
  clear hh
  go_enter Tryz.func98, Tryz.ntmps98
  go_wp2_with fail
  exact ⟨rfl, GPX.got ⟨rfl, Below.refl _ _, h.steps⟩⟩

theorem PE.learn {b w B st L S} (h : PE b w B st L S) {i a : Nat} (ha : B[i]? = some a) {s1 s2 s3 s4 : Value} (hh : w.heap[a]? = some (.cells #[s1, s2, s3, s4] 194 (0, 0))) {v : V} {x : Value} (hv : VP st w B v x) :
    PE b ((w.setCell ⟨a, 3, none⟩ x).setCell ⟨a, 0, none⟩ (.int .i64 2)) B st L ⟨S.heap.set i (.known v), S.steps⟩ ∧ FP b w ((w.setCell ⟨a, 3, none⟩ x).setCell ⟨a, 0, none⟩ (.int .i64 2)) := by
  have hal := h.lo a (List.mem_of_getElem? ha)
  have h1 := RB.set hh 3 x
  have hf : FP b w ((w.setCell ⟨a, 3, none⟩ x).setCell ⟨a, 0, none⟩ (.int .i64 2)) := (Fr.set hh (.inl rfl) hal 3 x).trans (Fr.set h1 (.inl rfl) hal 0 _)
  refine ⟨h.turn hf ha (fun k hk _ => ?_) (.known v) ⟨s2, s3, x, ?_, hv.fr hf (Ext.refl _)⟩, hf⟩
  · rw [Below.heap_setCell _ _ _ _ hk, Below.heap_setCell _ _ _ _ hk]
  · rw [RB.set h1 0 (.int .i64 2)]; rfl

set_option maxRecDepth 100000 in
set_option maxHeartbeats 8000000 in
theorem hneed_wait {n : Nat} (hN : CC n) {x : T} {env : List Nat} {r : R × E} {L i : Nat} {S : E} {b : Nat} {w : World} {B : List Nat} {st a : Nat} (h : PE b w B st L S) (ha : B[i]? = some a) (hS : S.heap[i]? = some (.wait x env)) (he : ev L n (.need x env) ⟨S.heap.set i .busy, S.steps⟩ = some r) :
    Calls Tryz.prog 98 #[ptr a] w fun e w' => (∃ v, r.1 = .ok v ∧ GPV b w B st L v ⟨r.2.heap.set i (.known v), r.2.steps⟩ e w') ∨ (∃ z, r.1 = .err z ∧ GPX b w st L z r.2.steps e w') := by
  obtain ⟨hd, f, c, sc, hh, hc, hsc⟩ := h.hd i _ a hS ha
  obtain ⟨o, cap, rfl⟩ := hsc.shape
  obtain ⟨c0, c1, c2, c3, cf, hlt⟩ := held_cells hh
  have hal := h.lo a (List.mem_of_getElem? ha)
  have hk1 : FP b w (w.setCell ⟨a, 0, none⟩ (.int .i64 1)) := Fr.set hh (.inl rfl) hal 0 (.int .i64 1)
  have hh1 : (w.setCell ⟨a, 0, none⟩ (.int .i64 1)).heap[a]? = some (.cells #[.int .i64 1, fnv f c, .slice o env.length cap, .nilIface] 194 (0, 0)) := by rw [RB.set hh 0 (.int .i64 1)]; rfl
  have h1 := h.turn hk1 ha (fun k hk _ => Below.heap_setCell _ _ _ _ hk) .busy ⟨fnv f c, .slice o env.length cap, .nilIface, hh1⟩
  have hent := hc.ent
  have hc1 := hc.fr hk1
  have hsc1 := hsc.fr hk1 (Ext.refl B)
  have hC := fun wd (hg : World.grownBy (w.setCell ⟨a, 0, none⟩ (.int .i64 1)) wd none) => hN L x env _ r b wd B st f c _ he (h1.grown hg) (hc1.fr (Fr.grown h1.blt hg)) (hsc1.fr (Fr.grown h1.blt hg) (Ext.refl _)) hd
  have hb1 := h1.blt
  have HC : Hid (∀ wd, World.grownBy (w.setCell ⟨a, 0, none⟩ (.int .i64 1)) wd none → Calls Tryz.prog f (#[.slice o env.length cap] ++ c) wd fun e w' => (∃ v B' T x, r.1 = .ok v ∧ e = .returned (.iface T x) ∧ FP b w w' ∧ Ext B B' ∧ PE b w' B' st L r.2 ∧ VP st w' B' v (.iface T x) ∧ ∃ s1 s2 s3 s4, w'.heap[a]? = some (.cells #[s1, s2, s3, s4] 194 (0, 0))) ∨ (∃ z, r.1 = .err z ∧ GPX b w st L z r.2.steps e w')) := fun wd hg => (hC wd hg).mono fun _ _ hG => by
    have hkk := hk1.trans (Fr.grown hb1 hg)
    rcases hr : r.1 with v | z
    · obtain ⟨B', T, x, he, hk, hB, h1, hv⟩ := hG.v hr
      have ha' := hB _ _ ha
      have hi2 := (List.getElem?_eq_some_iff.1 ha').1
      rw [h1.len] at hi2
      exact .inl ⟨v, B', T, x, rfl, he, hkk.trans hk, hB, h1, hv, (h1.hd i _ a (List.getElem?_eq_getElem hi2) ha').cells⟩
    · obtain ⟨he, hk, h1⟩ := hG.x hr
      exact .inr ⟨z, rfl, he, hkk.below.trans hk, h1⟩
  clear hc hsc hc1 hsc1 hh he hS hC h1 hk1 hb1
  obtain ⟨e0, e1, e2, e3, ef, elt⟩ := held_cells hh1
  clear hh1
  go_enter Tryz.func98, Tryz.ntmps98
  go_wp2_with fail
  generalize w.setCell ⟨a, 0, none⟩ (.int .i64 1) = W1 at e0 e1 e2 e3 ef elt HC ⊢
  go_region_with (first | (go_at_fn f; refine (HC.out _ (by exact grown_same (grown_refl _ _) rfl rfl rfl rfl)).mono ?_; rintro e w1 (⟨v, B', T1, x1, hr, rfl, hk, hB, h1, hv, s1, s2, s3, s4, hh1⟩ | ⟨z, hr, rfl, hb, hs⟩); rotate_left; exact ⟨rfl, .inr ⟨z, hr, rfl, hb, hs⟩⟩; obtain ⟨g0, g1, g2, g3, gf, glt⟩ := held_cells hh1; have HR : Hid (r.1 = .ok v) := hr; clear hr))
  all_goals
    go_wp2_with fail
    obtain ⟨h2, hf2⟩ := h1.learn (hB _ _ ha) hh1 hv
    go_ret
    exact .inl ⟨v, HR.out, B', T1, x1, rfl, hk.trans hf2, hB, h2, hv.fr hf2 (Ext.refl _)⟩

theorem hneed (n : Nat) (hN : CC n) : CH (n + 1) := by
  intro L i S r b w B st a he h ha
  have hi := (List.getElem?_eq_some_iff.1 ha).1
  have hi' : i < S.heap.length := by rw [← h.len]; exact hi
  have hS : S.heap[i]? = some S.heap[i] := List.getElem?_eq_getElem hi'
  cases hx : S.heap[i] with
  | known v =>
    rw [hx] at hS
    simp only [ev, hS, Option.some.injEq] at he
    subst he; exact hneed_known h ha hS
  | busy =>
    rw [hx] at hS
    simp only [ev, hS, Option.some.injEq] at he
    subst he; exact hneed_busy h ha hS
  | wait x env =>
    rw [hx] at hS
    simp only [ev, hS] at he
    obtain ⟨⟨rr, S1⟩, he1, he2⟩ := Option.bind_eq_some_iff.1 he
    refine (hneed_wait hN h ha hS he1).mono ?_
    rintro e w' (⟨v, hr, hg⟩ | ⟨z, hr, hg⟩)
    · simp only at hr; subst hr; simp only [Option.some.injEq] at he2; subst he2; exact hg.got
    · simp only at hr; subst hr; simp only [Option.some.injEq] at he2; subst he2; exact GPX.got hg
end Go.Proofs.YtjjlgjmebnkdjaaGreatDoor

namespace Go.Proofs.YtjjlgjmebnkdjaaGreatDoor
open Go Go.Proofs Go.RowKit Skein

theorem Is1.cell {w k v T} (h : Is1 w k v T) : w.cell? ⟨k, 0, none⟩ = some v ∧ k < w.heap.size := by
  unfold Is1 at h
  exact ⟨by simp [World.cell?, h], heap_lt h⟩

set_option maxRecDepth 100000 in
set_option maxHeartbeats 2000000 in
theorem cnum (m : Nat) {L : Nat} {S : E} {b : Nat} {w : World} {B : List Nat} {st : Nat} {f : Nat} {c : Array Value} {o : Option Addr} {l cap : Nat} (h : PE b w B st L S) (hc : CodeAt st w (.num m) f c) :
    Calls Tryz.prog f (#[.slice o l cap] ++ c) w (GP b w B st L (.ok (.num m), S)) := by
  obtain ⟨rfl, k, rfl, h1⟩ := hc
  obtain ⟨e0, hlt⟩ := h1.cell
  clear h1
  show Calls Tryz.prog 128 #[.slice o l cap, ptr k] w _
  go_enter Tryz.func128, Tryz.ntmps128
  go_wp2_with fail
  go_ret
  exact GPV.got ⟨B, 134, .int .i64 m, rfl, Fr.refl _ _ _ _, Ext.refl _, h, rfl⟩

set_option maxRecDepth 100000 in
set_option maxHeartbeats 2000000 in
theorem cvar (n : Nat) (hF : CH n) (m j : Nat) {L : Nat} {S : E} {r : R × E} {env : List Nat} {b : Nat} {w : World} {B : List Nat} {st : Nat} {f : Nat} {c : Array Value} {sc : Value} (hj : env[m]? = some j) (he : ev L n (.force j) S = some r) (h : PE b w B st L S) (hc : CodeAt st w (.var m) f c) (hs : ScAt w B env sc) :
    Calls Tryz.prog f (#[sc] ++ c) w (GP b w B st L r) := by
  obtain ⟨rfl, k, rfl, h1⟩ := hc
  obtain ⟨e0, hlt⟩ := h1.cell
  clear h1
  have hm := (List.getElem?_eq_some_iff.1 hj).1
  rcases hs with ⟨rfl, _⟩ | ⟨g, cs, cap, rfl, hn, h1, h2, hh, ha⟩
  · cases hj
  obtain ⟨a, hBa, hca⟩ := ha m j hj
  have hcell : w.cell? ⟨g, m, none⟩ = some (ptr a) := by simp [World.cell?, hh, hca]
  have HF : Hid (Calls Tryz.prog 98 #[ptr a] w (GP b w B st L r)) := hF L j S r b w B st a he h hBa
  clear hh ha hca he hj
  have hml : (m : Int) < (env.length : Int) := by omega
  show Calls Tryz.prog 129 #[.slice (some ⟨g, 0, none⟩) env.length cap, ptr k] w _
  go_enter Tryz.func129, Tryz.ntmps129
  go_wp2_with fail
  refine HF.out.mono ?_
  rintro e w1 (⟨v, B', x, hr, rfl, hg⟩ | ⟨z, hr, rfl, hb, hs⟩)
  · have HR : Hid (r.1 = .ok v) := hr
    clear hr
    obtain ⟨hg1, hg2, hg3, hg4⟩ := hg
    obtain ⟨T1, x1, rfl⟩ := hg4.shape
    go_wp2_with fail
    go_ret
    exact .inl ⟨v, B', _, HR.out, rfl, hg1, hg2, hg3, hg4⟩
  · have HR : Hid (r.1 = .err z) := hr
    clear hr
    go_wp2_with fail
    exact ⟨rfl, .inr ⟨z, HR.out, rfl, hb, hs⟩⟩

set_option maxRecDepth 100000 in
set_option maxHeartbeats 2000000 in
theorem cfn (m : Nat) (y : T) {L : Nat} {S : E} {env : List Nat} {b : Nat} {w : World} {B : List Nat} {st : Nat} {f : Nat} {c : Array Value} {sc : Value} (h : PE b w B st L S) (hc : CodeAt st w (.fn m y) f c) (hs : ScAt w B env sc) (hd : env.length + dep (.fn m y) ≤ 1000) :
    Calls Tryz.prog f (#[sc] ++ c) w (GP b w B st L (.ok (.fn y env), S)) := by
  obtain ⟨rfl, k, f1, c1, rfl, h1, h2⟩ := hc
  obtain ⟨o, cap, rfl⟩ := hs.shape
  have hb := h.blt
  have hg := grown_alloc (grown_refl w none) (.cells #[.slice o env.length cap] 192 (0, 0))
  have hf : FP b w _ := Fr.grown hb hg
  have hx := alloc_at w (.cells #[.slice o env.length cap] 192 (0, 0)) _ rfl
  have hv : VP st (w.alloc (.cells #[.slice o env.length cap] 192 (0, 0))) B (.fn y env) (.iface 196 (fnv 131 #[ptr k, ptr w.heap.size])) := ⟨by simp only [dep] at hd; omega, k, w.heap.size, f1, c1, _, rfl, h1.fr hf (by decide) (by decide), hx, h2.fr hf, hs.fr hf (Ext.refl _)⟩
  have h3 := h.grown hg
  have hmf : ∀ (fn : Fn) (first cap : Array Value) (w : World), (Instr.makeFunc fn first cap).run Tryz.prog w = .ok (.func fn first cap) w := fun _ _ _ _ => rfl
  clear h1 h2 hs hx
  show Calls Tryz.prog 130 #[.slice o env.length cap, ptr k] w _
  go_enter Tryz.func130, Tryz.ntmps130
  go_wp2_with fail
  go_ret
  exact GPV.got ⟨B, 196, _, rfl, hf, Ext.refl _, h3, hv⟩
end Go.Proofs.YtjjlgjmebnkdjaaGreatDoor

namespace Go.Proofs.YtjjlgjmebnkdjaaGreatDoor
open Go Go.Proofs Go.RowKit Skein

theorem GP.fr {b w w0 B B0 st L r e w'} (h : GP b w B st L r e w') (hk : FP b w0 w) (hB : Ext B0 B) : GP b w0 B0 st L r e w' := by
  rcases h with ⟨v, B', x, h1, h2, h3, h4, h5, h6⟩ | ⟨z, h1, h2, h3, h4⟩
  · exact .inl ⟨v, B', x, h1, h2, hk.trans h3, hB.trans h4, h5, h6⟩
  · exact .inr ⟨z, h1, h2, hk.below.trans h3, h4⟩

set_option maxRecDepth 100000 in
set_option maxHeartbeats 8000000 in
theorem ccall {n : Nat} (hN : CC n) {x : T} {env : List Nat} {r : R × E} {L i : Nat} {S : E} {b : Nat} {w : World} {B : List Nat} {st a k1 k2 : Nat} (he : ev L n (.need x (env ++ [i])) S = some r) (h : PE b w B st L S) (ha : B[i]? = some a) (hv : VP st w B (.fn x env) (.iface 196 (fnv 131 #[ptr k1, ptr k2]))) :
    Calls Tryz.prog 131 #[ptr a, ptr k1, ptr k2] w (GP b w B st L r) := by
  obtain ⟨hd, j1, j2, f1, c1, sc, hj, h1, h2, h3, h4⟩ := hv
  simp only [Value.iface.injEq, true_and, Value.func.injEq, Array.mk.injEq, List.cons.injEq, Value.pointer.injEq, Option.some.injEq, Addr.mk.injEq, and_true] at hj
  obtain ⟨rfl, rfl⟩ := hj
  obtain ⟨o, cap, rfl⟩ := h4.shape
  obtain ⟨e1, l1⟩ := h1.cell
  obtain ⟨e2, l2⟩ := h2.cell
  have hent := h3.ent
  have hb := h.blt
  have HW : Hid (∀ wd, World.grownBy w wd none → Calls Tryz.prog 132 #[.slice o env.length cap, ptr a] wd fun e w' => ∃ o n c, e = .returned (.slice o n c) ∧ World.grownBy w w' none ∧ ScAt w' B (env ++ [i]) (.slice o n c) ∧ w'.cell? ⟨k1, 0, none⟩ = some (fnv f1 c1)) := fun wd hg => (with_ok (h4.fr (b := b) (Fr.grown hb hg) (Ext.refl _)) ha (by omega)).mono fun _ w' hG => by
    obtain ⟨o', n', c', he', hg', hs'⟩ := hG
    have hgg := grown_trans hg hg'
    exact ⟨o', n', c', he', hgg, hs', (Is1.fr (b := b) h1 (Fr.grown hb hgg) (by decide) (by decide)).cell.1⟩
  have HC : Hid (∀ wd sc', World.grownBy w wd none → ScAt wd B (env ++ [i]) sc' → Calls Tryz.prog f1 (#[sc'] ++ c1) wd (GP b w B st L r)) := fun wd sc' hg hs => (hN L x (env ++ [i]) S r b wd B st f1 c1 sc' he (h.grown hg) (h3.fr (b := b) (Fr.grown hb hg)) hs (by simp; omega)).mono fun _ _ hG => hG.fr (Fr.grown hb hg) (Ext.refl _)
  clear h1 h2 h3 h4 he
  go_enter Tryz.func131, Tryz.ntmps131
  go_wp2_with fail
  go_region_with (first
    | (go_at_call 132; refine (HW.out _ (by exact grown_same (grown_refl _ _) rfl rfl rfl rfl)).mono ?_; rintro e w1 ⟨o1, n1, c1', rfl, hg1, hs1, e1'⟩)
    | (go_at_fn f1; refine (HC.out _ _ (by exact grown_same hg1 rfl rfl rfl rfl) (by exact hs1)).mono ?_; rintro e w2 (⟨v, B', y, hr, rfl, hk2, hB, hp, hv⟩ | ⟨z, hr, rfl, hb2, hs2⟩); rotate_left; exact ⟨rfl, .inr ⟨z, hr, rfl, hb2, hs2⟩⟩; obtain ⟨T1, y1, rfl⟩ := hv.shape; have HR : Hid (r.1 = .ok v) := hr; clear hr))
  all_goals
    go_wp2_with fail
    go_ret
    exact .inl ⟨v, B', _, HR.out, rfl, hk2, hB, hp, hv⟩
end Go.Proofs.YtjjlgjmebnkdjaaGreatDoor

namespace Go.Proofs.YtjjlgjmebnkdjaaGreatDoor
open Go Go.Proofs Go.RowKit Skein

set_option maxRecDepth 100000 in
set_option maxHeartbeats 8000000 in
theorem capp (n : Nat) (hN : CC n) (x y : T) {L : Nat} {S : E} {r1 r : R × E} {env : List Nat} {b : Nat} {w : World} {B : List Nat} {st : Nat} {f : Nat} {c : Array Value} {sc : Value} (he1 : ev L n (.need x env) S = some r1)
    (he2 : (match r1.1.fn with | .ok f => if L ≤ r1.2.steps then some (R.err 8, r1.2) else ev L n (.need f.1 (f.2 ++ [r1.2.heap.length])) ⟨r1.2.heap ++ [.wait y env], r1.2.steps + 1⟩ | .error e => some (.err e, r1.2)) = some r)
    (h : PE b w B st L S) (hc : CodeAt st w (.app x y) f c) (hs : ScAt w B env sc) (hd : env.length + dep (.app x y) ≤ 1000) :
    Calls Tryz.prog f (#[sc] ++ c) w (GP b w B st L r) := by
  obtain ⟨rfl, k1, k2, k3, f1, c1, f2, c2, sg, pg, rfl, h1, h2, h3, hx, hy⟩ := hc
  obtain ⟨o, cap, rfl⟩ := hs.shape
  obtain ⟨e1, l1⟩ := h1.cell
  have hent := hx.ent
  have hdx : env.length + dep x ≤ 1000 := by simp only [dep] at hd; omega
  have hdy : env.length + dep y ≤ 1000 := by simp only [dep] at hd; omega
  have HC : Hid (Calls Tryz.prog f1 (#[.slice o env.length cap] ++ c1) w (GP b w B st L r1)) := hN L x env S r1 b w B st f1 c1 _ he1 h hx hs hdx
  have H2 : Hid (w.heap[k2]? = some (.cells #[ptr st, sg, pg] 114 (0, 0))) := h2
  have H3 : Hid (Is1 w k3 (fnv f2 c2) 118) := h3
  have HY : Hid (CodeAt st w y f2 c2) := hy
  have HS : Hid (ScAt w B env (.slice o env.length cap)) := hs
  have HE : Hid ((match r1.1.fn with | .ok f => if L ≤ r1.2.steps then some (R.err 8, r1.2) else ev L n (.need f.1 (f.2 ++ [r1.2.heap.length])) ⟨r1.2.heap ++ [.wait y env], r1.2.steps + 1⟩ | .error e => some (.err e, r1.2)) = some r) := he2
  clear h1 h2 h3 hx hy hs he1 he2
  show Calls Tryz.prog 133 #[.slice o env.length cap, ptr k1, ptr k2, ptr k3] w _
  go_enter Tryz.func133, Tryz.ntmps133
  go_wp2_with fail
  refine HC.out.mono ?_
  rintro e w1 (⟨v, B', u, hr, rfl, hk1, hB, hp1, hv⟩ | ⟨z, hr, rfl, hb1, hs1⟩)
  · obtain ⟨T1, x1, rfl⟩ := hv.shape
    rcases as_fn_of hv with ⟨t, fe, rfl⟩ | ⟨hno, hbad⟩
    rotate_left
    · have HF : Hid (r = (.err 5, r1.2)) := by
        have := HE.out; rw [hr, hbad] at this; simp only [Option.some.injEq] at this; exact this.symm
      have HN : Hid (∀ w, Calls Tryz.prog 134 #[.iface T1 x1] w fun e w' => e = .panicked (oops 5) ∧ w' = w) := hno
      clear hv hr HE hno hbad
      go_wp2_with fail
      refine (HN.out w1).mono ?_
      rintro e w2 ⟨rfl, rfl⟩
      go_wp2_with fail
      refine ⟨rfl, ?_⟩
      rw [HF.out]
      exact GPX.got ⟨rfl, hk1.below, hp1.steps⟩
    · obtain ⟨hdt, j1, j2, g1, d1, sc', hu, q1, q2, q3, q4⟩ := hv
      simp only [Value.iface.injEq] at hu
      obtain ⟨rfl, rfl⟩ := hu
      have HF : Hid ((if L ≤ r1.2.steps then some (R.err 8, r1.2) else ev L n (.need t (fe ++ [r1.2.heap.length])) ⟨r1.2.heap ++ [.wait y env], r1.2.steps + 1⟩) = some r) := by
        have := HE.out; rw [hr] at this; exact this
      have HV : Hid (VP st w1 B' (.fn t fe) (.iface 196 (fnv 131 #[ptr j1, ptr j2]))) := ⟨hdt, j1, j2, g1, d1, sc', rfl, q1, q2, q3, q4⟩
      clear hr HE q1 q2 q3 q4
      have hm1 := hk1.keep _ _ 114 (by decide) (by decide) H2.out
      have e2 : w1.cell? ⟨k2, 0, none⟩ = some (ptr st) := by simp [World.cell?, hm1]
      clear hm1
      go_wp2_with fail
      refine (as_fn 131 #[ptr j1, ptr j2] w1).mono ?_
      rintro e w2 ⟨rfl, rfl⟩
      go_wp2_with fail
      by_cases hl : L ≤ r1.2.steps
      · refine (count_no hp1 hl).mono ?_
        rintro e w3 ⟨rfl, hb3, hs3⟩
        go_wp2_with fail
        refine ⟨rfl, ?_⟩
        have hF := HF.out
        rw [if_pos hl] at hF
        cases hF
        exact GPX.got ⟨rfl, hk1.below.trans hb3, hs3⟩
      · refine (count_ok hp1 hl).mono ?_
        rintro e w3 ⟨rfl, hk3, hp3⟩
        have hF := HF.out
        rw [if_neg hl] at hF
        have hk13 := hk1.trans hk3
        obtain ⟨e3, l3⟩ := (H3.out.fr hk13 (by decide) (by decide)).cell
        have hg := grown_alloc (grown_refl w3 none) (.cells #[.int .i64 0, fnv f2 c2, .slice o env.length cap, .nilIface] 194 (0, 0))
        have hf4 : FP b w3 _ := Fr.grown hp3.blt hg
        have hB2 : Ext B' (B' ++ [w3.heap.size]) := Ext.app _ _
        have h4 := hp3.more hg (.wait y env) w3.heap.size (Nat.le_refl _) ⟨hdy, f2, c2, _, alloc_at w3 _ _ rfl, HY.out.fr (hk13.trans hf4), HS.out.fr (hk13.trans hf4) (hB.trans hB2)⟩
        have hnew : (B' ++ [w3.heap.size])[r1.2.heap.length]? = some w3.heap.size := by have := hp3.len; simp only at this; rw [← this]; simp
        have HD : Hid (Calls Tryz.prog 131 #[ptr w3.heap.size, ptr j1, ptr j2] (w3.alloc (.cells #[.int .i64 0, fnv f2 c2, .slice o env.length cap, .nilIface] 194 (0, 0))) (GP b w B st L r)) := (ccall hN hF h4 hnew (HV.out.fr (hk3.trans hf4) hB2)).mono fun _ _ hG => hG.fr (hk13.trans hf4) (hB.trans hB2)
        clear hF h4 hnew
        go_wp2_with fail
        refine HD.out.mono ?_
        rintro e w5 (⟨v, B5, u, hr, rfl, hk5, hB5, hp5, hv5⟩ | ⟨z, hr, rfl, hb5, hs5⟩)
        · obtain ⟨T1, y1, rfl⟩ := hv5.shape
          have HR : Hid (r.1 = .ok v) := hr
          clear hr
          go_wp2_with fail
          go_ret
          exact .inl ⟨v, B5, _, HR.out, rfl, hk5, hB5, hp5, hv5⟩
        · have HR : Hid (r.1 = .err z) := hr
          clear hr
          go_wp2_with fail
          exact ⟨rfl, .inr ⟨z, HR.out, rfl, hb5, hs5⟩⟩
  · have HF : Hid (r = (.err z, r1.2)) := by
      have := HE.out; rw [hr] at this; simp only [R.fn, Option.some.injEq] at this; exact this.symm
    clear hr HE
    go_wp2_with fail
    refine ⟨rfl, ?_⟩
    rw [HF.out]
    exact GPX.got ⟨rfl, hb1, hs1⟩
end Go.Proofs.YtjjlgjmebnkdjaaGreatDoor

namespace Go.Proofs.YtjjlgjmebnkdjaaGreatDoor
open Go Go.Proofs Go.RowKit Skein

theorem grown_setnew2 {w w1 : World} (h : w.grownBy w1 none) {k : Nat} (hk : w.heap.size ≤ k) (o : Nat) (v : Value) : w.grownBy (w1.setCell ⟨k, o, none⟩ v) none :=
  ⟨h.os, h.tape, h.output, by simp [World.setCell]; exact h.size, fun j hj hn => by
    rw [Below.heap_setCell _ _ _ _ (by show j ≠ k; omega)]; exact h.block j hj hn⟩

set_option maxRecDepth 100000 in
set_option maxHeartbeats 8000000 in
theorem clet (n : Nat) (hN : CC n) (m : Nat) (x y : T) {L : Nat} {S : E} {r : R × E} {env : List Nat} {b : Nat} {w : World} {B : List Nat} {st : Nat} {f : Nat} {c : Array Value} {sc : Value} (he : ev L n (.need y (env ++ [S.heap.length])) ⟨S.heap ++ [.wait x (env ++ [S.heap.length])], S.steps⟩ = some r)
    (h : PE b w B st L S) (hc : CodeAt st w (.letE m x y) f c) (hs : ScAt w B env sc) (hd : env.length + dep (.letE m x y) ≤ 1000) :
    Calls Tryz.prog f (#[sc] ++ c) w (GP b w B st L r) := by
  obtain ⟨rfl, k1, k2, f1, c1, f2, c2, rfl, h1, h2, hx, hy⟩ := hc
  obtain ⟨o, cap, rfl⟩ := hs.shape
  obtain ⟨e1, l1⟩ := h1.cell
  have hent := hy.ent
  have hb := h.blt
  have hg0 := grown_alloc (grown_refl w none) (.cells #[.int .i64 0, fnv f1 c1, .slice none 0 0, .nilIface] 194 (0, 0))
  have hit := alloc_at w (.cells #[.int .i64 0, fnv f1 c1, .slice none 0 0, .nilIface] 194 (0, 0)) _ rfl
  have hB2 : Ext B (B ++ [w.heap.size]) := Ext.app _ _
  have hnew : (B ++ [w.heap.size])[S.heap.length]? = some w.heap.size := by rw [← h.len]; simp
  have HW : Hid (Calls Tryz.prog 132 #[.slice o env.length cap, ptr w.heap.size] (w.alloc (.cells #[.int .i64 0, fnv f1 c1, .slice none 0 0, .nilIface] 194 (0, 0))) _) := with_ok (hs.fr (b := b) (Fr.grown hb hg0) hB2) hnew (by simp only [dep] at hd; omega)
  have HY : Hid (CodeAt st w y f2 c2) := hy
  have HX : Hid (CodeAt st w x f1 c1) := hx
  have H2 : Hid (Is1 w k2 (fnv f2 c2) 118) := h2
  have HE : Hid (ev L n (.need y (env ++ [S.heap.length])) ⟨S.heap ++ [.wait x (env ++ [S.heap.length])], S.steps⟩ = some r) := he
  clear h1 h2 hx hy hs he
  show Calls Tryz.prog 136 #[.slice o env.length cap, ptr k1, ptr k2] w _
  go_enter Tryz.func136, Tryz.ntmps136
  go_wp2_with fail
  refine HW.out.mono ?_
  rintro e w1 ⟨o1, n1, c1', rfl, hg1, hs1⟩
  have hit1 := keepB' hit hg1
  obtain ⟨t0, t1, t2, t3, tf, tlt⟩ := held_cells hit1
  have hgg := grown_setnew2 (grown_trans hg0 hg1) (Nat.le_refl w.heap.size) 2 (.slice o1 n1 c1')
  have hf2 : FP b w _ := Fr.grown hb hgg
  have hset : FP b w1 (w1.setCell ⟨w.heap.size, 2, none⟩ (.slice o1 n1 c1')) := Fr.set hit1 (.inl rfl) hb 2 _
  have hs2 := hs1.fr hset (Ext.refl _)
  have hit2 := RB.set hit1 2 (.slice o1 n1 c1')
  have hp2 := h.more hgg (.wait x (env ++ [S.heap.length])) w.heap.size (Nat.le_refl _) ⟨by simp only [dep] at hd; simp; omega, f1, c1, .slice o1 n1 c1', hit2, HX.out.fr hf2, hs2⟩
  obtain ⟨e2, l2⟩ := (H2.out.fr hf2 (by decide) (by decide)).cell
  have HC : Hid (∀ wd, World.grownBy (w1.setCell ⟨w.heap.size, 2, none⟩ (.slice o1 n1 c1')) wd none → Calls Tryz.prog f2 (#[.slice o1 n1 c1'] ++ c2) wd (GP b w B st L r)) := fun wd hg => (hN L y (env ++ [S.heap.length]) _ r b wd _ st f2 c2 _ HE.out (hp2.grown hg) ((HY.out.fr hf2).fr (b := b) (Fr.grown hp2.blt hg)) (hs2.fr (b := b) (Fr.grown hp2.blt hg) (Ext.refl _)) (by simp only [dep] at hd; simp; omega)).mono fun _ _ hG => hG.fr (hf2.trans (Fr.grown hp2.blt hg)) hB2
  obtain ⟨u0, u1, u2, u3, uf, ult⟩ := held_cells (s := .int .i64 0) (x := fnv f1 c1) (y := .slice o1 n1 c1') (z := .nilIface) hit2
  clear hp2 hit2 hit1 hs2 hset hf2 hgg hs1
  go_wp2_with fail
  generalize w1.setCell ⟨w.heap.size, 2, none⟩ (.slice o1 n1 c1') = W2 at u0 u1 u2 u3 uf ult e2 l2 HC ⊢
  go_region_with (first | (go_at_fn f2; refine (HC.out _ (by exact grown_same (grown_refl _ _) rfl rfl rfl rfl)).mono ?_; rintro e w5 (⟨v, B5, u, hr, rfl, hk5, hB5, hp5, hv5⟩ | ⟨z, hr, rfl, hb5, hs5⟩); rotate_left; exact ⟨rfl, .inr ⟨z, hr, rfl, hb5, hs5⟩⟩; obtain ⟨T1, y1, rfl⟩ := hv5.shape; have HR : Hid (r.1 = .ok v) := hr; clear hr))
  all_goals
    go_wp2_with fail
    go_ret
    exact .inl ⟨v, B5, _, HR.out, rfl, hk5, hB5, hp5, hv5⟩

set_option maxRecDepth 100000 in
set_option maxHeartbeats 8000000 in
theorem cite (n : Nat) (hN : CC n) (x y t : T) {L : Nat} {S : E} {r1 r : R × E} {env : List Nat} {b : Nat} {w : World} {B : List Nat} {st : Nat} {f : Nat} {c : Array Value} {sc : Value} (he1 : ev L n (.need x env) S = some r1)
    (he2 : (match r1.1.num with | .ok k => if k == 0 then ev L n (.need t env) r1.2 else ev L n (.need y env) r1.2 | .error e => some (.err e, r1.2)) = some r)
    (h : PE b w B st L S) (hc : CodeAt st w (.ite x y t) f c) (hs : ScAt w B env sc) (hd : env.length + dep (.ite x y t) ≤ 1000) :
    Calls Tryz.prog f (#[sc] ++ c) w (GP b w B st L r) := by
  obtain ⟨rfl, k1, k2, k3, f1, c1, f2, c2, f3, c3, rfl, h1, h2, h3, hx, hy, ht⟩ := hc
  obtain ⟨o, cap, rfl⟩ := hs.shape
  obtain ⟨e1, l1⟩ := h1.cell
  have hent := hx.ent
  have hent2 := hy.ent
  have hent3 := ht.ent
  have hdx : env.length + dep x ≤ 1000 := by simp only [dep] at hd; omega
  have hdy : env.length + dep y ≤ 1000 := by simp only [dep] at hd; omega
  have hdt : env.length + dep t ≤ 1000 := by simp only [dep] at hd; omega
  have HC : Hid (Calls Tryz.prog f1 (#[.slice o env.length cap] ++ c1) w (GP b w B st L r1)) := hN L x env S r1 b w B st f1 c1 _ he1 h hx hs hdx
  have H2 : Hid (Is1 w k2 (fnv f2 c2) 118) := h2
  have H3 : Hid (Is1 w k3 (fnv f3 c3) 118) := h3
  have HY : Hid (CodeAt st w y f2 c2) := hy
  have HT : Hid (CodeAt st w t f3 c3) := ht
  have HS : Hid (ScAt w B env (.slice o env.length cap)) := hs
  have HE : Hid ((match r1.1.num with | .ok k => if k == 0 then ev L n (.need t env) r1.2 else ev L n (.need y env) r1.2 | .error e => some (.err e, r1.2)) = some r) := he2
  clear h1 h2 h3 hx hy ht hs he1 he2
  show Calls Tryz.prog 137 #[.slice o env.length cap, ptr k1, ptr k2, ptr k3] w _
  go_enter Tryz.func137, Tryz.ntmps137
  go_wp2_with fail
  refine HC.out.mono ?_
  rintro e w1 (⟨v, B', u, hr, rfl, hk1, hB, hp1, hv⟩ | ⟨z, hr, rfl, hb1, hs1⟩)
  · obtain ⟨T1, x1, rfl⟩ := hv.shape
    rcases as_num_of hv with ⟨k, rfl, rfl, rfl⟩ | ⟨hno, hbad⟩
    · have HF : Hid ((if k == 0 then ev L n (.need t env) r1.2 else ev L n (.need y env) r1.2) = some r) := by
        have := HE.out; rw [hr] at this; exact this
      clear hv hr HE
      obtain ⟨e2, l2⟩ := (H2.out.fr hk1 (by decide) (by decide)).cell
      obtain ⟨e3, l3⟩ := (H3.out.fr hk1 (by decide) (by decide)).cell
      go_wp2_with fail
      refine (as_num k w1).mono ?_
      rintro e w2 ⟨rfl, rfl⟩
      cases hj : k == 0
      · have HD : Hid (Calls Tryz.prog f2 (#[.slice o env.length cap] ++ c2) w2 (GP b w B st L r)) := (hN L y env _ r b w2 B' st f2 c2 _ (by have := HF.out; rw [hj] at this; exact this) hp1 (HY.out.fr hk1) (HS.out.fr hk1 hB) hdy).mono fun _ _ hG => hG.fr hk1 hB
        have hj1 : (k != 0) = true := by simp [bne, hj]
        clear HF
        go_wp2_with fail
        refine HD.out.mono ?_
        rintro e w5 (⟨v, B5, u, hr, rfl, hk5, hB5, hp5, hv5⟩ | ⟨z, hr, rfl, hb5, hs5⟩)
        · obtain ⟨T1, y1, rfl⟩ := hv5.shape
          have HR : Hid (r.1 = .ok v) := hr
          clear hr
          go_wp2_with fail
          go_ret
          exact .inl ⟨v, B5, _, HR.out, rfl, hk5, hB5, hp5, hv5⟩
        · have HR : Hid (r.1 = .err z) := hr
          clear hr
          go_wp2_with fail
          exact ⟨rfl, .inr ⟨z, HR.out, rfl, hb5, hs5⟩⟩
      · have HD : Hid (Calls Tryz.prog f3 (#[.slice o env.length cap] ++ c3) w2 (GP b w B st L r)) := (hN L t env _ r b w2 B' st f3 c3 _ (by have := HF.out; rw [hj] at this; exact this) hp1 (HT.out.fr hk1) (HS.out.fr hk1 hB) hdt).mono fun _ _ hG => hG.fr hk1 hB
        have hj1 : (k != 0) = false := by simp [bne, hj]
        clear HF
        go_wp2_with fail
        refine HD.out.mono ?_
        rintro e w5 (⟨v, B5, u, hr, rfl, hk5, hB5, hp5, hv5⟩ | ⟨z, hr, rfl, hb5, hs5⟩)
        · obtain ⟨T1, y1, rfl⟩ := hv5.shape
          have HR : Hid (r.1 = .ok v) := hr
          clear hr
          go_wp2_with fail
          go_ret
          exact .inl ⟨v, B5, _, HR.out, rfl, hk5, hB5, hp5, hv5⟩
        · have HR : Hid (r.1 = .err z) := hr
          clear hr
          go_wp2_with fail
          exact ⟨rfl, .inr ⟨z, HR.out, rfl, hb5, hs5⟩⟩
    · have HF : Hid (r = (.err 5, r1.2)) := by
        have := HE.out; rw [hr, hbad] at this; simp only [Option.some.injEq] at this; exact this.symm
      have HN : Hid (∀ w, Calls Tryz.prog 138 #[.iface T1 x1] w fun e w' => e = .panicked (oops 5) ∧ w' = w) := hno
      clear hv hr HE hbad hno
      go_wp2_with fail
      refine (HN.out w1).mono ?_
      rintro e w2 ⟨rfl, rfl⟩
      go_wp2_with fail
      refine ⟨rfl, ?_⟩
      rw [HF.out]
      exact GPX.got ⟨rfl, hk1.below, hp1.steps⟩
  · have HF : Hid (r = (.err z, r1.2)) := by
      have := HE.out; rw [hr] at this; simp only [R.num, Option.some.injEq] at this; exact this.symm
    clear hr HE
    go_wp2_with fail
    refine ⟨rfl, ?_⟩
    rw [HF.out]
    exact GPX.got ⟨rfl, hb1, hs1⟩
end Go.Proofs.YtjjlgjmebnkdjaaGreatDoor
