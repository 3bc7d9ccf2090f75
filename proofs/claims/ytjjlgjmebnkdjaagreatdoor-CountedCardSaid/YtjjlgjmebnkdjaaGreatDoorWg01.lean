/-
  What is needed, in big steps: how what an expression comes to is put together.
  Functions that call themselves (for Counted): what the texts come to, for each count.
  A list without an end, of which a part is taken (for Counted): its text, for each count.
  Counted: what the program says of the three texts.
  Counted: the walk.
-/
import Derived.Test.YtjjlgjmebnkdjaaGreatDoorWc07
import Derived.KernelRfl
import Derived.Test.YtjjlgjmebnkdjaaGreatDoorWf01
import Derived.Test.YtjjlgjmebnkdjaaGreatDoorWf02
import Derived.Deep.QuietTactic
import Derived.BigQuiet
import Derived.Deep.Cut
import Derived.Deep.CutRange
namespace Skein
open Go

/-- From some fuel on, it comes to this. -/
def Ev (L : Nat) (j : J) (S : E) (r : R × E) : Prop := ∃ k, ∀ n, k ≤ n → ev L n j S = some r

section
variable {L : Nat} {env env' : List Nat} {S S1 S2 : E} {r : R × E}

theorem Ev.up {j : J} {k : Nat} (h : ∀ n, k ≤ n → ev L (n + 1) j S = some r) : Ev L j S r := ⟨k + 1, fun n hn => by
  obtain ⟨m, rfl⟩ : ∃ m, n = m + 1 := ⟨n - 1, by omega⟩
  exact h m (by omega)⟩
theorem nd_num (k : Nat) : Ev L (.need (.num k) env) S (.ok (.num k), S) := .up (k := 0) fun _ _ => rfl
theorem nd_nil : Ev L (.need .nil env) S (.ok .nil, S) := .up (k := 0) fun _ _ => rfl
theorem nd_fn (l : Nat) (b : T) : Ev L (.need (.fn l b) env) S (.ok (.fn b env), S) := .up (k := 0) fun _ _ => rfl
theorem nd_cons (a b : T) : Ev L (.need (.bin 58 a b) env) S (.ok (.cons S.heap.length (S.heap.length + 1)), ⟨S.heap ++ [.wait a env, .wait b env], S.steps⟩) := .up (k := 0) fun _ _ => rfl
theorem nd_var {i j : Nat} (hj : env[i]? = some j) (h : Ev L (.force j) S r) : Ev L (.need (.var i) env) S r := by
  obtain ⟨k, h⟩ := h
  refine .up (k := k) fun n hn => ?_
  rw [ev, hj]; exact h n hn
theorem nd_let {l : Nat} {a b : T} (h : Ev L (.need b (env ++ [S.heap.length])) ⟨S.heap ++ [.wait a (env ++ [S.heap.length])], S.steps⟩ r) : Ev L (.need (.letE l a b) env) S r := by
  obtain ⟨k, h⟩ := h
  refine .up (k := k) fun n hn => ?_
  rw [ev]; exact h n hn
theorem nd_app {a b b' : T} (ha : Ev L (.need a env) S (.ok (.fn b' env'), S1)) (hs : S1.steps < L) (h : Ev L (.need b' (env' ++ [S1.heap.length])) ⟨S1.heap ++ [.wait b env], S1.steps + 1⟩ r) : Ev L (.need (.app a b) env) S r := by
  obtain ⟨k, ha⟩ := ha
  obtain ⟨j, h⟩ := h
  refine .up (k := k + j) fun n hn => ?_
  rw [ev, ha n (by omega)]
  simp only [Option.bind_some, R.fn]
  rw [if_neg (by omega)]; exact h n (by omega)
theorem nd_app_lim {a b b' : T} (ha : Ev L (.need a env) S (.ok (.fn b' env'), S1)) (hs : L ≤ S1.steps) : Ev L (.need (.app a b) env) S (.err 8, S1) := by
  obtain ⟨k, ha⟩ := ha
  refine .up (k := k) fun n hn => ?_
  rw [ev, ha n (by omega)]
  simp only [Option.bind_some, R.fn]
  rw [if_pos hs]
theorem nd_bin {op : UInt8} (hop : (op == 58) = false) {a b : T} {x y : Int} (ha : Ev L (.need a env) S (.ok (.num x), S1)) (hb : Ev L (.need b env) S1 (.ok (.num y), S2)) : Ev L (.need (.bin op a b) env) S (.ok (.num (reck op x y)), S2) := by
  obtain ⟨k, ha⟩ := ha
  obtain ⟨j, hb⟩ := hb
  refine .up (k := k + j) fun n hn => ?_
  rw [ev, hop, if_neg Bool.false_ne_true, ha n (by omega)]
  simp only [Option.bind_some, R.num]
  rw [hb n (by omega)]; rfl
theorem nd_then {a b c : T} {x : Int} (ha : Ev L (.need a env) S (.ok (.num x), S1)) (hx : x ≠ 0) (h : Ev L (.need b env) S1 r) : Ev L (.need (.ite a b c) env) S r := by
  obtain ⟨k, ha⟩ := ha
  obtain ⟨j, h⟩ := h
  refine .up (k := k + j) fun n hn => ?_
  rw [ev, ha n (by omega)]
  simp only [Option.bind_some, R.num]
  rw [if_neg (by simpa using hx)]; exact h n (by omega)
theorem nd_else {a b c : T} (ha : Ev L (.need a env) S (.ok (.num 0), S1)) (h : Ev L (.need c env) S1 r) : Ev L (.need (.ite a b c) env) S r := by
  obtain ⟨k, ha⟩ := ha
  obtain ⟨j, h⟩ := h
  refine .up (k := k + j) fun n hn => ?_
  rw [ev, ha n (by omega)]
  simp only [Option.bind_some, R.num]
  rw [if_pos (by rfl)]; exact h n (by omega)
theorem nd_head {a : T} {i j : Nat} (ha : Ev L (.need a env) S (.ok (.cons i j), S1)) (h : Ev L (.force i) S1 r) : Ev L (.need (.un 104 a) env) S r := by
  obtain ⟨k, ha⟩ := ha
  obtain ⟨q, h⟩ := h
  refine .up (k := k + q) fun n hn => ?_
  rw [ev, ha n (by omega)]
  simp only [Option.bind_some, R.list]
  rw [if_neg (by decide), if_pos (by decide)]; exact h n (by omega)
theorem nd_tail {a : T} {i j : Nat} (ha : Ev L (.need a env) S (.ok (.cons i j), S1)) (h : Ev L (.force j) S1 r) : Ev L (.need (.un 116 a) env) S r := by
  obtain ⟨k, ha⟩ := ha
  obtain ⟨q, h⟩ := h
  refine .up (k := k + q) fun n hn => ?_
  rw [ev, ha n (by omega)]
  simp only [Option.bind_some, R.list]
  rw [if_neg (by decide), if_neg (by decide)]; exact h n (by omega)
theorem nd_null0 {a : T} {i j : Nat} (ha : Ev L (.need a env) S (.ok (.cons i j), S1)) : Ev L (.need (.un 110 a) env) S (.ok (.num 0), S1) := by
  obtain ⟨k, ha⟩ := ha
  refine .up (k := k) fun n hn => ?_
  rw [ev, ha n (by omega)]; rfl
theorem nd_null1 {a : T} (ha : Ev L (.need a env) S (.ok .nil, S1)) : Ev L (.need (.un 110 a) env) S (.ok (.num 1), S1) := by
  obtain ⟨k, ha⟩ := ha
  refine .up (k := k) fun n hn => ?_
  rw [ev, ha n (by omega)]; rfl
theorem fc_known {i : Nat} {v : V} (hi : S.heap[i]? = some (.known v)) : Ev L (.force i) S (.ok v, S) := by
  refine .up (k := 0) fun n hn => ?_
  rw [ev, hi]
theorem fc_wait {i : Nat} {x : T} {v : V} (hi : S.heap[i]? = some (.wait x env)) (h : Ev L (.need x env) ⟨S.heap.set i .busy, S.steps⟩ (.ok v, S1)) : Ev L (.force i) S (.ok v, ⟨S1.heap.set i (.known v), S1.steps⟩) := by
  obtain ⟨k, h⟩ := h
  refine .up (k := k) fun n hn => ?_
  rw [ev, hi]
  simp only
  rw [h n (by omega)]; rfl
theorem fc_bad {i : Nat} {x : T} {e : Int} (hi : S.heap[i]? = some (.wait x env)) (h : Ev L (.need x env) ⟨S.heap.set i .busy, S.steps⟩ (.err e, S1)) : Ev L (.force i) S (.err e, S1) := by
  obtain ⟨k, h⟩ := h
  refine .up (k := k) fun n hn => ?_
  rw [ev, hi]
  simp only
  rw [h n (by omega)]; rfl
end
end Skein

namespace Skein
open Go

def UP (d : Nat) : T := .fn (d + 1) (.bin 58 (.var (d + 1)) (.app (.var d) (.bin 43 (.var (d + 1)) (.num 1))))
def TAKE (d : Nat) : T := .fn (d + 1) (.fn (d + 2) (.ite (.var (d + 1)) (.bin 58 (.un 104 (.var (d + 2))) (.app (.app (.var d) (.bin 45 (.var (d + 1)) (.num 1))) (.un 116 (.var (d + 2))))) .nil))
def SUM (d : Nat) : T := .fn (d + 1) (.ite (.un 110 (.var (d + 1))) (.num 0) (.bin 43 (.un 104 (.var (d + 1))) (.app (.var d) (.un 116 (.var (d + 1))))))
def CNT (d : Nat) : T := .fn (d + 1) (.ite (.un 110 (.var (d + 1))) (.num 0) (.bin 43 (.num 1) (.app (.var d) (.un 116 (.var (d + 1))))))
def XT (k a : Nat) : T := .letE 0 (UP 0) (.letE 1 (TAKE 1) (.app (.app (.var 1) (.num k)) (.app (.var 0) (.num a))))
def YT (k a : Nat) : T := .letE 0 (UP 0) (.letE 1 (TAKE 1) (.letE 2 (SUM 2) (.app (.var 2) (.app (.app (.var 1) (.num k)) (.app (.var 0) (.num a))))))
def ZT (k a : Nat) : T := .letE 0 (CNT 0) (.letE 1 (UP 1) (.letE 2 (TAKE 2) (.app (.var 0) (.app (.app (.var 2) (.num k)) (.app (.var 1) (.num a))))))
/-- The number, if it is one. -/
def nv (o : Option (R × E)) : Option (Int × Nat) := match o with
  | some (.ok (.num z), S) => some (z, S.steps)
  | _ => none
def upN (a : Int) : Nat → Int | 0 => a | i + 1 => reck 43 (upN a i) 1
def ltx (num : Int → ByteArray) (a : Int) : Nat → ByteArray | 0 => ⟨#[91]⟩ ++ num a | i + 1 => ltx num a i ++ ⟨#[44, 32]⟩ ++ num (upN a (i + 1))
def sumN (a : Int) : Nat → Nat → Int | _, 0 => 0 | i, k + 1 => reck 43 (upN a i) (sumN a (i + 1) k)
def xv (num : Int → ByteArray) (fnT : ByteArray) (o : Option (R × E)) : Option (Except Int ByteArray) := o.bind fun r => match r.1 with
  | .ok v => (tell 500 num fnT 100 (.val v) r.2).map (·.1)
  | .err _ => none
def ltext (num : Int → ByteArray) (a : Int) : Nat → ByteArray | 0 => ⟨#[91, 93]⟩ | k + 1 => ltx num a k ++ ⟨#[93]⟩
theorem czz0 (a : Nat) : (nv (ev 500 400 (.need (ZT 0 a) []) ⟨[], 0⟩)).map (·.1) = some ((0 : Nat) : Int) := by kernel_rfl
theorem czz1 (a : Nat) : (nv (ev 500 400 (.need (ZT 1 a) []) ⟨[], 0⟩)).map (·.1) = some ((1 : Nat) : Int) := by kernel_rfl
theorem czz2 (a : Nat) : (nv (ev 500 400 (.need (ZT 2 a) []) ⟨[], 0⟩)).map (·.1) = some ((2 : Nat) : Int) := by kernel_rfl
theorem czz3 (a : Nat) : (nv (ev 500 400 (.need (ZT 3 a) []) ⟨[], 0⟩)).map (·.1) = some ((3 : Nat) : Int) := by kernel_rfl
theorem czz4 (a : Nat) : (nv (ev 500 400 (.need (ZT 4 a) []) ⟨[], 0⟩)).map (·.1) = some ((4 : Nat) : Int) := by kernel_rfl
theorem czz5 (a : Nat) : (nv (ev 500 400 (.need (ZT 5 a) []) ⟨[], 0⟩)).map (·.1) = some ((5 : Nat) : Int) := by kernel_rfl
theorem czz6 (a : Nat) : (nv (ev 500 400 (.need (ZT 6 a) []) ⟨[], 0⟩)).map (·.1) = some ((6 : Nat) : Int) := by kernel_rfl
theorem czz7 (a : Nat) : (nv (ev 500 400 (.need (ZT 7 a) []) ⟨[], 0⟩)).map (·.1) = some ((7 : Nat) : Int) := by kernel_rfl
theorem czz8 (a : Nat) : (nv (ev 500 400 (.need (ZT 8 a) []) ⟨[], 0⟩)).map (·.1) = some ((8 : Nat) : Int) := by kernel_rfl
theorem czz9 (a : Nat) : (nv (ev 500 400 (.need (ZT 9 a) []) ⟨[], 0⟩)).map (·.1) = some ((9 : Nat) : Int) := by kernel_rfl
theorem czz10 (a : Nat) : (nv (ev 500 400 (.need (ZT 10 a) []) ⟨[], 0⟩)).map (·.1) = some ((10 : Nat) : Int) := by kernel_rfl
theorem czz11 (a : Nat) : (nv (ev 500 400 (.need (ZT 11 a) []) ⟨[], 0⟩)).map (·.1) = some ((11 : Nat) : Int) := by kernel_rfl
theorem czz12 (a : Nat) : (nv (ev 500 400 (.need (ZT 12 a) []) ⟨[], 0⟩)).map (·.1) = some ((12 : Nat) : Int) := by kernel_rfl
theorem czz13 (a : Nat) : (nv (ev 500 400 (.need (ZT 13 a) []) ⟨[], 0⟩)).map (·.1) = some ((13 : Nat) : Int) := by kernel_rfl
theorem czz14 (a : Nat) : (nv (ev 500 400 (.need (ZT 14 a) []) ⟨[], 0⟩)).map (·.1) = some ((14 : Nat) : Int) := by kernel_rfl
theorem czz15 (a : Nat) : (nv (ev 500 400 (.need (ZT 15 a) []) ⟨[], 0⟩)).map (·.1) = some ((15 : Nat) : Int) := by kernel_rfl
theorem czz16 (a : Nat) : (nv (ev 500 400 (.need (ZT 16 a) []) ⟨[], 0⟩)).map (·.1) = some ((16 : Nat) : Int) := by kernel_rfl
theorem czz17 (a : Nat) : (nv (ev 500 400 (.need (ZT 17 a) []) ⟨[], 0⟩)).map (·.1) = some ((17 : Nat) : Int) := by kernel_rfl
theorem czz18 (a : Nat) : (nv (ev 500 400 (.need (ZT 18 a) []) ⟨[], 0⟩)).map (·.1) = some ((18 : Nat) : Int) := by kernel_rfl
theorem czz19 (a : Nat) : (nv (ev 500 400 (.need (ZT 19 a) []) ⟨[], 0⟩)).map (·.1) = some ((19 : Nat) : Int) := by kernel_rfl
theorem czz20 (a : Nat) : (nv (ev 500 400 (.need (ZT 20 a) []) ⟨[], 0⟩)).map (·.1) = some ((20 : Nat) : Int) := by kernel_rfl
theorem czz21 (a : Nat) : (nv (ev 500 400 (.need (ZT 21 a) []) ⟨[], 0⟩)).map (·.1) = some ((21 : Nat) : Int) := by kernel_rfl
theorem czz22 (a : Nat) : (nv (ev 500 400 (.need (ZT 22 a) []) ⟨[], 0⟩)).map (·.1) = some ((22 : Nat) : Int) := by kernel_rfl
theorem czz23 (a : Nat) : (nv (ev 500 400 (.need (ZT 23 a) []) ⟨[], 0⟩)).map (·.1) = some ((23 : Nat) : Int) := by kernel_rfl
theorem czz24 (a : Nat) : (nv (ev 500 400 (.need (ZT 24 a) []) ⟨[], 0⟩)).map (·.1) = some ((24 : Nat) : Int) := by kernel_rfl
theorem czz (k : Nat) (hk : k < 25) (a : Nat) : (nv (ev 500 400 (.need (ZT k a) []) ⟨[], 0⟩)).map (·.1) = some (k : Int) := by
  have h : k = 0 ∨ k = 1 ∨ k = 2 ∨ k = 3 ∨ k = 4 ∨ k = 5 ∨ k = 6 ∨ k = 7 ∨ k = 8 ∨ k = 9 ∨ k = 10 ∨ k = 11 ∨ k = 12 ∨ k = 13 ∨ k = 14 ∨ k = 15 ∨ k = 16 ∨ k = 17 ∨ k = 18 ∨ k = 19 ∨ k = 20 ∨ k = 21 ∨ k = 22 ∨ k = 23 ∨ k = 24 := by omega
  rcases h with rfl | rfl | rfl | rfl | rfl | rfl | rfl | rfl | rfl | rfl | rfl | rfl | rfl | rfl | rfl | rfl | rfl | rfl | rfl | rfl | rfl | rfl | rfl | rfl | rfl
  · exact czz0 a
  · exact czz1 a
  · exact czz2 a
  · exact czz3 a
  · exact czz4 a
  · exact czz5 a
  · exact czz6 a
  · exact czz7 a
  · exact czz8 a
  · exact czz9 a
  · exact czz10 a
  · exact czz11 a
  · exact czz12 a
  · exact czz13 a
  · exact czz14 a
  · exact czz15 a
  · exact czz16 a
  · exact czz17 a
  · exact czz18 a
  · exact czz19 a
  · exact czz20 a
  · exact czz21 a
  · exact czz22 a
  · exact czz23 a
  · exact czz24 a
theorem cyy0 (a : Nat) : (nv (ev 500 400 (.need (YT 0 a) []) ⟨[], 0⟩)).map (·.1) = some (sumN a 0 0) := by kernel_rfl
theorem cyy1 (a : Nat) : (nv (ev 500 400 (.need (YT 1 a) []) ⟨[], 0⟩)).map (·.1) = some (sumN a 0 1) := by kernel_rfl
theorem cyy2 (a : Nat) : (nv (ev 500 400 (.need (YT 2 a) []) ⟨[], 0⟩)).map (·.1) = some (sumN a 0 2) := by kernel_rfl
theorem cyy3 (a : Nat) : (nv (ev 500 400 (.need (YT 3 a) []) ⟨[], 0⟩)).map (·.1) = some (sumN a 0 3) := by kernel_rfl
theorem cyy4 (a : Nat) : (nv (ev 500 400 (.need (YT 4 a) []) ⟨[], 0⟩)).map (·.1) = some (sumN a 0 4) := by kernel_rfl
theorem cyy5 (a : Nat) : (nv (ev 500 400 (.need (YT 5 a) []) ⟨[], 0⟩)).map (·.1) = some (sumN a 0 5) := by kernel_rfl
theorem cyy6 (a : Nat) : (nv (ev 500 400 (.need (YT 6 a) []) ⟨[], 0⟩)).map (·.1) = some (sumN a 0 6) := by kernel_rfl
theorem cyy7 (a : Nat) : (nv (ev 500 400 (.need (YT 7 a) []) ⟨[], 0⟩)).map (·.1) = some (sumN a 0 7) := by kernel_rfl
theorem cyy8 (a : Nat) : (nv (ev 500 400 (.need (YT 8 a) []) ⟨[], 0⟩)).map (·.1) = some (sumN a 0 8) := by kernel_rfl
theorem cyy9 (a : Nat) : (nv (ev 500 400 (.need (YT 9 a) []) ⟨[], 0⟩)).map (·.1) = some (sumN a 0 9) := by kernel_rfl
theorem cyy10 (a : Nat) : (nv (ev 500 400 (.need (YT 10 a) []) ⟨[], 0⟩)).map (·.1) = some (sumN a 0 10) := by kernel_rfl
theorem cyy11 (a : Nat) : (nv (ev 500 400 (.need (YT 11 a) []) ⟨[], 0⟩)).map (·.1) = some (sumN a 0 11) := by kernel_rfl
theorem cyy12 (a : Nat) : (nv (ev 500 400 (.need (YT 12 a) []) ⟨[], 0⟩)).map (·.1) = some (sumN a 0 12) := by kernel_rfl
theorem cyy13 (a : Nat) : (nv (ev 500 400 (.need (YT 13 a) []) ⟨[], 0⟩)).map (·.1) = some (sumN a 0 13) := by kernel_rfl
theorem cyy14 (a : Nat) : (nv (ev 500 400 (.need (YT 14 a) []) ⟨[], 0⟩)).map (·.1) = some (sumN a 0 14) := by kernel_rfl
theorem cyy15 (a : Nat) : (nv (ev 500 400 (.need (YT 15 a) []) ⟨[], 0⟩)).map (·.1) = some (sumN a 0 15) := by kernel_rfl
theorem cyy16 (a : Nat) : (nv (ev 500 400 (.need (YT 16 a) []) ⟨[], 0⟩)).map (·.1) = some (sumN a 0 16) := by kernel_rfl
theorem cyy17 (a : Nat) : (nv (ev 500 400 (.need (YT 17 a) []) ⟨[], 0⟩)).map (·.1) = some (sumN a 0 17) := by kernel_rfl
theorem cyy18 (a : Nat) : (nv (ev 500 400 (.need (YT 18 a) []) ⟨[], 0⟩)).map (·.1) = some (sumN a 0 18) := by kernel_rfl
theorem cyy19 (a : Nat) : (nv (ev 500 400 (.need (YT 19 a) []) ⟨[], 0⟩)).map (·.1) = some (sumN a 0 19) := by kernel_rfl
theorem cyy20 (a : Nat) : (nv (ev 500 400 (.need (YT 20 a) []) ⟨[], 0⟩)).map (·.1) = some (sumN a 0 20) := by kernel_rfl
theorem cyy21 (a : Nat) : (nv (ev 500 400 (.need (YT 21 a) []) ⟨[], 0⟩)).map (·.1) = some (sumN a 0 21) := by kernel_rfl
theorem cyy22 (a : Nat) : (nv (ev 500 400 (.need (YT 22 a) []) ⟨[], 0⟩)).map (·.1) = some (sumN a 0 22) := by kernel_rfl
theorem cyy23 (a : Nat) : (nv (ev 500 400 (.need (YT 23 a) []) ⟨[], 0⟩)).map (·.1) = some (sumN a 0 23) := by kernel_rfl
theorem cyy24 (a : Nat) : (nv (ev 500 400 (.need (YT 24 a) []) ⟨[], 0⟩)).map (·.1) = some (sumN a 0 24) := by kernel_rfl
theorem cyy (k : Nat) (hk : k < 25) (a : Nat) : (nv (ev 500 400 (.need (YT k a) []) ⟨[], 0⟩)).map (·.1) = some (sumN a 0 k) := by
  have h : k = 0 ∨ k = 1 ∨ k = 2 ∨ k = 3 ∨ k = 4 ∨ k = 5 ∨ k = 6 ∨ k = 7 ∨ k = 8 ∨ k = 9 ∨ k = 10 ∨ k = 11 ∨ k = 12 ∨ k = 13 ∨ k = 14 ∨ k = 15 ∨ k = 16 ∨ k = 17 ∨ k = 18 ∨ k = 19 ∨ k = 20 ∨ k = 21 ∨ k = 22 ∨ k = 23 ∨ k = 24 := by omega
  rcases h with rfl | rfl | rfl | rfl | rfl | rfl | rfl | rfl | rfl | rfl | rfl | rfl | rfl | rfl | rfl | rfl | rfl | rfl | rfl | rfl | rfl | rfl | rfl | rfl | rfl
  · exact cyy0 a
  · exact cyy1 a
  · exact cyy2 a
  · exact cyy3 a
  · exact cyy4 a
  · exact cyy5 a
  · exact cyy6 a
  · exact cyy7 a
  · exact cyy8 a
  · exact cyy9 a
  · exact cyy10 a
  · exact cyy11 a
  · exact cyy12 a
  · exact cyy13 a
  · exact cyy14 a
  · exact cyy15 a
  · exact cyy16 a
  · exact cyy17 a
  · exact cyy18 a
  · exact cyy19 a
  · exact cyy20 a
  · exact cyy21 a
  · exact cyy22 a
  · exact cyy23 a
  · exact cyy24 a
end Skein

namespace Skein
open Go

theorem cxx0 (num : Int → ByteArray) (fnT : ByteArray) (a : Nat) : xv num fnT (ev 500 400 (.need (XT 0 a) []) ⟨[], 0⟩) = some (.ok (ltext num a 0)) := by kernel_rfl
theorem cxx1 (num : Int → ByteArray) (fnT : ByteArray) (a : Nat) : xv num fnT (ev 500 400 (.need (XT 1 a) []) ⟨[], 0⟩) = some (.ok (ltext num a 1)) := by kernel_rfl
theorem cxx2 (num : Int → ByteArray) (fnT : ByteArray) (a : Nat) : xv num fnT (ev 500 400 (.need (XT 2 a) []) ⟨[], 0⟩) = some (.ok (ltext num a 2)) := by kernel_rfl
theorem cxx3 (num : Int → ByteArray) (fnT : ByteArray) (a : Nat) : xv num fnT (ev 500 400 (.need (XT 3 a) []) ⟨[], 0⟩) = some (.ok (ltext num a 3)) := by kernel_rfl
theorem cxx4 (num : Int → ByteArray) (fnT : ByteArray) (a : Nat) : xv num fnT (ev 500 400 (.need (XT 4 a) []) ⟨[], 0⟩) = some (.ok (ltext num a 4)) := by kernel_rfl
theorem cxx5 (num : Int → ByteArray) (fnT : ByteArray) (a : Nat) : xv num fnT (ev 500 400 (.need (XT 5 a) []) ⟨[], 0⟩) = some (.ok (ltext num a 5)) := by kernel_rfl
theorem cxx6 (num : Int → ByteArray) (fnT : ByteArray) (a : Nat) : xv num fnT (ev 500 400 (.need (XT 6 a) []) ⟨[], 0⟩) = some (.ok (ltext num a 6)) := by kernel_rfl
theorem cxx7 (num : Int → ByteArray) (fnT : ByteArray) (a : Nat) : xv num fnT (ev 500 400 (.need (XT 7 a) []) ⟨[], 0⟩) = some (.ok (ltext num a 7)) := by kernel_rfl
theorem cxx8 (num : Int → ByteArray) (fnT : ByteArray) (a : Nat) : xv num fnT (ev 500 400 (.need (XT 8 a) []) ⟨[], 0⟩) = some (.ok (ltext num a 8)) := by kernel_rfl
theorem cxx9 (num : Int → ByteArray) (fnT : ByteArray) (a : Nat) : xv num fnT (ev 500 400 (.need (XT 9 a) []) ⟨[], 0⟩) = some (.ok (ltext num a 9)) := by kernel_rfl
theorem cxx10 (num : Int → ByteArray) (fnT : ByteArray) (a : Nat) : xv num fnT (ev 500 400 (.need (XT 10 a) []) ⟨[], 0⟩) = some (.ok (ltext num a 10)) := by kernel_rfl
theorem cxx11 (num : Int → ByteArray) (fnT : ByteArray) (a : Nat) : xv num fnT (ev 500 400 (.need (XT 11 a) []) ⟨[], 0⟩) = some (.ok (ltext num a 11)) := by kernel_rfl
theorem cxx12 (num : Int → ByteArray) (fnT : ByteArray) (a : Nat) : xv num fnT (ev 500 400 (.need (XT 12 a) []) ⟨[], 0⟩) = some (.ok (ltext num a 12)) := by kernel_rfl
theorem cxx13 (num : Int → ByteArray) (fnT : ByteArray) (a : Nat) : xv num fnT (ev 500 400 (.need (XT 13 a) []) ⟨[], 0⟩) = some (.ok (ltext num a 13)) := by kernel_rfl
theorem cxx14 (num : Int → ByteArray) (fnT : ByteArray) (a : Nat) : xv num fnT (ev 500 400 (.need (XT 14 a) []) ⟨[], 0⟩) = some (.ok (ltext num a 14)) := by kernel_rfl
theorem cxx15 (num : Int → ByteArray) (fnT : ByteArray) (a : Nat) : xv num fnT (ev 500 400 (.need (XT 15 a) []) ⟨[], 0⟩) = some (.ok (ltext num a 15)) := by kernel_rfl
theorem cxx16 (num : Int → ByteArray) (fnT : ByteArray) (a : Nat) : xv num fnT (ev 500 400 (.need (XT 16 a) []) ⟨[], 0⟩) = some (.ok (ltext num a 16)) := by kernel_rfl
theorem cxx17 (num : Int → ByteArray) (fnT : ByteArray) (a : Nat) : xv num fnT (ev 500 400 (.need (XT 17 a) []) ⟨[], 0⟩) = some (.ok (ltext num a 17)) := by kernel_rfl
theorem cxx18 (num : Int → ByteArray) (fnT : ByteArray) (a : Nat) : xv num fnT (ev 500 400 (.need (XT 18 a) []) ⟨[], 0⟩) = some (.ok (ltext num a 18)) := by kernel_rfl
theorem cxx19 (num : Int → ByteArray) (fnT : ByteArray) (a : Nat) : xv num fnT (ev 500 400 (.need (XT 19 a) []) ⟨[], 0⟩) = some (.ok (ltext num a 19)) := by kernel_rfl
theorem cxx20 (num : Int → ByteArray) (fnT : ByteArray) (a : Nat) : xv num fnT (ev 500 400 (.need (XT 20 a) []) ⟨[], 0⟩) = some (.ok (ltext num a 20)) := by kernel_rfl
theorem cxx21 (num : Int → ByteArray) (fnT : ByteArray) (a : Nat) : xv num fnT (ev 500 400 (.need (XT 21 a) []) ⟨[], 0⟩) = some (.ok (ltext num a 21)) := by kernel_rfl
theorem cxx22 (num : Int → ByteArray) (fnT : ByteArray) (a : Nat) : xv num fnT (ev 500 400 (.need (XT 22 a) []) ⟨[], 0⟩) = some (.ok (ltext num a 22)) := by kernel_rfl
theorem cxx23 (num : Int → ByteArray) (fnT : ByteArray) (a : Nat) : xv num fnT (ev 500 400 (.need (XT 23 a) []) ⟨[], 0⟩) = some (.ok (ltext num a 23)) := by kernel_rfl
theorem cxx24 (num : Int → ByteArray) (fnT : ByteArray) (a : Nat) : xv num fnT (ev 500 400 (.need (XT 24 a) []) ⟨[], 0⟩) = some (.ok (ltext num a 24)) := by kernel_rfl
theorem cxx (k : Nat) (hk : k < 25) (num : Int → ByteArray) (fnT : ByteArray) (a : Nat) : xv num fnT (ev 500 400 (.need (XT k a) []) ⟨[], 0⟩) = some (.ok (ltext num a k)) := by
  have h : k = 0 ∨ k = 1 ∨ k = 2 ∨ k = 3 ∨ k = 4 ∨ k = 5 ∨ k = 6 ∨ k = 7 ∨ k = 8 ∨ k = 9 ∨ k = 10 ∨ k = 11 ∨ k = 12 ∨ k = 13 ∨ k = 14 ∨ k = 15 ∨ k = 16 ∨ k = 17 ∨ k = 18 ∨ k = 19 ∨ k = 20 ∨ k = 21 ∨ k = 22 ∨ k = 23 ∨ k = 24 := by omega
  rcases h with rfl | rfl | rfl | rfl | rfl | rfl | rfl | rfl | rfl | rfl | rfl | rfl | rfl | rfl | rfl | rfl | rfl | rfl | rfl | rfl | rfl | rfl | rfl | rfl | rfl
  · exact cxx0 num fnT a
  · exact cxx1 num fnT a
  · exact cxx2 num fnT a
  · exact cxx3 num fnT a
  · exact cxx4 num fnT a
  · exact cxx5 num fnT a
  · exact cxx6 num fnT a
  · exact cxx7 num fnT a
  · exact cxx8 num fnT a
  · exact cxx9 num fnT a
  · exact cxx10 num fnT a
  · exact cxx11 num fnT a
  · exact cxx12 num fnT a
  · exact cxx13 num fnT a
  · exact cxx14 num fnT a
  · exact cxx15 num fnT a
  · exact cxx16 num fnT a
  · exact cxx17 num fnT a
  · exact cxx18 num fnT a
  · exact cxx19 num fnT a
  · exact cxx20 num fnT a
  · exact cxx21 num fnT a
  · exact cxx22 num fnT a
  · exact cxx23 num fnT a
  · exact cxx24 num fnT a
end Skein

namespace Go.Proofs.YtjjlgjmebnkdjaaGreatDoor
open Go Go.Proofs Go.RowKit Skein

theorem ct_fin (A B C : List Pc) (dk da : List UInt8) (hk : (Pc.num dk).ok = true) (ha : (Pc.num da).ok = true) (hA : ∀ nx, fin A nx = true) (hB : ∀ nx, fin B nx = true) (hC : fin C none = true) (hb : ∀ l, halt (firstN (B ++ l) none) = true) (hc : halt (firstN C none) = true) :
    fin (A ++ (.num dk :: (B ++ (.num da :: C)))) none = true := by
  refine fin_app _ _ _ (hA _) ?_
  simp only [fin, Bool.and_eq_true, Bool.or_eq_true]
  refine ⟨⟨hk, .inr (hb _)⟩, fin_app _ _ _ (hB _) ?_⟩
  simp only [fin, Bool.and_eq_true, Bool.or_eq_true]
  exact ⟨⟨ha, .inr hc⟩, hC⟩
theorem ct_num {n : Nat} (h : n < 1000000) : (Pc.num (Lib.decDigits n)).ok = true ∧ val ⟨(Lib.decDigits n).toArray⟩ = n ∧ (Lib.decDigits n).length ≤ 6 := by
  obtain ⟨h1, h2, h3⟩ := dd_all n
  have hl := dd_len 5 n h
  refine ⟨?_, h3, hl⟩
  simp only [Pc.ok, Bool.and_eq_true, Bool.not_eq_true', List.isEmpty_eq_false_iff, decide_eq_true_eq, List.all_eq_true]
  exact ⟨⟨h2, by omega⟩, h1⟩
theorem sdig_nat (n : Nat) : sdig (n : Int) = ⟨(Lib.decDigits n).toArray⟩ := by unfold sdig; rw [Lib.itoa_nonneg]

def ctTake : ByteArray := ⟨#[108, 101, 116, 32, 117, 112, 32, 61, 32, 92, 110, 46, 32, 110, 32, 58, 32, 117, 112, 32, 40, 110, 32, 43, 32, 49, 41, 32, 105, 110, 32, 108, 101, 116, 32, 116, 97, 107, 101, 32, 61, 32, 92, 107, 46, 32, 92, 108, 46, 32, 105, 102, 32, 107, 32, 116, 104, 101, 110, 32, 104, 101, 97, 100, 32, 108, 32, 58, 32, 116, 97, 107, 101, 32, 40, 107, 32, 45, 32, 49, 41, 32, 40, 116, 97, 105, 108, 32, 108, 41, 32, 101, 108, 115, 101, 32, 91, 93, 32, 105, 110, 32]⟩
def ctFold : ByteArray := ⟨#[108, 101, 116, 32, 115, 117, 109, 32, 61, 32, 92, 108, 46, 32, 105, 102, 32, 110, 117, 108, 108, 32, 108, 32, 116, 104, 101, 110, 32, 48, 32, 101, 108, 115, 101, 32, 104, 101, 97, 100, 32, 108, 32, 43, 32, 115, 117, 109, 32, 40, 116, 97, 105, 108, 32, 108, 41, 32, 105, 110, 32]⟩
def ctN : ByteArray := ⟨#[108, 101, 116, 32, 110, 32, 61, 32, 92, 108, 46, 32, 105, 102, 32, 110, 117, 108, 108, 32, 108, 32, 116, 104, 101, 110, 32, 48, 32, 101, 108, 115, 101, 32, 49, 32, 43, 32, 110, 32, 40, 116, 97, 105, 108, 32, 108, 41, 32, 105, 110, 32]⟩
def ctTakeP : List Pc := [.word [108, 101, 116], .blank 32, .word [117, 112], .blank 32, .mark 61, .blank 32, .mark 92, .word [110], .mark 46, .blank 32, .word [110], .blank 32, .mark 58, .blank 32, .word [117, 112], .blank 32, .mark 40, .word [110], .blank 32, .mark 43, .blank 32, .num [49], .mark 41, .blank 32, .word [105, 110], .blank 32, .word [108, 101, 116], .blank 32, .word [116, 97, 107, 101], .blank 32, .mark 61, .blank 32, .mark 92, .word [107], .mark 46, .blank 32, .mark 92, .word [108], .mark 46, .blank 32, .word [105, 102], .blank 32, .word [107], .blank 32, .word [116, 104, 101, 110], .blank 32, .word [104, 101, 97, 100], .blank 32, .word [108], .blank 32, .mark 58, .blank 32, .word [116, 97, 107, 101], .blank 32, .mark 40, .word [107], .blank 32, .mark 45, .blank 32, .num [49], .mark 41, .blank 32, .mark 40, .word [116, 97, 105, 108], .blank 32, .word [108], .mark 41, .blank 32, .word [101, 108, 115, 101], .blank 32, .nil, .blank 32, .word [105, 110], .blank 32]
def ctFoldP : List Pc := [.word [108, 101, 116], .blank 32, .word [115, 117, 109], .blank 32, .mark 61, .blank 32, .mark 92, .word [108], .mark 46, .blank 32, .word [105, 102], .blank 32, .word [110, 117, 108, 108], .blank 32, .word [108], .blank 32, .word [116, 104, 101, 110], .blank 32, .num [48], .blank 32, .word [101, 108, 115, 101], .blank 32, .word [104, 101, 97, 100], .blank 32, .word [108], .blank 32, .mark 43, .blank 32, .word [115, 117, 109], .blank 32, .mark 40, .word [116, 97, 105, 108], .blank 32, .word [108], .mark 41, .blank 32, .word [105, 110], .blank 32]
def ctNP : List Pc := [.word [108, 101, 116], .blank 32, .word [110], .blank 32, .mark 61, .blank 32, .mark 92, .word [108], .mark 46, .blank 32, .word [105, 102], .blank 32, .word [110, 117, 108, 108], .blank 32, .word [108], .blank 32, .word [116, 104, 101, 110], .blank 32, .num [48], .blank 32, .word [101, 108, 115, 101], .blank 32, .num [49], .blank 32, .mark 43, .blank 32, .word [110], .blank 32, .mark 40, .word [116, 97, 105, 108], .blank 32, .word [108], .mark 41, .blank 32, .word [105, 110], .blank 32]

theorem ct_t1 : flat ctTakeP = ctTake.data.toList := by kernel_rfl
theorem ct_t2 : flat ctFoldP = ctFold.data.toList := by kernel_rfl
theorem ct_t3 : flat ctNP = ctN.data.toList := by kernel_rfl

theorem runs_x {k : Nat} (hk : k < 25) (a : Nat) : ∃ m, Runs 500 (XT k a) (.ok (Skein.ltext numT a k)) m := by
  have h := cxx k hk numT fnText a
  unfold xv at h
  obtain ⟨⟨r, S⟩, h1, h2⟩ := Option.bind_eq_some_iff.1 h
  cases r with
  | err z => cases h2
  | ok v =>
    obtain ⟨q, h3, h4⟩ := Option.map_eq_some_iff.1 h2
    exact ⟨q.2.steps, 400, _, h1, .inr ⟨v, 100, q, rfl, h3, h4.symm, rfl⟩⟩
theorem runs_nv {t : T} {z : Int} (h : (nv (ev 500 400 (.need t []) ⟨[], 0⟩)).map (·.1) = some z) (hz : Skein.Int64 z) : ∃ m, Runs 500 t (.ok (sdig z)) m := by
  obtain ⟨⟨y, st⟩, h1, rfl⟩ := Option.map_eq_some_iff.1 h
  rcases hr : ev 500 400 (.need t []) ⟨[], 0⟩ with _ | ⟨r, S⟩
  · rw [hr] at h1; cases h1
  · rw [hr] at h1
    rcases r with v | e
    · cases v with
      | num q =>
        simp only [nv, Option.some.injEq, Prod.mk.injEq] at h1
        obtain ⟨rfl, rfl⟩ := h1
        exact ⟨S.steps, 400, _, hr, .inr ⟨.num q, 1, (.ok (numT q), S), rfl, rfl, by rw [numT_in hz], rfl⟩⟩
      | fn b e => cases h1
      | nil => cases h1
      | cons i j => cases h1
    · cases h1

theorem upN_is {a : Nat} (ha : a < 1000) : ∀ i, i ≤ 30 → upN a i = (a : Int) + i := by
  intro i
  induction i with
  | zero => intro _; simp [upN]
  | succ i ih =>
    intro hi
    show IntKind.wrap .i64 (upN a i + 1) = _
    rw [ih (by omega), wrap_eq, IntWalk.wrap64_in _ ⟨by omega, by omega⟩]; omega
def sumG (a : Int) : Nat → Int | 0 => 0 | i + 1 => sumG a i + a + i
theorem sumG_in {a : Nat} (ha : a < 1000) : ∀ i, i ≤ 25 → 0 ≤ sumG a i ∧ sumG a i ≤ i * 2000 := by
  intro i
  induction i with
  | zero => intro _; simp [sumG]
  | succ i ih => intro hi; have := ih (by omega); simp only [sumG]; omega
theorem sumN_is {a : Nat} (ha : a < 1000) : ∀ k i, i + k ≤ 25 → sumN a i k = sumG a (i + k) - sumG a i := by
  intro k
  induction k with
  | zero => intro i _; simp [sumN]
  | succ k ih =>
    intro i hi
    have h1 := sumG_in ha (i + (k + 1)) hi
    have h2 := sumG_in ha i (by omega)
    show IntKind.wrap .i64 (upN a i + sumN a (i + 1) k) = _
    rw [ih (i + 1) (by omega), upN_is ha i (by omega), show i + 1 + k = i + (k + 1) by omega]
    have e : sumG a (i + 1) = sumG a i + a + i := rfl
    rw [e, wrap_eq, IntWalk.wrap64_in _ ⟨by omega, by omega⟩]; omega
theorem sum_is {a : Nat} (ha : a < 1000) (k : Nat) (hk : k ≤ 25) : sumN a 0 k = sumG a k := by
  have := sumN_is ha k 0 (by omega)
  rw [this, Nat.zero_add]
  show sumG a k - 0 = _
  omega

/-- What the loop has laid. -/
def lst (a : Nat) : Nat → ByteArray | 0 => ⟨#[91]⟩ | i + 1 => ltx numT a i
theorem lst_one {a : Nat} (ha : a < 1000) : lst a 1 = ⟨#[91]⟩ ++ sdig (a : Int) := by
  show ⟨#[91]⟩ ++ numT a = _
  rw [numT_in ⟨by omega, by omega⟩]
theorem lst_more {a : Nat} (ha : a < 1000) {i : Nat} (hi : i + 1 < 25) : lst a (i + 2) = lst a (i + 1) ++ ⟨#[44, 32]⟩ ++ sdig ((a : Int) + ((i + 1 : Nat) : Int)) := by
  show ltx numT a i ++ ⟨#[44, 32]⟩ ++ numT (upN a (i + 1)) = _
  rw [upN_is ha _ (by omega), numT_in ⟨by omega, by omega⟩]; rfl
theorem lst_end (a k : Nat) : lst a k ++ ⟨#[93]⟩ = Skein.ltext numT a k := by cases k <;> rfl

theorem ct_x {k a : Nat} (hk : k < 25) (ha : a < 1000) : ∃ m : Nat, ∀ w, Tab w → Calls Tryz.prog 20 #[.string (ctTake ++ (⟨#[116, 97, 107, 101, 32]⟩ : ByteArray) ++ sdig (k : Int) ++ (⟨#[32, 40, 117, 112, 32]⟩ : ByteArray) ++ sdig (a : Int) ++ (⟨#[41]⟩ : ByteArray)), .int .i64 500] w fun e w' => e = .returned (.agg #[.string (Skein.ltext numT a k), .int .i64 m, .int .i64 0]) ∧ Below w.heap.size w w' := by
  obtain ⟨m, hR⟩ := runs_x hk a
  refine ⟨m, fun w ht => ?_⟩
  obtain ⟨ok1, v1, l1⟩ := ct_num (n := k) (by omega)
  obtain ⟨ok2, v2, l2⟩ := ct_num (n := a) (by omega)
  rw [sdig_nat k, sdig_nat a]
  have hd : (ctTake ++ (⟨#[116, 97, 107, 101, 32]⟩ : ByteArray) ++ ⟨(Lib.decDigits k).toArray⟩ ++ (⟨#[32, 40, 117, 112, 32]⟩ : ByteArray) ++ ⟨(Lib.decDigits a).toArray⟩ ++ (⟨#[41]⟩ : ByteArray)).data.toList = flat ((ctTakeP ++ [.word [116, 97, 107, 101], .blank 32]) ++ (.num (Lib.decDigits k) :: ([.blank 32, .mark 40, .word [117, 112], .blank 32] ++ (.num (Lib.decDigits a) :: [.mark 41])))) := by
    simp only [ByteArray.data_append, Array.toList_append, flat_app, ct_t1]
    simp [flat, Pc.txt]
  have hp : ∀ dk da : List UInt8, PT 200 .expr [] (tks ((ctTakeP ++ [.word [116, 97, 107, 101], .blank 32]) ++ (.num dk :: ([.blank 32, .mark 40, .word [117, 112], .blank 32] ++ (.num da :: [.mark 41]))))) = some (XT (val ⟨dk.toArray⟩) (val ⟨da.toArray⟩), []) := fun dk da => by kernel_rfl
  have hp1 := hp (Lib.decDigits k) (Lib.decDigits a)
  rw [v1, v2] at hp1
  obtain ⟨m', h1, h2⟩ := whole_of hd (ct_fin _ _ _ _ _ ok1 ok2 (fun _ => rfl) (fun _ => rfl) rfl (fun _ => rfl) rfl) hp1
  refine pev_ok (L := 500) ?_ h1 h2 (by decide) hR w ht
  simp only [ByteArray.size_append]
  show 102 + 5 + (Lib.decDigits k).length + 5 + (Lib.decDigits a).length + 1 ≤ 300
  omega
theorem ct_y {k a : Nat} (hk : k < 25) (ha : a < 1000) : ∃ m : Nat, ∀ w, Tab w → Calls Tryz.prog 20 #[.string (ctTake ++ ctFold ++ (⟨#[115, 117, 109, 32, 40, 116, 97, 107, 101, 32]⟩ : ByteArray) ++ sdig (k : Int) ++ (⟨#[32, 40, 117, 112, 32]⟩ : ByteArray) ++ sdig (a : Int) ++ (⟨#[41, 41]⟩ : ByteArray)), .int .i64 500] w fun e w' => e = .returned (.agg #[.string (sdig (sumG a k)), .int .i64 m, .int .i64 0]) ∧ Below w.heap.size w w' := by
  obtain ⟨m, hR⟩ := runs_nv ((cyy k hk a).trans (congrArg some (sum_is ha k (by omega)))) (by have := sumG_in ha k (by omega); unfold Skein.Int64; omega)
  refine ⟨m, fun w ht => ?_⟩
  obtain ⟨ok1, v1, l1⟩ := ct_num (n := k) (by omega)
  obtain ⟨ok2, v2, l2⟩ := ct_num (n := a) (by omega)
  rw [sdig_nat k, sdig_nat a]
  have hd : (ctTake ++ ctFold ++ (⟨#[115, 117, 109, 32, 40, 116, 97, 107, 101, 32]⟩ : ByteArray) ++ ⟨(Lib.decDigits k).toArray⟩ ++ (⟨#[32, 40, 117, 112, 32]⟩ : ByteArray) ++ ⟨(Lib.decDigits a).toArray⟩ ++ (⟨#[41, 41]⟩ : ByteArray)).data.toList = flat ((ctTakeP ++ (ctFoldP ++ [.word [115, 117, 109], .blank 32, .mark 40, .word [116, 97, 107, 101], .blank 32])) ++ (.num (Lib.decDigits k) :: ([.blank 32, .mark 40, .word [117, 112], .blank 32] ++ (.num (Lib.decDigits a) :: [.mark 41, .mark 41])))) := by
    simp only [ByteArray.data_append, Array.toList_append, flat_app, ct_t1, ct_t2]
    simp [flat, Pc.txt]
  have hp : ∀ dk da : List UInt8, PT 200 .expr [] (tks ((ctTakeP ++ (ctFoldP ++ [.word [115, 117, 109], .blank 32, .mark 40, .word [116, 97, 107, 101], .blank 32])) ++ (.num dk :: ([.blank 32, .mark 40, .word [117, 112], .blank 32] ++ (.num da :: [.mark 41, .mark 41]))))) = some (YT (val ⟨dk.toArray⟩) (val ⟨da.toArray⟩), []) := fun dk da => by kernel_rfl
  have hp1 := hp (Lib.decDigits k) (Lib.decDigits a)
  rw [v1, v2] at hp1
  obtain ⟨m', h1, h2⟩ := whole_of hd (ct_fin _ _ _ _ _ ok1 ok2 (fun _ => rfl) (fun _ => rfl) rfl (fun _ => rfl) rfl) hp1
  refine pev_ok (L := 500) ?_ h1 h2 (by decide) hR w ht
  simp only [ByteArray.size_append]
  show 102 + 61 + 10 + (Lib.decDigits k).length + 5 + (Lib.decDigits a).length + 2 ≤ 300
  omega
theorem ct_z {k a : Nat} (hk : k < 25) (ha : a < 1000) : ∃ m : Nat, ∀ w, Tab w → Calls Tryz.prog 20 #[.string (ctN ++ ctTake ++ (⟨#[110, 32, 40, 116, 97, 107, 101, 32]⟩ : ByteArray) ++ sdig (k : Int) ++ (⟨#[32, 40, 117, 112, 32]⟩ : ByteArray) ++ sdig (a : Int) ++ (⟨#[41, 41]⟩ : ByteArray)), .int .i64 500] w fun e w' => e = .returned (.agg #[.string (sdig (k : Int)), .int .i64 m, .int .i64 0]) ∧ Below w.heap.size w w' := by
  obtain ⟨m, hR⟩ := runs_nv (czz k hk a) (by unfold Skein.Int64; omega)
  refine ⟨m, fun w ht => ?_⟩
  obtain ⟨ok1, v1, l1⟩ := ct_num (n := k) (by omega)
  obtain ⟨ok2, v2, l2⟩ := ct_num (n := a) (by omega)
  rw [sdig_nat k, sdig_nat a]
  have hd : (ctN ++ ctTake ++ (⟨#[110, 32, 40, 116, 97, 107, 101, 32]⟩ : ByteArray) ++ ⟨(Lib.decDigits k).toArray⟩ ++ (⟨#[32, 40, 117, 112, 32]⟩ : ByteArray) ++ ⟨(Lib.decDigits a).toArray⟩ ++ (⟨#[41, 41]⟩ : ByteArray)).data.toList = flat ((ctNP ++ (ctTakeP ++ [.word [110], .blank 32, .mark 40, .word [116, 97, 107, 101], .blank 32])) ++ (.num (Lib.decDigits k) :: ([.blank 32, .mark 40, .word [117, 112], .blank 32] ++ (.num (Lib.decDigits a) :: [.mark 41, .mark 41])))) := by
    simp only [ByteArray.data_append, Array.toList_append, flat_app, ct_t1, ct_t3]
    simp [flat, Pc.txt]
  have hp : ∀ dk da : List UInt8, PT 200 .expr [] (tks ((ctNP ++ (ctTakeP ++ [.word [110], .blank 32, .mark 40, .word [116, 97, 107, 101], .blank 32])) ++ (.num dk :: ([.blank 32, .mark 40, .word [117, 112], .blank 32] ++ (.num da :: [.mark 41, .mark 41]))))) = some (ZT (val ⟨dk.toArray⟩) (val ⟨da.toArray⟩), []) := fun dk da => by kernel_rfl
  have hp1 := hp (Lib.decDigits k) (Lib.decDigits a)
  rw [v1, v2] at hp1
  obtain ⟨m', h1, h2⟩ := whole_of hd (ct_fin _ _ _ _ _ ok1 ok2 (fun _ => rfl) (fun _ => rfl) rfl (fun _ => rfl) rfl) hp1
  refine pev_ok (L := 500) ?_ h1 h2 (by decide) hR w ht
  simp only [ByteArray.size_append]
  show 52 + 102 + 8 + (Lib.decDigits k).length + 5 + (Lib.decDigits a).length + 2 ≤ 300
  omega
end Go.Proofs.YtjjlgjmebnkdjaaGreatDoor

namespace Go.Proofs.YtjjlgjmebnkdjaaGreatDoor
open Go Go.Proofs Go.RowKit Skein

theorem lst_size (a : Nat) : ∀ i, (lst a i).size ≤ 1 + i * 23 := by
  intro i
  cases i with
  | zero => exact Nat.le_refl 1
  | succ i =>
    show (ltx numT a i).size ≤ _
    induction i with
    | zero =>
      have := numT_size a
      simp only [ltx, ByteArray.size_append]
      show 1 + (numT a).size ≤ _
      omega
    | succ i ih =>
      have := numT_size (upN a (i + 1))
      simp only [ltx, ByteArray.size_append]
      show (ltx numT a i).size + 2 + (numT (upN a (i + 1))).size ≤ _
      omega

set_option maxRecDepth 100000 in
set_option maxHeartbeats 8000000 in
theorem counted_ok (c0 c1 : Int) (w : World) (ht : Tab w) (h0 : Skein.Int64 c0) (h1 : Skein.Int64 c1) :
    Calls Tryz.prog 10 #[.int .i64 c0, .int .i64 c1] w fun e w' => e = .returned (.bool true) ∧ Below w.heap.size w w' := by
  have HP0 : Hid (∀ w, Calls Tryz.prog 24 #[.int .i64 c0, .int .i64 1000] w fun e w' => e = .returned (.int .i64 (pickN c0 1000)) ∧ w' = w) := fun w => pick_is c0 h0 1000 (by decide) (by decide) w
  have HP1 : Hid (∀ w, Calls Tryz.prog 24 #[.int .i64 c1, .int .i64 25] w fun e w' => e = .returned (.int .i64 (pickN c1 25)) ∧ w' = w) := fun w => pick_is c1 h1 25 (by decide) (by decide) w
  have ha : pickN c0 1000 < 1000 := by unfold pickN; split <;> exact Nat.mod_lt _ (by decide)
  have hk : pickN c1 25 < 25 := by unfold pickN; split <;> exact Nat.mod_lt _ (by decide)
  generalize pickN c0 1000 = a at HP0 ha
  generalize pickN c1 25 = k at HP1 hk
  obtain ⟨mx, hx⟩ := ct_x hk ha
  obtain ⟨my, hy⟩ := ct_y hk ha
  obtain ⟨mz, hz⟩ := ct_z hk ha
  rw [← lst_end] at hx
  have HX : Hid (∀ w, Tab w → _) := hx
  have HY : Hid (∀ w, Tab w → _) := hy
  have HZ : Hid (∀ w, Tab w → _) := hz
  have HT : Hid (∀ w', Below w.heap.size w w' → Tab w') := fun w' hb => ht.belowB hb ht.lt
  have HD : Hid (∀ i : Nat, i < 25 → ∀ w, Calls Tryz.prog 22 #[.int .i64 ((a : Int) + i)] w fun e w' => e = .returned (.string (sdig ((a : Int) + i))) ∧ w' = w) := fun i hi w => ksdigits _ ⟨by omega, by omega⟩ w
  have HDa : Hid (∀ w, Calls Tryz.prog 22 #[.int .i64 (a : Int)] w fun e w' => e = .returned (.string (sdig (a : Int))) ∧ w' = w) := fun w => ksdigits _ ⟨by omega, by omega⟩ w
  have HDk : Hid (∀ w, Calls Tryz.prog 22 #[.int .i64 (k : Int)] w fun e w' => e = .returned (.string (sdig (k : Int))) ∧ w' = w) := fun w => ksdigits _ ⟨by omega, by omega⟩ w
  have hsg := sumG_in ha k (by omega)
  have HDs : Hid (∀ w, Calls Tryz.prog 22 #[.int .i64 (sumG a k)] w fun e w' => e = .returned (.string (sdig (sumG a k))) ∧ w' = w) := fun w => ksdigits _ ⟨by omega, by omega⟩ w
  clear hx hy hz ht h0 h1 hsg
  go_enter Tryz.func10, Tryz.ntmps10
  go_wp2_with fail
  refine (HP0.out _).mono ?_
  rintro e0 w1 ⟨rfl, rfl⟩
  go_wp2_with fail
  refine (HP1.out _).mono ?_
  rintro e0 w1 ⟨rfl, rfl⟩
  go_wp2_with fail
  have hls := lst_size a
  go_loop [7, 8, 9] (fun L S I => ∃ i : Nat, i ≤ k ∧ L = .string (lst a i) ∧ S = .int .i64 (sumG a i) ∧ I = .int .i64 i) (fun _ _ I => k - (intOf I).toNat)
  case atStart => exact ⟨0, Nat.zero_le _, rfl, rfl, rfl⟩
  case round =>
    obtain ⟨i, hi, rfl, rfl, rfl⟩ := hrel
    by_cases hik : i < k
    · have hd1 : decide ((i : Int) < (k : Int)) = true := by simp; omega
      have HDi : Hid (∀ w, Calls Tryz.prog 22 #[.int .i64 ((a : Int) + i)] w fun e w' => e = .returned (.string (sdig ((a : Int) + i))) ∧ w' = w) := HD.out i (by omega)
      have hdz : (sdig ((a : Int) + i)).size ≤ 21 := by
        have := numT_size ((a : Int) + i)
        rwa [numT_in ⟨by omega, by omega⟩] at this
      have hz1 := hls i
      have hsb := sumG_in ha i (by omega)
      have HS : Hid (sumG a (i + 1) = sumG a i + a + i) := rfl
      have hw1 : IntKind.wrap .i64 ((a : Int) + i) = (a : Int) + i := by rw [wrap_eq, IntWalk.wrap64_in _ ⟨by omega, by omega⟩]
      rcases i with _ | j
      · have hL : Hid (lst a (0 + 1) = lst a 0 ++ sdig (a : Int)) := lst_one ha
        have hdz' : (sdig (a : Int)).size ≤ 21 := by simpa using hdz
        generalize lst a 0 = l1 at hL hz1
        generalize sumG a 0 = s1 at HS hsb
        generalize sdig (a : Int) = d1 at hL HDa hdz'
        have hz2 : l1.size + d1.size ≤ 9223372036854775807 := by omega
        clear HDi hdz hw1
        go_wp2_with fail
        refine (HDa.out _).mono ?_
        rintro e0 w2 ⟨rfl, rfl⟩
        go_wp2_with fail
        refine ⟨⟨1, by omega, ?_, ?_, rfl⟩, by simp only [intOf]; omega⟩
        · rw [← hL.out]
        · rw [HS.out]; simp
      · have hL : Hid (lst a (j + 1 + 1) = lst a (j + 1) ++ ⟨#[44, 32]⟩ ++ sdig ((a : Int) + ((j + 1 : Nat) : Int))) := lst_more ha (by omega)
        have hi0 : 0 < j + 1 := by omega
        generalize j + 1 = i at *
        have hd2 : decide ((0 : Int) < (i : Int)) = true := by simp; omega
        generalize lst a i = l1 at hL hz1
        generalize sumG a i = s1 at HS hsb
        generalize sdig ((a : Int) + i) = d1 at hL HDi hdz
        have hz2 : l1.size + 2 ≤ 9223372036854775807 := by omega
        have hz3 : (l1 ++ (⟨#[44, 32]⟩ : ByteArray)).size + d1.size ≤ 9223372036854775807 := by rw [ByteArray.size_append]; show l1.size + 2 + d1.size ≤ _; omega
        go_wp2_with fail
        refine (HDi.out _).mono ?_
        rintro e0 w2 ⟨rfl, rfl⟩
        go_wp2_with fail
        refine ⟨⟨i + 1, by omega, ?_, ?_, by push_cast; rfl⟩, by simp only [intOf]; omega⟩
        · rw [← hL.out]
        · rw [HS.out]
    · obtain rfl : i = k := by omega
      have hd1 : decide ((i : Int) < (i : Int)) = false := by simp
      have hz1 := hls i
      have hz2 : (lst a i).size + 1 ≤ 9223372036854775807 := by omega
      have hzk : (sdig (i : Int)).size ≤ 21 := by
        have := numT_size (i : Int)
        rwa [numT_in ⟨by omega, by omega⟩] at this
      have hza : (sdig (a : Int)).size ≤ 21 := by
        have := numT_size (a : Int)
        rwa [numT_in ⟨by omega, by omega⟩] at this
      generalize sdig (i : Int) = dk at HX HY HZ HDk hzk
      generalize sdig (a : Int) = da at HX HY HZ HDa hza
      clear HD HP0 HP1
      have hB0 := Below.refl w1.heap.size w1
      go_wp2_with fail
      generalize lst a i ++ (⟨#[93]⟩ : ByteArray) = le at HX ⊢
      have hdx : (le.toList == le.toList) = true := by simp
      refine (HDk.out _).mono ?_
      rintro e0 u1 ⟨rfl, hu⟩
      replace hu := hu.symm
      subst hu
      go_wp2_with fail
      refine (HDa.out _).mono ?_
      rintro e0 u1 ⟨rfl, hu⟩
      replace hu := hu.symm
      subst hu
      go_wp2_with fail
      refine (HX.out _ (HT.out _ hB0)).mono ?_
      rintro e0 v1 ⟨rfl, hb1⟩
      have hC1 := hB0.trans (hb1.mono hB0.size)
      have hg1 := grown_alloc (grown_refl v1 none) (.cells #[.string le, .int .i64 mx, .int .i64 0] 30 (0, 0))
      have gx1 := alloc_at v1 (.cells #[.string le, .int .i64 mx, .int .i64 0] 30 (0, 0)) _ rfl
      have hB1 := hC1.grown hg1 hC1.size (by simp)
      clear hb1 hB0 hC1 hg1
      go_wp2_with fail
      refine (HDk.out _).mono ?_
      rintro e0 u2 ⟨rfl, hu⟩
      replace hu := hu.symm
      subst hu
      go_wp2_with fail
      refine (HDa.out _).mono ?_
      rintro e0 u2 ⟨rfl, hu⟩
      replace hu := hu.symm
      subst hu
      go_wp2_with fail
      refine (HY.out _ (HT.out _ hB1)).mono ?_
      rintro e0 v2 ⟨rfl, hb2⟩
      have fx2 := (hb2.block v1.heap.size (heap_lt gx1)).trans gx1
      have hC2 := hB1.trans (hb2.mono hB1.size)
      have hg2 := grown_alloc (grown_refl v2 none) (.cells #[.string (sdig (sumG a i)), .int .i64 my, .int .i64 0] 30 (0, 0))
      have gx2 := keepB' fx2 hg2
      have gy2 := alloc_at v2 (.cells #[.string (sdig (sumG a i)), .int .i64 my, .int .i64 0] 30 (0, 0)) _ rfl
      have hB2 := hC2.grown hg2 hC2.size (by simp)
      clear hb2 gx1 hB1 fx2 hC2 hg2
      go_upto_region 17 with fail
      go_cut [12, 13, 14] from 10 (fun s12 s13 s14 wx => ∃ v3 : World, s12 = .pointer (some ⟨v1.heap.size, 0, none⟩) ∧ s13 = .pointer (some ⟨v2.heap.size, 0, none⟩) ∧ s14 = .pointer (some ⟨v3.heap.size, 0, none⟩) ∧ wx = v3.alloc (.cells #[.string dk, .int .i64 mz, .int .i64 0] 30 (0, 0)) ∧ Below w1.heap.size w1 (v3.alloc (.cells #[.string dk, .int .i64 mz, .int .i64 0] 30 (0, 0))) ∧ (v3.alloc (.cells #[.string dk, .int .i64 mz, .int .i64 0] 30 (0, 0))).heap[v1.heap.size]? = some (.cells #[.string le, .int .i64 mx, .int .i64 0] 30 (0, 0)) ∧ (v3.alloc (.cells #[.string dk, .int .i64 mz, .int .i64 0] 30 (0, 0))).heap[v2.heap.size]? = some (.cells #[.string (sdig (sumG a i)), .int .i64 my, .int .i64 0] 30 (0, 0)))
      case first =>
        go_wp2_with fail
        refine (HDk.out _).mono ?_
        rintro e0 u3 ⟨rfl, hu⟩
        replace hu := hu.symm
        subst hu
        go_wp2_with fail
        refine (HDa.out _).mono ?_
        rintro e0 u3 ⟨rfl, hu⟩
        replace hu := hu.symm
        subst hu
        go_wp2_with fail
        refine (HZ.out _ (HT.out _ hB2)).mono ?_
        rintro e0 v3 ⟨rfl, hb3⟩
        have fx3 := (hb3.block v1.heap.size (heap_lt gx2)).trans gx2
        have fy3 := (hb3.block v2.heap.size (heap_lt gy2)).trans gy2
        have hC3 := hB2.trans (hb3.mono hB2.size)
        have hg3 := grown_alloc (grown_refl v3 none) (.cells #[.string dk, .int .i64 mz, .int .i64 0] 30 (0, 0))
        have gx3 := keepB' fx3 hg3
        have gy3 := keepB' fy3 hg3
        have gz3 := alloc_at v3 (.cells #[.string dk, .int .i64 mz, .int .i64 0] 30 (0, 0)) _ rfl
        have hB3 := hC3.grown hg3 hC3.size (by simp)
        clear hb3 gx2 gy2 hB2 fx3 fy3 hC3 hg3
        go_wp2_with fail
        go_meet
        case rel => exact ⟨v3, rfl, rfl, rfl, rfl, hB3, gx3, gy3⟩
      case rest =>
        obtain ⟨v3, rfl, rfl, rfl, rfl, hB3, gx3, gy3⟩ := hcut
        have gz3 := alloc_at v3 (.cells #[.string dk, .int .i64 mz, .int .i64 0] 30 (0, 0)) _ rfl
        obtain ⟨x0, x1, x2⟩ := ans3 gx3
        obtain ⟨y0, y1, y2⟩ := ans3 gy3
        obtain ⟨z0, z1, z2⟩ := ans3 gz3
        generalize sdig (sumG (a : Int) i) = ds at HDs y0 y1 y2
        generalize sumG (a : Int) i = sm at HDs ⊢
        have hds : (ds.toList == ds.toList) = true := by simp
        have hdk : (dk.toList == dk.toList) = true := by simp
        clear HX HY HZ HDa gx3 gy3 gz3 hls
        go_wp2_with fail
        go_big_quiet (first | (go_at_call_of 22 sm; refine Calls.quiet_of_same (HDs.out _)) | (go_at_call_of 22 i; refine Calls.quiet_of_same (HDk.out _)))
        go_wp2_with fail
        go_ret
        exact ⟨rfl, hB3.grown (grown_drewN (grown_refl _ none) nq) hB3.size (by simp)⟩
end Go.Proofs.YtjjlgjmebnkdjaaGreatDoor
