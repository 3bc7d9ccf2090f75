/-
  The program: the value told as text; what is answered.
  The program: reckon, Eval.
  The program's Eval.
-/
import Derived.Test.YtdpbclnpmkhooaaGreatDoorEwK
import Derived.Test.YtdpbclnpmkhooaaGreatDoorEwH
import Derived.Test.YtdpbclnpmkhooaaGreatDoorEwA
import Derived.Test.YtdpbclnpmkhooaaGreatDoorPlI
import Derived.Test.YtdpbclnpmkhooaaGreatDoorPrgU
namespace Go.Proofs.YtdpbclnpmkhooaaGreatDoor
open Go Go.Proofs Go.RowKit Skein

def sdig (n : Int) : ByteArray := ⟨(Lib.itoa n).toArray⟩
def fnText : ByteArray := ⟨#[60, 102, 117, 110, 99, 116, 105, 111, 110, 62]⟩
def textOf : V → ByteArray
  | .num n => sdig n
  | .fn _ _ => fnText
  | _ => ⟨#[]⟩

theorem Tab.below {b : Nat} {w w' : World} (h : Tab w) (hb : Below b w w') (h3 : 3 < b) : Tab w' := by
  unfold Tab Lib.TabIs World.var? at *
  rw [gPow] at h ⊢
  simp only [Option.bind_some] at h ⊢
  rw [hb.block 3 h3]; exact h

set_option maxRecDepth 100000 in
set_option maxHeartbeats 2000000 in
theorem sformat (n : Int) (hn : Int64 n) (w : World) (ht : Tab w) : Calls Tryz.prog 189 #[.int .i64 n, .int .i64 10] w fun e w' => e = .returned (.string (sdig n)) ∧ w.grownBy w' none := by
  obtain ⟨h1, h2⟩ := hn
  go_enter Tryz.func189, Tryz.ntmps189
  go_wp2_with fail
  refine (Any.internal_strconv_FormatInt_10 (P := Tryz.prog) (ρ := Tryz.laysC174_ren) { Tryz.laysC174 with } n (by omega) (by omega) _ ht).mono ?_
  rintro e w' ⟨rfl, k, os, rfl⟩
  go_wp2_with fail
  go_ret
  exact ⟨rfl, grown_grow⟩

set_option maxRecDepth 100000 in
set_option maxHeartbeats 2000000 in
theorem vnum_text (n : Int) (hn : Int64 n) (w : World) (ht : Tab w) : Calls Tryz.prog 188 #[.int .i64 n] w fun e w' => e = .returned (.string (sdig n)) ∧ w.grownBy w' none := by
  have HT : Hid (Tab w) := ht
  clear ht
  go_enter Tryz.func188, Tryz.ntmps188
  go_wp2_with fail
  refine (sformat n hn _ HT.out).mono ?_
  rintro e w' ⟨rfl, hg⟩
  go_wp2_with fail
  go_ret
  exact ⟨rfl, hg⟩

set_option maxRecDepth 100000 in
set_option maxHeartbeats 2000000 in
theorem fn_text (v : Value) (w : World) : Calls Tryz.prog 201 #[v] w fun e w' => e = .returned (.string fnText) ∧ w' = w := by
  go_enter Tryz.func201, Tryz.ntmps201
  go_wp2_with fail
  go_ret
  exact ⟨rfl, rfl⟩

set_option maxRecDepth 100000 in
set_option maxHeartbeats 4000000 in
theorem ptext (x : T) (hx : Tidy 0 x) (hd : dep x ≤ 1000) {L n : Nat} {r : R × E} (he : ev L n (.need x []) ⟨[], 0⟩ = some r) (hin : RIn r.1) {b st : Nat} {w : World} (hb : b ≤ st) (hS : SB w st L 0) (hL : L ≤ 500) (ht : Tab w) (h3 : 3 < b) :
    Calls Tryz.prog 37 #[pv x, ptr st] w fun e w' => Below b w w' ∧ SB w' st L r.2.steps ∧ ((∃ v, r.1 = .ok v ∧ e = .returned (.string (textOf v))) ∨ (∃ z, r.1 = .err z ∧ e = .panicked (oops z))) := by
  have m127 : ∀ (x : Value) (w : World), (method 347 127 x "skein/need.text").run Tryz.prog w = .ok (188, x) w := fun _ _ => by kernel_rfl
  have m176 : ∀ (x : Value) (w : World), (method 347 176 x "skein/need.text").run Tryz.prog w = .ok (201, x) w := fun _ _ => by kernel_rfl
  have n188 := enters_of Tryz.func188 (by kernel_rfl) rfl
  have n201 := enters_of Tryz.func201 (by kernel_rfl) rfl
  obtain ⟨T1, x1, e1⟩ := pv_iface x
  have hg1 := grown_alloc (grown_alloc (grown_refl w none) (.cells sgCells 130 (0, 0))) (.cells #[ptr st, .slice (some ⟨w.heap.size, 0, none⟩) 5 5] 108 (0, 0))
  have hA := keepB' (alloc_at w (.cells sgCells 130 (0, 0)) _ rfl) (grown_alloc (grown_refl _ none) (.cells #[ptr st, .slice (some ⟨w.heap.size, 0, none⟩) 5 5] 108 (0, 0)))
  have HM : Hid (Calls Tryz.prog 60 #[mk st w.heap.size, .iface T1 x1] _ _) := e1 ▸ cm_all x 0 hx st w.heap.size _ hA
  have hP : PE b w [] st L ⟨[], 0⟩ := ⟨hS, rfl, (fun i c a h => by simp at h), (fun i j a h => by simp at h), (fun a h => by cases h), hb, hL⟩
  have hbw := hP.blt
  have HT : Hid (Tab w) := ht
  have HE : Hid (ev L n (.need x []) ⟨[], 0⟩ = some r) := he
  have HI : Hid (RIn r.1) := hin
  rw [e1]
  clear e1 hA ht he hin
  go_enter Tryz.func37, Tryz.ntmps37
  go_wp2_with fail
  refine (signs_ok w).mono ?_
  rintro e w0 ⟨rfl, rfl⟩
  go_wp2_with fail
  refine HM.out.mono ?_
  rintro e w1 ⟨f, c, rfl, hg2, hc⟩
  have hgg := grown_trans hg1 hg2
  have hent := hc.ent
  have HC : Hid (Calls Tryz.prog f (#[.slice none 0 0] ++ c) w1 (GP b w1 [] st L r)) := (cc_all n).1 L x [] _ r b w1 [] st f c _ HE.out (hP.grown hgg) hc (.inl ⟨rfl, rfl⟩) (by simpa using hd)
  have hf : FP b w w1 := Fr.grown hbw hgg
  go_wp2_with fail
  refine HC.out.mono ?_
  rintro e w2 (⟨v, B', y, hr, rfl, hk2, hB, hp2, hv⟩ | ⟨z, hr, rfl, hb2, hs2⟩)
  · have hbel := hf.below.trans hk2.below
    have hT2 : Tab w2 := HT.out.below hbel h3
    have hI := HI.out
    rw [hr] at hI
    have HR : Hid (r.1 = .ok v) := hr
    clear hr
    cases v with
    | nil => exact hv.elim
    | cons i j => exact hv.elim
    | num m =>
      have hv' : y = .iface 127 (.int .i64 m) := hv
      subst hv'
      have hI' : Hid (Int64 m) := hI
      have HT2 : Hid (Tab w2) := hT2
      clear hI hT2 hv
      go_wp2_with fail
      refine (vnum_text m hI'.out _ HT2.out).mono ?_
      rintro e w3 ⟨rfl, hg3⟩
      have h4 := hp2.grown hg3
      have h5 := hbel.grown hg3 hp2.blt (by simp)
      go_wp2_with fail
      go_ret
      exact ⟨h5, h4.steps, .inl ⟨_, HR.out, rfl⟩⟩
    | fn t fe =>
      obtain ⟨hdt, j1, j2, g1, d1, sc', rfl, q1, q2, q3, q4⟩ := hv
      clear hI hT2 q1 q2 q3 q4
      go_wp2_with fail
      refine (fn_text _ _).mono ?_
      rintro e w3 ⟨rfl, rfl⟩
      go_wp2_with fail
      go_ret
      exact ⟨hbel, hp2.steps, .inl ⟨_, HR.out, rfl⟩⟩
  · have HR : Hid (r.1 = .err z) := hr
    clear hr
    go_wp2_with fail
    exact ⟨rfl, hf.below.trans hb2, hs2, .inr ⟨z, HR.out, rfl⟩⟩

/- What catches a fault of reckoning. -/
theorem ans_cells {w : World} {k : Nat} {x y z : Value} {T : TypeId} (h : w.heap[k]? = some (.cells #[x, y, z] T (0, 0))) :
    w.cell? ⟨k, 0, none⟩ = some x ∧ w.cell? ⟨k, 1, none⟩ = some y ∧ w.cell? ⟨k, 2, none⟩ = some z ∧ (∀ o, w.frozen? ⟨k, o, none⟩ = false) ∧ k < w.heap.size := by
  refine ⟨?_, ?_, ?_, fun o => ?_, heap_lt h⟩ <;> simp [World.cell?, World.frozen?, h]

set_option maxRecDepth 100000 in
set_option maxHeartbeats 2000000 in
theorem rclose_panicking (st k : Nat) (t : Value) (x y : Value) (L c z : Int) (older : List PanicEntry) (w : World) (hk : w.heap[k]? = some (.cells #[t, x, y] 30 (0, 0))) (hs : SB w st L c) :
    CallsD Tryz.prog 36 #[ptr st, ptr k] (.panicking ({ v := flt z 0, recovered := false } :: older)) w fun e u' w' =>
      e = .returned (.tuple #[]) ∧ u' = .panicking ({ v := flt z 0, recovered := true } :: older) ∧ w'.heap[k]? = some (.cells #[t, .int .i64 c, .int .i64 z] 30 (0, 0)) ∧ Below k w w' := by
  refine callsD_of_wpS Tryz.func36 rfl fun c₀ cs hu => ?_
  refine wpS_seq ?_
  apply wpS_region
  simp [wpOpsS, go_sem, recoverD, hu, Tryz.ntmps36]
  refine (pcaught_some z 0 w).mono ?_
  rintro e w1 ⟨rfl, hg⟩
  have hk1 := keepB hk hg
  have hs1 := keepB hs hg
  have hgA := grown_alloc (grown_refl w1 none) (.cells #[.int .i64 z, .int .i64 0] 49 (0, 0))
  have hA := alloc_at w1 (.cells #[.int .i64 z, .int .i64 0] 49 (0, 0)) _ rfl
  have hk2 := keepB hk1 hgA
  have hs2 : SB _ st L c := keepB hs1 hgA
  simp [go_sem, Exit.thenS, storeCells]
  refine wpS_of_wp ?_
  obtain ⟨p0, p1, p2, pf, plt⟩ := ans_cells hk2
  obtain ⟨q0, q1, qf, qlt⟩ := hs2.cells
  have a0 : (w1.alloc (.cells #[.int .i64 z, .int .i64 0] 49 (0, 0))).cell? ⟨w1.heap.size, 0, none⟩ = some (.int .i64 z) := (cellsOf2 hA).1
  have hB : Below k w (w1.alloc (.cells #[.int .i64 z, .int .i64 0] 49 (0, 0))) := (Below.refl k w).grown (grown_trans hg hgA) (Nat.le_of_lt (heap_lt hk)) (by simp)
  have hkw : k < w1.heap.size := heap_lt hk1
  have hsw : st < w1.heap.size := heap_lt hs1
  change Code.wp _ _ _ (act #[ptr st, ptr k, ptr w1.heap.size, flt z 0, .agg #[.int .i64 z, .int .i64 0], undef, undef, undef, undef, undef, undef]) _
  generalize w1.alloc (.cells #[.int .i64 z, .int .i64 0] 49 (0, 0)) = W at hk2 p0 p1 p2 pf plt q0 q1 qf qlt a0 hB ⊢
  generalize w1.heap.size = kw at hkw hsw a0 ⊢
  clear hgA hA hs2 hk1 hs1
  go_region
  all_goals
    have hh : (((W.setCell ⟨k, 1, none⟩ (.int .i64 c)).setCell ⟨k, 2, none⟩ (.int .i64 z)).drew).heap[k]? = some (.cells #[t, .int .i64 c, .int .i64 z] 30 (0, 0)) := by
      show ((W.setCell ⟨k, 1, none⟩ (.int .i64 c)).setCell ⟨k, 2, none⟩ (.int .i64 z)).heap[k]? = _
      simp [World.setCell, Array.getElem?_modify, hk2]
    have hB2 : Below k w (((W.setCell ⟨k, 1, none⟩ (.int .i64 c)).setCell ⟨k, 2, none⟩ (.int .i64 z)).drew) := ((hB.setCell (p := ⟨k, 1, none⟩) (Nat.le_refl _) _).setCell (p := ⟨k, 2, none⟩) (Nat.le_refl _) _).drew
    generalize ((W.setCell ⟨k, 1, none⟩ (.int .i64 c)).setCell ⟨k, 2, none⟩ (.int .i64 z)).drew = W9 at hh hB2 ⊢
    simp [bodyPostS, results, Tryz.results36, hh, hB2]
set_option maxRecDepth 100000 in
set_option maxHeartbeats 2000000 in
theorem rclose_returning (st k : Nat) (t : Value) (x y : Value) (L c : Int) (w : World) (hk : w.heap[k]? = some (.cells #[t, x, y] 30 (0, 0))) (hs : SB w st L c) :
    CallsD Tryz.prog 36 #[ptr st, ptr k] .returning w fun e u' w' =>
      e = .returned (.tuple #[]) ∧ u' = .returning ∧ w'.heap[k]? = some (.cells #[t, .int .i64 c, .int .i64 0] 30 (0, 0)) ∧ Below k w w' := by
  refine callsD_of_wpS Tryz.func36 rfl fun c₀ cs hu => ?_
  cases c₀
  simp only at hu
  subst hu
  refine wpS_seq ?_
  apply wpS_region
  simp [wpOpsS, go_sem, recoverD, Tryz.ntmps36]
  refine (pcaught_nil w).mono ?_
  rintro e w1 ⟨rfl, hg⟩
  have hk1 := keepB hk hg
  have hs1 := keepB hs hg
  have hgA := grown_alloc (grown_refl w1 none) (.cells #[.int .i64 0, .int .i64 0] 49 (0, 0))
  have hA := alloc_at w1 (.cells #[.int .i64 0, .int .i64 0] 49 (0, 0)) _ rfl
  have hk2 := keepB hk1 hgA
  have hs2 : SB _ st L c := keepB hs1 hgA
  simp [go_sem, Exit.thenS, storeCells]
  refine wpS_of_wp ?_
  obtain ⟨p0, p1, p2, pf, plt⟩ := ans_cells hk2
  obtain ⟨q0, q1, qf, qlt⟩ := hs2.cells
  have a0 : (w1.alloc (.cells #[.int .i64 0, .int .i64 0] 49 (0, 0))).cell? ⟨w1.heap.size, 0, none⟩ = some (.int .i64 0) := (cellsOf2 hA).1
  have hB : Below k w (w1.alloc (.cells #[.int .i64 0, .int .i64 0] 49 (0, 0))) := (Below.refl k w).grown (grown_trans hg hgA) (Nat.le_of_lt (heap_lt hk)) (by simp)
  have hkw : k < w1.heap.size := heap_lt hk1
  have hsw : st < w1.heap.size := heap_lt hs1
  change Code.wp _ _ _ (act #[ptr st, ptr k, ptr w1.heap.size, Value.nilIface, .agg #[.int .i64 0, .int .i64 0], undef, undef, undef, undef, undef, undef]) _
  generalize w1.alloc (.cells #[.int .i64 0, .int .i64 0] 49 (0, 0)) = W at hk2 p0 p1 p2 pf plt q0 q1 qf qlt a0 hB ⊢
  generalize w1.heap.size = kw at hkw hsw a0 ⊢
  clear hgA hA hs2 hk1 hs1
  go_region
  all_goals
    have hh : (((W.setCell ⟨k, 1, none⟩ (.int .i64 c)).setCell ⟨k, 2, none⟩ (.int .i64 0)).drew).heap[k]? = some (.cells #[t, .int .i64 c, .int .i64 0] 30 (0, 0)) := by
      show ((W.setCell ⟨k, 1, none⟩ (.int .i64 c)).setCell ⟨k, 2, none⟩ (.int .i64 0)).heap[k]? = _
      simp [World.setCell, Array.getElem?_modify, hk2]
    have hB2 : Below k w (((W.setCell ⟨k, 1, none⟩ (.int .i64 c)).setCell ⟨k, 2, none⟩ (.int .i64 0)).drew) := ((hB.setCell (p := ⟨k, 1, none⟩) (Nat.le_refl _) _).setCell (p := ⟨k, 2, none⟩) (Nat.le_refl _) _).drew
    generalize ((W.setCell ⟨k, 1, none⟩ (.int .i64 c)).setCell ⟨k, 2, none⟩ (.int .i64 0)).drew = W9 at hh hB2 ⊢
    simp [bodyPostS, results, Tryz.results36, hh, hB2]
end Go.Proofs.YtdpbclnpmkhooaaGreatDoor

namespace Go.Proofs.YtdpbclnpmkhooaaGreatDoor
open Go Go.Proofs Go.RowKit Skein

def txtOf : R → ByteArray
  | .ok v => textOf v
  | .err _ => ⟨#[]⟩
def errOf : R → Int
  | .ok _ => 0
  | .err z => z
def answer (t : ByteArray) (n e : Int) : Value := .agg #[.string t, .int .i64 n, .int .i64 e]

theorem Tab.lt {w : World} (h : Tab w) : 3 < w.heap.size := by
  unfold Tab Lib.TabIs World.var? at h
  rw [gPow] at h
  simp only [Option.bind_some] at h
  rcases Nat.lt_or_ge 3 w.heap.size with h' | h'
  · exact h'
  · rw [Array.getElem?_eq_none h'] at h; simp at h

theorem set3 {w : World} {k : Nat} {x y z : Value} (h : w.heap[k]? = some (.cells #[x, y, z] 30 (0, 0))) (a b c : Value) :
    (((w.setCell ⟨k, 0, none⟩ a).setCell ⟨k, 1, none⟩ b).setCell ⟨k, 2, none⟩ c).heap[k]? = some (.cells #[a, b, c] 30 (0, 0)) := by
  simp [World.setCell, Array.getElem?_modify, h]

set_option maxRecDepth 100000 in
set_option maxHeartbeats 4000000 in
theorem preckE (x : T) (hx : Tidy 0 x) (hd : dep x ≤ 1000) {L n : Nat} {r : R × E} (he : ev L n (.need x []) ⟨[], 0⟩ = some r) (hin : RIn r.1) (w : World) (hL : L ≤ 500) (ht : Tab w) :
    Calls Tryz.prog 26 #[pv x, .int .i64 L] w fun e w' => e = .returned (answer (txtOf r.1) r.2.steps (errOf r.1)) ∧ Below w.heap.size w w' := by
  have hmf : ∀ (fn : Fn) (first cap : Array Value) (w : World), (Instr.makeFunc fn first cap).run Tryz.prog w = .ok (.func fn first cap) w := fun _ _ _ _ => rfl
  obtain ⟨T1, x1, e1⟩ := pv_iface x
  have hg1 := grown_alloc (grown_alloc (grown_refl w none) (.cells #[.string ⟨#[]⟩, .int .i64 0, .int .i64 0] 30 (0, 0))) (.cells #[.int .i64 L, .int .i64 0] 74 (0, 0))
  have hka := keepB' (alloc_at w (.cells #[.string ⟨#[]⟩, .int .i64 0, .int .i64 0] 30 (0, 0)) _ rfl) (grown_alloc (grown_refl _ none) (.cells #[.int .i64 L, .int .i64 0] 74 (0, 0)))
  have hsb : SB _ (w.heap.size + 1) L 0 := alloc_at (w.alloc (.cells #[.string ⟨#[]⟩, .int .i64 0, .int .i64 0] 30 (0, 0))) (.cells #[.int .i64 L, .int .i64 0] 74 (0, 0)) (w.heap.size + 1) (by rw [alloc_size])
  have h3 := ht.lt
  have HC : Hid (Calls Tryz.prog 37 #[.iface T1 x1, ptr (w.heap.size + 1)] _ _) := e1 ▸ ptext x hx hd he hin (b := w.heap.size + 1) (Nat.le_refl _) hsb hL (ht.grown hg1) (by omega)
  rw [e1]
  clear e1 he hin hsb
  go_enter_defers Tryz.func26, Tryz.ntmps26
  go_wp2_with fail
  refine HC.out.mono ?_
  rintro e w1 ⟨hb, hs1, h⟩
  have hk1 := (hb.block w.heap.size (by omega)).trans hka
  have hB1 : Below w.heap.size w w1 := ((Below.refl _ w).grown hg1 (Nat.le_refl _) (by simp)).trans (hb.mono (by omega))
  obtain ⟨c0, c1, c2, cf, clt⟩ := ans_cells hk1
  clear hb hka hg1
  rcases h with ⟨v, hr, rfl⟩ | ⟨z, hr, rfl⟩
  · have HR : Hid (r.1 = .ok v) := hr
    clear hr
    go_wp2_with fail
    refine leaves_cons (f := 36) (args := #[ptr (w.heap.size + 1), ptr w.heap.size]) (by simp) (by simp [go_sem]) ?_
    have hk2 := set3 hk1 (.string (textOf v)) (.int .i64 0) (.int .i64 0)
    have hB2 := ((hB1.setCell (p := ⟨w.heap.size, 0, none⟩) (Nat.le_refl _) (.string (textOf v))).setCell (p := ⟨w.heap.size, 1, none⟩) (Nat.le_refl _) (.int .i64 0)).setCell (p := ⟨w.heap.size, 2, none⟩) (Nat.le_refl _) (.int .i64 0)
    have hs2 : SB (((w1.setCell ⟨w.heap.size, 0, none⟩ (.string (textOf v))).setCell ⟨w.heap.size, 1, none⟩ (.int .i64 0)).setCell ⟨w.heap.size, 2, none⟩ (.int .i64 0)) (w.heap.size + 1) L r.2.steps := by
      unfold SB
      rw [Below.heap_setCell _ _ _ _ (by show w.heap.size + 1 ≠ w.heap.size; omega), Below.heap_setCell _ _ _ _ (by show w.heap.size + 1 ≠ w.heap.size; omega), Below.heap_setCell _ _ _ _ (by show w.heap.size + 1 ≠ w.heap.size; omega)]
      exact hs1
    refine (rclose_returning (w.heap.size + 1) w.heap.size _ _ _ _ _ _ hk2 hs2).mono ?_
    rintro e u' w2 ⟨rfl, rfl, hk3, hb3⟩
    have hB3 := hB2.trans hb3
    obtain ⟨d0, d1, d2, df, dlt⟩ := ans_cells hk3
    clear hk1 hk2 hk3 c0 c1 c2 cf hB2 hb3 hs2
    simp [Leaves, settle, results, Tryz.results26, go_sem, d0, d1, d2]
    rw [HR.out]
    exact ⟨rfl, hB3⟩
  · have HR : Hid (r.1 = .err z) := hr
    clear hr
    unfold oops
    go_wp2_with fail
    refine leaves_cons (f := 36) (args := #[ptr (w.heap.size + 1), ptr w.heap.size]) (by simp) (by simp [go_sem]) ?_
    refine (rclose_panicking (w.heap.size + 1) w.heap.size _ _ _ _ _ z [] _ hk1 hs1).mono ?_
    rintro e u' w2 ⟨rfl, rfl, hk3, hb3⟩
    have hB3 := hB1.trans hb3
    obtain ⟨d0, d1, d2, df, dlt⟩ := ans_cells hk3
    clear hk1 hk3 c0 c1 c2 cf hb3
    simp [Leaves, settle, results, Tryz.results26, go_sem, d0, d1, d2]
    rw [HR.out]
    exact ⟨rfl, hB3⟩
end Go.Proofs.YtdpbclnpmkhooaaGreatDoor

namespace Go.Proofs.YtdpbclnpmkhooaaGreatDoor
open Go Go.Proofs Go.RowKit Skein

theorem fin3 {f : Func} {R : Ending → World → Prop} {t : Nat} {a : Act} {W : World} {k : Nat} {x0 x1 x2 : Value} (hf : f.results = #[.cell t 30]) (ht : a.tmps[t]?.getD undef = .pointer (some ⟨k, 0, none⟩)) (hd : a.defers = []) (hk : W.heap[k]? = some (.cells #[x0, x1, x2] 30 (0, 0)))
    (hR : R (.returned (.agg #[x0, x1, x2])) W) : bodyPost Tryz.prog f R .ret a W := by
  obtain ⟨y0, y1, y2, yf, ylt⟩ := ans_cells hk
  refine bodyPost_ret (v := .agg #[x0, x1, x2]) ?_ hd hR
  simp [results, hf, go_sem, ht, y0, y1, y2]

set_option maxRecDepth 100000 in
set_option maxHeartbeats 4000000 in
theorem peval_err (s : ByteArray) (lim : Int) (w : World) (t : T) (f : Int × Int) (hf : f.1 ≠ 0) (hR : ∀ w, Calls Tryz.prog 25 #[.string s] w (RPost w t f)) :
    Calls Tryz.prog 15 #[.string s, .int .i64 lim] w fun e w' => e = .returned (answer ⟨#[]⟩ 0 f.1) ∧ Below w.heap.size w w' := by
  have HR : Hid (∀ w, Calls Tryz.prog 25 #[.string s] w (RPost w t f)) := hR
  have h0 : (f.1 == 0) = false := by simpa using hf
  have h1 : (f.1 != 0) = true := by simp [bne, h0]
  obtain ⟨f1, f2⟩ := f
  simp only at h0 h1 hf ⊢
  clear hR hf
  go_enter Tryz.func15, Tryz.ntmps15
  go_wp2_with fail
  refine (HR.out _).mono ?_
  rintro e w1 ⟨v, rfl, -, hv, hb⟩
  have hk1 := (hb.block w.heap.size (by simp)).trans (alloc_at w (.cells #[.string ⟨#[]⟩, .int .i64 0, .int .i64 0] 30 (0, 0)) _ rfl)
  have hB1 : Below w.heap.size w w1 := ((Below.refl _ w).alloc (Nat.le_refl _) _).trans (hb.mono (by simp))
  obtain ⟨c0, c1, c2, cf, clt⟩ := ans_cells hk1
  simp only
  rcases hv with rfl | ⟨T1, x1, rfl⟩
  all_goals
    go_wp2_with fail
    have hk2 := set3 hk1 (.string ⟨#[]⟩) (.int .i64 0) (.int .i64 f1)
    have hB2 := ((hB1.setCell (p := ⟨w.heap.size, 0, none⟩) (Nat.le_refl _) (.string ⟨#[]⟩)).setCell (p := ⟨w.heap.size, 1, none⟩) (Nat.le_refl _) (.int .i64 0)).setCell (p := ⟨w.heap.size, 2, none⟩) (Nat.le_refl _) (.int .i64 f1)
    have hg := grown_alloc (grown_refl (((w1.setCell ⟨w.heap.size, 0, none⟩ (.string ⟨#[]⟩)).setCell ⟨w.heap.size, 1, none⟩ (.int .i64 0)).setCell ⟨w.heap.size, 2, none⟩ (.int .i64 f1)) none) (.cells #[.int .i64 f1, .int .i64 f2] 49 (0, 0))
    exact fin3 (t := 4) Tryz.results15 rfl rfl (keepB' hk2 hg) ⟨rfl, hB2.grown hg hB2.size (by simp)⟩

set_option maxRecDepth 100000 in
set_option maxHeartbeats 4000000 in
theorem peval_lim (s : ByteArray) (lim : Int) (w : World) (t : T) (hl : lim < 0 ∨ 500 < lim) (hR : ∀ w, Calls Tryz.prog 25 #[.string s] w (RPost w t (0, 0))) :
    Calls Tryz.prog 15 #[.string s, .int .i64 lim] w fun e w' => e = .returned (answer ⟨#[]⟩ 0 4) ∧ Below w.heap.size w w' := by
  have HR : Hid (∀ w, Calls Tryz.prog 25 #[.string s] w (RPost w t (0, 0))) := hR
  clear hR
  have hl' : (decide (lim < 0) = true) ∨ (decide (lim < 0) = false ∧ decide (500 < lim) = true) := by
    by_cases h : lim < 0
    · exact .inl (by simpa using h)
    · exact .inr ⟨by simpa using h, by simp; omega⟩
  clear hl
  rcases hl' with l1 | ⟨l1, l2⟩
  all_goals
    go_enter Tryz.func15, Tryz.ntmps15
    go_wp2_with fail
    refine (HR.out _).mono ?_
    rintro e w1 ⟨v, rfl, -, hv, hb⟩
    have hk1 := (hb.block w.heap.size (by simp)).trans (alloc_at w (.cells #[.string ⟨#[]⟩, .int .i64 0, .int .i64 0] 30 (0, 0)) _ rfl)
    have hB1 : Below w.heap.size w w1 := ((Below.refl _ w).alloc (Nat.le_refl _) _).trans (hb.mono (by simp))
    obtain ⟨c0, c1, c2, cf, clt⟩ := ans_cells hk1
    simp only
    rcases hv with rfl | ⟨T1, x1, rfl⟩
    all_goals
      go_wp2_with fail
      have hk2 := set3 hk1 (.string ⟨#[]⟩) (.int .i64 0) (.int .i64 4)
      have hB2 := ((hB1.setCell (p := ⟨w.heap.size, 0, none⟩) (Nat.le_refl _) (.string ⟨#[]⟩)).setCell (p := ⟨w.heap.size, 1, none⟩) (Nat.le_refl _) (.int .i64 0)).setCell (p := ⟨w.heap.size, 2, none⟩) (Nat.le_refl _) (.int .i64 4)
      have hg := grown_alloc (grown_refl (((w1.setCell ⟨w.heap.size, 0, none⟩ (.string ⟨#[]⟩)).setCell ⟨w.heap.size, 1, none⟩ (.int .i64 0)).setCell ⟨w.heap.size, 2, none⟩ (.int .i64 4)) none) (.cells #[.int .i64 0, .int .i64 0] 49 (0, 0))
      exact fin3 (t := 4) Tryz.results15 rfl rfl (keepB' hk2 hg) ⟨rfl, hB2.grown hg hB2.size (by simp)⟩

set_option maxRecDepth 100000 in
set_option maxHeartbeats 4000000 in
theorem peval_ok (s : ByteArray) (L : Nat) (w : World) (t : T) (hL : L ≤ 500) (a : ByteArray) (n z : Int) (ht : Tab w) (hR : ∀ w, Calls Tryz.prog 25 #[.string s] w (RPost w t (0, 0))) (hE : ∀ w, Tab w → Calls Tryz.prog 26 #[pv t, .int .i64 L] w fun e w' => e = .returned (answer a n z) ∧ Below w.heap.size w w') :
    Calls Tryz.prog 15 #[.string s, .int .i64 L] w fun e w' => e = .returned (answer a n z) ∧ Below w.heap.size w w' := by
  have HR : Hid (∀ w, Calls Tryz.prog 25 #[.string s] w (RPost w t (0, 0))) := hR
  obtain ⟨T1, x1, e1⟩ := pv_iface t
  have HE : Hid (∀ w, Tab w → Calls Tryz.prog 26 #[.iface T1 x1, .int .i64 L] w fun e w' => e = .returned (.agg #[.string a, .int .i64 n, .int .i64 z]) ∧ Below w.heap.size w w') := fun w h => e1 ▸ hE w h
  have E1 : Hid (pv t = .iface T1 x1) := e1
  have HT : Hid (Tab w) := ht
  have h3 := ht.lt
  clear hR hE e1 ht
  have l1 : decide ((L : Int) < 0) = false := by simp
  have l2 : decide ((500 : Int) < L) = false := by simp; omega
  go_enter Tryz.func15, Tryz.ntmps15
  go_wp2_with fail
  refine (HR.out _).mono ?_
  rintro e w1 ⟨v, rfl, hv0, hv, hb⟩
  have hv1 := hv0 rfl
  rw [E1.out] at hv1
  subst hv1
  have hk1 := (hb.block w.heap.size (by simp)).trans (alloc_at w (.cells #[.string ⟨#[]⟩, .int .i64 0, .int .i64 0] 30 (0, 0)) _ rfl)
  have hB1 : Below w.heap.size w w1 := ((Below.refl _ w).alloc (Nat.le_refl _) _).trans (hb.mono (by simp))
  have hg := grown_alloc (grown_refl w1 none) (.cells #[.int .i64 0, .int .i64 0] 49 (0, 0))
  have hB2 := hB1.grown hg hB1.size (by simp)
  have hk2 := keepB' hk1 hg
  clear hv0 hv hb
  simp only
  go_wp2_with fail
  refine (HE.out _ (HT.out.below hB2 h3)).mono ?_
  rintro e w2 ⟨rfl, hb2⟩
  have hk3 := (hb2.block w.heap.size (heap_lt hk2)).trans hk2
  have hB3 := hB2.trans (hb2.mono hB2.size)
  obtain ⟨c0, c1, c2, cf, clt⟩ := ans_cells hk3
  go_wp2_with fail
  have hk4 := set3 hk3 (.string a) (.int .i64 n) (.int .i64 z)
  have hB4 := ((hB3.setCell (p := ⟨w.heap.size, 0, none⟩) (Nat.le_refl _) (.string a)).setCell (p := ⟨w.heap.size, 1, none⟩) (Nat.le_refl _) (.int .i64 n)).setCell (p := ⟨w.heap.size, 2, none⟩) (Nat.le_refl _) (.int .i64 z)
  exact fin3 (t := 4) Tryz.results15 rfl rfl hk4 ⟨rfl, hB4⟩
end Go.Proofs.YtdpbclnpmkhooaaGreatDoor
