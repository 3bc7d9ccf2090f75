/-
  The program: the value told as text; what is answered.
-/
import Derived.Test.YtdpbclnpmkhooaaGreatDoorEvS
import Derived.Test.YtdpbclnpmkhooaaGreatDoorEvJ
import Derived.Test.YtdpbclnpmkhooaaGreatDoorEvX
import Derived.Test.YtdpbclnpmkhooaaGreatDoorPlI
import Derived.Test.YtdpbclnpmkhooaaGreatDoorPrgU
namespace Go.Proofs.YtdpbclnpmkhooaaGreatDoor
open Go Go.Proofs Go.RowKit Skein

def sdig (n : Int) : ByteArray := ⟨(Lib.itoa n).toArray⟩
def fnText : ByteArray := ⟨#[60, 102, 117, 110, 99, 116, 105, 111, 110, 62]⟩
def textOf : V → ByteArray
  | .num n => sdig n
  | .fn _ _ => fnText
  | _ => ⟨#[]⟩

theorem Tab.below {b : Nat} {w w' : World} (h : Tab w) (hb : Below b w w') (h3 : 3 < b) : Tab w' := by
  unfold Tab Lib.TabIs World.var? at *
  rw [gPow] at h ⊢
  simp only [Option.bind_some] at h ⊢
  rw [hb.block 3 h3]; exact h

set_option maxRecDepth 100000 in
set_option maxHeartbeats 2000000 in
theorem sformat (n : Int) (hn : Int64 n) (w : World) (ht : Tab w) : Calls Tryz.prog 189 #[.int .i64 n, .int .i64 10] w fun e w' => e = .returned (.string (sdig n)) ∧ w.grownBy w' none := by
  obtain ⟨h1, h2⟩ := hn
  go_enter Tryz.func189, Tryz.ntmps189
  go_wp2_with fail
  refine (Any.internal_strconv_FormatInt_10 (P := Tryz.prog) (ρ := Tryz.laysC174_ren) { Tryz.laysC174 with } n (by omega) (by omega) _ ht).mono ?_
  rintro e w' ⟨rfl, k, os, rfl⟩
  go_wp2_with fail
  go_ret
  exact ⟨rfl, grown_grow⟩

set_option maxRecDepth 100000 in
set_option maxHeartbeats 2000000 in
theorem vnum_text (n : Int) (hn : Int64 n) (w : World) (ht : Tab w) : Calls Tryz.prog 188 #[.int .i64 n] w fun e w' => e = .returned (.string (sdig n)) ∧ w.grownBy w' none := by
  have HT : Hid (Tab w) := ht
  clear ht
  go_enter Tryz.func188, Tryz.ntmps188
  go_wp2_with fail
  refine (sformat n hn _ HT.out).mono ?_
  rintro e w' ⟨rfl, hg⟩
  go_wp2_with fail
  go_ret
  exact ⟨rfl, hg⟩

set_option maxRecDepth 100000 in
set_option maxHeartbeats 2000000 in
theorem fn_text (v : Value) (w : World) : Calls Tryz.prog 201 #[v] w fun e w' => e = .returned (.string fnText) ∧ w' = w := by
  go_enter Tryz.func201, Tryz.ntmps201
  go_wp2_with fail
  go_ret
  exact ⟨rfl, rfl⟩

set_option maxRecDepth 100000 in
set_option maxHeartbeats 4000000 in
theorem ptext (x : T) (hx : Tidy 0 x) (hd : dep x ≤ 1000) {L n : Nat} {r : R × E} (he : ev L n (.need x []) ⟨[], 0⟩ = some r) (hin : RIn r.1) {b st : Nat} {w : World} (hb : b ≤ st) (hS : SB w st L 0) (hL : L ≤ 500) (ht : Tab w) (h3 : 3 < b) :
    Calls Tryz.prog 37 #[pv x, ptr st] w fun e w' => Below b w w' ∧ SB w' st L r.2.steps ∧ ((∃ v, r.1 = .ok v ∧ e = .returned (.string (textOf v))) ∨ (∃ z, r.1 = .err z ∧ e = .panicked (oops z))) := by
  have m127 : ∀ (x : Value) (w : World), (method 347 127 x "skein/need.text").run Tryz.prog w = .ok (188, x) w := fun _ _ => by kernel_rfl
  have m176 : ∀ (x : Value) (w : World), (method 347 176 x "skein/need.text").run Tryz.prog w = .ok (201, x) w := fun _ _ => by kernel_rfl
  have n188 := enters_of Tryz.func188 (by kernel_rfl) rfl
  have n201 := enters_of Tryz.func201 (by kernel_rfl) rfl
  obtain ⟨T1, x1, e1⟩ := pv_iface x
  have hg1 := grown_alloc (grown_alloc (grown_refl w none) (.cells sgCells 130 (0, 0))) (.cells #[ptr st, .slice (some ⟨w.heap.size, 0, none⟩) 5 5] 108 (0, 0))
  have hA := keepB' (alloc_at w (.cells sgCells 130 (0, 0)) _ rfl) (grown_alloc (grown_refl _ none) (.cells #[ptr st, .slice (some ⟨w.heap.size, 0, none⟩) 5 5] 108 (0, 0)))
  have HM : Hid (Calls Tryz.prog 60 #[mk st w.heap.size, .iface T1 x1] _ _) := e1 ▸ cm_all x 0 hx st w.heap.size _ hA
  have hP : PE b w [] st L ⟨[], 0⟩ := ⟨hS, rfl, (fun i c a h => by simp at h), (fun i j a h => by simp at h), (fun a h => by cases h), hb, hL⟩
  have hbw := hP.blt
  have HT : Hid (Tab w) := ht
  have HE : Hid (ev L n (.need x []) ⟨[], 0⟩ = some r) := he
  have HI : Hid (RIn r.1) := hin
  rw [e1]
  clear e1 hA ht he hin
  go_enter Tryz.func37, Tryz.ntmps37
  go_wp2_with fail
  refine (signs_ok w).mono ?_
  rintro e w0 ⟨rfl, rfl⟩
  go_wp2_with fail
  refine HM.out.mono ?_
  rintro e w1 ⟨f, c, rfl, hg2, hc⟩
  have hgg := grown_trans hg1 hg2
  have hent := hc.ent
  have HC : Hid (Calls Tryz.prog f (#[.slice none 0 0] ++ c) w1 (GP b w1 [] st L r)) := (cc_all n).1 L x [] _ r b w1 [] st f c _ HE.out (hP.grown hgg) hc (.inl ⟨rfl, rfl⟩) (by simpa using hd)
  have hf : FP b w w1 := Fr.grown hbw hgg
  go_wp2_with fail
  refine HC.out.mono ?_
  rintro e w2 (⟨v, B', y, hr, rfl, hk2, hB, hp2, hv⟩ | ⟨z, hr, rfl, hb2, hs2⟩)
  · have hbel := hf.below.trans hk2.below
    have hT2 : Tab w2 := HT.out.below hbel h3
    have hI := HI.out
    rw [hr] at hI
    have HR : Hid (r.1 = .ok v) := hr
    clear hr
    cases v with
    | nil => exact hv.elim
    | cons i j => exact hv.elim
    | num m =>
      have hv' : y = .iface 127 (.int .i64 m) := hv
      subst hv'
      have hI' : Hid (Int64 m) := hI
      have HT2 : Hid (Tab w2) := hT2
      clear hI hT2 hv
      go_wp2_with fail
      refine (vnum_text m hI'.out _ HT2.out).mono ?_
      rintro e w3 ⟨rfl, hg3⟩
      have h4 := hp2.grown hg3
      have h5 := hbel.grown hg3 hp2.blt (by simp)
      go_wp2_with fail
      go_ret
      exact ⟨h5, h4.steps, .inl ⟨_, HR.out, rfl⟩⟩
    | fn t fe =>
      obtain ⟨hdt, j1, j2, g1, d1, sc', rfl, q1, q2, q3, q4⟩ := hv
      clear hI hT2 q1 q2 q3 q4
      go_wp2_with fail
      refine (fn_text _ _).mono ?_
      rintro e w3 ⟨rfl, rfl⟩
      go_wp2_with fail
      go_ret
      exact ⟨hbel, hp2.steps, .inl ⟨_, HR.out, rfl⟩⟩
  · have HR : Hid (r.1 = .err z) := hr
    clear hr
    go_wp2_with fail
    exact ⟨rfl, hf.below.trans hb2, hs2, .inr ⟨z, HR.out, rfl⟩⟩

/- What catches a fault of reckoning. -/
theorem ans_cells {w : World} {k : Nat} {x y z : Value} {T : TypeId} (h : w.heap[k]? = some (.cells #[x, y, z] T (0, 0))) :
    w.cell? ⟨k, 0, none⟩ = some x ∧ w.cell? ⟨k, 1, none⟩ = some y ∧ w.cell? ⟨k, 2, none⟩ = some z ∧ (∀ o, w.frozen? ⟨k, o, none⟩ = false) ∧ k < w.heap.size := by
  refine ⟨?_, ?_, ?_, fun o => ?_, heap_lt h⟩ <;> simp [World.cell?, World.frozen?, h]

set_option maxRecDepth 100000 in
set_option maxHeartbeats 2000000 in
theorem rclose_panicking (st k : Nat) (t : Value) (x y : Value) (L c z : Int) (older : List PanicEntry) (w : World) (hk : w.heap[k]? = some (.cells #[t, x, y] 30 (0, 0))) (hs : SB w st L c) :
    CallsD Tryz.prog 36 #[ptr st, ptr k] (.panicking ({ v := flt z 0, recovered := false } :: older)) w fun e u' w' =>
      e = .returned (.tuple #[]) ∧ u' = .panicking ({ v := flt z 0, recovered := true } :: older) ∧ w'.heap[k]? = some (.cells #[t, .int .i64 c, .int .i64 z] 30 (0, 0)) ∧ Below k w w' := by
  refine callsD_of_wpS Tryz.func36 rfl fun c₀ cs hu => ?_
  refine wpS_seq ?_
  apply wpS_region
  simp [wpOpsS, go_sem, recoverD, hu, Tryz.ntmps36]
  refine (pcaught_some z 0 w).mono ?_
  rintro e w1 ⟨rfl, hg⟩
  have hk1 := keepB hk hg
  have hs1 := keepB hs hg
  have hgA := grown_alloc (grown_refl w1 none) (.cells #[.int .i64 z, .int .i64 0] 49 (0, 0))
  have hA := alloc_at w1 (.cells #[.int .i64 z, .int .i64 0] 49 (0, 0)) _ rfl
  have hk2 := keepB hk1 hgA
  have hs2 : SB _ st L c := keepB hs1 hgA
  simp [go_sem, Exit.thenS, storeCells]
  refine wpS_of_wp ?_
  obtain ⟨p0, p1, p2, pf, plt⟩ := ans_cells hk2
  obtain ⟨q0, q1, qf, qlt⟩ := hs2.cells
  have a0 : (w1.alloc (.cells #[.int .i64 z, .int .i64 0] 49 (0, 0))).cell? ⟨w1.heap.size, 0, none⟩ = some (.int .i64 z) := (cellsOf2 hA).1
  have hB : Below k w (w1.alloc (.cells #[.int .i64 z, .int .i64 0] 49 (0, 0))) := (Below.refl k w).grown (grown_trans hg hgA) (Nat.le_of_lt (heap_lt hk)) (by simp)
  have hkw : k < w1.heap.size := heap_lt hk1
  have hsw : st < w1.heap.size := heap_lt hs1
  change Code.wp _ _ _ (act #[ptr st, ptr k, ptr w1.heap.size, flt z 0, .agg #[.int .i64 z, .int .i64 0], undef, undef, undef, undef, undef, undef]) _
  generalize w1.alloc (.cells #[.int .i64 z, .int .i64 0] 49 (0, 0)) = W at hk2 p0 p1 p2 pf plt q0 q1 qf qlt a0 hB ⊢
  generalize w1.heap.size = kw at hkw hsw a0 ⊢
  clear hgA hA hs2 hk1 hs1
  go_region
  all_goals
    have hh : (((W.setCell ⟨k, 1, none⟩ (.int .i64 c)).setCell ⟨k, 2, none⟩ (.int .i64 z)).drew).heap[k]? = some (.cells #[t, .int .i64 c, .int .i64 z] 30 (0, 0)) := by
      show ((W.setCell ⟨k, 1, none⟩ (.int .i64 c)).setCell ⟨k, 2, none⟩ (.int .i64 z)).heap[k]? = _
      simp [World.setCell, Array.getElem?_modify, hk2]
    have hB2 : Below k w (((W.setCell ⟨k, 1, none⟩ (.int .i64 c)).setCell ⟨k, 2, none⟩ (.int .i64 z)).drew) := ((hB.setCell (p := ⟨k, 1, none⟩) (Nat.le_refl _) _).setCell (p := ⟨k, 2, none⟩) (Nat.le_refl _) _).drew
    generalize ((W.setCell ⟨k, 1, none⟩ (.int .i64 c)).setCell ⟨k, 2, none⟩ (.int .i64 z)).drew = W9 at hh hB2 ⊢
    simp [bodyPostS, results, Tryz.results36, hh, hB2]
set_option maxRecDepth 100000 in
set_option maxHeartbeats 2000000 in
theorem rclose_returning (st k : Nat) (t : Value) (x y : Value) (L c : Int) (w : World) (hk : w.heap[k]? = some (.cells #[t, x, y] 30 (0, 0))) (hs : SB w st L c) :
    CallsD Tryz.prog 36 #[ptr st, ptr k] .returning w fun e u' w' =>
      e = .returned (.tuple #[]) ∧ u' = .returning ∧ w'.heap[k]? = some (.cells #[t, .int .i64 c, .int .i64 0] 30 (0, 0)) ∧ Below k w w' := by
  refine callsD_of_wpS Tryz.func36 rfl fun c₀ cs hu => ?_
  cases c₀
  simp only at hu
  subst hu
  refine wpS_seq ?_
  apply wpS_region
  simp [wpOpsS, go_sem, recoverD, Tryz.ntmps36]
  refine (pcaught_nil w).mono ?_
  rintro e w1 ⟨rfl, hg⟩
  have hk1 := keepB hk hg
  have hs1 := keepB hs hg
  have hgA := grown_alloc (grown_refl w1 none) (.cells #[.int .i64 0, .int .i64 0] 49 (0, 0))
  have hA := alloc_at w1 (.cells #[.int .i64 0, .int .i64 0] 49 (0, 0)) _ rfl
  have hk2 := keepB hk1 hgA
  have hs2 : SB _ st L c := keepB hs1 hgA
  simp [go_sem, Exit.thenS, storeCells]
  refine wpS_of_wp ?_
  obtain ⟨p0, p1, p2, pf, plt⟩ := ans_cells hk2
  obtain ⟨q0, q1, qf, qlt⟩ := hs2.cells
  have a0 : (w1.alloc (.cells #[.int .i64 0, .int .i64 0] 49 (0, 0))).cell? ⟨w1.heap.size, 0, none⟩ = some (.int .i64 0) := (cellsOf2 hA).1
  have hB : Below k w (w1.alloc (.cells #[.int .i64 0, .int .i64 0] 49 (0, 0))) := (Below.refl k w).grown (grown_trans hg hgA) (Nat.le_of_lt (heap_lt hk)) (by simp)
  have hkw : k < w1.heap.size := heap_lt hk1
  have hsw : st < w1.heap.size := heap_lt hs1
  change Code.wp _ _ _ (act #[ptr st, ptr k, ptr w1.heap.size, Value.nilIface, .agg #[.int .i64 0, .int .i64 0], undef, undef, undef, undef, undef, undef]) _
  generalize w1.alloc (.cells #[.int .i64 0, .int .i64 0] 49 (0, 0)) = W at hk2 p0 p1 p2 pf plt q0 q1 qf qlt a0 hB ⊢
  generalize w1.heap.size = kw at hkw hsw a0 ⊢
  clear hgA hA hs2 hk1 hs1
  go_region
  all_goals
    have hh : (((W.setCell ⟨k, 1, none⟩ (.int .i64 c)).setCell ⟨k, 2, none⟩ (.int .i64 0)).drew).heap[k]? = some (.cells #[t, .int .i64 c, .int .i64 0] 30 (0, 0)) := by
      show ((W.setCell ⟨k, 1, none⟩ (.int .i64 c)).setCell ⟨k, 2, none⟩ (.int .i64 0)).heap[k]? = _
      simp [World.setCell, Array.getElem?_modify, hk2]
    have hB2 : Below k w (((W.setCell ⟨k, 1, none⟩ (.int .i64 c)).setCell ⟨k, 2, none⟩ (.int .i64 0)).drew) := ((hB.setCell (p := ⟨k, 1, none⟩) (Nat.le_refl _) _).setCell (p := ⟨k, 2, none⟩) (Nat.le_refl _) _).drew
    generalize ((W.setCell ⟨k, 1, none⟩ (.int .i64 c)).setCell ⟨k, 2, none⟩ (.int .i64 0)).drew = W9 at hh hB2 ⊢
    simp [bodyPostS, results, Tryz.results36, hh, hB2]
end Go.Proofs.YtdpbclnpmkhooaaGreatDoor
