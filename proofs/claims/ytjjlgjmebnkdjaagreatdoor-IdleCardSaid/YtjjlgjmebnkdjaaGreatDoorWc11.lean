/-
  The program: Text, reckon, Eval: every expression.
  The program's Eval.
  The document's Eval.
  The statement's own look for lists; evaled.
  Names stand where they are given, lists or not (for stage 3).
  Evals and Lists: Eval of any text, with any limit.
-/
import Derived.Test.YtjjlgjmebnkdjaaGreatDoorWc08
import Derived.Test.YtjjlgjmebnkdjaaGreatDoorWc09
import Derived.Test.YtjjlgjmebnkdjaaGreatDoorWc10
import Derived.Test.YtjjlgjmebnkdjaaGreatDoorWc07
import Derived.Test.YtjjlgjmebnkdjaaGreatDoorWc01
import Derived.Test.YtjjlgjmebnkdjaaGreatDoorWc00
namespace Go.Proofs.YtjjlgjmebnkdjaaGreatDoor
open Go Go.Proofs Go.RowKit Skein

/-- What a whole expression comes to, as text or as what goes wrong, and by how many steps. -/
def Runs (L : Nat) (t : T) (a : Except Int ByteArray) (m : Nat) : Prop :=
  ∃ n r, ev L n (.need t []) ⟨[], 0⟩ = some r ∧ ((∃ z, r.1 = .err z ∧ a = .error z ∧ m = r.2.steps) ∨ (∃ v k q, r.1 = .ok v ∧ tell L numT fnText k (.val v) r.2 = some q ∧ a = q.1 ∧ m = q.2.steps))
def txtA : Except Int ByteArray → ByteArray
  | .ok s => s
  | .error _ => ⟨#[]⟩
def errA : Except Int ByteArray → Int
  | .ok _ => 0
  | .error z => z
theorem runs_ex (L : Nat) (t : T) (h : Tidy 0 t) : ∃ a m, Runs L t a m := by
  obtain ⟨r, h1⟩ := ev_ends L (sz t) _ (.need t []) ⟨[], 0⟩ (by intro i c h; simp at h) ⟨h, Nat.le_refl _, by intro i hi; cases hi⟩ (Nat.lt_succ_self _)
  rcases hr : r.1 with v | z
  · have hv := h1.val
    rw [hr] at hv
    obtain ⟨q, h2⟩ := tell_ends L (sz t) numT fnText (sz_two t) _ (.val v) r.2 h1.ok hv (Nat.lt_succ_self _)
    exact ⟨q.1, q.2.steps, _, r, h1.run, .inr ⟨v, _, q, hr, h2.run, rfl, rfl⟩⟩
  · exact ⟨.error z, r.2.steps, _, r, h1.run, .inl ⟨z, hr, rfl, rfl⟩⟩

set_option maxRecDepth 100000 in
set_option maxHeartbeats 4000000 in
theorem ptext (x : T) (hx : Tidy 0 x) (hsm : Small x) (hd : dep x ≤ 1000) {L : Nat} {a : Except Int ByteArray} {m : Nat} (hR : Runs L x a m) {b st : Nat} {w : World} (hb : b ≤ st) (hS : SB w st L 0) (hL : L ≤ 500) (ht : Tab w) (h3 : 3 < b) :
    Calls Tryz.prog 43 #[pv x, ptr st] w fun e w' => Below b w w' ∧ SB w' st L m ∧ ((∃ s, a = .ok s ∧ e = .returned (.string s)) ∨ (∃ z, a = .error z ∧ e = .panicked (oops z))) := by
  obtain ⟨n, r, he, hrr⟩ := hR
  have hin := ev_in L n _ _ _ he (by intro c h; cases h) hsm
  have hst := ev_steps L n _ _ _ he (Nat.zero_le _)
  obtain ⟨T1, x1, e1⟩ := pv_iface x
  have g1 := grown_alloc (grown_refl w none) (.cells sgCells 137 (0, 0))
  have g2 := grown_alloc (grown_refl (w.alloc (.cells sgCells 137 (0, 0))) none) (.cells ptCells 146 (0, 0))
  have g3 := grown_alloc (grown_refl ((w.alloc (.cells sgCells 137 (0, 0))).alloc (.cells ptCells 146 (0, 0))) none) (.cells #[ptr st, .slice (some ⟨w.heap.size, 0, none⟩) 5 5, .slice (some ⟨w.heap.size + 1, 0, none⟩) 3 3] 114 (0, 0))
  have hg1 := grown_trans (grown_trans g1 g2) g3
  have hTB : TB (((w.alloc (.cells sgCells 137 (0, 0))).alloc (.cells ptCells 146 (0, 0))).alloc (.cells #[ptr st, .slice (some ⟨w.heap.size, 0, none⟩) 5 5, .slice (some ⟨w.heap.size + 1, 0, none⟩) 3 3] 114 (0, 0))) w.heap.size (w.heap.size + 1) :=
    ⟨keepB' (keepB' (alloc_at w (.cells sgCells 137 (0, 0)) _ rfl) g2) g3, keepB' (alloc_at (w.alloc (.cells sgCells 137 (0, 0))) (.cells ptCells 146 (0, 0)) (w.heap.size + 1) (by rw [alloc_size])) g3⟩
  have HM : Hid (Calls Tryz.prog 67 #[mk st w.heap.size (w.heap.size + 1), .iface T1 x1] _ _) := e1 ▸ cm_all x 0 hx st w.heap.size (w.heap.size + 1) _ hTB
  have hP : PE b w [] st L ⟨[], 0⟩ := ⟨hS, rfl, (fun i c a h => by simp at h), (fun i j a h => by simp at h), (fun a h => by cases h), hb, hL⟩
  have hbw := hP.blt
  have HT : Hid (Tab w) := ht
  have HE : Hid (ev L n (.need x []) ⟨[], 0⟩ = some r) := he
  have HI : Hid (HIn r.2 ∧ RIn r.1) := hin
  have HRR : Hid ((∃ z, r.1 = .err z ∧ a = .error z ∧ m = r.2.steps) ∨ (∃ v k q, r.1 = .ok v ∧ tell L numT fnText k (.val v) r.2 = some q ∧ a = q.1 ∧ m = q.2.steps)) := hrr
  rw [e1]
  clear e1 ht he hin hrr hTB g1 g2 g3
  go_enter Tryz.func43, Tryz.ntmps43
  go_wp2_with fail
  refine (signs_ok w).mono ?_
  rintro e w0 ⟨rfl, rfl⟩
  go_wp2_with fail
  refine (parts_ok _).mono ?_
  rintro e w0 ⟨rfl, rfl⟩
  go_wp2_with fail
  refine HM.out.mono ?_
  rintro e w1 ⟨f, c, rfl, hg2, hc⟩
  have hgg := grown_trans hg1 hg2
  have hent := hc.ent
  have HC : Hid (Calls Tryz.prog f (#[.slice none 0 0] ++ c) w1 (GP b w1 [] st L r)) := (cc_all n).1 L x [] _ r b w1 [] st f c _ HE.out (hP.grown hgg) hc (.inl ⟨rfl, rfl⟩) (by simpa using hd)
  have hf : FP b w w1 := Fr.grown hbw hgg
  go_wp2_with fail
  refine HC.out.mono ?_
  rintro e w2 (⟨v, B', y, hr, rfl, hk2, hB, hp2, hv⟩ | ⟨z, hr, rfl, hb2, hs2⟩)
  · obtain ⟨T2, y2, rfl⟩ := hv.shape
    have hbel := hf.below.trans hk2.below
    have hT2 : Tab w2 := HT.out.belowB hbel h3
    have hI := HI.out
    rw [hr] at hI
    have hex : ∃ k q, tell L numT fnText k (.val v) r.2 = some q ∧ a = q.1 ∧ m = q.2.steps := by
      rcases HRR.out with ⟨z, h1, _⟩ | ⟨v', k, q, h1, h2, h3, h4⟩
      · rw [hr] at h1; cases h1
      · rw [hr] at h1; cases h1; exact ⟨k, q, h2, h3, h4⟩
    obtain ⟨k, q, hq, rfl, rfl⟩ := hex
    obtain ⟨hm2, hent2⟩ := vp_text hv
    have HX : Hid (Calls Tryz.prog (txf T2) #[y2, ptr st] w2 (TP b w2 B' st L q)) := cpx_all k L v r.2 q b w2 B' st T2 y2 hq hst.2 hI.1 hI.2 hp2 hv hT2 h3
    clear hr hT2 hI hv HRR hq
    generalize txf T2 = ft at hm2 hent2 HX
    go_wp2_with fail
    refine HX.out.mono ?_
    rintro e w3 (⟨s, B3, hs, rfl, hk3, hB3, hp3⟩ | ⟨z, hs, rfl, hb3, hs3⟩)
    · have HS : Hid (q.1 = .ok s) := hs
      clear hs
      have h5 := hbel.trans hk3.below
      go_wp2_with fail
      go_ret
      exact ⟨h5, hp3.steps, .inl ⟨s, HS.out, rfl⟩⟩
    · have HS : Hid (q.1 = .error z) := hs
      clear hs
      go_wp2_with fail
      exact ⟨rfl, hbel.trans hb3, hs3, .inr ⟨z, HS.out, rfl⟩⟩
  · have hez : a = .error z ∧ m = r.2.steps := by
      rcases HRR.out with ⟨z', h1, h2, h3⟩ | ⟨v', k, q, h1, _⟩
      · rw [hr] at h1; cases h1; exact ⟨h2, h3⟩
      · rw [hr] at h1; cases h1
    obtain ⟨rfl, rfl⟩ := hez
    clear hr HRR
    go_wp2_with fail
    exact ⟨rfl, hf.below.trans hb2, hs2, .inr ⟨z, rfl, rfl⟩⟩

def answer (t : ByteArray) (n e : Int) : Value := .agg #[.string t, .int .i64 n, .int .i64 e]

theorem Tab.lt {w : World} (h : Tab w) : 3 < w.heap.size := by
  unfold Tab Lib.TabIs World.var? at h
  rw [gPow] at h
  simp only [Option.bind_some] at h
  rcases Nat.lt_or_ge 3 w.heap.size with h' | h'
  · exact h'
  · rw [Array.getElem?_eq_none h'] at h; simp at h

theorem set3 {w : World} {k : Nat} {x y z : Value} (h : w.heap[k]? = some (.cells #[x, y, z] 30 (0, 0))) (a b c : Value) :
    (((w.setCell ⟨k, 0, none⟩ a).setCell ⟨k, 1, none⟩ b).setCell ⟨k, 2, none⟩ c).heap[k]? = some (.cells #[a, b, c] 30 (0, 0)) := by
  simp [World.setCell, Array.getElem?_modify, h]

set_option maxRecDepth 100000 in
set_option maxHeartbeats 4000000 in
theorem preckE (x : T) (hx : Tidy 0 x) (hsm : Small x) (hd : dep x ≤ 1000) {L : Nat} {a : Except Int ByteArray} {m : Nat} (hR : Runs L x a m) (w : World) (hL : L ≤ 500) (ht : Tab w) :
    Calls Tryz.prog 32 #[pv x, .int .i64 L] w fun e w' => e = .returned (answer (txtA a) m (errA a)) ∧ Below w.heap.size w w' := by
  have hmf : ∀ (fn : Fn) (first cap : Array Value) (w : World), (Instr.makeFunc fn first cap).run Tryz.prog w = .ok (.func fn first cap) w := fun _ _ _ _ => rfl
  obtain ⟨T1, x1, e1⟩ := pv_iface x
  have hg1 := grown_alloc (grown_alloc (grown_refl w none) (.cells #[.string ⟨#[]⟩, .int .i64 0, .int .i64 0] 30 (0, 0))) (.cells #[.int .i64 L, .int .i64 0] 78 (0, 0))
  have hka := keepB' (alloc_at w (.cells #[.string ⟨#[]⟩, .int .i64 0, .int .i64 0] 30 (0, 0)) _ rfl) (grown_alloc (grown_refl _ none) (.cells #[.int .i64 L, .int .i64 0] 78 (0, 0)))
  have hsb : SB _ (w.heap.size + 1) L 0 := alloc_at (w.alloc (.cells #[.string ⟨#[]⟩, .int .i64 0, .int .i64 0] 30 (0, 0))) (.cells #[.int .i64 L, .int .i64 0] 78 (0, 0)) (w.heap.size + 1) (by rw [alloc_size])
  have h3 := ht.lt
  have HC : Hid (Calls Tryz.prog 43 #[.iface T1 x1, ptr (w.heap.size + 1)] _ _) := e1 ▸ ptext x hx hsm hd hR (b := w.heap.size + 1) (Nat.le_refl _) hsb hL (ht.grown hg1) (by omega)
  rw [e1]
  clear e1 hR hsb
  go_enter_defers Tryz.func32, Tryz.ntmps32
  go_wp2_with fail
  refine HC.out.mono ?_
  rintro e w1 ⟨hb, hs1, h⟩
  have hk1 := (hb.block w.heap.size (by omega)).trans hka
  have hB1 : Below w.heap.size w w1 := ((Below.refl _ w).grown hg1 (Nat.le_refl _) (by simp)).trans (hb.mono (by omega))
  obtain ⟨c0, c1, c2, cf, clt⟩ := ans_cells hk1
  clear hb hka hg1
  rcases h with ⟨tx, hr, rfl⟩ | ⟨z, hr, rfl⟩
  · have HR : Hid (a = .ok tx) := hr
    clear hr
    go_wp2_with fail
    refine leaves_cons (f := 42) (args := #[ptr (w.heap.size + 1), ptr w.heap.size]) (by simp) (by simp [go_sem]) ?_
    have hk2 := set3 hk1 (.string tx) (.int .i64 0) (.int .i64 0)
    have hB2 := ((hB1.setCell (p := ⟨w.heap.size, 0, none⟩) (Nat.le_refl _) (.string tx)).setCell (p := ⟨w.heap.size, 1, none⟩) (Nat.le_refl _) (.int .i64 0)).setCell (p := ⟨w.heap.size, 2, none⟩) (Nat.le_refl _) (.int .i64 0)
    have hs2 : SB (((w1.setCell ⟨w.heap.size, 0, none⟩ (.string tx)).setCell ⟨w.heap.size, 1, none⟩ (.int .i64 0)).setCell ⟨w.heap.size, 2, none⟩ (.int .i64 0)) (w.heap.size + 1) L m := by
      unfold SB
      rw [Below.heap_setCell _ _ _ _ (by show w.heap.size + 1 ≠ w.heap.size; omega), Below.heap_setCell _ _ _ _ (by show w.heap.size + 1 ≠ w.heap.size; omega), Below.heap_setCell _ _ _ _ (by show w.heap.size + 1 ≠ w.heap.size; omega)]
      exact hs1
    refine (rclose_returning (w.heap.size + 1) w.heap.size _ _ _ _ _ _ hk2 hs2).mono ?_
    rintro e u' w2 ⟨rfl, rfl, hk3, hb3⟩
    have hB3 := hB2.trans hb3
    obtain ⟨d0, d1, d2, df, dlt⟩ := ans_cells hk3
    clear hk1 hk2 hk3 c0 c1 c2 cf hB2 hb3 hs2
    simp [Leaves, settle, results, Tryz.results32, go_sem, d0, d1, d2]
    rw [HR.out]
    exact ⟨rfl, hB3⟩
  · have HR : Hid (a = .error z) := hr
    clear hr
    unfold oops
    go_wp2_with fail
    refine leaves_cons (f := 42) (args := #[ptr (w.heap.size + 1), ptr w.heap.size]) (by simp) (by simp [go_sem]) ?_
    refine (rclose_panicking (w.heap.size + 1) w.heap.size _ _ _ _ _ z [] _ hk1 hs1).mono ?_
    rintro e u' w2 ⟨rfl, rfl, hk3, hb3⟩
    have hB3 := hB1.trans hb3
    obtain ⟨d0, d1, d2, df, dlt⟩ := ans_cells hk3
    clear hk1 hk3 c0 c1 c2 cf hb3
    simp [Leaves, settle, results, Tryz.results32, go_sem, d0, d1, d2]
    rw [HR.out]
    exact ⟨rfl, hB3⟩
end Go.Proofs.YtjjlgjmebnkdjaaGreatDoor

namespace Go.Proofs.YtjjlgjmebnkdjaaGreatDoor
open Go Go.Proofs Go.RowKit Skein

theorem fin3 {f : Func} {R : Ending → World → Prop} {t : Nat} {a : Act} {W : World} {k : Nat} {x0 x1 x2 : Value} (hf : f.results = #[.cell t 30]) (ht : a.tmps[t]?.getD undef = .pointer (some ⟨k, 0, none⟩)) (hd : a.defers = []) (hk : W.heap[k]? = some (.cells #[x0, x1, x2] 30 (0, 0)))
    (hR : R (.returned (.agg #[x0, x1, x2])) W) : bodyPost Tryz.prog f R .ret a W := by
  obtain ⟨y0, y1, y2, yf, ylt⟩ := ans_cells hk
  refine bodyPost_ret (v := .agg #[x0, x1, x2]) ?_ hd hR
  simp [results, hf, go_sem, ht, y0, y1, y2]

set_option maxRecDepth 100000 in
set_option maxHeartbeats 4000000 in
theorem peval_err (s : ByteArray) (lim : Int) (w : World) (t : T) (f : Int × Int) (hf : f.1 ≠ 0) (hR : ∀ w, Calls Tryz.prog 31 #[.string s] w (RPost w t f)) :
    Calls Tryz.prog 20 #[.string s, .int .i64 lim] w fun e w' => e = .returned (answer ⟨#[]⟩ 0 f.1) ∧ Below w.heap.size w w' := by
  have HR : Hid (∀ w, Calls Tryz.prog 31 #[.string s] w (RPost w t f)) := hR
  have h0 : (f.1 == 0) = false := by simpa using hf
  have h1 : (f.1 != 0) = true := by simp [bne, h0]
  obtain ⟨f1, f2⟩ := f
  simp only at h0 h1 hf ⊢
  clear hR hf
  go_enter Tryz.func20, Tryz.ntmps20
  go_wp2_with fail
  refine (HR.out _).mono ?_
  rintro e w1 ⟨v, rfl, -, hv, hb⟩
  have hk1 := (hb.block w.heap.size (by simp)).trans (alloc_at w (.cells #[.string ⟨#[]⟩, .int .i64 0, .int .i64 0] 30 (0, 0)) _ rfl)
  have hB1 : Below w.heap.size w w1 := ((Below.refl _ w).alloc (Nat.le_refl _) _).trans (hb.mono (by simp))
  obtain ⟨c0, c1, c2, cf, clt⟩ := ans_cells hk1
  simp only
  rcases hv with rfl | ⟨T1, x1, rfl⟩
  all_goals
    go_wp2_with fail
    have hk2 := set3 hk1 (.string ⟨#[]⟩) (.int .i64 0) (.int .i64 f1)
    have hB2 := ((hB1.setCell (p := ⟨w.heap.size, 0, none⟩) (Nat.le_refl _) (.string ⟨#[]⟩)).setCell (p := ⟨w.heap.size, 1, none⟩) (Nat.le_refl _) (.int .i64 0)).setCell (p := ⟨w.heap.size, 2, none⟩) (Nat.le_refl _) (.int .i64 f1)
    have hg := grown_alloc (grown_refl (((w1.setCell ⟨w.heap.size, 0, none⟩ (.string ⟨#[]⟩)).setCell ⟨w.heap.size, 1, none⟩ (.int .i64 0)).setCell ⟨w.heap.size, 2, none⟩ (.int .i64 f1)) none) (.cells #[.int .i64 f1, .int .i64 f2] 53 (0, 0))
    exact fin3 (t := 4) Tryz.results20 rfl rfl (keepB' hk2 hg) ⟨rfl, hB2.grown hg hB2.size (by simp)⟩

set_option maxRecDepth 100000 in
set_option maxHeartbeats 4000000 in
theorem peval_lim (s : ByteArray) (lim : Int) (w : World) (t : T) (hl : lim < 0 ∨ 500 < lim) (hR : ∀ w, Calls Tryz.prog 31 #[.string s] w (RPost w t (0, 0))) :
    Calls Tryz.prog 20 #[.string s, .int .i64 lim] w fun e w' => e = .returned (answer ⟨#[]⟩ 0 4) ∧ Below w.heap.size w w' := by
  have HR : Hid (∀ w, Calls Tryz.prog 31 #[.string s] w (RPost w t (0, 0))) := hR
  clear hR
  have hl' : (decide (lim < 0) = true) ∨ (decide (lim < 0) = false ∧ decide (500 < lim) = true) := by
    by_cases h : lim < 0
    · exact .inl (by simpa using h)
    · exact .inr ⟨by simpa using h, by simp; omega⟩
  clear hl
  rcases hl' with l1 | ⟨l1, l2⟩
  all_goals
    go_enter Tryz.func20, Tryz.ntmps20
    go_wp2_with fail
    refine (HR.out _).mono ?_
    rintro e w1 ⟨v, rfl, -, hv, hb⟩
    have hk1 := (hb.block w.heap.size (by simp)).trans (alloc_at w (.cells #[.string ⟨#[]⟩, .int .i64 0, .int .i64 0] 30 (0, 0)) _ rfl)
    have hB1 : Below w.heap.size w w1 := ((Below.refl _ w).alloc (Nat.le_refl _) _).trans (hb.mono (by simp))
    obtain ⟨c0, c1, c2, cf, clt⟩ := ans_cells hk1
    simp only
    rcases hv with rfl | ⟨T1, x1, rfl⟩
    all_goals
      go_wp2_with fail
      have hk2 := set3 hk1 (.string ⟨#[]⟩) (.int .i64 0) (.int .i64 4)
      have hB2 := ((hB1.setCell (p := ⟨w.heap.size, 0, none⟩) (Nat.le_refl _) (.string ⟨#[]⟩)).setCell (p := ⟨w.heap.size, 1, none⟩) (Nat.le_refl _) (.int .i64 0)).setCell (p := ⟨w.heap.size, 2, none⟩) (Nat.le_refl _) (.int .i64 4)
      have hg := grown_alloc (grown_refl (((w1.setCell ⟨w.heap.size, 0, none⟩ (.string ⟨#[]⟩)).setCell ⟨w.heap.size, 1, none⟩ (.int .i64 0)).setCell ⟨w.heap.size, 2, none⟩ (.int .i64 4)) none) (.cells #[.int .i64 0, .int .i64 0] 53 (0, 0))
      exact fin3 (t := 4) Tryz.results20 rfl rfl (keepB' hk2 hg) ⟨rfl, hB2.grown hg hB2.size (by simp)⟩

set_option maxRecDepth 100000 in
set_option maxHeartbeats 4000000 in
theorem peval_ok (s : ByteArray) (L : Nat) (w : World) (t : T) (hL : L ≤ 500) (a : ByteArray) (n z : Int) (ht : Tab w) (hR : ∀ w, Calls Tryz.prog 31 #[.string s] w (RPost w t (0, 0))) (hE : ∀ w, Tab w → Calls Tryz.prog 32 #[pv t, .int .i64 L] w fun e w' => e = .returned (answer a n z) ∧ Below w.heap.size w w') :
    Calls Tryz.prog 20 #[.string s, .int .i64 L] w fun e w' => e = .returned (answer a n z) ∧ Below w.heap.size w w' := by
  have HR : Hid (∀ w, Calls Tryz.prog 31 #[.string s] w (RPost w t (0, 0))) := hR
  obtain ⟨T1, x1, e1⟩ := pv_iface t
  have HE : Hid (∀ w, Tab w → Calls Tryz.prog 32 #[.iface T1 x1, .int .i64 L] w fun e w' => e = .returned (.agg #[.string a, .int .i64 n, .int .i64 z]) ∧ Below w.heap.size w w') := fun w h => e1 ▸ hE w h
  have E1 : Hid (pv t = .iface T1 x1) := e1
  have HT : Hid (Tab w) := ht
  have h3 := ht.lt
  clear hR hE e1 ht
  have l1 : decide ((L : Int) < 0) = false := by simp
  have l2 : decide ((500 : Int) < L) = false := by simp; omega
  go_enter Tryz.func20, Tryz.ntmps20
  go_wp2_with fail
  refine (HR.out _).mono ?_
  rintro e w1 ⟨v, rfl, hv0, hv, hb⟩
  have hv1 := hv0 rfl
  rw [E1.out] at hv1
  subst hv1
  have hk1 := (hb.block w.heap.size (by simp)).trans (alloc_at w (.cells #[.string ⟨#[]⟩, .int .i64 0, .int .i64 0] 30 (0, 0)) _ rfl)
  have hB1 : Below w.heap.size w w1 := ((Below.refl _ w).alloc (Nat.le_refl _) _).trans (hb.mono (by simp))
  have hg := grown_alloc (grown_refl w1 none) (.cells #[.int .i64 0, .int .i64 0] 53 (0, 0))
  have hB2 := hB1.grown hg hB1.size (by simp)
  have hk2 := keepB' hk1 hg
  clear hv0 hv hb
  simp only
  go_wp2_with fail
  refine (HE.out _ (HT.out.belowB hB2 h3)).mono ?_
  rintro e w2 ⟨rfl, hb2⟩
  have hk3 := (hb2.block w.heap.size (heap_lt hk2)).trans hk2
  have hB3 := hB2.trans (hb2.mono hB2.size)
  obtain ⟨c0, c1, c2, cf, clt⟩ := ans_cells hk3
  go_wp2_with fail
  have hk4 := set3 hk3 (.string a) (.int .i64 n) (.int .i64 z)
  have hB4 := ((hB3.setCell (p := ⟨w.heap.size, 0, none⟩) (Nat.le_refl _) (.string a)).setCell (p := ⟨w.heap.size, 1, none⟩) (Nat.le_refl _) (.int .i64 n)).setCell (p := ⟨w.heap.size, 2, none⟩) (Nat.le_refl _) (.int .i64 z)
  exact fin3 (t := 4) Tryz.results20 rfl rfl hk4 ⟨rfl, hB4⟩
end Go.Proofs.YtjjlgjmebnkdjaaGreatDoor

namespace Go.Proofs.YtjjlgjmebnkdjaaGreatDoor
open Go Go.Proofs Go.RowKit Skein

set_option maxRecDepth 100000 in
set_option maxHeartbeats 4000000 in
theorem reval_err (s : ByteArray) (lim : Int) (w : World) (f1 f2 : Int) (hf : f1 ≠ 0) (hD : ∀ w, Calls Tryz.prog 27 #[.string s] w fun e w' => ∃ a, e = .returned (.tuple #[.pointer a, .int .i64 f1, .int .i64 f2]) ∧ Below w.heap.size w w') :
    Calls Tryz.prog 29 #[.string s, .int .i64 lim] w fun e w' => e = .returned (answer ⟨#[]⟩ 0 f1) ∧ Below w.heap.size w w' := by
  have HD : Hid (∀ w, Calls Tryz.prog 27 #[.string s] w fun e w' => ∃ a, e = .returned (.tuple #[.pointer a, .int .i64 f1, .int .i64 f2]) ∧ Below w.heap.size w w') := hD
  have h0 : (f1 == 0) = false := by simpa using hf
  have h1 : (f1 != 0) = true := by simp [bne, h0]
  clear hD hf
  go_enter Tryz.func29, Tryz.ntmps29
  go_wp2_with fail
  refine (HD.out _).mono ?_
  rintro e w1 ⟨a, rfl, hb⟩
  have hk1 := (hb.block w.heap.size (by simp)).trans (alloc_at w (.cells #[.string ⟨#[]⟩, .int .i64 0, .int .i64 0] 30 (0, 0)) _ rfl)
  have hB1 : Below w.heap.size w w1 := ((Below.refl _ w).alloc (Nat.le_refl _) _).trans (hb.mono (by simp))
  obtain ⟨c0, c1, c2, cf, clt⟩ := ans_cells hk1
  go_wp2_with fail
  have hk2 := set3 hk1 (.string ⟨#[]⟩) (.int .i64 0) (.int .i64 f1)
  have hB2 := ((hB1.setCell (p := ⟨w.heap.size, 0, none⟩) (Nat.le_refl _) (.string ⟨#[]⟩)).setCell (p := ⟨w.heap.size, 1, none⟩) (Nat.le_refl _) (.int .i64 0)).setCell (p := ⟨w.heap.size, 2, none⟩) (Nat.le_refl _) (.int .i64 f1)
  exact fin3 (t := 4) Tryz.results29 rfl rfl hk2 ⟨rfl, hB2⟩

set_option maxRecDepth 100000 in
set_option maxHeartbeats 4000000 in
theorem reval_lim (s : ByteArray) (lim : Int) (w : World) (hl : lim < 0 ∨ 500 < lim) (hD : ∀ w, Calls Tryz.prog 27 #[.string s] w fun e w' => ∃ a, e = .returned (.tuple #[.pointer a, .int .i64 0, .int .i64 0]) ∧ Below w.heap.size w w') :
    Calls Tryz.prog 29 #[.string s, .int .i64 lim] w fun e w' => e = .returned (answer ⟨#[]⟩ 0 4) ∧ Below w.heap.size w w' := by
  have HD : Hid (∀ w, Calls Tryz.prog 27 #[.string s] w fun e w' => ∃ a, e = .returned (.tuple #[.pointer a, .int .i64 0, .int .i64 0]) ∧ Below w.heap.size w w') := hD
  clear hD
  have hl' : (decide (lim < 0) = true) ∨ (decide (lim < 0) = false ∧ decide (500 < lim) = true) := by
    by_cases h : lim < 0
    · exact .inl (by simpa using h)
    · exact .inr ⟨by simpa using h, by simp; omega⟩
  clear hl
  rcases hl' with l1 | ⟨l1, l2⟩
  all_goals
    go_enter Tryz.func29, Tryz.ntmps29
    go_wp2_with fail
    refine (HD.out _).mono ?_
    rintro e w1 ⟨a, rfl, hb⟩
    have hk1 := (hb.block w.heap.size (by simp)).trans (alloc_at w (.cells #[.string ⟨#[]⟩, .int .i64 0, .int .i64 0] 30 (0, 0)) _ rfl)
    have hB1 : Below w.heap.size w w1 := ((Below.refl _ w).alloc (Nat.le_refl _) _).trans (hb.mono (by simp))
    obtain ⟨c0, c1, c2, cf, clt⟩ := ans_cells hk1
    go_wp2_with fail
    have hk2 := set3 hk1 (.string ⟨#[]⟩) (.int .i64 0) (.int .i64 4)
    have hB2 := ((hB1.setCell (p := ⟨w.heap.size, 0, none⟩) (Nat.le_refl _) (.string ⟨#[]⟩)).setCell (p := ⟨w.heap.size, 1, none⟩) (Nat.le_refl _) (.int .i64 0)).setCell (p := ⟨w.heap.size, 2, none⟩) (Nat.le_refl _) (.int .i64 4)
    exact fin3 (t := 4) Tryz.results29 rfl rfl hk2 ⟨rfl, hB2⟩

set_option maxRecDepth 100000 in
set_option maxHeartbeats 8000000 in
theorem reval_ok (s : ByteArray) (w : World) (t : T) (ht : Tidy 0 t) (hsm : Small t) {L : Nat} {a0 : Except Int ByteArray} {m : Nat} (hR : Runs L t a0 m) (hL : L ≤ 500)
    (hD : ∀ w, Calls Tryz.prog 27 #[.string s] w fun e w' => ∃ a, e = .returned (.tuple #[.pointer a, .int .i64 0, .int .i64 0]) ∧ NodeAt w.heap.size w' t (.pointer a) ∧ Below w.heap.size w w') :
    Calls Tryz.prog 29 #[.string s, .int .i64 L] w fun e w' => e = .returned (answer (txtA a0) m (errA a0)) ∧ Below w.heap.size w w' := by
  have HD : Hid (∀ w, Calls Tryz.prog 27 #[.string s] w fun e w' => ∃ a, e = .returned (.tuple #[.pointer a, .int .i64 0, .int .i64 0]) ∧ NodeAt w.heap.size w' t (.pointer a) ∧ Below w.heap.size w w') := hD
  obtain ⟨n, r, he, hrr⟩ := hR
  have hst := ev_steps L n _ _ _ he (Nat.zero_le _)
  have HI : Hid (HIn r.2 ∧ RIn r.1) := ev_in L n _ _ _ he (by intro c h; cases h) hsm
  have HE : Hid (ev L n (.need t []) ⟨[], 0⟩ = some r) := he
  have HRR : Hid ((∃ z, r.1 = .err z ∧ a0 = .error z ∧ m = r.2.steps) ∨ (∃ v k q, r.1 = .ok v ∧ tell L numT fnText k (.val v) r.2 = some q ∧ a0 = q.1 ∧ m = q.2.steps)) := hrr
  have HT : Hid (Tidy 0 t) := ht
  clear hD he hrr ht
  have l1 : decide ((L : Int) < 0) = false := by simp
  have l2 : decide ((500 : Int) < L) = false := by simp; omega
  go_enter Tryz.func29, Tryz.ntmps29
  go_wp2_with fail
  refine (HD.out _).mono ?_
  rintro e w1 ⟨a, rfl, hn, hb⟩
  have hk1 := (hb.block w.heap.size (by simp)).trans (alloc_at w (.cells #[.string ⟨#[]⟩, .int .i64 0, .int .i64 0] 30 (0, 0)) _ rfl)
  have hB1 : Below w.heap.size w w1 := ((Below.refl _ w).alloc (Nat.le_refl _) _).trans (hb.mono (by simp))
  have hsz : w.heap.size + 1 ≤ w1.heap.size := by have := hb.size; rw [alloc_size] at this; exact this
  have hg := grown_alloc (grown_refl w1 none) (.cells #[.int .i64 0, .int .i64 L, .int .i64 0] 68 (0, 0))
  have hwb : WB (w1.alloc (.cells #[.int .i64 0, .int .i64 L, .int .i64 0] 68 (0, 0))) w1.heap.size ((0 : Nat) : Int) L 0 := alloc_at w1 _ _ rfl
  rw [alloc_size] at hn hb
  have hf0 : Fr 89 68 (w.heap.size + 1) w1 (w1.alloc (.cells #[.int .i64 0, .int .i64 L, .int .i64 0] 68 (0, 0))) := Fr.grown hsz hg
  have hRE : RE (w.heap.size + 1) (w1.alloc (.cells #[.int .i64 0, .int .i64 L, .int .i64 0] 68 (0, 0))) [] w1.heap.size L ⟨[], 0⟩ := ⟨hwb, rfl, (fun i c a h => by simp at h), (fun i j a h => by simp at h), (fun a h => by cases h), hsz, hL⟩
  have HG : Hid (Calls Tryz.prog 37 #[ptr w1.heap.size, .pointer a, nilp] (w1.alloc (.cells #[.int .i64 0, .int .i64 L, .int .i64 0] 68 (0, 0))) _) := (cn_all n).1 L t [] _ r (w.heap.size + 1) _ [] w1.heap.size _ _ HE.out hRE HT.out (NodeAt.fr hf0 _ _ hn) rfl
  have hk2 := keepB' hk1 hg
  have hB2 := hB1.grown hg hB1.size (by simp)
  clear hn hRE hwb hb
  go_wp2_with fail
  refine HG.out.mono ?_
  intro e w3 hG
  have hk3 := hG.1.keep _ _ 30 (by decide) (by decide) hk2
  have hB3 := hB2.trans (hG.1.below.mono (by omega))
  rcases hr : r.1 with v | z
  · obtain ⟨A', k', n', a1, a2, a3, a4, rfl, hk, hA, h1, hv⟩ := hG.v hr
    have hg3 := grown_alloc (grown_refl w3 none) (.cells #[.int .u8 k', .int .i64 n', .pointer a1, .pointer a2, .pointer a3, .pointer a4] 72 (0, 0))
    have h2 := h1.grown hg3
    have hk4 := keepB' hk3 hg3
    have hB4 := hB3.grown hg3 hB3.size (by simp)
    have hI := HI.out
    rw [hr] at hI
    have hex : ∃ k q, tell L numT fnText k (.val v) r.2 = some q ∧ a0 = q.1 ∧ m = q.2.steps := by
      rcases HRR.out with ⟨z, h1, _⟩ | ⟨v', k, q, h1, h2, h3, h4⟩
      · rw [hr] at h1; cases h1
      · rw [hr] at h1; cases h1; exact ⟨k, q, h2, h3, h4⟩
    obtain ⟨k, q, hq, rfl, rfl⟩ := hex
    have HTX : Hid (Calls Tryz.prog 38 #[ptr w1.heap.size, rv k' n' (.pointer a1) (.pointer a2) (.pointer a3) (.pointer a4)] (w3.alloc (.cells #[.int .u8 k', .int .i64 n', .pointer a1, .pointer a2, .pointer a3, .pointer a4] 72 (0, 0))) (TGot (w.heap.size + 1) (w3.alloc (.cells #[.int .u8 k', .int .i64 n', .pointer a1, .pointer a2, .pointer a3, .pointer a4] 72 (0, 0))) A' w1.heap.size L q)) :=
      ct_all k L v r.2 q _ _ A' _ _ hq hst.2 hI.1 hI.2 h2 (hv.fr (Fr.grown h1.blt hg3) (Ext.refl _))
    clear hv h1 hG hk hq hI HRR hr
    go_wp2_with fail
    refine HTX.out.mono ?_
    rintro e w5 ⟨k5, ⟨tx, A5, hs, rfl, hA5, h6⟩ | ⟨z, hs, rfl, h6⟩⟩
    · have HS : Hid (q.1 = .ok tx) := hs
      have hk6 := k5.keep _ _ 30 (by decide) (by decide) hk4
      have hB6 := hB4.trans (k5.below.mono (by omega))
      obtain ⟨c0, c1, c2, cf, clt⟩ := ans_cells hk6
      obtain ⟨e0, e1, e2, ef, elt⟩ := h6.walk.cells
      have hk7 := set3 hk6 (.string tx) (.int .i64 q.2.steps) (.int .i64 0)
      have hB7 := ((hB6.setCell (p := ⟨w.heap.size, 0, none⟩) (Nat.le_refl _) (.string tx)).setCell (p := ⟨w.heap.size, 1, none⟩) (Nat.le_refl _) (.int .i64 q.2.steps)).setCell (p := ⟨w.heap.size, 2, none⟩) (Nat.le_refl _) (.int .i64 0)
      clear h2 h6 hk6 hk4 hB4 hB6 hs k5
      go_wp2_with fail
      go_region
      all_goals
        go_wp2_with fail
        exact fin3 (t := 4) Tryz.results29 rfl rfl hk7 ⟨by rw [HS.out]; rfl, belowSame hB7 rfl rfl rfl rfl⟩
    · have HS : Hid (q.1 = .error z) := hs
      have hk6 := k5.keep _ _ 30 (by decide) (by decide) hk4
      have hB6 := hB4.trans (k5.below.mono (by omega))
      obtain ⟨c0, c1, c2, cf, clt⟩ := ans_cells hk6
      obtain ⟨e0, e1, e2, ef, elt⟩ := h6.walk.cells
      have hz0 : (z == 0) = false := by simpa using h6.ne
      have hz1 : (z != 0) = true := by simp [bne, hz0]
      have hk7 := set3 hk6 (.string ⟨#[]⟩) (.int .i64 q.2.steps) (.int .i64 z)
      have hB7 := ((hB6.setCell (p := ⟨w.heap.size, 0, none⟩) (Nat.le_refl _) (.string ⟨#[]⟩)).setCell (p := ⟨w.heap.size, 1, none⟩) (Nat.le_refl _) (.int .i64 q.2.steps)).setCell (p := ⟨w.heap.size, 2, none⟩) (Nat.le_refl _) (.int .i64 z)
      clear h2 h6 hk6 hk4 hB4 hB6 hs k5
      go_wp2_with fail
      go_region
      all_goals
        go_wp2_with fail
        exact fin3 (t := 4) Tryz.results29 rfl rfl hk7 ⟨by rw [HS.out]; rfl, belowSame hB7 rfl rfl rfl rfl⟩
  · have hez : a0 = .error z ∧ m = r.2.steps := by
      rcases HRR.out with ⟨z', h1, h2, h3⟩ | ⟨v', k, q, h1, _⟩
      · rw [hr] at h1; cases h1; exact ⟨h2, h3⟩
      · rw [hr] at h1; cases h1
    obtain ⟨rfl, rfl⟩ := hez
    obtain ⟨k', n', a1, a2, a3, a4, rfl, hk, h1⟩ := hG.x hr
    clear HRR
    have hg3 := grown_alloc (grown_refl w3 none) (.cells #[.int .u8 k', .int .i64 n', .pointer a1, .pointer a2, .pointer a3, .pointer a4] 72 (0, 0))
    have h2 := h1.grown hg3
    have hk4 := keepB' hk3 hg3
    have hB4 := hB3.grown hg3 hB3.size (by simp)
    clear h1 hG hk
    go_wp2_with fail
    refine (rtext_err h2 k' n' a1 a2 a3 a4).mono ?_
    rintro e w5 ⟨rfl, hg5⟩
    have h6 := h2.grown hg5
    have hk6 := keepB' hk4 hg5
    have hB6 := hB4.grown hg5 hB4.size (by simp)
    obtain ⟨c0, c1, c2, cf, clt⟩ := ans_cells hk6
    obtain ⟨e0, e1, e2, ef, elt⟩ := h6.walk.cells
    have hz0 : (z == 0) = false := by simpa using h6.ne
    have hz1 : (z != 0) = true := by simp [bne, hz0]
    have hk7 := set3 hk6 (.string ⟨#[]⟩) (.int .i64 r.2.steps) (.int .i64 z)
    have hB7 := ((hB6.setCell (p := ⟨w.heap.size, 0, none⟩) (Nat.le_refl _) (.string ⟨#[]⟩)).setCell (p := ⟨w.heap.size, 1, none⟩) (Nat.le_refl _) (.int .i64 r.2.steps)).setCell (p := ⟨w.heap.size, 2, none⟩) (Nat.le_refl _) (.int .i64 z)
    clear h2 h6 hk6 hk4 hB4 hB6
    go_wp2_with fail
    go_region
    all_goals
      go_wp2_with fail
      exact fin3 (t := 4) Tryz.results29 rfl rfl hk7 ⟨rfl, belowSame hB7 rfl rfl rfl rfl⟩
end Go.Proofs.YtjjlgjmebnkdjaaGreatDoor

namespace Go.Proofs.YtjjlgjmebnkdjaaGreatDoor
open Go Go.Proofs Go.RowKit Skein

theorem lw_len : lw.length = 5 := rfl
theorem lw_pos {x : ByteArray} (h : x ∈ lw) : 1 ≤ x.size ∧ x.size ≤ 4 := by
  simp only [lw, List.mem_cons, List.not_mem_nil, or_false] at h
  rcases h with rfl | rfl | rfl | rfl | rfl <;> decide
def Free (s : ByteArray) (i : Nat) (x : ByteArray) : Prop := i + x.size ≤ s.size → s.extract i (i + x.size) ≠ x
def lwCells : Array Value := #[.string ⟨#[91]⟩, .string ⟨#[58]⟩, .string ⟨#[104, 101, 97, 100]⟩, .string ⟨#[116, 97, 105, 108]⟩, .string ⟨#[110, 117, 108, 108]⟩]
theorem lw_cells {w : World} {g : Nat} (h : w.heap[g]? = some (.cells lwCells 9 (0, 0))) (k : Nat) (hk : k < lw.length) : w.cell? ⟨g, k, none⟩ = some (.string lw[k]) := by
  have hk' : k < 5 := hk
  have : k = 0 ∨ k = 1 ∨ k = 2 ∨ k = 3 ∨ k = 4 := by omega
  rcases this with rfl | rfl | rfl | rfl | rfl <;> simp [World.cell?, h, lwCells, lw]

set_option maxRecDepth 100000 in
set_option maxHeartbeats 4000000 in
theorem lists_ok (s : ByteArray) (hs : s.size ≤ 9223372036854775807) (w : World) :
    Calls Tryz.prog 18 #[.string s] w fun e w' => ∃ b, e = .returned (.bool b) ∧ (b = false → NoSub s) ∧ w.grownBy w' none := by
  have hg0 := grown_alloc (grown_refl w none) (.cells lwCells 9 (0, 0))
  have hx0 := alloc_at w (.cells lwCells 9 (0, 0)) _ rfl
  go_enter Tryz.func18, Tryz.ntmps18
  go_wp2_with fail
  generalize hW : w.alloc (.cells #[.string ⟨#[91]⟩, .string ⟨#[58]⟩, .string ⟨#[104, 101, 97, 100]⟩, .string ⟨#[116, 97, 105, 108]⟩, .string ⟨#[110, 117, 108, 108]⟩] 9 (0, 0)) = W
  have hg : World.grownBy w W none := by rw [← hW]; exact hg0
  have hx : W.heap[w.heap.size]? = some (.cells lwCells 9 (0, 0)) := by rw [← hW]; exact hx0
  clear hW hg0 hx0
  go_loopw [4] (fun v wr => ∃ i : Nat, i ≤ s.size ∧ v = .int .i64 i ∧ Hid (∀ a, a < i → ∀ x ∈ lw, Free s a x) ∧ ∃ nd, wr = W.drewN nd) (fun v _ => s.size - (intOf v).toNat)
  case atStart => exact ⟨0, Nat.zero_le _, rfl, fun a h => by omega, 0, rfl⟩
  case round =>
    obtain ⟨i, hi, rfl, H, nd, rfl⟩ := hrel
    by_cases hlt : i < s.size
    · have d1 : decide ((i : Int) < s.size) = true := by simp; omega
      go_wp2_with fail
      go_loopw [5] (fun v wr => ∃ k : Nat, k ≤ 5 ∧ v = .int .i64 k ∧ Hid (∀ j (h : j < lw.length), j < k → Free s i lw[j]) ∧ ∃ nd, wr = W.drewN nd) (fun v _ => 5 - (intOf v).toNat)
      case atStart => exact ⟨0, Nat.zero_le _, rfl, fun j _ h => by omega, _, rfl⟩
      case round =>
        obtain ⟨k, hk, rfl, H2, nd2, rfl⟩ := hrel
        by_cases hk5 : k < 5
        · have hkl : k < lw.length := hk5
          have hck := lw_cells (w := W) hx k hkl
          have hcd : (W.drewN nd2).cell? ⟨w.heap.size, k, none⟩ = some (.string lw[k]) := hck
          have hsz := lw_pos (List.getElem_mem hkl)
          have hk6 : (k : Int) < 5 := by omega
          generalize hx' : lw[k] = x at hck hcd hsz
          have HX : Hid (lw[k] = x) := hx'
          clear hx'
          have fin : Free s i x → Hid (∀ j (h : j < lw.length), j < k + 1 → Free s i lw[j]) := fun hfr j h hj => by
            by_cases e : j = k
            · subst e; rw [HX.out]; exact hfr
            · exact H2.out j h (by omega)
          by_cases hfit : i + x.size ≤ s.size
          · have d2 : decide ((x.size : Int) ≤ (s.size : Int) - (i : Int)) = true := by simp; omega
            cases heq : eqb (s.extract i (i + x.size)) x
            · have hq : ((s.extract i (i + x.size)).toList == x.toList) = false := by rw [eqb_walk, heq]
              have hF := fin (fun _ => eqb_ne.1 heq)
              clear fin heq
              go_wp2_with fail
              go_quiet (fail)
              go_wp2_with fail
              exact ⟨⟨k + 1, by omega, by go_num, hF, _, rfl⟩, by simp [intOf]; omega⟩
            · have hq : ((s.extract i (i + x.size)).toList == x.toList) = true := by rw [eqb_walk, heq]
              clear fin heq
              go_wp2_with fail
              go_quiet (fail)
              go_wp2_with fail
              go_ret
              exact ⟨true, rfl, by simp, grown_drewN (grown_drewN hg _) _⟩
          · have d2 : decide ((x.size : Int) ≤ (s.size : Int) - (i : Int)) = false := by simp; omega
            have hF := fin (fun h => absurd h hfit)
            clear fin
            go_wp2_with fail
            go_quiet (fail)
            go_wp2_with fail
            exact ⟨⟨k + 1, by omega, by go_num, hF, _, rfl⟩, by simp [intOf]; omega⟩
        · go_wp2_with fail
          refine ⟨⟨i + 1, by omega, by go_num, fun a ha x hxm => ?_, _, rfl⟩, by simp [intOf]; omega⟩
          by_cases e : a = i
          · subst e
            obtain ⟨j, hj, rfl⟩ := List.mem_iff_getElem.1 hxm
            exact H2.out j hj (by have : j < 5 := hj; omega)
          · exact H.out a (by omega) x hxm
    · go_wp2_with fail
      go_ret
      refine ⟨false, rfl, fun _ a x hx hsz => ?_, grown_drewN hg _⟩
      have := (lw_pos hx).1
      exact H.out a (by omega) x hx hsz

theorem ans3 {w : World} {k : Nat} {x y z : Value} (h : w.heap[k]? = some (.cells #[x, y, z] 30 (0, 0))) : w.cell? ⟨k, 0, none⟩ = some x ∧ w.cell? ⟨k, 1, none⟩ = some y ∧ w.cell? ⟨k, 2, none⟩ = some z :=
  ⟨(ans_cells h).1, (ans_cells h).2.1, (ans_cells h).2.2.1⟩

set_option maxRecDepth 100000 in
set_option maxHeartbeats 4000000 in
theorem evaled_of (s : ByteArray) (lim : Int) (w : World) (ht : Tab w) (a : ByteArray) (n z : Int)
    (hC : ∀ w, Tab w → Calls Tryz.prog 20 #[.string s, .int .i64 lim] w fun e w' => e = .returned (answer a n z) ∧ Below w.heap.size w w')
    (hD : ∀ w, Calls Tryz.prog 29 #[.string s, .int .i64 lim] w fun e w' => e = .returned (answer a n z) ∧ Below w.heap.size w w') :
    Calls Tryz.prog 17 #[.string s, .int .i64 lim] w fun e w' => e = .returned (.bool true) ∧ Below w.heap.size w w' := by
  have HC : Hid (∀ w, Tab w → Calls Tryz.prog 20 #[.string s, .int .i64 lim] w fun e w' => e = .returned (.agg #[.string a, .int .i64 n, .int .i64 z]) ∧ Below w.heap.size w w') := hC
  have HD : Hid (∀ w, Calls Tryz.prog 29 #[.string s, .int .i64 lim] w fun e w' => e = .returned (.agg #[.string a, .int .i64 n, .int .i64 z]) ∧ Below w.heap.size w w') := hD
  have HT : Hid (Tab w) := ht
  clear hC hD ht
  go_enter Tryz.func17, Tryz.ntmps17
  go_wp2_with fail
  refine (HC.out _ HT.out).mono ?_
  rintro e w1 ⟨rfl, hb1⟩
  have hg1 := grown_alloc (grown_refl w1 none) (.cells #[.string a, .int .i64 n, .int .i64 z] 30 (0, 0))
  have hx1 := alloc_at w1 (.cells #[.string a, .int .i64 n, .int .i64 z] 30 (0, 0)) _ rfl
  have hB1 := hb1.grown hg1 hb1.size (by simp)
  go_wp2_with fail
  refine (HD.out _).mono ?_
  rintro e w2 ⟨rfl, hb2⟩
  have hx2 := (hb2.block w1.heap.size (heap_lt hx1)).trans hx1
  have hB2 := hB1.trans (hb2.mono hB1.size)
  have hg3 := grown_alloc (grown_refl w2 none) (.cells #[.string a, .int .i64 n, .int .i64 z] 30 (0, 0))
  have hx3 := alloc_at w2 (.cells #[.string a, .int .i64 n, .int .i64 z] 30 (0, 0)) _ rfl
  have hx4 := keepB' hx2 hg3
  have hB3 := hB2.grown hg3 hB2.size (by simp)
  obtain ⟨c0, c1, c2⟩ := ans3 hx4
  obtain ⟨d0, d1, d2⟩ := ans3 hx3
  have q0 : (a.toList == a.toList) = true := by simp
  clear hx1 hx2 hx3 hx4
  go_wp2_with fail
  go_ret
  exact ⟨rfl, hB3⟩
end Go.Proofs.YtjjlgjmebnkdjaaGreatDoor

namespace Go.Proofs.YtjjlgjmebnkdjaaGreatDoor
open Go Go.Proofs Go.RowKit Skein

def Ok3 : Nat → T → Prop
  | d, .var i => i < d
  | d, .letE n a b => n = d ∧ Ok3 (d + 1) a ∧ Ok3 (d + 1) b
  | d, .fn n a => n = d ∧ Ok3 (d + 1) a
  | d, .ite a b c => Ok3 d a ∧ Ok3 d b ∧ Ok3 d c
  | d, .app a b => Ok3 d a ∧ Ok3 d b
  | d, .un _ a => Ok3 d a
  | d, .bin _ a b => Ok3 d a ∧ Ok3 d b
  | _, _ => True
def acc3 (d : Nat) : NT → Prop
  | .sumL a => Ok3 d a | .prodL a => Ok3 d a | .useL a => Ok3 d a | _ => True

theorem tidy_of3 : ∀ (t : T) (d : Nat), Clean t → Ok3 d t → Tidy d t := by
  intro t
  induction t with
  | junk => intro d h; exact h.elim
  | free => intro d h; exact h.elim
  | nil => intro d _ _; trivial
  | num n => intro d _ _; trivial
  | var n => intro d _ h; exact h
  | letE n a b ia ib => rintro d ⟨_, ha, hb⟩ ⟨e, ka, kb⟩; exact ⟨e, ia _ ha ka, ib _ hb kb⟩
  | fn n a ia => rintro d ⟨_, ha⟩ ⟨e, ka⟩; exact ⟨e, ia _ ha ka⟩
  | ite a b c ia ib ic => rintro d ⟨ha, hb, hc⟩ ⟨ka, kb, kc⟩; exact ⟨ia _ ha ka, ib _ hb kb, ic _ hc kc⟩
  | app a b ia ib => rintro d ⟨ha, hb⟩ ⟨ka, kb⟩; exact ⟨ia _ ha ka, ib _ hb kb⟩
  | un op a ia => rintro d ⟨ho, ha⟩ ka; exact ⟨ho, ia _ ha ka⟩
  | bin op a b ia ib =>
    rintro d ⟨ho, ha, hb⟩ ⟨ka, kb⟩
    refine ⟨?_, ia _ ha ka, ib _ hb kb⟩
    rcases ho with rfl | rfl | rfl | rfl | rfl | rfl <;> simp

theorem PM_ok3 (s : ByteArray) : ∀ (n : Nat) (nt : NT) (m : M) (r : T × M), PM s n nt m = some r → Inv s m → acc3 m.given.length nt → Ok3 m.given.length r.1 := by
  intro n
  induction n with
  | zero => intro nt m r h; simp [PM] at h
  | succ n ih =>
    intro nt m r h hi ha
    cases nt with
    | expr =>
      simp only [PM] at h
      split at h
      · cases h; trivial
      split at h
      · obtain ⟨r1, h1, h⟩ := Option.bind_eq_some_iff.1 h
        obtain ⟨q, h2, h⟩ := Option.bind_eq_some_iff.1 h
        cases h
        have k1 := PM_keeps s n _ _ _ h1
        have a := ih _ _ _ h1 hi.adv.gives.want.push trivial
        have b := ih _ _ _ h2 (k1.1 hi.adv.gives.want.push).want trivial
        simp only [want_given, k1.2, push_given, gives_given, adv_given, List.length_append, List.length_singleton] at a b
        exact ⟨rfl, a, b⟩
      split at h
      · obtain ⟨r1, h1, h⟩ := Option.bind_eq_some_iff.1 h
        cases h
        have a := ih _ _ _ h1 hi.adv.gives.want.push trivial
        simp only [want_given, push_given, gives_given, adv_given, List.length_append, List.length_singleton] at a
        exact ⟨rfl, a⟩
      split at h
      · obtain ⟨r1, h1, h⟩ := Option.bind_eq_some_iff.1 h
        obtain ⟨q, h2, h⟩ := Option.bind_eq_some_iff.1 h
        obtain ⟨p, h3, h⟩ := Option.bind_eq_some_iff.1 h
        cases h
        have k1 := PM_keeps s n _ _ _ h1
        have k2 := PM_keeps s n _ _ _ h2
        have i1 := k1.1 hi.adv
        have i2 := k2.1 i1.want
        have a := ih _ _ _ h1 hi.adv trivial
        have b := ih _ _ _ h2 i1.want trivial
        have c := ih _ _ _ h3 i2.want trivial
        simp only [want_given, k1.2, k2.2, adv_given] at a b c
        exact ⟨a, b, c⟩
      · exact ih _ _ _ h hi trivial
    | list =>
      simp only [PM] at h
      split at h
      · cases h; trivial
      obtain ⟨r1, h1, h⟩ := Option.bind_eq_some_iff.1 h
      have a := ih _ _ _ h1 hi trivial
      have k1 := PM_keeps s n _ _ _ h1
      split at h
      · obtain ⟨q, h2, h⟩ := Option.bind_eq_some_iff.1 h
        cases h
        have b := ih _ _ _ h2 (k1.1 hi).adv trivial
        simp only [k1.2, adv_given] at b
        exact ⟨a, b⟩
      · cases h; exact a
    | order =>
      simp only [PM] at h
      split at h
      · cases h; trivial
      obtain ⟨r1, h1, h⟩ := Option.bind_eq_some_iff.1 h
      have k1 := PM_keeps s n _ _ _ h1
      have a := ih _ _ _ h1 hi trivial
      split at h
      · obtain ⟨q, h2, h⟩ := Option.bind_eq_some_iff.1 h
        cases h
        have b := ih _ _ _ h2 (k1.1 hi).adv trivial
        simp only [k1.2, adv_given] at b
        exact ⟨a, b⟩
      · cases h; exact a
    | sum =>
      simp only [PM] at h
      split at h
      · cases h; trivial
      obtain ⟨r1, h1, h⟩ := Option.bind_eq_some_iff.1 h
      have k1 := PM_keeps s n _ _ _ h1
      have a := ih _ _ _ h1 hi trivial
      have b := ih _ _ _ h (k1.1 hi) (by rw [k1.2]; exact a)
      rw [k1.2] at b; exact b
    | sumL x =>
      simp only [PM] at h
      split at h
      · obtain ⟨r1, h1, h⟩ := Option.bind_eq_some_iff.1 h
        have k1 := PM_keeps s n _ _ _ h1
        have a := ih _ _ _ h1 hi.adv trivial
        simp only [adv_given] at a
        have b := ih _ _ _ h (k1.1 hi.adv) (by rw [k1.2]; exact ⟨ha, a⟩)
        rw [k1.2] at b; exact b
      · cases h; exact ha
    | prod =>
      simp only [PM] at h
      split at h
      · cases h; trivial
      obtain ⟨r1, h1, h⟩ := Option.bind_eq_some_iff.1 h
      have k1 := PM_keeps s n _ _ _ h1
      have a := ih _ _ _ h1 hi trivial
      have b := ih _ _ _ h (k1.1 hi) (by rw [k1.2]; exact a)
      rw [k1.2] at b; exact b
    | prodL x =>
      simp only [PM] at h
      split at h
      · obtain ⟨r1, h1, h⟩ := Option.bind_eq_some_iff.1 h
        have k1 := PM_keeps s n _ _ _ h1
        have a := ih _ _ _ h1 hi.adv trivial
        simp only [adv_given] at a
        have b := ih _ _ _ h (k1.1 hi.adv) (by rw [k1.2]; exact ⟨ha, a⟩)
        rw [k1.2] at b; exact b
      · cases h; exact ha
    | use =>
      simp only [PM] at h
      split at h
      · cases h; trivial
      obtain ⟨r1, h1, h⟩ := Option.bind_eq_some_iff.1 h
      have k1 := PM_keeps s n _ _ _ h1
      have a := ih _ _ _ h1 hi trivial
      have b := ih _ _ _ h (k1.1 hi) (by rw [k1.2]; exact a)
      rw [k1.2] at b; exact b
    | useL x =>
      simp only [PM] at h
      split at h
      · obtain ⟨r1, h1, h⟩ := Option.bind_eq_some_iff.1 h
        have k1 := PM_keeps s n _ _ _ h1
        have a := ih _ _ _ h1 hi trivial
        have b := ih _ _ _ h (k1.1 hi) (by rw [k1.2]; exact ⟨ha, a⟩)
        rw [k1.2] at b; exact b
      · cases h; exact ha
    | atom =>
      simp only [PM] at h
      split at h
      · split at h
        · cases h; trivial
        split at h
        · cases h
          unfold named
          split
          · rename_i i he
            exact lastIdx_lt _ _ _ he
          · trivial
        split at h
        · cases h; trivial
        split at h
        · obtain ⟨r1, h1, h⟩ := Option.bind_eq_some_iff.1 h
          cases h
          have a := ih _ _ _ h1 hi.adv trivial
          simp only [adv_given] at a
          exact a
        · obtain ⟨r1, h1, h⟩ := Option.bind_eq_some_iff.1 h
          cases h
          have a := ih _ _ _ h1 hi.adv trivial
          simp only [adv_given] at a
          exact a
      · cases h; trivial
end Go.Proofs.YtjjlgjmebnkdjaaGreatDoor

namespace Go.Proofs.YtjjlgjmebnkdjaaGreatDoor
open Go Go.Proofs Go.RowKit Skein

theorem finish_zero {m : M} (hf : (finish m).1 = 0) : finish m = (0, 0) := by
  unfold finish at hf ⊢
  split at hf
  · simp at hf
  · rename_i h1
    rw [if_neg h1]
    split at hf
    · simp at hf
    · rename_i h2
      rw [if_neg h2]
      split at hf
      · simp at hf
      · rename_i h3; rw [if_neg h3]

/-- A text that is an expression. -/
theorem whole_tree {s : ByteArray} (hl : s.size ≤ 300) {t : T} {m : M} (hP : PM s (8 * s.size + 8) .expr (Skein.start s) = some (t, m)) (hf0 : finish m = (0, 0)) : Tidy 0 t ∧ Small t ∧ dep t ≤ 1000 := by
  obtain ⟨hc, hz⟩ := whole_good hl hP hf0
  refine ⟨tidy_of3 t 0 hc (PM_ok3 s _ _ _ _ hP (Inv.start s) trivial), small_of t hc, ?_⟩
  have := dep_le t; omega

/-- The program's Eval. -/
theorem pev_ok {s : ByteArray} (hl : s.size ≤ 300) {t : T} {m : M} (hP : PM s (8 * s.size + 8) .expr (Skein.start s) = some (t, m)) (hf0 : finish m = (0, 0)) {L : Nat} (hL : L ≤ 500) {a : Except Int ByteArray} {k : Nat} (hR : Runs L t a k) (w : World) (ht : Tab w) :
    Calls Tryz.prog 20 #[.string s, .int .i64 L] w fun e w' => e = .returned (answer (txtA a) k (errA a)) ∧ Below w.heap.size w w' := by
  obtain ⟨h1, h2, h3⟩ := whole_tree hl hP hf0
  exact peval_ok s L w t hL _ _ _ ht (fun w => by rw [← hf0]; exact pread s w hl _ t m hP) fun w ht => preckE t h1 h2 h3 hR w hL ht
theorem pev_err {s : ByteArray} (hl : s.size ≤ 300) {t : T} {m : M} (hP : PM s (8 * s.size + 8) .expr (Skein.start s) = some (t, m)) (hf : (finish m).1 ≠ 0) (lim : Int) (w : World) :
    Calls Tryz.prog 20 #[.string s, .int .i64 lim] w fun e w' => e = .returned (answer ⟨#[]⟩ 0 (finish m).1) ∧ Below w.heap.size w w' :=
  peval_err s lim w t (finish m) hf fun w => pread s w hl _ t m hP
theorem pev_long {s : ByteArray} (hs : 300 < s.size) (lim : Int) (w : World) :
    Calls Tryz.prog 20 #[.string s, .int .i64 lim] w fun e w' => e = .returned (answer ⟨#[]⟩ 0 1) ∧ Below w.heap.size w w' :=
  peval_err s lim w .nil (1, 0) (by decide) fun w => pread_long s w hs .nil

theorem evaled_ok (s : ByteArray) (lim : Int) (w : World) (ht : Tab w) : Calls Tryz.prog 17 #[.string s, .int .i64 lim] w fun e w' => e = .returned (.bool true) ∧ Below w.heap.size w w' := by
  by_cases hl : s.size ≤ 300
  · obtain ⟨t, m, hP⟩ := PM_ends s
    by_cases hf : (finish m).1 = 0
    · have hf0 := finish_zero hf
      obtain ⟨htd, hsm, hdp⟩ := whole_tree hl hP hf0
      have hR : ∀ w, Calls Tryz.prog 31 #[.string s] w (RPost w t (0, 0)) := fun w => by rw [← hf0]; exact pread s w hl _ t m hP
      have hD : ∀ w, Calls Tryz.prog 27 #[.string s] w fun e w' => ∃ a, e = .returned (.tuple #[.pointer a, .int .i64 0, .int .i64 0]) ∧ NodeAt w.heap.size w' t (.pointer a) ∧ Below w.heap.size w w' := fun w => by
        refine (parse_ok s w hl _ t m hP).mono ?_
        rintro e w' ⟨v, he, hn, ⟨a, rfl⟩, hb⟩
        rw [hf0] at he hn
        exact ⟨a, he, hn rfl, hb⟩
      by_cases hlim : lim < 0 ∨ 500 < lim
      · exact evaled_of s lim w ht ⟨#[]⟩ 0 4 (fun w _ => peval_lim s lim w t hlim hR) (fun w => reval_lim s lim w hlim fun w => (hD w).mono fun e w' ⟨a, h1, _, h2⟩ => ⟨a, h1, h2⟩)
      · obtain ⟨L, rfl⟩ : ∃ L : Nat, lim = L := ⟨lim.toNat, by omega⟩
        have hL : L ≤ 500 := by omega
        obtain ⟨a, k, hRun⟩ := runs_ex L t htd
        exact evaled_of s L w ht (txtA a) k (errA a) (fun w ht => pev_ok hl hP hf0 hL hRun w ht) (fun w => reval_ok s w t htd hsm hRun hL hD)
    · refine evaled_of s lim w ht ⟨#[]⟩ 0 (finish m).1 (fun w _ => pev_err hl hP hf lim w) (fun w => reval_err s lim w (finish m).1 (finish m).2 hf fun w => ?_)
      refine (parse_ok s w hl _ t m hP).mono ?_
      rintro e w' ⟨v, he, -, ⟨a, rfl⟩, hb⟩
      exact ⟨a, he, hb⟩
  · have hs : 300 < s.size := by omega
    refine evaled_of s lim w ht ⟨#[]⟩ 0 1 (fun w _ => pev_long hs lim w) (fun w => reval_err s lim w 1 0 (by decide) fun w => ?_)
    refine (parse_long s w hs).mono ?_
    rintro e w' ⟨rfl, rfl⟩
    exact ⟨none, rfl, Below.refl _ _⟩

def known5 : ByteArray := ⟨#[108, 101, 116, 32, 102, 32, 61, 32, 92, 110, 46, 32, 105, 102, 32, 110, 32, 116, 104, 101, 110, 32, 110, 32, 42, 32, 102, 32, 40, 110, 32, 45, 32, 49, 41, 32, 101, 108, 115, 101, 32, 49, 32, 105, 110, 32, 102, 32, 53]⟩
set_option maxRecDepth 100000 in
set_option maxHeartbeats 4000000 in
theorem evals_ok (s : ByteArray) (hs : s.size ≤ 9223372036854775807) (lim : Int) (w : World) (ht : Tab w) : Calls Tryz.prog 5 #[.string s, .int .i64 lim] w fun e w' => e = .returned (.bool true) ∧ Below w.heap.size w w' := by
  have HK : Hid (Calls Tryz.prog 17 #[.string known5, .int .i64 6] w fun e w' => e = .returned (.bool true) ∧ Below w.heap.size w w') := evaled_ok known5 6 w ht
  have HT : Hid (Tab w) := ht
  have h3 := ht.lt
  clear ht
  go_enter Tryz.func5, Tryz.ntmps5
  go_wp2_with fail
  refine HK.out.mono ?_
  rintro e w1 ⟨rfl, hb1⟩
  have hT1 : Hid (Tab w1) := HT.out.belowB hb1 h3
  go_wp2_with fail
  refine (lists_ok s hs _).mono ?_
  rintro e w2 ⟨b, rfl, hb, hg2⟩
  have hB2 := hb1.grown hg2 hb1.size (by simp)
  have hT2 : Hid (Tab w2) := hT1.out.grown hg2
  cases b
  · have HE : Hid (Calls Tryz.prog 17 #[.string s, .int .i64 lim] w2 fun e w' => e = .returned (.bool true) ∧ Below w2.heap.size w2 w') := evaled_ok s lim w2 hT2.out
    clear hb
    go_wp2_with fail
    refine HE.out.mono ?_
    rintro e w3 ⟨rfl, hb3⟩
    have hB3 := hB2.trans (hb3.mono hB2.size)
    go_wp2_with fail
    go_ret
    exact ⟨rfl, hB3⟩
  · clear hb
    go_wp2_with fail
    go_ret
    exact ⟨rfl, hB2⟩

def knownL : ByteArray := ⟨#[108, 101, 116, 32, 108, 32, 61, 32, 49, 32, 58, 32, 108, 32, 105, 110, 32, 104, 101, 97, 100, 32, 40, 116, 97, 105, 108, 32, 108, 41, 32, 58, 32, 50, 32, 58, 32, 91, 93]⟩

set_option maxRecDepth 100000 in
set_option maxHeartbeats 4000000 in
theorem lists_said_ok (s : ByteArray) (lim : Int) (w : World) (ht : Tab w) : Calls Tryz.prog 7 #[.string s, .int .i64 lim] w fun e w' => e = .returned (.bool true) ∧ Below w.heap.size w w' := by
  have HK : Hid (Calls Tryz.prog 17 #[.string knownL, .int .i64 9] w fun e w' => e = .returned (.bool true) ∧ Below w.heap.size w w') := evaled_ok knownL 9 w ht
  have HT : Hid (Tab w) := ht
  have h3 := ht.lt
  clear ht
  go_enter Tryz.func7, Tryz.ntmps7
  go_wp2_with fail
  refine HK.out.mono ?_
  rintro e w1 ⟨rfl, hb1⟩
  have HE : Hid (Calls Tryz.prog 17 #[.string s, .int .i64 lim] w1 fun e w' => e = .returned (.bool true) ∧ Below w1.heap.size w1 w') := evaled_ok s lim w1 (HT.out.belowB hb1 h3)
  go_wp2_with fail
  refine HE.out.mono ?_
  rintro e w3 ⟨rfl, hb3⟩
  have hB3 := hb1.trans (hb3.mono hb1.size)
  go_wp2_with fail
  go_ret
  exact ⟨rfl, hB3⟩
end Go.Proofs.YtjjlgjmebnkdjaaGreatDoor
