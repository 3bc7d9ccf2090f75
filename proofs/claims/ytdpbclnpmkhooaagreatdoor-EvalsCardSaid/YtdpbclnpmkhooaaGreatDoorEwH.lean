/-
  The program's reckoning: let, if, a sign; all closures.
  The program's reckoning: a sign; all closures.
-/
import Derived.Test.YtdpbclnpmkhooaaGreatDoorEwG
namespace Go.Proofs.YtdpbclnpmkhooaaGreatDoor
open Go Go.Proofs Go.RowKit Skein

theorem grown_setnew2 {w w1 : World} (h : w.grownBy w1 none) {k : Nat} (hk : w.heap.size ≤ k) (o : Nat) (v : Value) : w.grownBy (w1.setCell ⟨k, o, none⟩ v) none :=
  ⟨h.os, h.tape, h.output, by simp [World.setCell]; exact h.size, fun j hj hn => by
    rw [Below.heap_setCell _ _ _ _ (by show j ≠ k; omega)]; exact h.block j hj hn⟩

set_option maxRecDepth 100000 in
set_option maxHeartbeats 8000000 in
theorem clet (n : Nat) (hN : CC n) (m : Nat) (x y : T) {L : Nat} {S : E} {r : R × E} {env : List Nat} {b : Nat} {w : World} {B : List Nat} {st : Nat} {f : Nat} {c : Array Value} {sc : Value} (he : ev L n (.need y (env ++ [S.heap.length])) ⟨S.heap ++ [.wait x (env ++ [S.heap.length])], S.steps⟩ = some r)
    (h : PE b w B st L S) (hc : CodeAt st w (.letE m x y) f c) (hs : ScAt w B env sc) (hd : env.length + dep (.letE m x y) ≤ 1000) :
    Calls Tryz.prog f (#[sc] ++ c) w (GP b w B st L r) := by
  obtain ⟨rfl, k1, k2, f1, c1, f2, c2, rfl, h1, h2, hx, hy⟩ := hc
  obtain ⟨o, cap, rfl⟩ := hs.shape
  obtain ⟨e1, l1⟩ := h1.cell
  have hent := hy.ent
  have hb := h.blt
  have hg0 := grown_alloc (grown_refl w none) (.cells #[.int .i64 0, fnv f1 c1, .slice none 0 0, .nilIface] 181 (0, 0))
  have hit := alloc_at w (.cells #[.int .i64 0, fnv f1 c1, .slice none 0 0, .nilIface] 181 (0, 0)) _ rfl
  have hB2 : Ext B (B ++ [w.heap.size]) := Ext.app _ _
  have hnew : (B ++ [w.heap.size])[S.heap.length]? = some w.heap.size := by rw [← h.len]; simp
  have HW : Hid (Calls Tryz.prog 118 #[.slice o env.length cap, ptr w.heap.size] (w.alloc (.cells #[.int .i64 0, fnv f1 c1, .slice none 0 0, .nilIface] 181 (0, 0))) _) := with_ok (hs.fr (b := b) (Fr.grown hb hg0) hB2) hnew (by simp only [dep] at hd; omega)
  have HY : Hid (CodeAt st w y f2 c2) := hy
  have HX : Hid (CodeAt st w x f1 c1) := hx
  have H2 : Hid (Is1 w k2 (fnv f2 c2) 112) := h2
  have HE : Hid (ev L n (.need y (env ++ [S.heap.length])) ⟨S.heap ++ [.wait x (env ++ [S.heap.length])], S.steps⟩ = some r) := he
  clear h1 h2 hx hy hs he
  show Calls Tryz.prog 122 #[.slice o env.length cap, ptr k1, ptr k2] w _
  go_enter Tryz.func122, Tryz.ntmps122
  go_wp2_with fail
  refine HW.out.mono ?_
  rintro e w1 ⟨o1, n1, c1', rfl, hg1, hs1⟩
  have hit1 := keepB' hit hg1
  obtain ⟨t0, t1, t2, t3, tf, tlt⟩ := held_cells hit1
  have hgg := grown_setnew2 (grown_trans hg0 hg1) (Nat.le_refl w.heap.size) 2 (.slice o1 n1 c1')
  have hf2 : FP b w _ := Fr.grown hb hgg
  have hset : FP b w1 (w1.setCell ⟨w.heap.size, 2, none⟩ (.slice o1 n1 c1')) := Fr.set hit1 (.inl rfl) hb 2 _
  have hs2 := hs1.fr hset (Ext.refl _)
  have hit2 := RB.set hit1 2 (.slice o1 n1 c1')
  have hp2 := h.more hgg (.wait x (env ++ [S.heap.length])) w.heap.size (Nat.le_refl _) ⟨by simp only [dep] at hd; simp; omega, f1, c1, .slice o1 n1 c1', hit2, HX.out.fr hf2, hs2⟩
  obtain ⟨e2, l2⟩ := (H2.out.fr hf2 (by decide) (by decide)).cell
  have HC : Hid (∀ wd, World.grownBy (w1.setCell ⟨w.heap.size, 2, none⟩ (.slice o1 n1 c1')) wd none → Calls Tryz.prog f2 (#[.slice o1 n1 c1'] ++ c2) wd (GP b w B st L r)) := fun wd hg => (hN L y (env ++ [S.heap.length]) _ r b wd _ st f2 c2 _ HE.out (hp2.grown hg) ((HY.out.fr hf2).fr (b := b) (Fr.grown hp2.blt hg)) (hs2.fr (b := b) (Fr.grown hp2.blt hg) (Ext.refl _)) (by simp only [dep] at hd; simp; omega)).mono fun _ _ hG => hG.fr (hf2.trans (Fr.grown hp2.blt hg)) hB2
  obtain ⟨u0, u1, u2, u3, uf, ult⟩ := held_cells (s := .int .i64 0) (x := fnv f1 c1) (y := .slice o1 n1 c1') (z := .nilIface) hit2
  clear hp2 hit2 hit1 hs2 hset hf2 hgg hs1
  go_wp2_with fail
  generalize w1.setCell ⟨w.heap.size, 2, none⟩ (.slice o1 n1 c1') = W2 at u0 u1 u2 u3 uf ult e2 l2 HC ⊢
  go_region_with (first | (go_at_fn f2; refine (HC.out _ (by exact grown_same (grown_refl _ _) rfl rfl rfl rfl)).mono ?_; rintro e w5 (⟨v, B5, u, hr, rfl, hk5, hB5, hp5, hv5⟩ | ⟨z, hr, rfl, hb5, hs5⟩); rotate_left; exact ⟨rfl, .inr ⟨z, hr, rfl, hb5, hs5⟩⟩; obtain ⟨T1, y1, rfl⟩ := hv5.shape; have HR : Hid (r.1 = .ok v) := hr; clear hr))
  all_goals
    go_wp2_with fail
    go_ret
    exact .inl ⟨v, B5, _, HR.out, rfl, hk5, hB5, hp5, hv5⟩

/-- What must be a number is one, or the program says so. -/
theorem as_num_of {st w B v T x} (h : VP st w B v (.iface T x)) : (∃ k, v = .num k ∧ T = 127 ∧ x = .int .i64 k) ∨ ((∃ f c, T = 176 ∧ x = fnv f c) ∧ R.num (.ok v) = .error 5) := by
  cases v with
  | num k => simp only [VP, Value.iface.injEq] at h; exact .inl ⟨k, rfl, h.1, h.2⟩
  | fn t e => obtain ⟨_, j1, j2, g1, d1, sc', h, _⟩ := h; simp only [Value.iface.injEq] at h; exact .inr ⟨⟨_, _, h.1, h.2⟩, rfl⟩
  | nil => exact h.elim
  | cons i j => exact h.elim

set_option maxRecDepth 100000 in
set_option maxHeartbeats 8000000 in
theorem cite (n : Nat) (hN : CC n) (x y t : T) {L : Nat} {S : E} {r1 r : R × E} {env : List Nat} {b : Nat} {w : World} {B : List Nat} {st : Nat} {f : Nat} {c : Array Value} {sc : Value} (he1 : ev L n (.need x env) S = some r1)
    (he2 : (match r1.1.num with | .ok k => if k == 0 then ev L n (.need t env) r1.2 else ev L n (.need y env) r1.2 | .error e => some (.err e, r1.2)) = some r)
    (h : PE b w B st L S) (hc : CodeAt st w (.ite x y t) f c) (hs : ScAt w B env sc) (hd : env.length + dep (.ite x y t) ≤ 1000) :
    Calls Tryz.prog f (#[sc] ++ c) w (GP b w B st L r) := by
  obtain ⟨rfl, k1, k2, k3, f1, c1, f2, c2, f3, c3, rfl, h1, h2, h3, hx, hy, ht⟩ := hc
  obtain ⟨o, cap, rfl⟩ := hs.shape
  obtain ⟨e1, l1⟩ := h1.cell
  have hent := hx.ent
  have hent2 := hy.ent
  have hent3 := ht.ent
  have hdx : env.length + dep x ≤ 1000 := by simp only [dep] at hd; omega
  have hdy : env.length + dep y ≤ 1000 := by simp only [dep] at hd; omega
  have hdt : env.length + dep t ≤ 1000 := by simp only [dep] at hd; omega
  have HC : Hid (Calls Tryz.prog f1 (#[.slice o env.length cap] ++ c1) w (GP b w B st L r1)) := hN L x env S r1 b w B st f1 c1 _ he1 h hx hs hdx
  have H2 : Hid (Is1 w k2 (fnv f2 c2) 112) := h2
  have H3 : Hid (Is1 w k3 (fnv f3 c3) 112) := h3
  have HY : Hid (CodeAt st w y f2 c2) := hy
  have HT : Hid (CodeAt st w t f3 c3) := ht
  have HS : Hid (ScAt w B env (.slice o env.length cap)) := hs
  have HE : Hid ((match r1.1.num with | .ok k => if k == 0 then ev L n (.need t env) r1.2 else ev L n (.need y env) r1.2 | .error e => some (.err e, r1.2)) = some r) := he2
  clear h1 h2 h3 hx hy ht hs he1 he2
  show Calls Tryz.prog 123 #[.slice o env.length cap, ptr k1, ptr k2, ptr k3] w _
  go_enter Tryz.func123, Tryz.ntmps123
  go_wp2_with fail
  refine HC.out.mono ?_
  rintro e w1 (⟨v, B', u, hr, rfl, hk1, hB, hp1, hv⟩ | ⟨z, hr, rfl, hb1, hs1⟩)
  · obtain ⟨T1, x1, rfl⟩ := hv.shape
    rcases as_num_of hv with ⟨k, rfl, rfl, rfl⟩ | ⟨⟨g1, d1, rfl, rfl⟩, hbad⟩
    · have HF : Hid ((if k == 0 then ev L n (.need t env) r1.2 else ev L n (.need y env) r1.2) = some r) := by
        have := HE.out; rw [hr] at this; exact this
      clear hv hr HE
      obtain ⟨e2, l2⟩ := (H2.out.fr hk1 (by decide) (by decide)).cell
      obtain ⟨e3, l3⟩ := (H3.out.fr hk1 (by decide) (by decide)).cell
      go_wp2_with fail
      refine (as_num k w1).mono ?_
      rintro e w2 ⟨rfl, rfl⟩
      cases hj : k == 0
      · have HD : Hid (Calls Tryz.prog f2 (#[.slice o env.length cap] ++ c2) w2 (GP b w B st L r)) := (hN L y env _ r b w2 B' st f2 c2 _ (by have := HF.out; rw [hj] at this; exact this) hp1 (HY.out.fr hk1) (HS.out.fr hk1 hB) hdy).mono fun _ _ hG => hG.fr hk1 hB
        have hj1 : (k != 0) = true := by simp [bne, hj]
        clear HF
        go_wp2_with fail
        refine HD.out.mono ?_
        rintro e w5 (⟨v, B5, u, hr, rfl, hk5, hB5, hp5, hv5⟩ | ⟨z, hr, rfl, hb5, hs5⟩)
        · obtain ⟨T1, y1, rfl⟩ := hv5.shape
          have HR : Hid (r.1 = .ok v) := hr
          clear hr
          go_wp2_with fail
          go_ret
          exact .inl ⟨v, B5, _, HR.out, rfl, hk5, hB5, hp5, hv5⟩
        · have HR : Hid (r.1 = .err z) := hr
          clear hr
          go_wp2_with fail
          exact ⟨rfl, .inr ⟨z, HR.out, rfl, hb5, hs5⟩⟩
      · have HD : Hid (Calls Tryz.prog f3 (#[.slice o env.length cap] ++ c3) w2 (GP b w B st L r)) := (hN L t env _ r b w2 B' st f3 c3 _ (by have := HF.out; rw [hj] at this; exact this) hp1 (HT.out.fr hk1) (HS.out.fr hk1 hB) hdt).mono fun _ _ hG => hG.fr hk1 hB
        have hj1 : (k != 0) = false := by simp [bne, hj]
        clear HF
        go_wp2_with fail
        refine HD.out.mono ?_
        rintro e w5 (⟨v, B5, u, hr, rfl, hk5, hB5, hp5, hv5⟩ | ⟨z, hr, rfl, hb5, hs5⟩)
        · obtain ⟨T1, y1, rfl⟩ := hv5.shape
          have HR : Hid (r.1 = .ok v) := hr
          clear hr
          go_wp2_with fail
          go_ret
          exact .inl ⟨v, B5, _, HR.out, rfl, hk5, hB5, hp5, hv5⟩
        · have HR : Hid (r.1 = .err z) := hr
          clear hr
          go_wp2_with fail
          exact ⟨rfl, .inr ⟨z, HR.out, rfl, hb5, hs5⟩⟩
    · have HF : Hid (r = (.err 5, r1.2)) := by
        have := HE.out; rw [hr, hbad] at this; simp only [Option.some.injEq] at this; exact this.symm
      clear hv hr HE hbad
      go_wp2_with fail
      refine (as_num_no g1 d1 w1).mono ?_
      rintro e w2 ⟨rfl, rfl⟩
      go_wp2_with fail
      refine ⟨rfl, ?_⟩
      rw [HF.out]
      exact GPX.got ⟨rfl, hk1.below, hp1.steps⟩
  · have HF : Hid (r = (.err z, r1.2)) := by
      have := HE.out; rw [hr] at this; simp only [R.num, Option.some.injEq] at this; exact this.symm
    clear hr HE
    go_wp2_with fail
    refine ⟨rfl, ?_⟩
    rw [HF.out]
    exact GPX.got ⟨rfl, hb1, hs1⟩
end Go.Proofs.YtdpbclnpmkhooaaGreatDoor

namespace Go.Proofs.YtdpbclnpmkhooaaGreatDoor
open Go Go.Proofs Go.RowKit Skein

set_option maxRecDepth 100000 in
set_option maxHeartbeats 1000000 in
theorem ptruth (c : Bool) (w : World) : Calls Tryz.prog 87 #[.bool c] w fun e w' => e = .returned (.int .i64 (tr c)) ∧ w' = w := by
  cases c
  all_goals
    go_enter Tryz.func87, Tryz.ntmps87
    go_wp2_with fail
    go_ret
    exact ⟨rfl, rfl⟩

set_option maxRecDepth 100000 in
set_option maxHeartbeats 2000000 in
theorem work_ok (op : UInt8) (hop : Sign5 op) (i j : Int) (w : World) : Calls Tryz.prog (workOf op) #[.int .i64 i, .int .i64 j] w fun e w' => e = .returned (.int .i64 (reck op i j)) ∧ w' = w := by
  rcases hop with rfl | rfl | rfl | rfl | rfl
  · show Calls Tryz.prog 83 _ _ _
    go_enter Tryz.func83, Tryz.ntmps83
    go_wp2_with fail
    go_ret
    exact ⟨ret_int (wrap_eq _).symm, rfl⟩
  · show Calls Tryz.prog 84 _ _ _
    go_enter Tryz.func84, Tryz.ntmps84
    go_wp2_with fail
    go_ret
    exact ⟨ret_int (wrap_eq _).symm, rfl⟩
  · show Calls Tryz.prog 85 _ _ _
    go_enter Tryz.func85, Tryz.ntmps85
    go_wp2_with fail
    go_ret
    exact ⟨ret_int (wrap_eq _).symm, rfl⟩
  · show Calls Tryz.prog 86 _ _ _
    go_enter Tryz.func86, Tryz.ntmps86
    go_wp2_with fail
    refine (ptruth _ _).mono ?_
    rintro e w' ⟨rfl, rfl⟩
    go_wp2_with fail
    go_ret
    exact ⟨rfl, rfl⟩
  · show Calls Tryz.prog 88 _ _ _
    go_enter Tryz.func88, Tryz.ntmps88
    go_wp2_with fail
    refine (ptruth _ _).mono ?_
    rintro e w' ⟨rfl, rfl⟩
    go_wp2_with fail
    go_ret
    exact ⟨rfl, rfl⟩

theorem work_ent (op : UInt8) (hop : Sign5 op) : ∀ (args : Array Value) (w : World), (callFunc (workOf op) args).run Tryz.prog w = .ok (.enter (workOf op) args) w := by
  rcases hop with rfl | rfl | rfl | rfl | rfl
  · exact enters_of Tryz.func83 (by kernel_rfl) rfl
  · exact enters_of Tryz.func84 (by kernel_rfl) rfl
  · exact enters_of Tryz.func85 (by kernel_rfl) rfl
  · exact enters_of Tryz.func86 (by kernel_rfl) rfl
  · exact enters_of Tryz.func88 (by kernel_rfl) rfl

set_option maxRecDepth 100000 in
set_option maxHeartbeats 8000000 in
theorem cbin (n : Nat) (hN : CC n) (op : UInt8) (hop : Sign5 op) (x y : T) {L : Nat} {S : E} {r1 r : R × E} {env : List Nat} {b : Nat} {w : World} {B : List Nat} {st : Nat} {f : Nat} {c : Array Value} {sc : Value} (he1 : ev L n (.need x env) S = some r1)
    (he2 : (match r1.1.num with | .ok i => (ev L n (.need y env) r1.2).bind fun q => (match q.1.num with | .ok j => some (R.ok (V.num (reck op i j)), q.2) | .error e => some (.err e, q.2)) | .error e => some (.err e, r1.2)) = some r)
    (h : PE b w B st L S) (hc : CodeAt st w (.bin op x y) f c) (hs : ScAt w B env sc) (hd : env.length + dep (.bin op x y) ≤ 1000) :
    Calls Tryz.prog f (#[sc] ++ c) w (GP b w B st L r) := by
  obtain ⟨ho, rfl, k1, k2, k3, f1, c1, f2, c2, rfl, h1, h2, h3, hx, hy⟩ := hc
  obtain ⟨o, cap, rfl⟩ := hs.shape
  obtain ⟨e1, l1⟩ := h1.cell
  have hent := hx.ent
  have hent2 := hy.ent
  have hent3 := work_ent op hop
  have hdx : env.length + dep x ≤ 1000 := by simp only [dep] at hd; omega
  have hdy : env.length + dep y ≤ 1000 := by simp only [dep] at hd; omega
  have HC : Hid (Calls Tryz.prog f1 (#[.slice o env.length cap] ++ c1) w (GP b w B st L r1)) := hN L x env S r1 b w B st f1 c1 _ he1 h hx hs hdx
  have H2 : Hid (Is1 w k2 (fnv f2 c2) 112) := h2
  have H3 : Hid (Is1 w k3 (fnv (workOf op) #[]) 128) := h3
  have HY : Hid (CodeAt st w y f2 c2) := hy
  have HS : Hid (ScAt w B env (.slice o env.length cap)) := hs
  have HW : Hid (∀ i j w, Calls Tryz.prog (workOf op) #[.int .i64 i, .int .i64 j] w fun e w' => e = .returned (.int .i64 (reck op i j)) ∧ w' = w) := work_ok op hop
  have HE : Hid ((match r1.1.num with | .ok i => (ev L n (.need y env) r1.2).bind fun q => (match q.1.num with | .ok j => some (R.ok (V.num (reck op i j)), q.2) | .error e => some (.err e, q.2)) | .error e => some (.err e, r1.2)) = some r) := he2
  clear h1 h2 h3 hx hy hs he1 he2 ho hop
  generalize workOf op = fw at hent3 H3 HW
  show Calls Tryz.prog 126 #[.slice o env.length cap, ptr k1, ptr k2, ptr k3] w _
  go_enter Tryz.func126, Tryz.ntmps126
  go_wp2_with fail
  refine HC.out.mono ?_
  rintro e w1 (⟨v, B', u, hr, rfl, hk1, hB, hp1, hv⟩ | ⟨z, hr, rfl, hb1, hs1⟩)
  · obtain ⟨T1, x1, rfl⟩ := hv.shape
    rcases as_num_of hv with ⟨i, rfl, rfl, rfl⟩ | ⟨⟨g1, d1, rfl, rfl⟩, hbad⟩
    · have HF : Hid (((ev L n (.need y env) r1.2).bind fun q => (match q.1.num with | .ok j => some (R.ok (V.num (reck op i j)), q.2) | .error e => some (.err e, q.2))) = some r) := by
        have := HE.out; rw [hr] at this; exact this
      clear hv hr HE
      obtain ⟨e2, l2⟩ := (H2.out.fr hk1 (by decide) (by decide)).cell
      go_wp2_with fail
      refine (as_num i w1).mono ?_
      rintro e w2 ⟨rfl, rfl⟩
      obtain ⟨r2, he3, he4⟩ := Option.bind_eq_some_iff.1 HF.out
      have HD : Hid (Calls Tryz.prog f2 (#[.slice o env.length cap] ++ c2) w2 (GP b w B st L r2)) := (hN L y env _ r2 b w2 B' st f2 c2 _ he3 hp1 (HY.out.fr hk1) (HS.out.fr hk1 hB) hdy).mono fun _ _ hG => hG.fr hk1 hB
      have HG : Hid ((match r2.1.num with | .ok j => some (R.ok (V.num (reck op i j)), r2.2) | .error e => some (.err e, r2.2)) = some r) := he4
      clear HF he3 he4
      go_wp2_with fail
      refine HD.out.mono ?_
      rintro e w5 (⟨v, B5, u, hr, rfl, hk5, hB5, hp5, hv5⟩ | ⟨z, hr, rfl, hb5, hs5⟩)
      · obtain ⟨T1, y1, rfl⟩ := hv5.shape
        rcases as_num_of hv5 with ⟨j, rfl, rfl, rfl⟩ | ⟨⟨g1, d1, rfl, rfl⟩, hbad⟩
        · have HR : Hid (r = (R.ok (V.num (reck op i j)), r2.2)) := by
            have := HG.out; rw [hr] at this; simp only [R.num, Option.some.injEq] at this; exact this.symm
          clear hr HG hv5
          obtain ⟨e3, l3⟩ := (H3.out.fr hk5 (by decide) (by decide)).cell
          go_wp2_with fail
          refine (as_num j w5).mono ?_
          rintro e w6 ⟨rfl, rfl⟩
          go_wp2_with fail
          refine (HW.out i j w6).mono ?_
          rintro e w7 ⟨rfl, rfl⟩
          go_wp2_with fail
          go_ret
          rw [HR.out]
          exact GPV.got ⟨B5, _, _, rfl, hk5, hB5, hp5, rfl⟩
        · have HR : Hid (r = (.err 5, r2.2)) := by
            have := HG.out; rw [hr, hbad] at this; simp only [Option.some.injEq] at this; exact this.symm
          clear hr HG hv5 hbad
          go_wp2_with fail
          refine (as_num_no g1 d1 w5).mono ?_
          rintro e w6 ⟨rfl, rfl⟩
          go_wp2_with fail
          refine ⟨rfl, ?_⟩
          rw [HR.out]
          exact GPX.got ⟨rfl, hk5.below, hp5.steps⟩
      · have HR : Hid (r = (.err z, r2.2)) := by
          have := HG.out; rw [hr] at this; simp only [R.num, Option.some.injEq] at this; exact this.symm
        clear hr HG
        go_wp2_with fail
        refine ⟨rfl, ?_⟩
        rw [HR.out]
        exact GPX.got ⟨rfl, hb5, hs5⟩
    · have HF : Hid (r = (.err 5, r1.2)) := by
        have := HE.out; rw [hr, hbad] at this; simp only [Option.some.injEq] at this; exact this.symm
      clear hv hr HE hbad
      go_wp2_with fail
      refine (as_num_no g1 d1 w1).mono ?_
      rintro e w2 ⟨rfl, rfl⟩
      go_wp2_with fail
      refine ⟨rfl, ?_⟩
      rw [HF.out]
      exact GPX.got ⟨rfl, hk1.below, hp1.steps⟩
  · have HF : Hid (r = (.err z, r1.2)) := by
      have := HE.out; rw [hr] at this; simp only [R.num, Option.some.injEq] at this; exact this.symm
    clear hr HE
    go_wp2_with fail
    refine ⟨rfl, ?_⟩
    rw [HF.out]
    exact GPX.got ⟨rfl, hb1, hs1⟩

theorem cc_step (n : Nat) (hN : CC n) (hF : CH n) : CC (n + 1) := by
  intro L x env S r b w B st f c sc he h hc hs hd
  cases x with
  | junk => exact hc.elim
  | free => exact hc.elim
  | nil => exact hc.elim
  | un op a => exact hc.elim
  | num m => simp only [ev, Option.some.injEq] at he; subst he; obtain ⟨o, cap, rfl⟩ := hs.shape; exact cnum m h hc
  | fn m y => simp only [ev, Option.some.injEq] at he; subst he; exact cfn m y h hc hs hd
  | var m =>
    simp only [ev] at he
    cases hj : env[m]? with
    | none => rw [hj] at he; cases he
    | some j => rw [hj] at he; exact cvar n hF m j hj he h hc hs
  | letE m x y => simp only [ev] at he; exact clet n hN m x y he h hc hs hd
  | ite x y t =>
    simp only [ev] at he
    obtain ⟨r1, he1, he2⟩ := Option.bind_eq_some_iff.1 he
    exact cite n hN x y t he1 he2 h hc hs hd
  | app x y =>
    simp only [ev] at he
    obtain ⟨r1, he1, he2⟩ := Option.bind_eq_some_iff.1 he
    exact capp n hN x y he1 he2 h hc hs hd
  | bin op x y =>
    have hop : Sign5 op := hc.1
    have ho : (op == 58) = false := by rcases hop with rfl | rfl | rfl | rfl | rfl <;> rfl
    simp only [ev, ho, Bool.false_eq_true, if_false] at he
    obtain ⟨r1, he1, he2⟩ := Option.bind_eq_some_iff.1 he
    exact cbin n hN op hop x y he1 he2 h hc hs hd

theorem cc_all : ∀ n, CC n ∧ CH n := by
  intro n
  induction n with
  | zero => exact ⟨fun L x env S r b w B st f c sc he => by simp [ev] at he, fun L i S r b w B st a he => by simp [ev] at he⟩
  | succ n ih => exact ⟨cc_step n ih.1 ih.2, hneed n ih.1⟩
end Go.Proofs.YtdpbclnpmkhooaaGreatDoor
