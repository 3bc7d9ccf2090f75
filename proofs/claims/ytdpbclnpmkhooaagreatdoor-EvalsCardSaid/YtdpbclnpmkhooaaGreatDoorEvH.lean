/-
  The program's reckoning: a use, let, if, a sign.
-/
import Derived.Test.YtdpbclnpmkhooaaGreatDoorEvG
import Derived.Test.YtdpbclnpmkhooaaGreatDoorRefT
namespace Go.Proofs.YtdpbclnpmkhooaaGreatDoor
open Go Go.Proofs Go.RowKit Skein

set_option maxRecDepth 100000 in
set_option maxHeartbeats 8000000 in
theorem capp (n : Nat) (hN : CC n) (x y : T) {L : Nat} {S : E} {r1 r : R × E} {env : List Nat} {b : Nat} {w : World} {B : List Nat} {st : Nat} {f : Nat} {c : Array Value} {sc : Value} (he1 : ev L n (.need x env) S = some r1)
    (he2 : (match r1.1.fn with | .ok f => if L ≤ r1.2.steps then some (R.err 8, r1.2) else ev L n (.need f.1 (f.2 ++ [r1.2.heap.length])) ⟨r1.2.heap ++ [.wait y env], r1.2.steps + 1⟩ | .error e => some (.err e, r1.2)) = some r)
    (h : PE b w B st L S) (hc : CodeAt st w (.app x y) f c) (hs : ScAt w B env sc) (hd : env.length + dep (.app x y) ≤ 1000) :
    Calls Tryz.prog f (#[sc] ++ c) w (GP b w B st L r) := by
  obtain ⟨rfl, k1, k2, k3, f1, c1, f2, c2, sg, rfl, h1, h2, h3, hx, hy⟩ := hc
  obtain ⟨o, cap, rfl⟩ := hs.shape
  obtain ⟨e1, l1⟩ := h1.cell
  have hent := hx.ent
  have hdx : env.length + dep x ≤ 1000 := by simp only [dep] at hd; omega
  have hdy : env.length + dep y ≤ 1000 := by simp only [dep] at hd; omega
  have HC : Hid (Calls Tryz.prog f1 (#[.slice o env.length cap] ++ c1) w (GP b w B st L r1)) := hN L x env S r1 b w B st f1 c1 _ he1 h hx hs hdx
  have H2 : Hid (w.heap[k2]? = some (.cells #[ptr st, sg] 108 (0, 0))) := h2
  have H3 : Hid (Is1 w k3 (fnv f2 c2) 112) := h3
  have HY : Hid (CodeAt st w y f2 c2) := hy
  have HS : Hid (ScAt w B env (.slice o env.length cap)) := hs
  have HE : Hid ((match r1.1.fn with | .ok f => if L ≤ r1.2.steps then some (R.err 8, r1.2) else ev L n (.need f.1 (f.2 ++ [r1.2.heap.length])) ⟨r1.2.heap ++ [.wait y env], r1.2.steps + 1⟩ | .error e => some (.err e, r1.2)) = some r) := he2
  clear h1 h2 h3 hx hy hs he1 he2
  show Calls Tryz.prog 119 #[.slice o env.length cap, ptr k1, ptr k2, ptr k3] w _
  go_enter Tryz.func119, Tryz.ntmps119
  go_wp2_with fail
  refine HC.out.mono ?_
  rintro e w1 (⟨v, B', u, hr, rfl, hk1, hB, hp1, hv⟩ | ⟨z, hr, rfl, hb1, hs1⟩)
  · cases v with
    | nil => exact hv.elim
    | cons i j => exact hv.elim
    | num m =>
      have hv' : u = .iface 127 (.int .i64 m) := hv
      subst hv'
      have HF : Hid (r = (.err 5, r1.2)) := by
        have := HE.out; rw [hr] at this; simp only [R.fn, Option.some.injEq] at this; exact this.symm
      clear hv hr HE
      go_wp2_with fail
      refine (as_fn_no m w1).mono ?_
      rintro e w2 ⟨rfl, rfl⟩
      go_wp2_with fail
      refine ⟨rfl, ?_⟩
      rw [HF.out]
      exact GPX.got ⟨rfl, hk1.below, hp1.steps⟩
    | fn t fe =>
      obtain ⟨hdt, j1, j2, g1, d1, sc', rfl, q1, q2, q3, q4⟩ := hv
      have HF : Hid ((if L ≤ r1.2.steps then some (R.err 8, r1.2) else ev L n (.need t (fe ++ [r1.2.heap.length])) ⟨r1.2.heap ++ [.wait y env], r1.2.steps + 1⟩) = some r) := by
        have := HE.out; rw [hr] at this; exact this
      have HV : Hid (VP st w1 B' (.fn t fe) (.iface 176 (fnv 117 #[ptr j1, ptr j2]))) := ⟨hdt, j1, j2, g1, d1, sc', rfl, q1, q2, q3, q4⟩
      clear hr HE q1 q2 q3 q4
      have hm1 := hk1.keep _ _ 108 (by decide) (by decide) H2.out
      have e2 : w1.cell? ⟨k2, 0, none⟩ = some (ptr st) := by simp [World.cell?, hm1]
      clear hm1
      go_wp2_with fail
      refine (as_fn 117 #[ptr j1, ptr j2] w1).mono ?_
      rintro e w2 ⟨rfl, rfl⟩
      go_wp2_with fail
      by_cases hl : L ≤ r1.2.steps
      · refine (count_no hp1 hl).mono ?_
        rintro e w3 ⟨rfl, hb3, hs3⟩
        go_wp2_with fail
        refine ⟨rfl, ?_⟩
        have hF := HF.out
        rw [if_pos hl] at hF
        cases hF
        exact GPX.got ⟨rfl, hk1.below.trans hb3, hs3⟩
      · refine (count_ok hp1 hl).mono ?_
        rintro e w3 ⟨rfl, hk3, hp3⟩
        have hF := HF.out
        rw [if_neg hl] at hF
        have hk13 := hk1.trans hk3
        obtain ⟨e3, l3⟩ := (H3.out.fr hk13 (by decide) (by decide)).cell
        have hg := grown_alloc (grown_refl w3 none) (.cells #[.int .i64 0, fnv f2 c2, .slice o env.length cap, .nilIface] 181 (0, 0))
        have hf4 : FP b w3 _ := Fr.grown hp3.blt hg
        have hB2 : Ext B' (B' ++ [w3.heap.size]) := Ext.app _ _
        have h4 := hp3.more hg (.wait y env) w3.heap.size (Nat.le_refl _) ⟨hdy, f2, c2, _, alloc_at w3 _ _ rfl, HY.out.fr (hk13.trans hf4), HS.out.fr (hk13.trans hf4) (hB.trans hB2)⟩
        have hnew : (B' ++ [w3.heap.size])[r1.2.heap.length]? = some w3.heap.size := by have := hp3.len; simp only at this; rw [← this]; simp
        have HD : Hid (Calls Tryz.prog 117 #[ptr w3.heap.size, ptr j1, ptr j2] (w3.alloc (.cells #[.int .i64 0, fnv f2 c2, .slice o env.length cap, .nilIface] 181 (0, 0))) (GP b w B st L r)) := (ccall hN hF h4 hnew (HV.out.fr (hk3.trans hf4) hB2)).mono fun _ _ hG => hG.fr (hk13.trans hf4) (hB.trans hB2)
        clear hF h4 hnew
        go_wp2_with fail
        refine HD.out.mono ?_
        rintro e w5 (⟨v, B5, u, hr, rfl, hk5, hB5, hp5, hv5⟩ | ⟨z, hr, rfl, hb5, hs5⟩)
        · obtain ⟨T1, y1, rfl⟩ := hv5.shape
          have HR : Hid (r.1 = .ok v) := hr
          clear hr
          go_wp2_with fail
          go_ret
          exact .inl ⟨v, B5, _, HR.out, rfl, hk5, hB5, hp5, hv5⟩
        · have HR : Hid (r.1 = .err z) := hr
          clear hr
          go_wp2_with fail
          exact ⟨rfl, .inr ⟨z, HR.out, rfl, hb5, hs5⟩⟩
  · have HF : Hid (r = (.err z, r1.2)) := by
      have := HE.out; rw [hr] at this; simp only [R.fn, Option.some.injEq] at this; exact this.symm
    clear hr HE
    go_wp2_with fail
    refine ⟨rfl, ?_⟩
    rw [HF.out]
    exact GPX.got ⟨rfl, hb1, hs1⟩
end Go.Proofs.YtdpbclnpmkhooaaGreatDoor
