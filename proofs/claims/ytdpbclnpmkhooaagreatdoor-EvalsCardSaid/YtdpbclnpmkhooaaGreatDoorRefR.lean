/-
  The document's walk: the use of a function.
-/
import Derived.Test.YtdpbclnpmkhooaaGreatDoorRefQ
namespace Go.Proofs.YtdpbclnpmkhooaaGreatDoor
open Go Go.Proofs Go.RowKit Skein

abbrev zero68 : Obj := .cells #[.int .u8 0, .int .i64 0, nilp, nilp, nilp, nilp] 68 (0, 0)

theorem VR.fn_or {b w A v k n p1 p2 p3 p4} (h : VR b w A v (rv k n p1 p2 p3 p4)) : (k = 102 ∧ ∃ y env, v = .fn y env ∧ n = env.length ∧ Tidy (env.length + 1) y ∧ NodeAt b w y p1 ∧ NmAt w A env p2) ∨ ((k == 102) = false ∧ R.fn (.ok v) = .error 5) := by
  cases v with
  | num m => simp only [VR, rv, Value.agg.injEq] at h; simp at h; obtain ⟨rfl, _⟩ := h; exact .inr ⟨rfl, rfl⟩
  | nil => simp only [VR, rv, Value.agg.injEq] at h; simp at h; obtain ⟨rfl, _⟩ := h; exact .inr ⟨rfl, rfl⟩
  | fn x env => obtain ⟨ht, p, q, h, hp, hq⟩ := h; simp only [rv, Value.agg.injEq] at h; simp at h; obtain ⟨rfl, rfl, rfl, rfl, _⟩ := h; exact .inl ⟨rfl, x, env, rfl, rfl, ht, hp, hq⟩
  | cons i j => obtain ⟨a, c, _, _, h⟩ := h; simp only [rv, Value.agg.injEq] at h; simp at h; obtain ⟨rfl, _⟩ := h; exact .inr ⟨rfl, rfl⟩

set_option maxRecDepth 100000 in
set_option maxHeartbeats 8000000 in
theorem rneed_app_x (n : Nat) (hN : CN n) (x y : T) {L : Nat} {S S1 : E} {z : Int} {env : List Nat} {b : Nat} {w : World} {A : List Nat} {wb : Nat} {p q : Value} (he1 : ev L n (.need x env) S = some (.err z, S1)) (h : RE b w A wb L S) (ht : Tidy env.length (.app x y)) (hp : NodeAt b w (.app x y) p) (hq : NmAt w A env q) :
    Calls Tryz.prog 31 #[ptr wb, p, q] w (Got b w A wb L (.err z, S1)) := by
  obtain ⟨p1, p2, ⟨k, rfl, hk, hh⟩, h1, h2⟩ := hp
  obtain ⟨a1, rfl⟩ := NodeAt.ptr _ _ h1
  obtain ⟨a2, rfl⟩ := NodeAt.ptr _ _ h2
  obtain ⟨aq, rfl⟩ := hq.ptr
  obtain ⟨c0, c1, c2, cf, hlt⟩ := h.walk.cells
  obtain ⟨d0, d1, d2, d3, d4, hltk⟩ := node_cells hh
  have hb := h.blt
  have hg := grown_alloc (grown_refl w none) zero68
  have hf : Fr 85 64 b w _ := Fr.grown hb hg
  have hx : Box68 _ w.heap.size := ⟨_, _, _, _, _, _, alloc_at w zero68 _ rfl⟩
  have HC : Hid (Calls Tryz.prog 31 #[ptr wb, .pointer (some a1), .pointer aq] (w.alloc zero68) _) := (hN L x env S _ b _ A wb _ _ he1 (h.grown hg) ht.1 (NodeAt.fr hf _ _ h1) (hq.fr hf (Ext.refl _))).mono fun _ _ h => h.x rfl
  clear hh h1 h2 hq he1 hg
  go_enter Tryz.func31, Tryz.ntmps31
  go_wp2_with fail
  refine HC.out.mono ?_
  rintro e w1 ⟨k', n', u1, u2, u3, u4, rfl, hk2, hx2⟩
  have hg3 := grown_alloc (grown_refl w1 none) (.cells #[.int .u8 k', .int .i64 n', .pointer u1, .pointer u2, .pointer u3, .pointer u4] 68 (0, 0))
  obtain ⟨e0, e1, e2, ef, elt⟩ := hx2.walk.cells
  obtain ⟨z0, z1, z2, z3, z4, z5, hz⟩ := hx.fr hk2 (by decide) (by decide)
  obtain ⟨r0, r1', r2, r3, r4, r5, rf, rlt⟩ := cells6 hz
  have hz0 : (z == 0) = false := by simpa using hx2.ne
  have hz1 : (z != 0) = true := by simp [bne, hz0]
  have al := put6_alike hz (by decide) (.int .u8 0) (.int .i64 0) nilp nilp nilp nilp
  have hf2 := put6_fr (hf.trans hk2) (Nat.le_refl _) hb (.int .u8 0) (.int .i64 0) nilp nilp nilp nilp
  have hx3 := hx2.alike al
  have hg4 := grown_alloc (grown_refl (put6 w1 w.heap.size (.int .u8 0) (.int .i64 0) nilp nilp nilp nilp) none) (.cells #[.int .u8 k', .int .i64 n', .pointer u1, .pointer u2, .pointer u3, .pointer u4] 68 (0, 0))
  go_wp2_with fail
  exact fin6 (t := 6) Tryz.results31 rfl rfl (keepB' (put6_at hz _ _ _ _ _ _) hg4) (GotX.got ⟨_, _, _, _, _, _, rfl, hf2.trans (Fr.grown hx3.blt hg4), hx3.grown hg4⟩)

set_option maxRecDepth 100000 in
set_option maxHeartbeats 8000000 in
theorem rneed_app_t (n : Nat) (hN : CN n) (x y : T) {L : Nat} {S S1 : E} {v : V} {env : List Nat} {b : Nat} {w : World} {A : List Nat} {wb : Nat} {p q : Value} (he1 : ev L n (.need x env) S = some (.ok v, S1)) (hr1 : R.fn (.ok v) = .error 5) (h : RE b w A wb L S) (ht : Tidy env.length (.app x y)) (hp : NodeAt b w (.app x y) p) (hq : NmAt w A env q) :
    Calls Tryz.prog 31 #[ptr wb, p, q] w (Got b w A wb L (.err 5, S1)) := by
  obtain ⟨p1, p2, ⟨k, rfl, hk, hh⟩, h1, h2⟩ := hp
  obtain ⟨a1, rfl⟩ := NodeAt.ptr _ _ h1
  obtain ⟨a2, rfl⟩ := NodeAt.ptr _ _ h2
  obtain ⟨aq, rfl⟩ := hq.ptr
  obtain ⟨c0, c1, c2, cf, hlt⟩ := h.walk.cells
  obtain ⟨d0, d1, d2, d3, d4, hltk⟩ := node_cells hh
  have hb := h.blt
  have hg := grown_alloc (grown_refl w none) zero68
  have hf : Fr 85 64 b w _ := Fr.grown hb hg
  have hx : Box68 _ w.heap.size := ⟨_, _, _, _, _, _, alloc_at w zero68 _ rfl⟩
  have HC : Hid (Calls Tryz.prog 31 #[ptr wb, .pointer (some a1), .pointer aq] (w.alloc zero68) _) := (hN L x env S _ b _ A wb _ _ he1 (h.grown hg) ht.1 (NodeAt.fr hf _ _ h1) (hq.fr hf (Ext.refl _))).mono fun _ _ h => h.v rfl
  have HR : Hid (R.fn (.ok v) = .error 5) := hr1
  clear hh h1 h2 hq he1 hg hr1
  go_enter Tryz.func31, Tryz.ntmps31
  go_wp2_with fail
  refine HC.out.mono ?_
  rintro e w1 ⟨A', k', n', u1, u2, u3, u4, rfl, hk2, hA, hx2, hv⟩
  have hg3 := grown_alloc (grown_refl w1 none) (.cells #[.int .u8 k', .int .i64 n', .pointer u1, .pointer u2, .pointer u3, .pointer u4] 68 (0, 0))
  obtain ⟨e0, e1, e2, ef, elt⟩ := hx2.walk.cells
  have hk1 : (k' == 102) = false := by
    rcases hv.fn_or with ⟨_, y', env', rfl, _⟩ | ⟨h, _⟩
    · have := HR.out; cases this
    · exact h
  have hk1' : (k' != 102) = true := by simp [bne, hk1]
  have hx3 := hx2.grown hg3
  have hbx := hx2.blt
  clear hv
  go_wp2_with fail
  refine (rfails hx3 5 (by decide)).mono ?_
  rintro e w2 ⟨rfl, hk4, hx4⟩
  have hk5 := (hf.trans hk2).trans ((Fr.grown hbx hg3).trans hk4)
  obtain ⟨f0, f1, f2, ff, flt'⟩ := hx4.walk.cells
  obtain ⟨z0, z1, z2, z3, z4, z5, hz⟩ := ((hx.fr hk2 (by decide) (by decide)).grown hg3).fr hk4 (by decide) (by decide)
  obtain ⟨r0, r1', r2, r3, r4, r5, rf, rlt⟩ := cells6 hz
  have al := put6_alike hz (by decide) (.int .u8 0) (.int .i64 0) nilp nilp nilp nilp
  have hf2 := put6_fr hk5 (Nat.le_refl _) hb (.int .u8 0) (.int .i64 0) nilp nilp nilp nilp
  go_wp2_with fail
  exact fin6 (t := 6) Tryz.results31 rfl rfl (put6_at hz _ _ _ _ _ _) (GotX.got ⟨_, _, _, _, _, _, rfl, hf2, (hx4.alike al).sub hA⟩)

set_option maxRecDepth 100000 in
set_option maxHeartbeats 8000000 in
theorem rneed_app_s (n : Nat) (hN : CN n) (x y : T) {L : Nat} {S S1 : E} {u : T} {fe : List Nat} {env : List Nat} {b : Nat} {w : World} {A : List Nat} {wb : Nat} {p q : Value} (he1 : ev L n (.need x env) S = some (.ok (.fn u fe), S1)) (hl : L ≤ S1.steps) (h : RE b w A wb L S) (ht : Tidy env.length (.app x y)) (hp : NodeAt b w (.app x y) p) (hq : NmAt w A env q) :
    Calls Tryz.prog 31 #[ptr wb, p, q] w (Got b w A wb L (.err 8, S1)) := by
  obtain ⟨p1, p2, ⟨k, rfl, hk, hh⟩, h1, h2⟩ := hp
  obtain ⟨a1, rfl⟩ := NodeAt.ptr _ _ h1
  obtain ⟨a2, rfl⟩ := NodeAt.ptr _ _ h2
  obtain ⟨aq, rfl⟩ := hq.ptr
  obtain ⟨c0, c1, c2, cf, hlt⟩ := h.walk.cells
  obtain ⟨d0, d1, d2, d3, d4, hltk⟩ := node_cells hh
  have hb := h.blt
  have hg := grown_alloc (grown_refl w none) zero68
  have hf : Fr 85 64 b w _ := Fr.grown hb hg
  have hx : Box68 _ w.heap.size := ⟨_, _, _, _, _, _, alloc_at w zero68 _ rfl⟩
  have HC : Hid (Calls Tryz.prog 31 #[ptr wb, .pointer (some a1), .pointer aq] (w.alloc zero68) _) := (hN L x env S _ b _ A wb _ _ he1 (h.grown hg) ht.1 (NodeAt.fr hf _ _ h1) (hq.fr hf (Ext.refl _))).mono fun _ _ h => h.v rfl
  clear hh h1 h2 hq he1 hg
  go_enter Tryz.func31, Tryz.ntmps31
  go_wp2_with fail
  refine HC.out.mono ?_
  rintro e w1 ⟨A', k', n', u1, u2, u3, u4, rfl, hk2, hA, hx2, hv⟩
  obtain ⟨e0, e1, e2, ef, elt⟩ := hx2.walk.cells
  have hk1 : k' = 102 := by
    rcases hv.fn_or with ⟨h, _⟩ | ⟨_, h⟩
    · exact h
    · cases h
  subst hk1
  have hg3 := grown_alloc (grown_refl w1 none) (.cells #[.int .u8 102, .int .i64 n', .pointer u1, .pointer u2, .pointer u3, .pointer u4] 68 (0, 0))
  have hx3 := hx2.grown hg3
  have hbx := hx2.blt
  clear hv
  go_wp2_with fail
  refine (rstep_no hx3 hl).mono ?_
  rintro e w2 ⟨rfl, hk4, hx4⟩
  have hk5 := (hf.trans hk2).trans ((Fr.grown hbx hg3).trans hk4)
  obtain ⟨f0, f1, f2, ff, flt'⟩ := hx4.walk.cells
  obtain ⟨z0, z1, z2, z3, z4, z5, hz⟩ := ((hx.fr hk2 (by decide) (by decide)).grown hg3).fr hk4 (by decide) (by decide)
  obtain ⟨r0, r1', r2, r3, r4, r5, rf, rlt⟩ := cells6 hz
  have al := put6_alike hz (by decide) (.int .u8 0) (.int .i64 0) nilp nilp nilp nilp
  have hf2 := put6_fr hk5 (Nat.le_refl _) hb (.int .u8 0) (.int .i64 0) nilp nilp nilp nilp
  go_wp2_with fail
  exact fin6 (t := 6) Tryz.results31 rfl rfl (put6_at hz _ _ _ _ _ _) (GotX.got ⟨_, _, _, _, _, _, rfl, hf2, (hx4.alike al).sub hA⟩)

end Go.Proofs.YtdpbclnpmkhooaaGreatDoor
