/-
  The document's walk: a function is used.
-/
import Derived.Test.YtdpbclnpmkhooaaGreatDoorRefR
import Derived.Deep.RegionHeld3
namespace Go.Proofs.YtdpbclnpmkhooaaGreatDoor
open Go Go.Proofs Go.RowKit Skein

set_option maxRecDepth 100000 in
set_option maxHeartbeats 32000000 in
theorem rneed_app_ok (n : Nat) (hN : CN n) (x y : T) {L : Nat} {S S1 : E} {r : R × E} {u : T} {fe : List Nat} {env : List Nat} {b : Nat} {w : World} {A : List Nat} {wb : Nat} {p q : Value} (he1 : ev L n (.need x env) S = some (.ok (.fn u fe), S1)) (hl : ¬ L ≤ S1.steps) (he2 : ev L n (.need u (fe ++ [S1.heap.length])) ⟨S1.heap ++ [.wait y env], S1.steps + 1⟩ = some r) (h : RE b w A wb L S) (ht : Tidy env.length (.app x y)) (hp : NodeAt b w (.app x y) p) (hq : NmAt w A env q) :
    Calls Tryz.prog 31 #[ptr wb, p, q] w (Got b w A wb L r) := by
  obtain ⟨p1, p2, ⟨k, rfl, hk, hh⟩, h1, h2⟩ := hp
  obtain ⟨a1, rfl⟩ := NodeAt.ptr _ _ h1
  obtain ⟨a2, rfl⟩ := NodeAt.ptr _ _ h2
  obtain ⟨aq, rfl⟩ := hq.ptr
  obtain ⟨c0, c1, c2, cf, hlt⟩ := h.walk.cells
  obtain ⟨d0, d1, d2, d3, d4, hltk⟩ := node_cells hh
  have hb := h.blt
  have hg := grown_alloc (grown_refl w none) zero68
  have hf : Fr 85 64 b w _ := Fr.grown hb hg
  have hx : Box68 _ w.heap.size := ⟨_, _, _, _, _, _, alloc_at w zero68 _ rfl⟩
  have HC : Hid (Calls Tryz.prog 31 #[ptr wb, .pointer (some a1), .pointer aq] (w.alloc zero68) _) := (hN L x env S _ b _ A wb _ _ he1 (h.grown hg) ht.1 (NodeAt.fr hf _ _ h1) (hq.fr hf (Ext.refl _))).mono fun _ _ h => h.v rfl
  have HH : Hid (w.heap[k]? = some (.cells (cellsN 97 0 (.pointer (some a1)) (.pointer (some a2)) (.pointer none)) 82 (0, 0))) := hh
  have H2 : Hid (NodeAt b w y (.pointer (some a2))) := h2
  have HQ : Hid (NmAt w A env (.pointer aq)) := hq
  have HE : Hid (ev L n (.need u (fe ++ [S1.heap.length])) ⟨S1.heap ++ [.wait y env], S1.steps + 1⟩ = some r) := he2
  have HT : Hid (Tidy env.length y) := ht.2
  clear hh h1 h2 hq he1 hg he2 ht
  go_enter Tryz.func31, Tryz.ntmps31
  go_wp2_with fail
  refine HC.out.mono ?_
  rintro e w1 ⟨A', k', n', u1, u2, u3, u4, rfl, hk2, hA, hx2, hv⟩
  obtain ⟨e0, e1, e2, ef, elt⟩ := hx2.walk.cells
  obtain ⟨rfl, y', env', hyy, rfl, hty, hnu, hnm⟩ : k' = 102 ∧ ∃ y env, V.fn u fe = .fn y env ∧ n' = env.length ∧ Tidy (env.length + 1) y ∧ NodeAt b w1 y (.pointer u1) ∧ NmAt w1 A' env (.pointer u2) := by
    rcases hv.fn_or with h | ⟨_, h⟩
    · exact h
    · cases h
  cases hyy
  have hg3 := grown_alloc (grown_refl w1 none) (.cells #[.int .u8 102, .int .i64 fe.length, .pointer u1, .pointer u2, .pointer u3, .pointer u4] 68 (0, 0))
  have hl3 := alloc_at w1 (.cells #[.int .u8 102, .int .i64 fe.length, .pointer u1, .pointer u2, .pointer u3, .pointer u4] 68 (0, 0)) _ rfl
  have hx3 := hx2.grown hg3
  have hf3 : Fr 85 64 b w1 _ := Fr.grown hx2.blt hg3
  have HNU : Hid (NodeAt b w1 u (.pointer u1)) := hnu
  have HNM : Hid (NmAt w1 A' fe (.pointer u2)) := hnm
  have HTY : Hid (Tidy (fe.length + 1) u) := hty
  clear hv hnu hnm hty
  go_wp2_with fail
  refine (rstep_ok hx3 hl).mono ?_
  rintro e w2 ⟨rfl, hk4, hx4⟩
  have hk14 := hf3.trans hk4
  have hk5 := (hf.trans hk2).trans hk14
  obtain ⟨f0, f1, f2, ff, flt'⟩ := hx4.walk.cells
  have hbx := (hx.fr hk2 (by decide) (by decide)).fr hk14 (by decide) (by decide)
  have hloc := hk4.keep _ _ 68 (by decide) (by decide) hl3
  have hnod := hk5.keep _ _ 82 (by decide) (by decide) HH.out
  obtain ⟨m0, m1, m2, m3, m4, m5, mf, mlt⟩ := cells6 hloc
  obtain ⟨g0, g1, g2, g3, g4, glt⟩ := node_cells hnod
  have hg5 := grown_alloc (grown_alloc (grown_refl w2 none) (.cells #[.pointer (some a2), .pointer aq, .bool false, .bool false, .int .u8 0, .int .i64 0, nilp, nilp, nilp, nilp] 85 (0, 0))) (.cells #[.int .i64 fe.length, ptr w2.heap.size, .pointer u2] 87 (0, 0))
  have hf5 : Fr 85 64 b w2 _ := Fr.grown hx4.blt hg5
  have hy1 := keepB' (alloc_at w2 (.cells #[.pointer (some a2), .pointer aq, .bool false, .bool false, .int .u8 0, .int .i64 0, nilp, nilp, nilp, nilp] 85 (0, 0)) _ rfl) (grown_alloc (grown_refl _ none) (.cells #[.int .i64 fe.length, ptr w2.heap.size, .pointer u2] 87 (0, 0)))
  have hy2 := alloc_at (w2.alloc (.cells #[.pointer (some a2), .pointer aq, .bool false, .bool false, .int .u8 0, .int .i64 0, nilp, nilp, nilp, nilp] 85 (0, 0))) (.cells #[.int .i64 fe.length, ptr w2.heap.size, .pointer u2] 87 (0, 0)) (w2.heap.size + 1) (by rw [alloc_size])
  have hA2 : Ext A' (A' ++ [w2.heap.size]) := Ext.app _ _
  have hnew : (A' ++ [w2.heap.size])[S1.heap.length]? = some w2.heap.size := by have := hx4.len; simp only at this; rw [← this]; simp
  have h6 := hx4.more hg5 (.wait y env) w2.heap.size (Nat.le_refl _) ⟨HT.out, _, _, hy1, NodeAt.fr (hk5.trans hf5) _ _ H2.out, HQ.out.fr (hk5.trans hf5) (hA.trans hA2)⟩
  have hnm6 := (HNM.out.fr (hk14.trans hf5) hA2).snoc hnew hy2
  have HD : Hid (∀ wd, World.grownBy ((w2.alloc (.cells #[.pointer (some a2), .pointer aq, .bool false, .bool false, .int .u8 0, .int .i64 0, nilp, nilp, nilp, nilp] 85 (0, 0))).alloc (.cells #[.int .i64 fe.length, ptr w2.heap.size, .pointer u2] 87 (0, 0))) wd none → Calls Tryz.prog 31 #[ptr wb, .pointer u1, ptr (w2.heap.size + 1)] wd fun e w' => (w'.cell? ⟨w1.heap.size, 1, none⟩ = some (.int .i64 fe.length) ∧ w'.cell? ⟨w1.heap.size, 2, none⟩ = some (.pointer u1) ∧ w'.cell? ⟨w1.heap.size, 3, none⟩ = some (.pointer u2) ∧ w'.cell? ⟨k, 3, none⟩ = some (.pointer (some a2))) ∧ ∃ k n a1 a2 a3 a4, e = .returned (rv k n (.pointer a1) (.pointer a2) (.pointer a3) (.pointer a4)) ∧ ∃ y0 y1 y2 y3 y4 y5, w'.heap[w.heap.size]? = some (.cells #[y0, y1, y2, y3, y4, y5] 68 (0, 0)) ∧ Got b w A wb L r e (put6 w' w.heap.size (.int .u8 k) (.int .i64 n) (.pointer a1) (.pointer a2) (.pointer a3) (.pointer a4))) := fun wd hwd => by
    have h7 : Fr 85 64 b _ wd := Fr.grown h6.blt hwd
    refine (hN L u (fe ++ [S1.heap.length]) _ r b wd _ wb _ _ HE.out (h6.grown hwd) (by simpa using HTY.out) (NodeAt.fr ((hk14.trans hf5).trans h7) _ _ HNU.out) (hnm6.fr h7 (Ext.refl _))).mono fun e w' hG => ?_
    obtain ⟨_, m1', m2', m3', _, _, _, _⟩ := cells6 (hG.1.keep _ _ 68 (by decide) (by decide) (keepB' (keepB' hloc hg5) hwd))
    obtain ⟨_, _, _, g3', _, _⟩ := node_cells (hG.1.keep _ _ 82 (by decide) (by decide) (keepB' (keepB' hnod hg5) hwd))
    exact ⟨⟨m1', m2', m3', g3'⟩, got_put ((hk5.trans hf5).trans h7) hb ((hbx.grown hg5).grown hwd) (hA.trans hA2) hG⟩
  have n1 : w.heap.size < w1.heap.size := by
    obtain ⟨y0, y1, y2, y3, y4, y5, hb0⟩ := hx.fr hk2 (by decide) (by decide)
    exact heap_lt hb0
  have n2 : w1.heap.size ≠ w.heap.size := by omega
  have n3 : w.heap.size ≠ w1.heap.size := by omega
  have n4 : k ≠ w.heap.size := by omega
  have n5 : w.heap.size ≠ k := by omega
  clear hloc hnod hnm6 h6 hnew hy1 hy2 hf5 hg5 hk5 hk14 hx4 hk4 hx3 hx2 hf3 hl3 hg3
  go_wp2_with fail
  clear f0 f1 f2 ff flt' m0 m4 m5 mf mlt g0 g1 g2 g4 glt c0 c1 c2 cf hlt d0 d1 d2 d3 d4 hltk e0 e1 e2 ef elt hf hx hk2 hA HC HH H2 HQ HE HT HNU HNM HTY hbx hA2 hl hk h hN hb
  go_region_held3 (fun wd => wd.cell? ⟨w1.heap.size, 1, none⟩ = some (.int .i64 fe.length) ∧ wd.cell? ⟨w1.heap.size, 2, none⟩ = some (.pointer u1) ∧ wd.cell? ⟨w1.heap.size, 3, none⟩ = some (.pointer u2) ∧ wd.cell? ⟨k, 3, none⟩ = some (.pointer (some a2))) (go_keep) (first | (go_at_call 31; refine (HD.out _ (by exact grown_same (grown_refl _ _) rfl rfl rfl rfl)).mono ?_; rintro e w3 ⟨⟨s1, s2, s3, s4⟩, k', n', b1, b2, b3, b4, rfl, z0, z1, z2, z3, z4, z5, hz, hG2⟩; obtain ⟨r0, r1, r2, r3, r4, r5, rf, rlt⟩ := cells6 hz))
  all_goals
    go_wp2_with fail
    exact fin6 (t := 6) Tryz.results31 rfl rfl (put6_at hz _ _ _ _ _ _) hG2
end Go.Proofs.YtdpbclnpmkhooaaGreatDoor
