/-
  The program's parser: sides.
-/
import Derived.Test.YtjjlgjmebnkdjaaGreatDoorPrgL
namespace Go.Proofs.YtjjlgjmebnkdjaaGreatDoor
open Go Go.Proofs Go.RowKit Skein

def infixRows (k1 k2 k3 k4 k5 : Nat) : List IRow :=
  [⟨⟨#[58]⟩, 0, 0, false, 76, #[]⟩, ⟨⟨#[61]⟩, 1, 2, false, 118, #[.pointer (some ⟨k1, 0, none⟩)]⟩, ⟨⟨#[60]⟩, 1, 2, false, 118, #[.pointer (some ⟨k2, 0, none⟩)]⟩,
   ⟨⟨#[43]⟩, 2, 3, true, 118, #[.pointer (some ⟨k3, 0, none⟩)]⟩, ⟨⟨#[45]⟩, 2, 3, true, 118, #[.pointer (some ⟨k4, 0, none⟩)]⟩, ⟨⟨#[42]⟩, 3, 4, true, 118, #[.pointer (some ⟨k5, 0, none⟩)]⟩]

theorem infix_cells {w : World} {A k1 k2 k3 k4 k5 : Nat} (h : w.heap[A]? = some (.cells (infixCells k1 k2 k3 k4 k5) 124 (0, 0))) : ∀ j (hj : j < (infixRows k1 k2 k3 k4 k5).length),
    w.cell? ⟨A, j * 5, none⟩ = some (.string (infixRows k1 k2 k3 k4 k5)[j].kind) ∧ w.cell? ⟨A, j * 5 + 1, none⟩ = some (.int .i64 (infixRows k1 k2 k3 k4 k5)[j].near) ∧ w.cell? ⟨A, j * 5 + 2, none⟩ = some (.int .i64 (infixRows k1 k2 k3 k4 k5)[j].right) ∧ w.cell? ⟨A, j * 5 + 3, none⟩ = some (.bool (infixRows k1 k2 k3 k4 k5)[j].again) ∧ w.cell? ⟨A, j * 5 + 4, none⟩ = some (.func (.func (infixRows k1 k2 k3 k4 k5)[j].fn) #[] (infixRows k1 k2 k3 k4 k5)[j].cap) := by
  intro j hj
  have hc : ∀ i, w.cell? ⟨A, i, none⟩ = (infixCells k1 k2 k3 k4 k5)[i]? := fun i => by simp [World.cell?, h]
  rw [hc, hc, hc, hc, hc]
  have hj' : j < 6 := hj
  have : j = 0 ∨ j = 1 ∨ j = 2 ∨ j = 3 ∨ j = 4 ∨ j = 5 := by omega
  rcases this with rfl | rfl | rfl | rfl | rfl | rfl
  all_goals exact ⟨rfl, rfl, rfl, rfl, rfl⟩

theorem bet_some {b s m w} {n A k1 k2 k3 k4 k5 : Nat} (h : PS b s m w) (hA : A < b) (h6 : w.cell? ⟨b, 6, none⟩ = some (.slice (some ⟨A, 0, none⟩) 6 6)) (ha : w.heap[A]? = some (.cells (infixCells k1 k2 k3 k4 k5) 124 (0, 0)))
    (i : Nat) (hi : i < (infixRows k1 k2 k3 k4 k5).length) (h1 : fitsRow (infixRows k1 k2 k3 k4 k5)[i] (kindOf m.tok) n = true) (h2 : ∀ j (h : j < (infixRows k1 k2 k3 k4 k5).length), j < i → fitsRow (infixRows k1 k2 k3 k4 k5)[j] (kindOf m.tok) n = false) :
    Calls Tryz.prog 127 #[.pointer (some ⟨b, 0, none⟩), .int .i64 n] w fun e w' => e = .returned (.tuple #[.agg #[.string (infixRows k1 k2 k3 k4 k5)[i].kind, .int .i64 (infixRows k1 k2 k3 k4 k5)[i].near, .int .i64 (infixRows k1 k2 k3 k4 k5)[i].right, .bool (infixRows k1 k2 k3 k4 k5)[i].again, .func (.func (infixRows k1 k2 k3 k4 k5)[i].fn) #[] (infixRows k1 k2 k3 k4 k5)[i].cap], .bool true]) ∧ w.grownBy w' none :=
  pbetween_some h A (infixRows k1 k2 k3 k4 k5) (by simp [infixRows]) (by have := h.lt; omega) h6 (infix_cells ha) i hi h1 h2
theorem bet_none {b s m w} {n A k1 k2 k3 k4 k5 : Nat} (h : PS b s m w) (hA : A < b) (h6 : w.cell? ⟨b, 6, none⟩ = some (.slice (some ⟨A, 0, none⟩) 6 6)) (ha : w.heap[A]? = some (.cells (infixCells k1 k2 k3 k4 k5) 124 (0, 0)))
    (h2 : ∀ j (h : j < (infixRows k1 k2 k3 k4 k5).length), fitsRow (infixRows k1 k2 k3 k4 k5)[j] (kindOf m.tok) n = false) :
    Calls Tryz.prog 127 #[.pointer (some ⟨b, 0, none⟩), .int .i64 n] w fun e w' => e = .returned (.tuple #[.agg #[.string ⟨#[]⟩, .int .i64 0, .int .i64 0, .bool false, .nilFunc], .bool false]) ∧ w.grownBy w' none :=
  pbetween_none h A (infixRows k1 k2 k3 k4 k5) (by simp [infixRows]) (by have := h.lt; omega) h6 (infix_cells ha) h2

theorem near_no (r : IRow) (kd : ByteArray) (n : Nat) (h : r.near ≠ n) : fitsRow r kd n = false := by
  unfold fitsRow; rw [beq_eq_false_iff_ne.2 h]; simp
theorem near_yes (r : IRow) (kd : ByteArray) (n : Nat) (h : r.near = n) : fitsRow r kd n = eqb r.kind kd := by
  unfold fitsRow; rw [beq_iff_eq.2 h]; simp

set_option maxRecDepth 100000 in
set_option maxHeartbeats 1000000 in
theorem preckon (k : Nat) (op : ByteArray) (T1 T2 : TypeId) (x1 x2 : Value) (w : World) (hk : w.cell? ⟨k, 0, none⟩ = some (.string op)) :
    Calls Tryz.prog 118 #[.iface T1 x1, .iface T2 x2, .pointer (some ⟨k, 0, none⟩)] w fun e w' => e = .returned (.iface 167 (.agg #[.string op, .iface T1 x1, .iface T2 x2])) ∧ w' = w := by
  go_enter Tryz.func118, Tryz.ntmps118
  go_wp2_with fail
  go_ret
  exact ⟨rfl, rfl⟩

set_option maxRecDepth 100000 in
set_option maxHeartbeats 1000000 in
theorem plist (T1 T2 : TypeId) (x1 x2 : Value) (w : World) :
    Calls Tryz.prog 76 #[.iface T1 x1, .iface T2 x2] w fun e w' => e = .returned (.iface 173 (.agg #[.iface T1 x1, .iface T2 x2])) ∧ w' = w := by
  go_enter Tryz.func76, Tryz.ntmps76
  go_wp2_with fail
  go_ret
  exact ⟨rfl, rfl⟩

set_option maxRecDepth 100000 in
set_option maxHeartbeats 1000000 in
theorem psides4 (n : Nat) (hU : CP 126 .use n) : CS 4 .use n := by
  intro b s m w t m' h hP
  have HP : Hid (PM s n .use m = some (t, m')) := hP
  clear hP
  go_enter Tryz.func87, Tryz.ntmps87
  go_wp2_with fail
  refine (hU b s m w t m' h HP.out).mono ?_
  rintro e w1 (⟨hn, rfl, h1, k1⟩ | ⟨q, hq, rfl, hb⟩)
  · have HN : Hid (m'.bad = none) := hn
    clear hn
    obtain ⟨T1, x1, e1⟩ := pv_iface t
    have E1 : Hid (pv t = .iface T1 x1) := e1
    rw [e1]
    clear e1
    go_wp2_with fail
    go_ret
    exact .inl ⟨HN.out, by rw [E1.out]; rfl, h1, k1⟩
  · have HB : Hid (m'.bad = some q) := hq
    clear hq
    go_wp2_with fail
    exact ⟨rfl, .inr ⟨q, HB.out, rfl, hb⟩⟩

set_option maxRecDepth 100000 in
set_option maxHeartbeats 4000000 in
theorem psides3 (n : Nat) (hU : ∀ j, j < n → CS 4 .use j) : CS 3 .prod n := by
  intro b s m w t m' h hP
  cases n with
  | zero => simp [PM] at hP
  | succ n =>
    simp only [PM] at hP
    rw [if_neg (by simp [h.bad])] at hP
    obtain ⟨⟨t1, m1⟩, hP1, hP2⟩ := Option.bind_eq_some_iff.1 hP
    have HP1 : Hid (PM s n .use m = some (t1, m1)) := hP1
    have HP2 : Hid (PM s n (.prodL t1) m1 = some (t, m')) := hP2
    have HI1 : Hid (Inv s m1) := (PM_keeps s n _ _ _ hP1).1 h.inv
    clear hP hP1 hP2
    go_enter Tryz.func87, Tryz.ntmps87
    go_wp2_with fail
    refine (hU n (Nat.lt_succ_self n) b s m w t1 m1 h HP1.out).mono ?_
    rintro e w1 (⟨hn, rfl, h1, k1⟩ | ⟨q, hq, rfl, hb⟩)
    · clear hn
      go_wp2_with fail
      go_loopg [5] n (fun j v wr => j ≤ n ∧ ∃ tj mj, v = pv tj ∧ PS b s mj wr ∧ Kp b w wr ∧ Hid (PM s j (.prodL tj) mj = some (t, m')))
      case atStart => exact ⟨Nat.le_refl _, t1, m1, rfl, h1, k1, HP2⟩
      case round =>
        obtain ⟨hjn, tj, mj, rfl, hR, hK, HP⟩ := hrel
        have hPj := HP.out
        cases gk with
        | zero => simp [PM] at hPj
        | succ j =>
          simp only [PM] at hPj
          obtain ⟨gv, iv, ev, av, hB, ho, ht⟩ := hR.blk
          obtain ⟨I, p1, p2, p3, p4, p5, rfl, hIb, b1, b2, b3, b4, b5, hIh, g1, g2, g3, g4, g5⟩ := ht.infix_
          obtain ⟨c0, c1, c2, c3, c4, c5, c6, c7, c8, hf, hlt0⟩ := hB.cells
          obtain ⟨T1, x1, e1⟩ := pv_iface tj
          have E1 : Hid (pv tj = .iface T1 x1) := e1
          rw [e1]
          clear e1
          have hkd : eqb ⟨#[42]⟩ (kindOf mj.tok) = mj.has ⟨#[42]⟩ := by
            rw [eqb_comm, kind_sym hR.inv _ (mem_iff.1 (by decide))]; unfold M.has; rw [hR.bad]; rfl
          cases hh : mj.has ⟨#[42]⟩
          · rw [hh] at hkd
            rw [if_neg (by simp [hh])] at hPj
            have HO : Hid (Calls Tryz.prog 127 #[.pointer (some ⟨b, 0, none⟩), .int .i64 (3 : Nat)] wr fun e w' => e = .returned (.tuple #[.agg #[.string ⟨#[]⟩, .int .i64 0, .int .i64 0, .bool false, .nilFunc], .bool false]) ∧ wr.grownBy w' none) := by
              refine bet_none hR hIb c6 hIh fun i hi => ?_
              have hi' : i < 6 := hi
              have : i = 0 ∨ i = 1 ∨ i = 2 ∨ i = 3 ∨ i = 4 ∨ i = 5 := by omega
              rcases this with rfl | rfl | rfl | rfl | rfl | rfl
              · exact near_no _ _ _ (by simp [infixRows])
              · exact near_no _ _ _ (by simp [infixRows])
              · exact near_no _ _ _ (by simp [infixRows])
              · exact near_no _ _ _ (by simp [infixRows])
              · exact near_no _ _ _ (by simp [infixRows])
              · exact (near_yes _ _ _ rfl).trans hkd
            have HE2 : Hid ((tj, mj) = (t, m')) := Option.some.inj hPj
            clear hPj hh hkd hB ho ht g1 g2 g3 g4 g5
            go_wp2_with fail
            refine HO.out.mono ?_
            rintro e w2 ⟨rfl, hg⟩
            go_wp2_with fail
            go_ret
            have hg1 := grown_trans hg (grown_alloc (grown_refl _ _) (.cells #[.string ⟨#[]⟩, .int .i64 0, .int .i64 0, .bool false, .nilFunc] 124 (0, 0)))
            have e2 := HE2.out
            cases e2
            exact .inl ⟨hR.bad, by rw [E1.out]; rfl, hR.grown hg1, hK.trans (Kp.new hR.lt hg1)⟩
          · rw [hh] at hkd
            rw [if_pos hh] at hPj
            obtain ⟨⟨tx, mx⟩, hPx, hPy⟩ := Option.bind_eq_some_iff.1 hPj
            have HO : Hid (Calls Tryz.prog 127 #[.pointer (some ⟨b, 0, none⟩), .int .i64 (3 : Nat)] wr fun e w' => e = .returned (.tuple #[.agg #[.string ⟨#[42]⟩, .int .i64 3, .int .i64 4, .bool true, .func (.func 118) #[] #[.pointer (some ⟨p5, 0, none⟩)]], .bool true]) ∧ wr.grownBy w' none) := by
              refine bet_some hR hIb c6 hIh 5 (by simp [infixRows]) ((near_yes _ _ _ rfl).trans hkd) fun i hi hlt => ?_
              have : i = 0 ∨ i = 1 ∨ i = 2 ∨ i = 3 ∨ i = 4 := by omega
              rcases this with rfl | rfl | rfl | rfl | rfl
              all_goals exact near_no _ _ _ (by simp [infixRows])
            have HT : Hid (eqb mj.tok.text ⟨#[42]⟩ = true) := (has_eqb hh).2
            have HPx : Hid (PM s j .use (mj.adv s) = some (tx, mx)) := hPx
            have HPy : Hid (PM s j (.prodL (.bin 42 tj tx)) mx = some (t, m')) := hPy
            have HIx : Hid (Inv s mx) := (PM_keeps s j _ _ _ hPx).1 hR.inv.adv
            clear hPj hPx hPy hh hkd hB ho ht
            go_wp2_with fail
            refine HO.out.mono ?_
            rintro e w2 ⟨rfl, hg⟩
            go_wp2_with fail
            have hg1 := grown_trans hg (grown_alloc (grown_refl _ _) (.cells #[.string ⟨#[42]⟩, .int .i64 3, .int .i64 4, .bool true, .func (.func 118) #[] #[.pointer (some ⟨p5, 0, none⟩)]] 124 (0, 0)))
            have hx1 : (w2.alloc (.cells #[.string ⟨#[42]⟩, .int .i64 3, .int .i64 4, .bool true, .func (.func 118) #[] #[.pointer (some ⟨p5, 0, none⟩)]] 124 (0, 0))).heap[w2.heap.size]? = some (.cells #[.string ⟨#[42]⟩, .int .i64 3, .int .i64 4, .bool true, .func (.func 118) #[] #[.pointer (some ⟨p5, 0, none⟩)]] 124 (0, 0)) := alloc_at _ _ _ rfl
            have hbw : b < w2.heap.size := Nat.lt_of_lt_of_le hR.lt hg.size
            generalize w2.alloc (.cells #[.string ⟨#[42]⟩, .int .i64 3, .int .i64 4, .bool true, .func (.func 118) #[] #[.pointer (some ⟨p5, 0, none⟩)]] 124 (0, 0)) = W at hg1 hx1 ⊢
            have hW := hR.grown hg1
            have kW := Kp.new hR.lt hg1
            refine (ptake_sym _ (mem_iff.1 (by decide)) hW HT.out).mono ?_
            rintro e w3 ⟨rfl, h3, k3⟩
            have hx3 := k3.nodes _ _ 124 hbw (by decide) hx1
            obtain ⟨y0, y1, y2, y3, y4⟩ := cells5 hx3
            have k3' := (hK.trans kW).trans k3
            have G5 : Hid (w3.heap[p5]? = some (.cells #[.string ⟨#[42]⟩] 9 (0, 0))) := by
              unfold Hid; rw [(kW.trans k3).below.block p5 b5]; exact g5
            clear g1 g2 g3 g4 g5 hg1 hx1 kW hW c0 c1 c2 c3 c4 c5 c6 c7 c8 hf
            go_wp2_with fail
            rcases isSome_or mx.bad with hmx | hmx
            · obtain ⟨q, hq⟩ := Option.isSome_iff_exists.1 hmx
              have HS : Hid (∀ W, PS b s (mj.adv s) W → Calls Tryz.prog 87 #[.pointer (some ⟨b, 0, none⟩), .int .i64 4] W fun e w' => e = .panicked (flts q) ∧ Below b W w') := fun W hW => by
                refine (hU j (by omega) b s _ W tx mx hW HPx.out).mono ?_
                rintro e w' (⟨hn, _⟩ | ⟨q', hq', rfl, hb⟩)
                · rw [hq] at hn; cases hn
                · rw [hq] at hq'; cases hq'; exact ⟨rfl, hb⟩
              have HB : Hid (mx.bad = some q) := hq
              clear hmx hq
              refine wp_region_any (by kernel_rfl) ?_
              change wpAny _ _ _ _ _ _ _ (World.drew _)
              refine wpAny_take (i := 0) (v := ?_) rfl (by kernel_rfl) (by kernel_rfl) (by kernel_rfl) (fun _ _ _ h => h) (Or.inl ⟨by rfl, ?_⟩) ?_
              rotate_left
              · intro w; go_simp; first | done | rfl
              refine wpAny_take (i := 2) (v := ?_) rfl (by kernel_rfl) (by kernel_rfl) (by kernel_rfl) (fun _ _ _ h => h) (Or.inl ⟨by rfl, ?_⟩) ?_
              rotate_left
              · intro w; go_simp; first | done | rfl
              refine wpAny_take (i := 3) (v := ?_) rfl (by kernel_rfl) (by kernel_rfl) (by kernel_rfl) (fun _ _ _ h => h) (Or.inl ⟨by rfl, ?_⟩) ?_
              rotate_left
              · intro w; go_simp; first | done | rfl
              refine wpAny_take (i := 4) (v := ?_) rfl (by kernel_rfl) (by kernel_rfl) (by kernel_rfl) (fun _ _ _ h => h) (Or.inl ⟨by rfl, ?_⟩) ?_
              rotate_left
              · intro w; go_simp; first | done | rfl
              refine wpAny_ready (rs := [1, 5]) (by kernel_rfl) (by simp) ?_
              refine AllReady.cons rfl (fun K hK => ?_) ?_
              · go_simp
                refine hK _ _ ?_
                clear hK K
                refine wpAny_ready (rs := [5]) (by kernel_rfl) (by simp) ?_
                refine AllReady.cons rfl (fun K hK => ?_) ?_
                · go_simp
                  refine hK _ _ ?_
                  clear hK K
                  refine wpAny_ready (rs := [6]) (by kernel_rfl) (by simp) ?_
                  refine AllReady.cons rfl (fun K hK => ?_) ?_
                  · go_simp
                    refine (HS.out _ (by first | exact h3 | exact h3.drew)).mono ?_
                    rintro e w4 ⟨rfl, hb4⟩
                    exact ⟨rfl, .inr ⟨q, sticky HIx.out HPy.out HB.out, rfl, below_of k3' ⟨hb4.os, hb4.tape, hb4.output, hb4.size, hb4.block⟩⟩⟩
                  exact AllReady.nil
                exact AllReady.nil
              refine AllReady.cons rfl (fun K hK => ?_) ?_
              · go_simp
                refine hK _ _ ?_
                clear hK K
                refine wpAny_ready (rs := [1, 6]) (by kernel_rfl) (by simp) ?_
                refine AllReady.cons rfl (fun K hK => ?_) ?_
                · go_simp
                  refine hK _ _ ?_
                  clear hK K
                  refine wpAny_ready (rs := [6]) (by kernel_rfl) (by simp) ?_
                  refine AllReady.cons rfl (fun K hK => ?_) ?_
                  · go_simp
                    refine (HS.out _ (by first | exact h3 | exact h3.drew)).mono ?_
                    rintro e w4 ⟨rfl, hb4⟩
                    exact ⟨rfl, .inr ⟨q, sticky HIx.out HPy.out HB.out, rfl, below_of k3' ⟨hb4.os, hb4.tape, hb4.output, hb4.size, hb4.block⟩⟩⟩
                  exact AllReady.nil
                refine AllReady.cons rfl (fun K hK => ?_) ?_
                · go_simp
                  refine (HS.out _ (by first | exact h3 | exact h3.drew)).mono ?_
                  rintro e w4 ⟨rfl, hb4⟩
                  exact ⟨rfl, .inr ⟨q, sticky HIx.out HPy.out HB.out, rfl, below_of k3' ⟨hb4.os, hb4.tape, hb4.output, hb4.size, hb4.block⟩⟩⟩
                exact AllReady.nil
              exact AllReady.nil
            · have HS : Hid (∀ W, PS b s (mj.adv s) W → Calls Tryz.prog 87 #[.pointer (some ⟨b, 0, none⟩), .int .i64 4] W fun e w' => e = .returned (pv tx) ∧ PS b s mx w' ∧ Kp b W w') := fun W hW => by
                refine (hU j (by omega) b s _ W tx mx hW HPx.out).mono ?_
                rintro e w' (⟨_, rfl, h5, k5⟩ | ⟨q', hq', rfl, hb⟩)
                · exact ⟨rfl, h5, k5⟩
                · rw [hmx] at hq'; cases hq'
              clear hmx
              obtain ⟨T2, x2, e2⟩ := pv_iface tx
              have E2 : Hid (pv tx = .iface T2 x2) := e2
              rw [e2] at HS
              clear e2
              go_region_with (first
                | (go_at_call 87; refine (HS.out _ ?_).mono ?_; first | exact h3 | exact h3.drew; rintro e w4 ⟨rfl, h4, k4⟩; have k4' : Kp b w3 w4 := ⟨⟨k4.below.os, k4.below.tape, k4.below.output, k4.below.size, k4.below.block⟩, k4.nodes⟩; obtain ⟨z0, z1, z2, z3, z4⟩ := cells5 (k4'.nodes _ _ 124 hbw (by decide) hx3); have hcp : w4.cell? ⟨p5, 0, none⟩ = some (.string ⟨#[42]⟩) := cells1 ((k4'.below.block p5 b5).trans G5.out))
                | (go_at_call 118; refine (preckon _ _ _ _ _ _ _ hcp).mono ?_; rintro e w5 ⟨rfl, rfl⟩))
              all_goals
                go_wp2_with fail
                go_roundg j
                case measure => omega
                case rel =>
                  refine ⟨by omega, .bin 42 tj tx, mx, ?_, h4, k3'.trans k4', HPy⟩
                  show _ = Value.iface 167 (.agg #[.string ⟨#[42]⟩, pv tj, pv tx])
                  rw [E1.out, E2.out]
    · have HB : Hid (m1.bad = some q) := hq
      clear hq
      go_wp2_with fail
      exact ⟨rfl, .inr ⟨q, sticky HI1.out HP2.out HB.out, rfl, hb⟩⟩
end Go.Proofs.YtjjlgjmebnkdjaaGreatDoor
