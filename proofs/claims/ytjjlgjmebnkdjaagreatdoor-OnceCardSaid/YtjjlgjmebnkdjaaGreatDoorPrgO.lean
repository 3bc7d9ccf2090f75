/-
  The program's parser: sides, orders.
-/
import Derived.Test.YtjjlgjmebnkdjaaGreatDoorPrgM
namespace Go.Proofs.YtjjlgjmebnkdjaaGreatDoor
open Go Go.Proofs Go.RowKit Skein

set_option maxRecDepth 100000 in
set_option maxHeartbeats 8000000 in
theorem psides1 (n : Nat) (hU : ∀ j, j < n → CS 2 .sum j) : CS 1 .order n := by
  intro b s m w t m' h hP
  cases n with
  | zero => simp [PM] at hP
  | succ n =>
    simp only [PM] at hP
    rw [if_neg (by simp [h.bad])] at hP
    obtain ⟨⟨tj, mj⟩, hP1, hPj⟩ := Option.bind_eq_some_iff.1 hP
    have HP1 : Hid (PM s n .sum m = some (tj, mj)) := hP1
    have HPJ : Hid ((if mj.has ⟨#[61]⟩ || mj.has ⟨#[60]⟩ then (PM s n .sum (mj.adv s)).bind fun q => some (T.bin (opOf mj.tok.text) tj q.1, q.2) else some (tj, mj)) = some (t, m')) := hPj
    have HI1 : Hid (Inv s mj) := (PM_keeps s n _ _ _ hP1).1 h.inv
    clear hP hP1 hPj
    go_enter Tryz.func87, Tryz.ntmps87
    go_wp2_with fail
    refine (hU n (Nat.lt_succ_self n) b s m w tj mj h HP1.out).mono ?_
    rintro e wr (⟨hn, rfl, hR, hK⟩ | ⟨q, hq, rfl, hb⟩)
    · clear hn
      have hPj := HPJ.out
      obtain ⟨gv, iv, ev, av, hB, ho, ht⟩ := hR.blk
      obtain ⟨I, p1, p2, p3, p4, p5, rfl, hIb, b1, b2, b3, b4, b5, hIh, g1, g2, g3, g4, g5⟩ := ht.infix_
      obtain ⟨c0, c1, c2, c3, c4, c5, c6, c7, c8, hf, hlt0⟩ := hB.cells
      obtain ⟨T1, x1, e1⟩ := pv_iface tj
      have E1 : Hid (pv tj = .iface T1 x1) := e1
      rw [e1]
      clear e1
      go_wp2_with fail
      refine wp_loop_rounds 1 ?_
      rw [rounds_succ]
      have hkd1 : eqb ⟨#[61]⟩ (kindOf mj.tok) = mj.has ⟨#[61]⟩ := by
        rw [eqb_comm, kind_sym hR.inv _ (mem_iff.1 (by decide))]; unfold M.has; rw [hR.bad]; rfl
      have hkd2 : eqb ⟨#[60]⟩ (kindOf mj.tok) = mj.has ⟨#[60]⟩ := by
        rw [eqb_comm, kind_sym hR.inv _ (mem_iff.1 (by decide))]; unfold M.has; rw [hR.bad]; rfl
      cases hh1 : mj.has ⟨#[61]⟩
      · cases hh2 : mj.has ⟨#[60]⟩
        · rw [hh1] at hkd1; rw [hh2] at hkd2
          rw [if_neg (by simp [hh1, hh2])] at hPj
          have HO : Hid (Calls Tryz.prog 127 #[.pointer (some ⟨b, 0, none⟩), .int .i64 (1 : Nat)] wr fun e w' => e = .returned (.tuple #[.agg #[.string ⟨#[]⟩, .int .i64 0, .int .i64 0, .bool false, .nilFunc], .bool false]) ∧ wr.grownBy w' none) := by
            refine bet_none hR hIb c6 hIh fun i hi => ?_
            have hi' : i < 6 := hi
            have : i = 0 ∨ i = 1 ∨ i = 2 ∨ i = 3 ∨ i = 4 ∨ i = 5 := by omega
            rcases this with rfl | rfl | rfl | rfl | rfl | rfl
            · exact near_no _ _ _ (by simp [infixRows])
            · exact (near_yes _ _ _ rfl).trans hkd1
            · exact (near_yes _ _ _ rfl).trans hkd2
            · exact near_no _ _ _ (by simp [infixRows])
            · exact near_no _ _ _ (by simp [infixRows])
            · exact near_no _ _ _ (by simp [infixRows])
          have HE2 : Hid ((tj, mj) = (t, m')) := Option.some.inj hPj
          clear hPj hh1 hh2 hkd1 hkd2 hB ho ht g1 g2 g3 g4 g5
          go_wp2_with fail
          refine HO.out.mono ?_
          rintro e w2 ⟨rfl, hg⟩
          go_wp2_with fail
          go_ret
          have hg1 := grown_trans hg (grown_alloc (grown_refl _ _) (.cells #[.string ⟨#[]⟩, .int .i64 0, .int .i64 0, .bool false, .nilFunc] 124 (0, 0)))
          have e2 := HE2.out
          cases e2
          exact .inl ⟨hR.bad, by rw [E1.out]; rfl, hR.grown hg1, hK.trans (Kp.new hR.lt hg1)⟩
        · rw [hh1] at hkd1; rw [hh2] at hkd2
          rw [if_pos (by simp [hh2])] at hPj
          obtain ⟨⟨tx, mx⟩, hPx, hPy⟩ := Option.bind_eq_some_iff.1 hPj
          have HO : Hid (Calls Tryz.prog 127 #[.pointer (some ⟨b, 0, none⟩), .int .i64 (1 : Nat)] wr fun e w' => e = .returned (.tuple #[.agg #[.string ⟨#[60]⟩, .int .i64 1, .int .i64 2, .bool false, .func (.func 118) #[] #[.pointer (some ⟨p2, 0, none⟩)]], .bool true]) ∧ wr.grownBy w' none) := by
            refine bet_some hR hIb c6 hIh 2 (by simp [infixRows]) ((near_yes _ _ _ rfl).trans hkd2) fun i hi hlt => ?_
            have : i = 0 ∨ i = 1 := by omega
            rcases this with rfl | rfl
            · exact near_no _ _ _ (by simp [infixRows])
            · exact (near_yes _ _ _ rfl).trans hkd1
          have HT : Hid (eqb mj.tok.text ⟨#[60]⟩ = true) := (has_eqb hh2).2
          have HPx : Hid (PM s n .sum (mj.adv s) = some (tx, mx)) := hPx
          have HPy : Hid ((T.bin 60 tj tx, mx) = (t, m')) := by
            have e := Option.some.inj hPy
            unfold Hid; rw [← e]; try rw [show opOf mj.tok.text = 60 by rw [eqb_iff.1 HT.out]; rfl]
          clear hPj hPx hPy hh1 hh2 hkd1 hkd2 hB ho ht
          go_wp2_with fail
          refine HO.out.mono ?_
          rintro e w2 ⟨rfl, hg⟩
          go_wp2_with fail
          have hg1 := grown_trans hg (grown_alloc (grown_refl _ _) (.cells #[.string ⟨#[60]⟩, .int .i64 1, .int .i64 2, .bool false, .func (.func 118) #[] #[.pointer (some ⟨p2, 0, none⟩)]] 124 (0, 0)))
          have hx1 : (w2.alloc (.cells #[.string ⟨#[60]⟩, .int .i64 1, .int .i64 2, .bool false, .func (.func 118) #[] #[.pointer (some ⟨p2, 0, none⟩)]] 124 (0, 0))).heap[w2.heap.size]? = some (.cells #[.string ⟨#[60]⟩, .int .i64 1, .int .i64 2, .bool false, .func (.func 118) #[] #[.pointer (some ⟨p2, 0, none⟩)]] 124 (0, 0)) := alloc_at _ _ _ rfl
          have hbw : b < w2.heap.size := Nat.lt_of_lt_of_le hR.lt hg.size
          generalize w2.alloc (.cells #[.string ⟨#[60]⟩, .int .i64 1, .int .i64 2, .bool false, .func (.func 118) #[] #[.pointer (some ⟨p2, 0, none⟩)]] 124 (0, 0)) = W at hg1 hx1 ⊢
          have hW := hR.grown hg1
          have kW := Kp.new hR.lt hg1
          refine (ptake_sym _ (mem_iff.1 (by decide)) hW HT.out).mono ?_
          rintro e w3 ⟨rfl, h3, k3⟩
          have hx3 := k3.nodes _ _ 124 hbw (by decide) hx1
          obtain ⟨y0, y1, y2, y3, y4⟩ := cells5 hx3
          have k3' := (hK.trans kW).trans k3
          have G5 : Hid (w3.heap[p2]? = some (.cells #[.string ⟨#[60]⟩] 9 (0, 0))) := by
            unfold Hid; rw [(kW.trans k3).below.block p2 b2]; exact g2
          clear g1 g2 g3 g4 g5 hg1 hx1 kW hW c0 c1 c2 c3 c4 c5 c6 c7 c8 hf
          go_wp2_with fail
          rcases isSome_or mx.bad with hmx | hmx
          · obtain ⟨q, hq⟩ := Option.isSome_iff_exists.1 hmx
            have HS : Hid (∀ W, PS b s (mj.adv s) W → Calls Tryz.prog 87 #[.pointer (some ⟨b, 0, none⟩), .int .i64 2] W fun e w' => e = .panicked (flts q) ∧ Below b W w') := fun W hW => by
              refine (hU n (by omega) b s _ W tx mx hW HPx.out).mono ?_
              rintro e w' (⟨hn, _⟩ | ⟨q', hq', rfl, hb⟩)
              · rw [hq] at hn; cases hn
              · rw [hq] at hq'; cases hq'; exact ⟨rfl, hb⟩
            have HB : Hid (mx.bad = some q) := hq
            clear hmx hq
            refine wp_region_any (by kernel_rfl) ?_
            change wpAny _ _ _ _ _ _ _ (World.drew _)
            refine wpAny_take (i := 0) (v := ?_) rfl (by kernel_rfl) (by kernel_rfl) (by kernel_rfl) (fun _ _ _ h => h) (Or.inl ⟨by rfl, ?_⟩) ?_
            rotate_left
            · intro w; go_simp; first | done | rfl
            refine wpAny_take (i := 2) (v := ?_) rfl (by kernel_rfl) (by kernel_rfl) (by kernel_rfl) (fun _ _ _ h => h) (Or.inl ⟨by rfl, ?_⟩) ?_
            rotate_left
            · intro w; go_simp; first | done | rfl
            refine wpAny_take (i := 3) (v := ?_) rfl (by kernel_rfl) (by kernel_rfl) (by kernel_rfl) (fun _ _ _ h => h) (Or.inl ⟨by rfl, ?_⟩) ?_
            rotate_left
            · intro w; go_simp; first | done | rfl
            refine wpAny_take (i := 4) (v := ?_) rfl (by kernel_rfl) (by kernel_rfl) (by kernel_rfl) (fun _ _ _ h => h) (Or.inl ⟨by rfl, ?_⟩) ?_
            rotate_left
            · intro w; go_simp; first | done | rfl
            refine wpAny_ready (rs := [1, 5]) (by kernel_rfl) (by simp) ?_
            refine AllReady.cons rfl (fun K hK => ?_) ?_
            · go_simp
              refine hK _ _ ?_
              clear hK K
              refine wpAny_ready (rs := [5]) (by kernel_rfl) (by simp) ?_
              refine AllReady.cons rfl (fun K hK => ?_) ?_
              · go_simp
                refine hK _ _ ?_
                clear hK K
                refine wpAny_ready (rs := [6]) (by kernel_rfl) (by simp) ?_
                refine AllReady.cons rfl (fun K hK => ?_) ?_
                · go_simp
                  refine (HS.out _ (by first | exact h3 | exact h3.drew)).mono ?_
                  rintro e w4 ⟨rfl, hb4⟩
                  exact ⟨rfl, .inr ⟨q, by have e := HPy.out; cases e; exact HB.out, rfl, below_of k3' ⟨hb4.os, hb4.tape, hb4.output, hb4.size, hb4.block⟩⟩⟩
                exact AllReady.nil
              exact AllReady.nil
            refine AllReady.cons rfl (fun K hK => ?_) ?_
            · go_simp
              refine hK _ _ ?_
              clear hK K
              refine wpAny_ready (rs := [1, 6]) (by kernel_rfl) (by simp) ?_
              refine AllReady.cons rfl (fun K hK => ?_) ?_
              · go_simp
                refine hK _ _ ?_
                clear hK K
                refine wpAny_ready (rs := [6]) (by kernel_rfl) (by simp) ?_
                refine AllReady.cons rfl (fun K hK => ?_) ?_
                · go_simp
                  refine (HS.out _ (by first | exact h3 | exact h3.drew)).mono ?_
                  rintro e w4 ⟨rfl, hb4⟩
                  exact ⟨rfl, .inr ⟨q, by have e := HPy.out; cases e; exact HB.out, rfl, below_of k3' ⟨hb4.os, hb4.tape, hb4.output, hb4.size, hb4.block⟩⟩⟩
                exact AllReady.nil
              refine AllReady.cons rfl (fun K hK => ?_) ?_
              · go_simp
                refine (HS.out _ (by first | exact h3 | exact h3.drew)).mono ?_
                rintro e w4 ⟨rfl, hb4⟩
                exact ⟨rfl, .inr ⟨q, by have e := HPy.out; cases e; exact HB.out, rfl, below_of k3' ⟨hb4.os, hb4.tape, hb4.output, hb4.size, hb4.block⟩⟩⟩
              exact AllReady.nil
            exact AllReady.nil
          · have HMX : Hid (mx.bad = none) := hmx
            have HS : Hid (∀ W, PS b s (mj.adv s) W → Calls Tryz.prog 87 #[.pointer (some ⟨b, 0, none⟩), .int .i64 2] W fun e w' => e = .returned (pv tx) ∧ PS b s mx w' ∧ Kp b W w') := fun W hW => by
              refine (hU n (by omega) b s _ W tx mx hW HPx.out).mono ?_
              rintro e w' (⟨_, rfl, h5, k5⟩ | ⟨q', hq', rfl, hb⟩)
              · exact ⟨rfl, h5, k5⟩
              · rw [hmx] at hq'; cases hq'
            clear hmx
            obtain ⟨T2, x2, e2⟩ := pv_iface tx
            have E2 : Hid (pv tx = .iface T2 x2) := e2
            rw [e2] at HS
            clear e2
            go_region_with (first
              | (go_at_call 87; refine (HS.out _ ?_).mono ?_; first | exact h3 | exact h3.drew; rintro e w4 ⟨rfl, h4, k4⟩; have k4' : Kp b w3 w4 := ⟨⟨k4.below.os, k4.below.tape, k4.below.output, k4.below.size, k4.below.block⟩, k4.nodes⟩; obtain ⟨z0, z1, z2, z3, z4⟩ := cells5 (k4'.nodes _ _ 124 hbw (by decide) hx3); have hcp : w4.cell? ⟨p2, 0, none⟩ = some (.string ⟨#[60]⟩) := cells1 ((k4'.below.block p2 b2).trans G5.out))
              | (go_at_call 118; refine (preckon _ _ _ _ _ _ _ hcp).mono ?_; rintro e w5 ⟨rfl, rfl⟩))
            all_goals
              go_wp2_with fail
              go_ret
              have e3 := HPy.out
              cases e3
              refine .inl ⟨HMX.out, ?_, h4, k3'.trans k4'⟩
              show _ = Ending.returned (Value.iface 167 (.agg #[.string ⟨#[60]⟩, pv tj, pv tx]))
              rw [E1.out, E2.out]; rfl
      · rw [hh1] at hkd1
        rw [if_pos (by simp [hh1])] at hPj
        obtain ⟨⟨tx, mx⟩, hPx, hPy⟩ := Option.bind_eq_some_iff.1 hPj
        have HO : Hid (Calls Tryz.prog 127 #[.pointer (some ⟨b, 0, none⟩), .int .i64 (1 : Nat)] wr fun e w' => e = .returned (.tuple #[.agg #[.string ⟨#[61]⟩, .int .i64 1, .int .i64 2, .bool false, .func (.func 118) #[] #[.pointer (some ⟨p1, 0, none⟩)]], .bool true]) ∧ wr.grownBy w' none) := by
          refine bet_some hR hIb c6 hIh 1 (by simp [infixRows]) ((near_yes _ _ _ rfl).trans hkd1) fun i hi hlt => ?_
          have : i = 0 := by omega
          subst this
          · exact near_no _ _ _ (by simp [infixRows])
        have HT : Hid (eqb mj.tok.text ⟨#[61]⟩ = true) := (has_eqb hh1).2
        have HPx : Hid (PM s n .sum (mj.adv s) = some (tx, mx)) := hPx
        have HPy : Hid ((T.bin 61 tj tx, mx) = (t, m')) := by
          have e := Option.some.inj hPy
          unfold Hid; rw [← e]; try rw [show opOf mj.tok.text = 61 by rw [eqb_iff.1 HT.out]; rfl]
        clear hPj hPx hPy hh1 hkd1 hkd2 hB ho ht
        go_wp2_with fail
        refine HO.out.mono ?_
        rintro e w2 ⟨rfl, hg⟩
        go_wp2_with fail
        have hg1 := grown_trans hg (grown_alloc (grown_refl _ _) (.cells #[.string ⟨#[61]⟩, .int .i64 1, .int .i64 2, .bool false, .func (.func 118) #[] #[.pointer (some ⟨p1, 0, none⟩)]] 124 (0, 0)))
        have hx1 : (w2.alloc (.cells #[.string ⟨#[61]⟩, .int .i64 1, .int .i64 2, .bool false, .func (.func 118) #[] #[.pointer (some ⟨p1, 0, none⟩)]] 124 (0, 0))).heap[w2.heap.size]? = some (.cells #[.string ⟨#[61]⟩, .int .i64 1, .int .i64 2, .bool false, .func (.func 118) #[] #[.pointer (some ⟨p1, 0, none⟩)]] 124 (0, 0)) := alloc_at _ _ _ rfl
        have hbw : b < w2.heap.size := Nat.lt_of_lt_of_le hR.lt hg.size
        generalize w2.alloc (.cells #[.string ⟨#[61]⟩, .int .i64 1, .int .i64 2, .bool false, .func (.func 118) #[] #[.pointer (some ⟨p1, 0, none⟩)]] 124 (0, 0)) = W at hg1 hx1 ⊢
        have hW := hR.grown hg1
        have kW := Kp.new hR.lt hg1
        refine (ptake_sym _ (mem_iff.1 (by decide)) hW HT.out).mono ?_
        rintro e w3 ⟨rfl, h3, k3⟩
        have hx3 := k3.nodes _ _ 124 hbw (by decide) hx1
        obtain ⟨y0, y1, y2, y3, y4⟩ := cells5 hx3
        have k3' := (hK.trans kW).trans k3
        have G5 : Hid (w3.heap[p1]? = some (.cells #[.string ⟨#[61]⟩] 9 (0, 0))) := by
          unfold Hid; rw [(kW.trans k3).below.block p1 b1]; exact g1
        clear g1 g2 g3 g4 g5 hg1 hx1 kW hW c0 c1 c2 c3 c4 c5 c6 c7 c8 hf
        go_wp2_with fail
        rcases isSome_or mx.bad with hmx | hmx
        · obtain ⟨q, hq⟩ := Option.isSome_iff_exists.1 hmx
          have HS : Hid (∀ W, PS b s (mj.adv s) W → Calls Tryz.prog 87 #[.pointer (some ⟨b, 0, none⟩), .int .i64 2] W fun e w' => e = .panicked (flts q) ∧ Below b W w') := fun W hW => by
            refine (hU n (by omega) b s _ W tx mx hW HPx.out).mono ?_
            rintro e w' (⟨hn, _⟩ | ⟨q', hq', rfl, hb⟩)
            · rw [hq] at hn; cases hn
            · rw [hq] at hq'; cases hq'; exact ⟨rfl, hb⟩
          have HB : Hid (mx.bad = some q) := hq
          clear hmx hq
          refine wp_region_any (by kernel_rfl) ?_
          change wpAny _ _ _ _ _ _ _ (World.drew _)
          refine wpAny_take (i := 0) (v := ?_) rfl (by kernel_rfl) (by kernel_rfl) (by kernel_rfl) (fun _ _ _ h => h) (Or.inl ⟨by rfl, ?_⟩) ?_
          rotate_left
          · intro w; go_simp; first | done | rfl
          refine wpAny_take (i := 2) (v := ?_) rfl (by kernel_rfl) (by kernel_rfl) (by kernel_rfl) (fun _ _ _ h => h) (Or.inl ⟨by rfl, ?_⟩) ?_
          rotate_left
          · intro w; go_simp; first | done | rfl
          refine wpAny_take (i := 3) (v := ?_) rfl (by kernel_rfl) (by kernel_rfl) (by kernel_rfl) (fun _ _ _ h => h) (Or.inl ⟨by rfl, ?_⟩) ?_
          rotate_left
          · intro w; go_simp; first | done | rfl
          refine wpAny_take (i := 4) (v := ?_) rfl (by kernel_rfl) (by kernel_rfl) (by kernel_rfl) (fun _ _ _ h => h) (Or.inl ⟨by rfl, ?_⟩) ?_
          rotate_left
          · intro w; go_simp; first | done | rfl
          refine wpAny_ready (rs := [1, 5]) (by kernel_rfl) (by simp) ?_
          refine AllReady.cons rfl (fun K hK => ?_) ?_
          · go_simp
            refine hK _ _ ?_
            clear hK K
            refine wpAny_ready (rs := [5]) (by kernel_rfl) (by simp) ?_
            refine AllReady.cons rfl (fun K hK => ?_) ?_
            · go_simp
              refine hK _ _ ?_
              clear hK K
              refine wpAny_ready (rs := [6]) (by kernel_rfl) (by simp) ?_
              refine AllReady.cons rfl (fun K hK => ?_) ?_
              · go_simp
                refine (HS.out _ (by first | exact h3 | exact h3.drew)).mono ?_
                rintro e w4 ⟨rfl, hb4⟩
                exact ⟨rfl, .inr ⟨q, by have e := HPy.out; cases e; exact HB.out, rfl, below_of k3' ⟨hb4.os, hb4.tape, hb4.output, hb4.size, hb4.block⟩⟩⟩
              exact AllReady.nil
            exact AllReady.nil
          refine AllReady.cons rfl (fun K hK => ?_) ?_
          · go_simp
            refine hK _ _ ?_
            clear hK K
            refine wpAny_ready (rs := [1, 6]) (by kernel_rfl) (by simp) ?_
            refine AllReady.cons rfl (fun K hK => ?_) ?_
            · go_simp
              refine hK _ _ ?_
              clear hK K
              refine wpAny_ready (rs := [6]) (by kernel_rfl) (by simp) ?_
              refine AllReady.cons rfl (fun K hK => ?_) ?_
              · go_simp
                refine (HS.out _ (by first | exact h3 | exact h3.drew)).mono ?_
                rintro e w4 ⟨rfl, hb4⟩
                exact ⟨rfl, .inr ⟨q, by have e := HPy.out; cases e; exact HB.out, rfl, below_of k3' ⟨hb4.os, hb4.tape, hb4.output, hb4.size, hb4.block⟩⟩⟩
              exact AllReady.nil
            refine AllReady.cons rfl (fun K hK => ?_) ?_
            · go_simp
              refine (HS.out _ (by first | exact h3 | exact h3.drew)).mono ?_
              rintro e w4 ⟨rfl, hb4⟩
              exact ⟨rfl, .inr ⟨q, by have e := HPy.out; cases e; exact HB.out, rfl, below_of k3' ⟨hb4.os, hb4.tape, hb4.output, hb4.size, hb4.block⟩⟩⟩
            exact AllReady.nil
          exact AllReady.nil
        · have HMX : Hid (mx.bad = none) := hmx
          have HS : Hid (∀ W, PS b s (mj.adv s) W → Calls Tryz.prog 87 #[.pointer (some ⟨b, 0, none⟩), .int .i64 2] W fun e w' => e = .returned (pv tx) ∧ PS b s mx w' ∧ Kp b W w') := fun W hW => by
            refine (hU n (by omega) b s _ W tx mx hW HPx.out).mono ?_
            rintro e w' (⟨_, rfl, h5, k5⟩ | ⟨q', hq', rfl, hb⟩)
            · exact ⟨rfl, h5, k5⟩
            · rw [hmx] at hq'; cases hq'
          clear hmx
          obtain ⟨T2, x2, e2⟩ := pv_iface tx
          have E2 : Hid (pv tx = .iface T2 x2) := e2
          rw [e2] at HS
          clear e2
          go_region_with (first
            | (go_at_call 87; refine (HS.out _ ?_).mono ?_; first | exact h3 | exact h3.drew; rintro e w4 ⟨rfl, h4, k4⟩; have k4' : Kp b w3 w4 := ⟨⟨k4.below.os, k4.below.tape, k4.below.output, k4.below.size, k4.below.block⟩, k4.nodes⟩; obtain ⟨z0, z1, z2, z3, z4⟩ := cells5 (k4'.nodes _ _ 124 hbw (by decide) hx3); have hcp : w4.cell? ⟨p1, 0, none⟩ = some (.string ⟨#[61]⟩) := cells1 ((k4'.below.block p1 b1).trans G5.out))
            | (go_at_call 118; refine (preckon _ _ _ _ _ _ _ hcp).mono ?_; rintro e w5 ⟨rfl, rfl⟩))
          all_goals
            go_wp2_with fail
            go_ret
            have e3 := HPy.out
            cases e3
            refine .inl ⟨HMX.out, ?_, h4, k3'.trans k4'⟩
            show _ = Ending.returned (Value.iface 167 (.agg #[.string ⟨#[61]⟩, pv tj, pv tx]))
            rw [E1.out, E2.out]; rfl
    · have HB : Hid (mj.bad = some q) := hq
      have hno : (mj.has ⟨#[61]⟩ || mj.has ⟨#[60]⟩) = false := by unfold M.has; rw [hq]; rfl
      have hPj := HPJ.out
      rw [if_neg (by simp [hno])] at hPj
      have HE2 : Hid ((tj, mj) = (t, m')) := Option.some.inj hPj
      clear hq hno hPj
      go_wp2_with fail
      have e2 := HE2.out
      cases e2
      exact ⟨rfl, .inr ⟨q, HB.out, rfl, hb⟩⟩
end Go.Proofs.YtjjlgjmebnkdjaaGreatDoor
