/-
  The document's reader: order, list.
-/
import Derived.Test.YtjjlgjmebnkdjaaGreatDoorRefF
namespace Go.Proofs.YtjjlgjmebnkdjaaGreatDoor
open Go Go.Proofs Go.RowKit Skein

set_option maxRecDepth 100000 in
set_option maxHeartbeats 4000000 in
theorem order_c (n : Nat) (hU : ∀ j, j < n → CX 112 .sum j) : CX 68 .order n := by
  intro b s m w t m' h hP
  cases hb : m.isBad
  case true => exact CB.cx order_bad rfl h hb hP
  cases n with
  | zero => simp [PM] at hP
  | succ n =>
    simp only [PM] at hP
    rw [if_neg (by simp [isBad_of_bad hb])] at hP
    obtain ⟨⟨tj, mj⟩, hP1, hP⟩ := Option.bind_eq_some_iff.1 hP
    have HP1 : Hid (PM s n .sum m = some (tj, mj)) := hP1
    have HP : Hid ((if mj.has ⟨#[61]⟩ || mj.has ⟨#[60]⟩ then (PM s n .sum (mj.adv s)).bind fun q => some (T.bin (opOf mj.tok.text) tj q.1, q.2) else some (tj, mj)) = some (t, m')) := hP
    clear hP hP1 hb
    go_enter Tryz.func68, Tryz.ntmps68
    go_wp2_with fail
    refine (hU n (Nat.lt_succ_self n) b s m w tj mj h HP1.out).mono ?_
    rintro e w1 ⟨v, rfl, hN, hR, hK⟩
    obtain ⟨pa, rfl⟩ := NodeAt.ptr _ _ hN
    obtain ⟨gv, pl, hB, ho, hp⟩ := hR.blk
    obtain ⟨c0, c1, c2, c3, c4, c5, c6, c7, c8, c9, hf, hlt0⟩ := hB.cells
    have hP := HP.out
    cases hb : mj.isBad
    · rw [hb] at c7
      rw [has_of hb, has_of hb] at hP
      cases hq : eqb mj.tok.text ⟨#[61]⟩
      · have hq2 : (mj.tok.text.toList == (⟨#[61]⟩ : ByteArray).toList) = false := by rw [eqb_walk, hq]
        have hq3 : (mj.tok.text.toList == [61]) = false := by rw [cmp_const]; exact hq
        cases hr : eqb mj.tok.text ⟨#[60]⟩
        · have hr2 : (mj.tok.text.toList == (⟨#[60]⟩ : ByteArray).toList) = false := by rw [eqb_walk, hr]
          have hr3 : (mj.tok.text.toList == [60]) = false := by rw [cmp_const]; exact hr
          rw [if_neg (by simp [hq, hr])] at hP
          clear hq hr hb
          cases hP
          go_wp2_with fail
          go_ret
          exact ⟨_, rfl, hN, hR, hK⟩
        · have htx := op_of hr
          rw [if_pos (by simp [hr])] at hP
          have HB : Hid (mj.isBad = false) := hb
          obtain ⟨⟨tx, mx⟩, hPx, hPy⟩ := Option.bind_eq_some_iff.1 hP
          have HPx : Hid (PM s n .sum (mj.adv s) = some (tx, mx)) := hPx
          have HPy : Hid ((T.bin 60 tj tx, mx) = (t, m')) := by rw [htx] at hPy; exact Option.some.inj hPy
          rw [htx] at c2
          clear hq hr hb hP hPx hPy htx hq2 hq3 c1 hB
          go_wp2_with fail
          refine (next_rs hR HB.out).mono ?_
          rintro e w2 ⟨rfl, h2, k2⟩
          go_wp2_with fail
          refine (hU n (by omega) b s _ w2 tx mx h2 HPx.out).mono ?_
          rintro e w3 ⟨vx, rfl, hvx, h3, k3⟩
          obtain ⟨px, rfl⟩ := NodeAt.ptr _ _ hvx
          go_wp2_with fail
          go_ret
          have ka := (Kp.refl b w3).alloc (Nat.le_of_lt h3.lt) (.cells #[.int .u8 60, .int .i64 0, .pointer (some pa), .pointer (some px), .pointer none] 86 (0, 0))
          have hy := HPy.out
          cases hy
          exact ⟨_, rfl, ⟨_, _, IsN.made _ _ _ _ _ h3.lt, NodeAt.kept ka _ _ (NodeAt.kept (k2.trans k3) _ _ hN), NodeAt.kept ka _ _ hvx⟩, h3.alloc _, (hK.trans (k2.trans k3)).trans ka⟩
      · have htx := op_of hq
        rw [if_pos (by simp [hq])] at hP
        have HB : Hid (mj.isBad = false) := hb
        obtain ⟨⟨tx, mx⟩, hPx, hPy⟩ := Option.bind_eq_some_iff.1 hP
        have HPx : Hid (PM s n .sum (mj.adv s) = some (tx, mx)) := hPx
        have HPy : Hid ((T.bin 61 tj tx, mx) = (t, m')) := by rw [htx] at hPy; exact Option.some.inj hPy
        rw [htx] at c2
        clear hq hb hP hPx hPy htx c1 hB
        go_wp2_with fail
        refine (next_rs hR HB.out).mono ?_
        rintro e w2 ⟨rfl, h2, k2⟩
        go_wp2_with fail
        refine (hU n (by omega) b s _ w2 tx mx h2 HPx.out).mono ?_
        rintro e w3 ⟨vx, rfl, hvx, h3, k3⟩
        obtain ⟨px, rfl⟩ := NodeAt.ptr _ _ hvx
        go_wp2_with fail
        go_ret
        have ka := (Kp.refl b w3).alloc (Nat.le_of_lt h3.lt) (.cells #[.int .u8 61, .int .i64 0, .pointer (some pa), .pointer (some px), .pointer none] 86 (0, 0))
        have hy := HPy.out
        cases hy
        exact ⟨_, rfl, ⟨_, _, IsN.made _ _ _ _ _ h3.lt, NodeAt.kept ka _ _ (NodeAt.kept (k2.trans k3) _ _ hN), NodeAt.kept ka _ _ hvx⟩, h3.alloc _, (hK.trans (k2.trans k3)).trans ka⟩
    · rw [hb] at c7
      rw [hR.has_bad hb _ (by simp), hR.has_bad hb _ (by simp)] at hP
      clear hb
      cases hP
      go_wp2_with fail
      go_ret
      exact ⟨_, rfl, hN, hR, hK⟩

set_option maxRecDepth 100000 in
set_option maxHeartbeats 4000000 in
theorem list_c (n : Nat) (hU : ∀ j, j < n → CX 68 .order j) (hL : ∀ j, j < n → CX 51 .list j) : CX 51 .list n := by
  intro b s m w t m' h hP
  cases hb : m.isBad
  case true => exact CB.cx list_bad rfl h hb hP
  cases n with
  | zero => simp [PM] at hP
  | succ n =>
    simp only [PM] at hP
    rw [if_neg (by simp [isBad_of_bad hb])] at hP
    obtain ⟨⟨tj, mj⟩, hP1, hP⟩ := Option.bind_eq_some_iff.1 hP
    have HP1 : Hid (PM s n .order m = some (tj, mj)) := hP1
    have HP : Hid ((if mj.has ⟨#[58]⟩ then (PM s n .list (mj.adv s)).bind fun q => some (T.bin 58 tj q.1, q.2) else some (tj, mj)) = some (t, m')) := hP
    clear hP hP1 hb
    go_enter Tryz.func51, Tryz.ntmps51
    go_wp2_with fail
    refine (hU n (Nat.lt_succ_self n) b s m w tj mj h HP1.out).mono ?_
    rintro e w1 ⟨v, rfl, hN, hR, hK⟩
    obtain ⟨pa, rfl⟩ := NodeAt.ptr _ _ hN
    have hP := HP.out
    cases hq : mj.has ⟨#[58]⟩
    · rw [if_neg (by simp [hq])] at hP
      have HQ : Hid (mj.has ⟨#[58]⟩ = false) := hq
      clear hq
      go_wp2_with fail
      refine (takes_no _ HQ.out hR).mono ?_
      rintro e w2 ⟨rfl, rfl⟩
      go_wp2_with fail
      go_ret
      cases hP
      exact ⟨_, rfl, hN, hR, hK⟩
    · rw [if_pos hq] at hP
      have HQ : Hid (mj.has ⟨#[58]⟩ = true) := hq
      obtain ⟨⟨tx, mx⟩, hPx, hPy⟩ := Option.bind_eq_some_iff.1 hP
      have HPx : Hid (PM s n .list (mj.adv s) = some (tx, mx)) := hPx
      have HPy : Hid ((T.bin 58 tj tx, mx) = (t, m')) := Option.some.inj hPy
      clear hq hP hPx hPy
      go_wp2_with fail
      refine (takes_yes _ (by simp) HQ.out hR).mono ?_
      rintro e w2 ⟨rfl, h2, k2⟩
      go_wp2_with fail
      refine (hL n (by omega) b s _ w2 tx mx h2 HPx.out).mono ?_
      rintro e w3 ⟨vx, rfl, hvx, h3, k3⟩
      obtain ⟨px, rfl⟩ := NodeAt.ptr _ _ hvx
      go_wp2_with fail
      go_ret
      have ka := (Kp.refl b w3).alloc (Nat.le_of_lt h3.lt) (.cells #[.int .u8 58, .int .i64 0, .pointer (some pa), .pointer (some px), .pointer none] 86 (0, 0))
      have hy := HPy.out
      cases hy
      exact ⟨_, rfl, ⟨_, _, IsN.made _ _ _ _ _ h3.lt, NodeAt.kept ka _ _ (NodeAt.kept (k2.trans k3) _ _ hN), NodeAt.kept ka _ _ hvx⟩, h3.alloc _, (hK.trans (k2.trans k3)).trans ka⟩
end Go.Proofs.YtjjlgjmebnkdjaaGreatDoor
