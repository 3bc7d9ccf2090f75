/-
  The document's reader: use, product, sum, order, list.
-/
import Derived.Test.YtjjlgjmebnkdjaaGreatDoorRefE
namespace Go.Proofs.YtjjlgjmebnkdjaaGreatDoor
open Go Go.Proofs Go.RowKit Skein

theorem cmp_const (x : ByteArray) (l : List UInt8) : (x.toList == l) = eqb x ⟨l.toArray⟩ := by
  rw [ByteArray.toList_eq]; rfl
theorem has_of {m : M} (hb : m.isBad = false) (x : ByteArray) : m.has x = eqb m.tok.text x := by
  unfold M.has; rw [isBad_of_bad hb]; rfl

set_option maxRecDepth 100000 in
set_option maxHeartbeats 2000000 in
theorem use_c (n : Nat) (hA : ∀ j, j < n → CX 167 .atom j) : CX 159 .use n := by
  intro b s m w t m' h hP
  cases hb : m.isBad
  case true => exact CB.cx use_bad rfl h hb hP
  cases n with
  | zero => simp [PM] at hP
  | succ n =>
    simp only [PM] at hP
    rw [if_neg (by simp [isBad_of_bad hb])] at hP
    obtain ⟨⟨t1, m1⟩, hP1, hP2⟩ := Option.bind_eq_some_iff.1 hP
    have HP1 : Hid (PM s n .atom m = some (t1, m1)) := hP1
    have HP2 : Hid (PM s n (.useL t1) m1 = some (t, m')) := hP2
    clear hP hP1 hP2 hb
    go_enter Tryz.func159, Tryz.ntmps159
    go_wp2_with fail
    refine (hA n (Nat.lt_succ_self n) b s m w t1 m1 h HP1.out).mono ?_
    rintro e w1 ⟨v, rfl, hv, h1, k1⟩
    go_wp2_with fail
    go_loopg [3] n (fun j a wr => j ≤ n ∧ ∃ tj mj, NodeAt b wr tj a ∧ RS b s mj wr ∧ Kp b w wr ∧ Hid (PM s j (.useL tj) mj = some (t, m')))
    case atStart => exact ⟨Nat.le_refl _, t1, m1, hv, h1, k1, HP2⟩
    case round =>
      obtain ⟨hjn, tj, mj, hN, hR, hK, HP⟩ := hrel
      obtain ⟨pa, rfl⟩ := NodeAt.ptr _ _ hN
      have hP := HP.out
      cases gk with
      | zero => simp [PM] at hP
      | succ j =>
        simp only [PM] at hP
        cases hbg : mj.begins
        · rw [if_neg (by simp [hbg])] at hP
          have HB : Hid (mj.begins = false) := hbg
          clear hbg
          cases hP
          go_wp2_with fail
          refine (begins_rs hR).mono ?_
          rw [HB.out]
          rintro e w2 ⟨rfl, h2, k2⟩
          go_wp2_with fail
          go_ret
          exact ⟨_, rfl, NodeAt.kept k2 _ _ hN, h2, hK.trans k2⟩
        · rw [if_pos hbg] at hP
          obtain ⟨⟨tx, mx⟩, hPx, hPy⟩ := Option.bind_eq_some_iff.1 hP
          have HPx : Hid (PM s j .atom mj = some (tx, mx)) := hPx
          have HPy : Hid (PM s j (.useL (.app tj tx)) mx = some (t, m')) := hPy
          have HB : Hid (mj.begins = true) := hbg
          clear hbg hP hPx hPy
          go_wp2_with fail
          refine (begins_rs hR).mono ?_
          rw [HB.out]
          rintro e w2 ⟨rfl, h2, k2⟩
          go_wp2_with fail
          refine (hA j (by omega) b s mj w2 tx mx h2 HPx.out).mono ?_
          rintro e w3 ⟨vx, rfl, hvx, h3, k3⟩
          obtain ⟨px, rfl⟩ := NodeAt.ptr _ _ hvx
          go_wp2_with fail
          go_roundg j
          case measure => omega
          case rel =>
            have ka := (Kp.refl b w3).alloc (Nat.le_of_lt h3.lt) (.cells #[.int .u8 97, .int .i64 0, .pointer (some pa), .pointer (some px), .pointer none] 86 (0, 0))
            exact ⟨by omega, .app tj tx, mx, ⟨_, _, IsN.made _ _ _ _ _ h3.lt, NodeAt.kept ka _ _ (NodeAt.kept (k2.trans k3) _ _ hN), NodeAt.kept ka _ _ hvx⟩, h3.alloc _, (hK.trans (k2.trans k3)).trans ka, HPy⟩

set_option maxRecDepth 100000 in
set_option maxHeartbeats 2000000 in
theorem prod_c (n : Nat) (hU : ∀ j, j < n → CX 159 .use j) : CX 146 .prod n := by
  intro b s m w t m' h hP
  cases hb : m.isBad
  case true => exact CB.cx prod_bad rfl h hb hP
  cases n with
  | zero => simp [PM] at hP
  | succ n =>
    simp only [PM] at hP
    rw [if_neg (by simp [isBad_of_bad hb])] at hP
    obtain ⟨⟨t1, m1⟩, hP1, hP2⟩ := Option.bind_eq_some_iff.1 hP
    have HP1 : Hid (PM s n .use m = some (t1, m1)) := hP1
    have HP2 : Hid (PM s n (.prodL t1) m1 = some (t, m')) := hP2
    clear hP hP1 hP2 hb
    go_enter Tryz.func146, Tryz.ntmps146
    go_wp2_with fail
    refine (hU n (Nat.lt_succ_self n) b s m w t1 m1 h HP1.out).mono ?_
    rintro e w1 ⟨v, rfl, hv, h1, k1⟩
    go_wp2_with fail
    go_loopg [3] n (fun j a wr => j ≤ n ∧ ∃ tj mj, NodeAt b wr tj a ∧ RS b s mj wr ∧ Kp b w wr ∧ Hid (PM s j (.prodL tj) mj = some (t, m')))
    case atStart => exact ⟨Nat.le_refl _, t1, m1, hv, h1, k1, HP2⟩
    case round =>
      obtain ⟨hjn, tj, mj, hN, hR, hK, HP⟩ := hrel
      obtain ⟨pa, rfl⟩ := NodeAt.ptr _ _ hN
      obtain ⟨gv, pl, hB, ho, hp⟩ := hR.blk
      obtain ⟨c0, c1, c2, c3, c4, c5, c6, c7, c8, c9, hf, hlt0⟩ := hB.cells
      have hP := HP.out
      cases gk with
      | zero => simp [PM] at hP
      | succ j =>
        simp only [PM] at hP
        cases hb : mj.isBad
        · rw [hb] at c7
          rw [has_of hb] at hP
          cases hq : eqb mj.tok.text ⟨#[42]⟩
          · have hq2 : (mj.tok.text.toList == (⟨#[42]⟩ : ByteArray).toList) = false := by rw [eqb_walk, hq]
            have hq3 : (mj.tok.text.toList == [42]) = false := by rw [cmp_const]; exact hq
            rw [if_neg (by simp [hq])] at hP
            clear hq hb
            cases hP
            go_wp2_with fail
            go_ret
            exact ⟨_, rfl, hN, hR, hK⟩
          · have hq2 : (mj.tok.text.toList == (⟨#[42]⟩ : ByteArray).toList) = true := by rw [eqb_walk, hq]
            have hq3 : (mj.tok.text.toList == [42]) = true := by rw [cmp_const]; exact hq
            rw [if_pos hq] at hP
            have HB : Hid (mj.isBad = false) := hb
            obtain ⟨⟨tx, mx⟩, hPx, hPy⟩ := Option.bind_eq_some_iff.1 hP
            have HPx : Hid (PM s j .use (mj.adv s) = some (tx, mx)) := hPx
            have HPy : Hid (PM s j (.prodL (.bin 42 tj tx)) mx = some (t, m')) := hPy
            clear hq hb hP hPx hPy
            go_wp2_with fail
            refine (next_rs hR HB.out).mono ?_
            rintro e w2 ⟨rfl, h2, k2⟩
            go_wp2_with fail
            refine (hU j (by omega) b s _ w2 tx mx h2 HPx.out).mono ?_
            rintro e w3 ⟨vx, rfl, hvx, h3, k3⟩
            obtain ⟨px, rfl⟩ := NodeAt.ptr _ _ hvx
            go_wp2_with fail
            go_roundg j
            case measure => omega
            case rel =>
              have ka := (Kp.refl b w3).alloc (Nat.le_of_lt h3.lt) (.cells #[.int .u8 42, .int .i64 0, .pointer (some pa), .pointer (some px), .pointer none] 86 (0, 0))
              exact ⟨by omega, .bin 42 tj tx, mx, ⟨_, _, IsN.made _ _ _ _ _ h3.lt, NodeAt.kept ka _ _ (NodeAt.kept (k2.trans k3) _ _ hN), NodeAt.kept ka _ _ hvx⟩, h3.alloc _, (hK.trans (k2.trans k3)).trans ka, HPy⟩
        · rw [hb] at c7
          rw [hR.has_bad hb _ (by simp)] at hP
          clear hb
          cases hP
          go_wp2_with fail
          go_ret
          exact ⟨_, rfl, hN, hR, hK⟩

theorem op_of {t : ByteArray} {c : UInt8} (h : eqb t ⟨#[c]⟩ = true) : t = ⟨#[c]⟩ := eqb_iff.1 h

set_option maxRecDepth 100000 in
set_option maxHeartbeats 4000000 in
theorem sum_c (n : Nat) (hU : ∀ j, j < n → CX 146 .prod j) : CX 112 .sum n := by
  intro b s m w t m' h hP
  cases hb : m.isBad
  case true => exact CB.cx sum_bad rfl h hb hP
  cases n with
  | zero => simp [PM] at hP
  | succ n =>
    simp only [PM] at hP
    rw [if_neg (by simp [isBad_of_bad hb])] at hP
    obtain ⟨⟨t1, m1⟩, hP1, hP2⟩ := Option.bind_eq_some_iff.1 hP
    have HP1 : Hid (PM s n .prod m = some (t1, m1)) := hP1
    have HP2 : Hid (PM s n (.sumL t1) m1 = some (t, m')) := hP2
    clear hP hP1 hP2 hb
    go_enter Tryz.func112, Tryz.ntmps112
    go_wp2_with fail
    refine (hU n (Nat.lt_succ_self n) b s m w t1 m1 h HP1.out).mono ?_
    rintro e w1 ⟨v, rfl, hv, h1, k1⟩
    go_wp2_with fail
    go_loopg [3] n (fun j a wr => j ≤ n ∧ ∃ tj mj, NodeAt b wr tj a ∧ RS b s mj wr ∧ Kp b w wr ∧ Hid (PM s j (.sumL tj) mj = some (t, m')))
    case atStart => exact ⟨Nat.le_refl _, t1, m1, hv, h1, k1, HP2⟩
    case round =>
      obtain ⟨hjn, tj, mj, hN, hR, hK, HP⟩ := hrel
      obtain ⟨pa, rfl⟩ := NodeAt.ptr _ _ hN
      obtain ⟨gv, pl, hB, ho, hp⟩ := hR.blk
      obtain ⟨c0, c1, c2, c3, c4, c5, c6, c7, c8, c9, hf, hlt0⟩ := hB.cells
      have hP := HP.out
      cases gk with
      | zero => simp [PM] at hP
      | succ j =>
        simp only [PM] at hP
        cases hb : mj.isBad
        · rw [hb] at c7
          rw [has_of hb, has_of hb] at hP
          cases hq : eqb mj.tok.text ⟨#[43]⟩
          · have hq2 : (mj.tok.text.toList == (⟨#[43]⟩ : ByteArray).toList) = false := by rw [eqb_walk, hq]
            have hq3 : (mj.tok.text.toList == [43]) = false := by rw [cmp_const]; exact hq
            cases hr : eqb mj.tok.text ⟨#[45]⟩
            · have hr2 : (mj.tok.text.toList == (⟨#[45]⟩ : ByteArray).toList) = false := by rw [eqb_walk, hr]
              have hr3 : (mj.tok.text.toList == [45]) = false := by rw [cmp_const]; exact hr
              rw [if_neg (by simp [hq, hr])] at hP
              clear hq hr hb
              cases hP
              go_wp2_with fail
              go_ret
              exact ⟨_, rfl, hN, hR, hK⟩
            · have htx := op_of hr
              rw [if_pos (by simp [hr])] at hP
              have HB : Hid (mj.isBad = false) := hb
              obtain ⟨⟨tx, mx⟩, hPx, hPy⟩ := Option.bind_eq_some_iff.1 hP
              have HPx : Hid (PM s j .prod (mj.adv s) = some (tx, mx)) := hPx
              have HPy : Hid (PM s j (.sumL (.bin 45 tj tx)) mx = some (t, m')) := by rw [htx] at hPy; exact hPy
              rw [htx] at c2
              clear hq hr hb hP hPx hPy htx hq2 hq3 c1 hB
              go_wp2_with fail
              refine (next_rs hR HB.out).mono ?_
              rintro e w2 ⟨rfl, h2, k2⟩
              go_wp2_with fail
              refine (hU j (by omega) b s _ w2 tx mx h2 HPx.out).mono ?_
              rintro e w3 ⟨vx, rfl, hvx, h3, k3⟩
              obtain ⟨px, rfl⟩ := NodeAt.ptr _ _ hvx
              go_wp2_with fail
              go_roundg j
              case measure => omega
              case rel =>
                have ka := (Kp.refl b w3).alloc (Nat.le_of_lt h3.lt) (.cells #[.int .u8 45, .int .i64 0, .pointer (some pa), .pointer (some px), .pointer none] 86 (0, 0))
                exact ⟨by omega, .bin 45 tj tx, mx, ⟨_, _, IsN.made _ _ _ _ _ h3.lt, NodeAt.kept ka _ _ (NodeAt.kept (k2.trans k3) _ _ hN), NodeAt.kept ka _ _ hvx⟩, h3.alloc _, (hK.trans (k2.trans k3)).trans ka, HPy⟩
          · have htx := op_of hq
            rw [if_pos (by simp [hq])] at hP
            have HB : Hid (mj.isBad = false) := hb
            obtain ⟨⟨tx, mx⟩, hPx, hPy⟩ := Option.bind_eq_some_iff.1 hP
            have HPx : Hid (PM s j .prod (mj.adv s) = some (tx, mx)) := hPx
            have HPy : Hid (PM s j (.sumL (.bin 43 tj tx)) mx = some (t, m')) := by rw [htx] at hPy; exact hPy
            rw [htx] at c2
            clear hq hb hP hPx hPy htx c1 hB
            go_wp2_with fail
            refine (next_rs hR HB.out).mono ?_
            rintro e w2 ⟨rfl, h2, k2⟩
            go_wp2_with fail
            refine (hU j (by omega) b s _ w2 tx mx h2 HPx.out).mono ?_
            rintro e w3 ⟨vx, rfl, hvx, h3, k3⟩
            obtain ⟨px, rfl⟩ := NodeAt.ptr _ _ hvx
            go_wp2_with fail
            go_roundg j
            case measure => omega
            case rel =>
              have ka := (Kp.refl b w3).alloc (Nat.le_of_lt h3.lt) (.cells #[.int .u8 43, .int .i64 0, .pointer (some pa), .pointer (some px), .pointer none] 86 (0, 0))
              exact ⟨by omega, .bin 43 tj tx, mx, ⟨_, _, IsN.made _ _ _ _ _ h3.lt, NodeAt.kept ka _ _ (NodeAt.kept (k2.trans k3) _ _ hN), NodeAt.kept ka _ _ hvx⟩, h3.alloc _, (hK.trans (k2.trans k3)).trans ka, HPy⟩
        · rw [hb] at c7
          rw [hR.has_bad hb _ (by simp), hR.has_bad hb _ (by simp)] at hP
          clear hb
          cases hP
          go_wp2_with fail
          go_ret
          exact ⟨_, rfl, hN, hR, hK⟩
end Go.Proofs.YtjjlgjmebnkdjaaGreatDoor
