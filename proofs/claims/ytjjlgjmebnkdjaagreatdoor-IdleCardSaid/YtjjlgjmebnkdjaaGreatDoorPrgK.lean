/-
  The program's parser: brackets, part, let, function, choice.
-/
import Derived.Test.YtjjlgjmebnkdjaaGreatDoorPrgJ
namespace Go.Proofs.YtjjlgjmebnkdjaaGreatDoor
open Go Go.Proofs Go.RowKit Skein

theorem want_stuck {s x : ByteArray} {m : M} {q : Nat} (h : m.bad = some q) : (m.want s x).bad = some q := by
  unfold M.want M.has; rw [h]; simp [M.fail, h]
theorem sticky {s : ByteArray} {n : Nat} {nt : NT} {m : M} {r : T × M} {q : Nat} (hi : Inv s m) (h : PM s n nt m = some r) (hb : m.bad = some q) : r.2.bad = some q := by
  have hbs : m.bad.isSome = true := by rw [hb]; rfl
  have hib : m.isBad = true := by unfold M.isBad; rw [hbs]; rfl
  have hp := PM_bad s n nt m r hi hib h
  cases hl : isLoop nt
  · rw [hp.1 hl]; simp [M.fail, hb]
  · cases nt with
    | sumL a => rw [hp.2 hbs a (.inl rfl)]; exact hb
    | prodL a => rw [hp.2 hbs a (.inr (.inl rfl))]; exact hb
    | useL a => rw [hp.2 hbs a (.inr (.inr rfl))]; exact hb
    | _ => cases hl
theorem want_push (s x y : ByteArray) (m : M) : (m.push x).want s y = (m.want s y).push x := by
  have e : (m.push x).has y = m.has y := rfl
  unfold M.want; rw [e]; cases m.has y <;> rfl

theorem ptake_want {b s m w} (x : ByteArray) (hx : x ∈ syms) (h : PS b s m w) :
    Calls Tryz.prog 64 #[.pointer (some ⟨b, 0, none⟩), .string x] w fun e w' =>
      ((m.want s x).bad = none ∧ e = .returned (sgn m.tok) ∧ PS b s (m.want s x) w' ∧ Kp b w w') ∨ (∃ q, (m.want s x).bad = some q ∧ e = .panicked (flts q) ∧ Below b w w') := by
  have hk := kind_sym h.inv x hx
  have hh : m.has x = eqb m.tok.text x := by unfold M.has; rw [h.bad]; rfl
  cases hq : eqb m.tok.text x
  · rw [hq] at hk hh
    refine (ptake_no x h hk).mono ?_
    rintro e w' ⟨rfl, hb⟩
    right
    refine ⟨m.tok.at_, ?_, rfl, hb⟩
    unfold M.want; rw [hh]; simp [M.fail, h.bad]
  · rw [hq] at hk hh
    refine (ptake_yes x h hk).mono ?_
    rintro e w' ⟨rfl, h1, k1⟩
    left
    have e : m.want s x = m.adv s := by unfold M.want; rw [hh]; rfl
    rw [e]
    exact ⟨h.bad, rfl, h1, k1⟩

theorem ptake_name {b s m w} (h : PS b s m w) :
    Calls Tryz.prog 64 #[.pointer (some ⟨b, 0, none⟩), .string ⟨#[110, 97, 109, 101]⟩] w fun e w' =>
      ((m.gives s).2.bad = none ∧ (m.gives s).1 = m.tok.text ∧ e = .returned (sgn m.tok) ∧ PS b s (m.gives s).2 w' ∧ Kp b w w') ∨ (∃ q, (m.gives s).2.bad = some q ∧ e = .panicked (flts q) ∧ Below b w w') := by
  have hk := kind_name h.inv
  cases hq : (m.tok.k == .name)
  · rw [hq] at hk
    refine (ptake_no _ h hk).mono ?_
    rintro e w' ⟨rfl, hb⟩
    right
    refine ⟨m.tok.at_, ?_, rfl, hb⟩
    unfold M.gives; rw [hq]; simp [M.fail, h.bad]
  · rw [hq] at hk
    refine (ptake_yes _ h hk).mono ?_
    rintro e w' ⟨rfl, h1, k1⟩
    left
    have e : m.gives s = (m.tok.text, m.adv s) := by unfold M.gives; rw [h.bad, hq]; rfl
    rw [e]
    exact ⟨h.bad, rfl, rfl, h1, k1⟩

theorem below_of {b : Nat} {w w1 w2 : World} (h : Kp b w w1) (k : Below b w1 w2) : Below b w w2 := h.below.trans k

theorem ptake_sym {b s m w} (x : ByteArray) (hx : x ∈ syms) (h : PS b s m w) (hq : eqb m.tok.text x = true) :
    Calls Tryz.prog 64 #[.pointer (some ⟨b, 0, none⟩), .string x] w fun e w' => e = .returned (sgn m.tok) ∧ PS b s (m.adv s) w' ∧ Kp b w w' :=
  ptake_yes x h (by rw [kind_sym h.inv x hx]; exact hq)

set_option maxRecDepth 100000 in
set_option maxHeartbeats 1000000 in
theorem pbrackets {b s m w n t m1} (hE : CP 63 .expr n) (h : PS b s m w) (hq : eqb m.tok.text ⟨#[40]⟩ = true) (hP : PM s n .expr (m.adv s) = some (t, m1)) :
    Calls Tryz.prog 84 #[.pointer (some ⟨b, 0, none⟩)] w (Post b s w t (m1.want s ⟨#[41]⟩)) := by
  have HP : Hid (PM s n .expr (m.adv s) = some (t, m1)) := hP
  have HQ : Hid (eqb m.tok.text ⟨#[40]⟩ = true) := hq
  clear hP hq
  go_enter Tryz.func84, Tryz.ntmps84
  go_wp2_with fail
  refine (ptake_sym _ (mem_iff.1 (by decide)) h HQ.out).mono ?_
  rintro e w1 ⟨rfl, h1, k1⟩
  go_wp2_with fail
  refine (hE b s _ w1 t m1 h1 HP.out).mono ?_
  rintro e w2 (⟨hn, rfl, h2, k2⟩ | ⟨q, hq, rfl, hb⟩)
  · have HN : Hid (m1.bad = none) := hn
    clear hn
    generalize hv : pv t = v
    have HV : Hid (pv t = v) := hv
    clear hv
    go_wp2_with fail
    refine (ptake_want _ (mem_iff.1 (by decide)) h2).mono ?_
    rintro e w3 (⟨hn, rfl, h3, k3⟩ | ⟨q, hq, rfl, hb⟩)
    · go_wp2_with fail
      go_ret
      exact .inl ⟨hn, by rw [HV.out]; rfl, h3, (k1.trans k2).trans k3⟩
    · have HB : Hid ((m1.want s ⟨#[41]⟩).bad = some q) := hq
      clear hq
      go_wp2_with fail
      exact ⟨rfl, .inr ⟨q, HB.out, rfl, below_of (k1.trans k2) hb⟩⟩
  · have HB : Hid (m1.bad = some q) := hq
    clear hq
    go_wp2_with fail
    exact ⟨rfl, .inr ⟨q, want_stuck HB.out, rfl, below_of k1 hb⟩⟩

set_option maxRecDepth 100000 in
set_option maxHeartbeats 1000000 in
theorem ppart {b s m w n t m1} (op : UInt8) (x : ByteArray) (hx : m.tok.text = x) (hop : pv (.un op t) = .iface 176 (.agg #[.string x, pv t])) (hA : CP 123 .atom n) (h : PS b s m w) (hP : PM s n .atom (m.adv s) = some (t, m1)) :
    Calls Tryz.prog 85 #[.pointer (some ⟨b, 0, none⟩)] w (Post b s w (.un op t) m1) := by
  have HP : Hid (PM s n .atom (m.adv s) = some (t, m1)) := hP
  have HX : Hid (m.tok.text = x) := hx
  have HK : Hid (eqb (kindOf m.tok) (kindOf m.tok) = true) := eqb_iff.2 rfl
  have HO : Hid (pv (.un op t) = .iface 176 (.agg #[.string x, pv t])) := hop
  obtain ⟨gv, iv, ev, av, hB, ho, ht⟩ := h.blk
  obtain ⟨c0, c1, c2, c3, c4, c5, c6, c7, c8, hf, hlt0⟩ := hB.cells
  clear hP hx hop
  have hfld := field66
  go_enter Tryz.func85, Tryz.ntmps85
  go_wp2_with fail
  refine (ptake_yes _ h HK.out).mono ?_
  rintro e w1 ⟨rfl, h1, k1⟩
  unfold sgn
  go_wp2_with fail
  refine (hA b s _ w1 t m1 h1 HP.out).mono ?_
  rintro e w2 (⟨hn, rfl, h2, k2⟩ | ⟨q, hq, rfl, hb⟩)
  · have HN : Hid (m1.bad = none) := hn
    clear hn
    obtain ⟨T1, x1, e1⟩ := pv_iface t
    have E1 : Hid (pv t = .iface T1 x1) := e1
    rw [e1]
    clear e1
    go_wp2_with fail
    go_ret
    exact .inl ⟨HN.out, by rw [HO.out, E1.out, ← HX.out]; rfl, h2, k1.trans k2⟩
  · have HB : Hid (m1.bad = some q) := hq
    clear hq
    go_wp2_with fail
    exact ⟨rfl, .inr ⟨q, HB.out, rfl, below_of k1 hb⟩⟩


set_option maxRecDepth 100000 in
set_option maxHeartbeats 4000000 in
theorem plet {b s m w n t m'} (hE : CP 63 .expr n) (h : PS b s m w) (hq : eqb m.tok.text ⟨#[108, 101, 116]⟩ = true) (hP : PM s (n + 1) .expr m = some (t, m')) :
    Calls Tryz.prog 78 #[.pointer (some ⟨b, 0, none⟩)] w (Post b s w t m') := by
  simp only [PM] at hP
  rw [if_neg (by simp [h.bad]), if_pos hq] at hP
  obtain ⟨⟨t1, m1⟩, hP1, hP'⟩ := Option.bind_eq_some_iff.1 hP
  obtain ⟨⟨t2, m2⟩, hP2, hP3⟩ := Option.bind_eq_some_iff.1 hP'
  have hP3' := Option.some.inj hP3
  cases hP3'
  have e3 : m.tok.text.size = 3 := eqb_size hq
  have hgl : m.given.length + 1 ≤ ((m.adv s).gives s).2.tok.at_ := by
    have a1 := adv_behind s m
    have a2 := gives_at_ge s (m.adv s)
    have a4 := h.gl
    omega
  have hG1 : m1.given = m.given ++ [((m.adv s).gives s).1] := by
    have := (PM_keeps s n _ _ _ hP1).2; simpa using this
  have hG2 : m2.given = m.given ++ [((m.adv s).gives s).1] := by
    have := (PM_keeps s n _ _ _ hP2).2; simpa [hG1] using this
  have HG2 : Hid (m2.given.length = m.given.length + 1) := by unfold Hid; rw [hG2]; simp
  have HGL : Hid (((m.adv s).gives s).2.given.length = m.given.length) := by unfold Hid; simp
  have HP1 : Hid (PM s n .expr ((((m.adv s).gives s).2.want s ⟨#[61]⟩).push ((m.adv s).gives s).1) = some (t1, m1)) := hP1
  have HP2 : Hid (PM s n .expr (m1.want s ⟨#[105, 110]⟩) = some (t2, m2)) := hP2
  have HQ : Hid (eqb m.tok.text ⟨#[108, 101, 116]⟩ = true) := hq
  have HI1 : Hid (Inv s ((((m.adv s).gives s).2.want s ⟨#[61]⟩).push ((m.adv s).gives s).1)) := h.inv.adv.gives.want.push
  have HI2 : Hid (Inv s (m1.want s ⟨#[105, 110]⟩)) := ((PM_keeps s n _ _ _ hP1).1 h.inv.adv.gives.want.push).want
  clear hP hP' hP1 hP2 hP3 hq hG1 hG2 e3
  have hfld := field66
  go_enter Tryz.func78, Tryz.ntmps78
  go_wp2_with fail
  refine (ptake_sym _ (mem_iff.1 (by decide)) h HQ.out).mono ?_
  rintro e w1 ⟨rfl, h1, k1⟩
  go_wp2_with fail
  refine (ptake_name h1).mono ?_
  rintro e w2 (⟨hn, hx, rfl, h2, k2⟩ | ⟨q, hq, rfl, hb⟩)
  · have HX : Hid (((m.adv s).gives s).1 = (m.adv s).tok.text) := hx
    clear hn hx
    unfold sgn
    go_wp2_with fail
    rw [← HX.out]
    refine (pgive _ h2 (by rw [HGL.out]; exact hgl)).mono ?_
    rw [HGL.out]
    rintro e w3 ⟨rfl, h3, k3⟩
    have k3' := (k1.trans k2).trans k3
    go_wp2_with fail
    refine (ptake_want _ (mem_iff.1 (by decide)) h3).mono ?_
    rw [want_push]
    rintro e w4 (⟨hn, rfl, h4, k4⟩ | ⟨q, hq, rfl, hb⟩)
    · clear hn
      go_wp2_with fail
      refine (hE b s _ w4 t1 m1 h4 HP1.out).mono ?_
      rintro e w5 (⟨hn, rfl, h5, k5⟩ | ⟨q, hq, rfl, hb⟩)
      · clear hn
        have k5' := (k3'.trans k4).trans k5
        obtain ⟨T1, x1, e1⟩ := pv_iface t1
        have E1 : Hid (pv t1 = .iface T1 x1) := e1
        rw [e1]
        clear e1
        go_wp2_with fail
        refine (ptake_want _ (mem_iff.1 (by decide)) h5).mono ?_
        rintro e w6 (⟨hn, rfl, h6, k6⟩ | ⟨q, hq, rfl, hb⟩)
        · clear hn
          go_wp2_with fail
          refine (hE b s _ w6 t2 m2 h6 HP2.out).mono ?_
          rintro e w7 (⟨hn, rfl, h7, k7⟩ | ⟨q, hq, rfl, hb⟩)
          · have HN : Hid (m2.bad = none) := hn
            clear hn
            obtain ⟨T2, x2, e2⟩ := pv_iface t2
            have E2 : Hid (pv t2 = .iface T2 x2) := e2
            rw [e2]
            clear e2
            go_wp2_with fail
            refine (pforget h7 HG2.out).mono ?_
            rintro e w8 ⟨rfl, h8, k8⟩
            go_wp2_with fail
            go_ret
            refine .inl ⟨HN.out, ?_, h8, ((k5'.trans k6).trans k7).trans k8⟩
            show _ = Ending.returned (.iface 161 (.agg #[.int .i64 m.given.length, pv t1, pv t2]))
            rw [E1.out, E2.out]; rfl
          · have HB : Hid (m2.bad = some q) := hq
            clear hq
            go_wp2_with fail
            exact ⟨rfl, .inr ⟨q, HB.out, rfl, below_of (k5'.trans k6) hb⟩⟩
        · have HB : Hid ((m1.want s ⟨#[105, 110]⟩).bad = some q) := hq
          clear hq
          go_wp2_with fail
          exact ⟨rfl, .inr ⟨q, sticky HI2.out HP2.out HB.out, rfl, below_of k5' hb⟩⟩
      · have HB : Hid (m1.bad = some q) := hq
        clear hq
        go_wp2_with fail
        exact ⟨rfl, .inr ⟨q, sticky HI2.out HP2.out (want_stuck HB.out), rfl, below_of (k3'.trans k4) hb⟩⟩
    · have HB : Hid (((((m.adv s).gives s).2.want s ⟨#[61]⟩).push ((m.adv s).gives s).1).bad = some q) := hq
      clear hq
      go_wp2_with fail
      exact ⟨rfl, .inr ⟨q, sticky HI2.out HP2.out (want_stuck (sticky HI1.out HP1.out HB.out)), rfl, below_of k3' hb⟩⟩
  · have HB : Hid (((m.adv s).gives s).2.bad = some q) := hq
    clear hq
    go_wp2_with fail
    exact ⟨rfl, .inr ⟨q, sticky HI2.out HP2.out (want_stuck (sticky HI1.out HP1.out (want_stuck (s := s) (x := ⟨#[61]⟩) HB.out))), rfl, below_of k1 hb⟩⟩

set_option maxRecDepth 100000 in
set_option maxHeartbeats 4000000 in
theorem pfn {b s m w n t m'} (hE : CP 63 .expr n) (h : PS b s m w) (hq0 : eqb m.tok.text ⟨#[108, 101, 116]⟩ = false) (hq : eqb m.tok.text ⟨#[92]⟩ = true) (hP : PM s (n + 1) .expr m = some (t, m')) :
    Calls Tryz.prog 79 #[.pointer (some ⟨b, 0, none⟩)] w (Post b s w t m') := by
  simp only [PM] at hP
  rw [if_neg (by simp [h.bad]), if_neg (by simp [hq0]), if_pos hq] at hP
  obtain ⟨⟨t1, m1⟩, hP1, hP3⟩ := Option.bind_eq_some_iff.1 hP
  have hP3' := Option.some.inj hP3
  cases hP3'
  have e3 : m.tok.text.size = 1 := eqb_size hq
  have hgl : m.given.length + 1 ≤ ((m.adv s).gives s).2.tok.at_ := by
    have a1 := adv_behind s m
    have a2 := gives_at_ge s (m.adv s)
    have a4 := h.gl
    omega
  have hG1 : m1.given = m.given ++ [((m.adv s).gives s).1] := by
    have := (PM_keeps s n _ _ _ hP1).2; simpa using this
  have HG1 : Hid (m1.given.length = m.given.length + 1) := by unfold Hid; rw [hG1]; simp
  have HGL : Hid (((m.adv s).gives s).2.given.length = m.given.length) := by unfold Hid; simp
  have HP1 : Hid (PM s n .expr ((((m.adv s).gives s).2.want s ⟨#[46]⟩).push ((m.adv s).gives s).1) = some (t1, m1)) := hP1
  have HQ : Hid (eqb m.tok.text ⟨#[92]⟩ = true) := hq
  have HI1 : Hid (Inv s ((((m.adv s).gives s).2.want s ⟨#[46]⟩).push ((m.adv s).gives s).1)) := h.inv.adv.gives.want.push
  clear hP hP1 hP3 hq hq0 hG1 e3
  have hfld := field66
  go_enter Tryz.func79, Tryz.ntmps79
  go_wp2_with fail
  refine (ptake_sym _ (mem_iff.1 (by decide)) h HQ.out).mono ?_
  rintro e w1 ⟨rfl, h1, k1⟩
  go_wp2_with fail
  refine (ptake_name h1).mono ?_
  rintro e w2 (⟨hn, hx, rfl, h2, k2⟩ | ⟨q, hq, rfl, hb⟩)
  · have HX : Hid (((m.adv s).gives s).1 = (m.adv s).tok.text) := hx
    clear hn hx
    unfold sgn
    go_wp2_with fail
    rw [← HX.out]
    refine (pgive _ h2 (by rw [HGL.out]; exact hgl)).mono ?_
    rw [HGL.out]
    rintro e w3 ⟨rfl, h3, k3⟩
    have k3' := (k1.trans k2).trans k3
    go_wp2_with fail
    refine (ptake_want _ (mem_iff.1 (by decide)) h3).mono ?_
    rw [want_push]
    rintro e w4 (⟨hn, rfl, h4, k4⟩ | ⟨q, hq, rfl, hb⟩)
    · clear hn
      go_wp2_with fail
      refine (hE b s _ w4 t1 m1 h4 HP1.out).mono ?_
      rintro e w5 (⟨hn, rfl, h5, k5⟩ | ⟨q, hq, rfl, hb⟩)
      · have HN : Hid (m1.bad = none) := hn
        clear hn
        have k5' := (k3'.trans k4).trans k5
        obtain ⟨T1, x1, e1⟩ := pv_iface t1
        have E1 : Hid (pv t1 = .iface T1 x1) := e1
        rw [e1]
        clear e1
        go_wp2_with fail
        refine (pforget h5 HG1.out).mono ?_
        rintro e w8 ⟨rfl, h8, k8⟩
        go_wp2_with fail
        go_ret
        refine .inl ⟨HN.out, ?_, h8, k5'.trans k8⟩
        show _ = Ending.returned (.iface 155 (.agg #[.int .i64 m.given.length, pv t1]))
        rw [E1.out]; rfl
      · have HB : Hid (m1.bad = some q) := hq
        clear hq
        go_wp2_with fail
        exact ⟨rfl, .inr ⟨q, HB.out, rfl, below_of (k3'.trans k4) hb⟩⟩
    · have HB : Hid (((((m.adv s).gives s).2.want s ⟨#[46]⟩).push ((m.adv s).gives s).1).bad = some q) := hq
      clear hq
      go_wp2_with fail
      exact ⟨rfl, .inr ⟨q, sticky HI1.out HP1.out HB.out, rfl, below_of k3' hb⟩⟩
  · have HB : Hid (((m.adv s).gives s).2.bad = some q) := hq
    clear hq
    go_wp2_with fail
    exact ⟨rfl, .inr ⟨q, sticky HI1.out HP1.out (want_stuck (s := s) (x := ⟨#[46]⟩) HB.out), rfl, below_of k1 hb⟩⟩

set_option maxRecDepth 100000 in
set_option maxHeartbeats 4000000 in
theorem pchoice {b s m w n t m'} (hE : CP 63 .expr n) (h : PS b s m w) (hq0 : eqb m.tok.text ⟨#[108, 101, 116]⟩ = false) (hq1 : eqb m.tok.text ⟨#[92]⟩ = false) (hq : eqb m.tok.text ⟨#[105, 102]⟩ = true) (hP : PM s (n + 1) .expr m = some (t, m')) :
    Calls Tryz.prog 80 #[.pointer (some ⟨b, 0, none⟩)] w (Post b s w t m') := by
  simp only [PM] at hP
  rw [if_neg (by simp [h.bad]), if_neg (by simp [hq0]), if_neg (by simp [hq1]), if_pos hq] at hP
  obtain ⟨⟨t1, m1⟩, hP1, hP'⟩ := Option.bind_eq_some_iff.1 hP
  obtain ⟨⟨t2, m2⟩, hP2, hP''⟩ := Option.bind_eq_some_iff.1 hP'
  obtain ⟨⟨t3, m3⟩, hP3, hP4⟩ := Option.bind_eq_some_iff.1 hP''
  have hP4' := Option.some.inj hP4
  cases hP4'
  have HP1 : Hid (PM s n .expr (m.adv s) = some (t1, m1)) := hP1
  have HP2 : Hid (PM s n .expr (m1.want s ⟨#[116, 104, 101, 110]⟩) = some (t2, m2)) := hP2
  have HP3 : Hid (PM s n .expr (m2.want s ⟨#[101, 108, 115, 101]⟩) = some (t3, m3)) := hP3
  have HQ : Hid (eqb m.tok.text ⟨#[105, 102]⟩ = true) := hq
  have hi1 := (PM_keeps s n _ _ _ hP1).1 h.inv.adv
  have hi2 := (PM_keeps s n _ _ _ hP2).1 hi1.want
  have HI2 : Hid (Inv s (m1.want s ⟨#[116, 104, 101, 110]⟩)) := hi1.want
  have HI3 : Hid (Inv s (m2.want s ⟨#[101, 108, 115, 101]⟩)) := hi2.want
  clear hP hP' hP'' hP1 hP2 hP3 hP4 hq hq0 hq1 hi1 hi2
  go_enter Tryz.func80, Tryz.ntmps80
  go_wp2_with fail
  refine (ptake_sym _ (mem_iff.1 (by decide)) h HQ.out).mono ?_
  rintro e w1 ⟨rfl, h1, k1⟩
  go_wp2_with fail
  refine (hE b s _ w1 t1 m1 h1 HP1.out).mono ?_
  rintro e w2 (⟨hn, rfl, h2, k2⟩ | ⟨q, hq, rfl, hb⟩)
  · clear hn
    have k2' := k1.trans k2
    obtain ⟨T1, x1, e1⟩ := pv_iface t1
    have E1 : Hid (pv t1 = .iface T1 x1) := e1
    rw [e1]
    clear e1
    go_wp2_with fail
    refine (ptake_want _ (mem_iff.1 (by decide)) h2).mono ?_
    rintro e w3 (⟨hn, rfl, h3, k3⟩ | ⟨q, hq, rfl, hb⟩)
    · clear hn
      go_wp2_with fail
      refine (hE b s _ w3 t2 m2 h3 HP2.out).mono ?_
      rintro e w4 (⟨hn, rfl, h4, k4⟩ | ⟨q, hq, rfl, hb⟩)
      · clear hn
        have k4' := (k2'.trans k3).trans k4
        obtain ⟨T2, x2, e2⟩ := pv_iface t2
        have E2 : Hid (pv t2 = .iface T2 x2) := e2
        rw [e2]
        clear e2
        go_wp2_with fail
        refine (ptake_want _ (mem_iff.1 (by decide)) h4).mono ?_
        rintro e w5 (⟨hn, rfl, h5, k5⟩ | ⟨q, hq, rfl, hb⟩)
        · clear hn
          go_wp2_with fail
          refine (hE b s _ w5 t3 m3 h5 HP3.out).mono ?_
          rintro e w6 (⟨hn, rfl, h6, k6⟩ | ⟨q, hq, rfl, hb⟩)
          · have HN : Hid (m3.bad = none) := hn
            clear hn
            obtain ⟨T3, x3, e3⟩ := pv_iface t3
            have E3 : Hid (pv t3 = .iface T3 x3) := e3
            rw [e3]
            clear e3
            go_wp2_with fail
            go_ret
            refine .inl ⟨HN.out, ?_, h6, (k4'.trans k5).trans k6⟩
            show _ = Ending.returned (.iface 164 (.agg #[pv t1, pv t2, pv t3]))
            rw [E1.out, E2.out, E3.out]; rfl
          · have HB : Hid (m3.bad = some q) := hq
            clear hq
            go_wp2_with fail
            exact ⟨rfl, .inr ⟨q, HB.out, rfl, below_of (k4'.trans k5) hb⟩⟩
        · have HB : Hid ((m2.want s ⟨#[101, 108, 115, 101]⟩).bad = some q) := hq
          clear hq
          go_wp2_with fail
          exact ⟨rfl, .inr ⟨q, sticky HI3.out HP3.out HB.out, rfl, below_of k4' hb⟩⟩
      · have HB : Hid (m2.bad = some q) := hq
        clear hq
        go_wp2_with fail
        exact ⟨rfl, .inr ⟨q, sticky HI3.out HP3.out (want_stuck HB.out), rfl, below_of (k2'.trans k3) hb⟩⟩
    · have HB : Hid ((m1.want s ⟨#[116, 104, 101, 110]⟩).bad = some q) := hq
      clear hq
      go_wp2_with fail
      exact ⟨rfl, .inr ⟨q, sticky HI3.out HP3.out (want_stuck (sticky HI2.out HP2.out HB.out)), rfl, below_of k2' hb⟩⟩
  · have HB : Hid (m1.bad = some q) := hq
    clear hq
    go_wp2_with fail
    exact ⟨rfl, .inr ⟨q, sticky HI3.out HP3.out (want_stuck (sticky HI2.out HP2.out (want_stuck HB.out))), rfl, below_of k1 hb⟩⟩

end Go.Proofs.YtjjlgjmebnkdjaaGreatDoor
