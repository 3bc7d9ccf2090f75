/-
  The document's reader: expression.
-/
import Derived.Test.YtjjlgjmebnkdjaaGreatDoorRefG
namespace Go.Proofs.YtjjlgjmebnkdjaaGreatDoor
open Go Go.Proofs Go.RowKit Skein

theorem Kp.row {b : Nat} {w w' : World} {gv : Value} {n : Nat} {xs : List Value} (ho : w.ownsRow (b + 1) 9 1 gv n xs) (hg : w.grownBy w' gv.ownBlock) (hb : b < w.heap.size) : Kp b w w' := by
  have hk : ∀ k, gv.ownBlock = some k → b < k ∧ ∃ cur, w.heap[k]? = some (.cells cur 9 (0, 0)) := by
    intro k e
    rcases ho.2 with ⟨rfl, _⟩ | ⟨g, cap, cur, rfl, h1, h2, _⟩
    · cases e
    · cases e; exact ⟨h1, cur, h2⟩
  refine ⟨⟨hg.os, hg.tape, hg.output, hg.size, fun k h => hg.block k (by omega) fun e => ?_⟩, fun k cs T h hT e => ?_⟩
  · have := (hk k e.symm).1; omega
  · rw [hg.block k (Array.getElem?_eq_some_iff.1 e).1 fun e' => ?_]
    · exact e
    · obtain ⟨_, cur, h2⟩ := hk k e'.symm
      rw [e] at h2; cases h2; exact hT rfl

theorem row_block {b s p t a nu na gv bd pl fr} {W w' : World} {n : Nat} {xs : List Value} (hB : RB b s p t a nu na gv bd pl fr W) (ho : W.ownsRow (b + 1) 9 1 gv n xs) (hg : W.grownBy w' gv.ownBlock) : RB b s p t a nu na gv bd pl fr w' := by
  have hlt := hB.cells.2.2.2.2.2.2.2.2.2.2.2
  unfold RB at hB ⊢
  rw [hg.block b hlt fun e => ?_]
  · exact hB
  · rcases own_ne ho with h1 | h1
    · rw [h1] at e; cases e
    · exact h1 e.symm
theorem row_cell {b s p t a nu na gv bd pl fr} {W w' : World} {n : Nat} {xs : List Value} (hB : RB b s p t a nu na gv bd pl fr W) (ho : W.ownsRow (b + 1) 9 1 gv n xs) (hg : W.grownBy w' gv.ownBlock) : w'.cell? ⟨b, 6, none⟩ = some gv :=
  (row_block hB ho hg).cells.2.2.2.2.2.2.1
theorem row_frozen {b s p t a nu na gv bd pl fr} {W w' : World} {n : Nat} {xs : List Value} (hB : RB b s p t a nu na gv bd pl fr W) (ho : W.ownsRow (b + 1) 9 1 gv n xs) (hg : W.grownBy w' gv.ownBlock) : w'.frozen? ⟨b, 6, none⟩ = false :=
  (row_block hB ho hg).cells.2.2.2.2.2.2.2.2.2.2.1 6

theorem own_succ {W : World} {base : Nat} {e : TypeId} {size : Nat} {v : Value} {k : Nat} {xs : List Value} (h : W.ownsRow base e size v (k + 1) xs) : ∃ g cap, v = .slice (some ⟨g, 0, none⟩) (k + 1) cap := by
  rcases h.2 with ⟨_, h⟩ | ⟨g, cap, _, h, _⟩
  · omega
  · exact ⟨g, cap, h⟩

theorem RS.pushed {b s m w gv pl} {x : ByteArray} {W w' : World} {v' : Value}
    (h : RS b s m w) (hl : m.given.length + 1 ≤ m.tok.at_)
    (hB : RB b s ((m.tok.at_ : Int) + (m.tok.text.size : Int)) m.tok.text m.tok.at_ (m.tok.k == .num) (m.tok.k == .name) gv m.isBad pl m.free W)
    (ho : W.ownsRow (b + 1) 9 1 gv m.given.length (m.given.map Value.string)) (hp : m.isBad = true → pl = m.place) (hkW : Kp b w W)
    (hg : W.grownBy w' gv.ownBlock) (ho' : w'.ownsRow (b + 1) 9 1 v' (m.given.length + 1) (m.given.map Value.string ++ [.string x])) :
    RS b s (m.push x) (w'.setCell ⟨b, 6, none⟩ v') ∧ Kp b w (w'.setCell ⟨b, 6, none⟩ v') := by
  have hlt := hB.cells.2.2.2.2.2.2.2.2.2.2.2
  have hB' : RB b s ((m.tok.at_ : Int) + (m.tok.text.size : Int)) m.tok.text m.tok.at_ (m.tok.k == .num) (m.tok.k == .name) gv m.isBad pl m.free w' := by
    unfold RB at hB ⊢
    rw [hg.block b hlt fun e => ?_]
    · exact hB
    · rcases own_ne ho with h1 | h1
      · rw [h1] at e; cases e
      · exact h1 e.symm
  have hs : w'.grownBy (w'.setCell ⟨b, 6, none⟩ v') (some b) := grown_set (grown_refl _ _) 6 _
  have hlt' := hB'.cells.2.2.2.2.2.2.2.2.2.2.2
  refine ⟨⟨⟨v', pl, RB.set hB' 6 v', ?_, hp⟩, h.inv.push, h.len, by simpa using hl⟩, hkW.trans ((Kp.row ho hg hlt).trans (Kp.grown hs hlt'))⟩
  have := ownsRow_setCell_below ho' (a := ⟨b, 6, none⟩) (Nat.lt_succ_self b) v'
  simpa using this

theorem RS.popped {b s m w} {n g cap : Nat} {pl : Int} (h : RS b s m w) (hn : n ≤ m.given.length)
    (hB : RB b s ((m.tok.at_ : Int) + (m.tok.text.size : Int)) m.tok.text m.tok.at_ (m.tok.k == .num) (m.tok.k == .name) (.slice (some ⟨g, 0, none⟩) m.given.length cap) m.isBad pl m.free w)
    (ho : w.ownsRow (b + 1) 9 1 (.slice (some ⟨g, 0, none⟩) m.given.length cap) m.given.length (m.given.map Value.string)) (hp : m.isBad = true → pl = m.place) :
    RS b s (m.pop n) (w.setCell ⟨b, 6, none⟩ (.slice (some ⟨g, 0, none⟩) n cap)) ∧ Kp b w (w.setCell ⟨b, 6, none⟩ (.slice (some ⟨g, 0, none⟩) n cap)) := by
  have hs : w.grownBy (w.setCell ⟨b, 6, none⟩ (.slice (some ⟨g, 0, none⟩) n cap)) (some b) := grown_set (grown_refl _ _) 6 _
  refine ⟨⟨⟨_, pl, RB.set hB 6 _, ?_, hp⟩, h.inv.pop, h.len, by simp; exact Nat.le_trans (Nat.min_le_right _ _) h.gl⟩, Kp.grown hs h.lt⟩
  have e : (m.pop n).given.length = n := by simp; omega
  rw [e]
  refine ownsRow_setCell_below ?_ (a := ⟨b, 6, none⟩) (Nat.lt_succ_self b) _
  refine ⟨by simp; omega, .inr ?_⟩
  rcases ho.2 with ⟨h1, _⟩ | ⟨g', cap', cur, h1, h2, h3, h4, h5, h6, h7⟩
  · cases h1
  · cases h1
    refine ⟨g, cap, cur, rfl, h2, h3, by omega, h5, h6, ?_⟩
    have h7' : cur.toList.take m.given.length = m.given.map Value.string := by simpa using h7
    rw [Nat.mul_one]
    have : (cur.toList.take m.given.length).take n = cur.toList.take n := by rw [List.take_take]; congr 1; omega
    rw [← this, h7']
    simp [List.map_take]

theorem IsN.made_at {b : Nat} {w : World} {k : Nat} (op n : Int) (x y z : Value) (h : b < w.heap.size) (hk : k = w.heap.size) : IsN b (w.alloc (.cells #[.int .u8 op, .int .i64 n, x, y, z] 86 (0, 0))) (.pointer (some ⟨k, 0, none⟩)) op n x y z := by
  subst hk; exact IsN.made _ _ _ _ _ h

theorem info9 : (Tryz.prog.info? 9).map (fun i => (i.zero, i.size, i.bytes)) = some (some (.string ByteArray.empty), 1, 16) := by kernel_rfl

set_option maxRecDepth 100000 in
set_option maxHeartbeats 8000000 in
theorem expr_let (n : Nat) (hE : ∀ j, j < n → CX 34 .expr j) (b s m w t m') (h : RS b s m w) (hb : m.isBad = false) (hq : eqb m.tok.text ⟨#[108, 101, 116]⟩ = true) (hP : PM s n .expr m = some (t, m')) :
    Calls Tryz.prog 34 #[.pointer (some ⟨b, 0, none⟩)] w fun e w' => ∃ v, e = .returned v ∧ NodeAt b w' t v ∧ RS b s m' w' ∧ Kp b w w' := by
  cases n with
  | zero => simp [PM] at hP
  | succ n =>
    simp only [PM] at hP
    rw [if_neg (by simp [isBad_of_bad hb]), if_pos hq] at hP
    obtain ⟨⟨t1, m1⟩, hP1, hP'⟩ := Option.bind_eq_some_iff.1 hP
    obtain ⟨⟨t2, m2⟩, hP2, hP3⟩ := Option.bind_eq_some_iff.1 hP'
    have hgl : m.given.length + 1 ≤ (((m.adv s).gives s).2.want s ⟨#[61]⟩).tok.at_ := by
      have e : m.tok.text.size = 3 := by rw [eqb_iff.1 hq]; rfl
      have a1 := adv_behind s m
      have a2 := gives_at_ge s (m.adv s)
      have a3 := want_at_ge s ⟨#[61]⟩ ((m.adv s).gives s).2
      have a4 := h.gl
      omega
    have hG1 : m1.given = m.given ++ [((m.adv s).gives s).1] := by
      have := (PM_keeps s n _ _ _ hP1).2; simpa using this
    have hG2 : m2.given = m.given ++ [((m.adv s).gives s).1] := by
      have := (PM_keeps s n _ _ _ hP2).2; simpa [hG1] using this
    have HG2 : Hid (m2.given.length = m.given.length + 1) := by unfold Hid; rw [hG2]; simp
    have hq' : m.has ⟨#[108, 101, 116]⟩ = true := by rw [has_of hb]; exact hq
    have HQ : Hid (m.has ⟨#[108, 101, 116]⟩ = true) := hq'
    have HP1 : Hid (PM s n .expr ((((m.adv s).gives s).2.want s ⟨#[61]⟩).push ((m.adv s).gives s).1) = some (t1, m1)) := hP1
    have HP2 : Hid (PM s n .expr (m1.want s ⟨#[105, 110]⟩) = some (t2, m2)) := hP2
    have HP3 : Hid ((T.letE m.given.length t1 t2, m2.pop m.given.length) = (t, m')) := Option.some.inj hP3
    clear hP hP' hP1 hP2 hP3 hq hq' hb hG1 hG2
    obtain ⟨i0, hi, hz0, hz1, hz2⟩ := info_parts info9
    go_enter Tryz.func34, Tryz.ntmps34
    go_wp2_with fail
    refine (takes_yes _ (by simp) HQ.out h).mono ?_
    rintro e w1 ⟨rfl, h1, k1⟩
    go_wp2_with fail
    refine (gives_rs h1).mono ?_
    rintro e w2 ⟨rfl, h2, k2⟩
    go_wp2_with fail
    refine (wants_rs _ (by simp) h2).mono ?_
    rintro e w3 ⟨rfl, h3, k3⟩
    have hk3 := (k1.trans k2).trans k3
    clear k1 k2 k3 h1 h2 h
    have eg : (((m.adv s).gives s).2.want s ⟨#[61]⟩).given = m.given := by simp
    have HGL : Hid ((((m.adv s).gives s).2.want s ⟨#[61]⟩).given.length = m.given.length) := by unfold Hid; rw [eg]
    clear eg
    generalize ((m.adv s).gives s).1 = x at *
    generalize ((m.adv s).gives s).2.want s ⟨#[61]⟩ = m3 at *
    obtain ⟨gv, pl, hB, ho, hp⟩ := h3.blk
    obtain ⟨ga, gc, rfl⟩ := own_slice ho
    obtain ⟨c0, c1, c2, c3, c4, c5, c6, c7, c8, c9, hf, hlt0⟩ := hB.cells
    have hl3 : m3.given.length ≤ 300 := by
      have := h3.gl; have := h3.inv.at_le; have := h3.len; omega
    go_wp2_with (at_builtin; refine wpList_append_own _ rfl _ _ 35 rfl (b + 1) 9 i0 (.string ByteArray.empty) 1 16 Tryz.underlying35 hi hz0 hz1 hz2 rfl (by decide) _ _ _ rfl (ho.alloc _) ⟨w3.heap.size, 0, none⟩ 1 1 [.string x] rfl rfl (cell_one_new _ _ _) (fun u hu => by simp at hu; subst hu; rfl) (by unfold maxLen; omega) (by omega) (by simp; omega) ?_; intro v' w4 hown' hgrow _; obtain ⟨g', cap', rfl⟩ := own_succ hown'; have c6' : w4.cell? ⟨b, 6, none⟩ = some (.slice ga m3.given.length gc) := row_cell (hB.alloc _) (ho.alloc _) hgrow; have hf' : w4.frozen? ⟨b, 6, none⟩ = false := row_frozen (hB.alloc _) (ho.alloc _) hgrow)
    have hgrow' : (w3.alloc (Obj.cells #[Value.string x] 9)).grownBy w4 (Value.slice ga m3.given.length gc).ownBlock := hgrow
    have hgl3 : m3.given.length + 1 ≤ m3.tok.at_ := by rw [HGL.out]; exact hgl
    obtain ⟨h5, k5⟩ := RS.pushed h3 hgl3 (hB.alloc _) (ho.alloc _) hp ((Kp.refl b w3).alloc (Nat.le_of_lt hlt0) _) hgrow' hown'
    have k5' := hk3.trans k5
    clear c0 c1 c2 c3 c4 c5 c6 c7 c8 c9 hf hB ho hp hgrow hgrow' hown' c6' hf' k5 hk3 hgl3 hgl h3 hi hz0 hz1 hz2
    generalize w4.setCell ⟨b, 6, none⟩ (.slice (some ⟨g', 0, none⟩) (m3.given.length + 1) cap') = w5 at h5 k5' ⊢
    refine (hE n (Nat.lt_succ_self n) b s _ w5 t1 m1 h5 HP1.out).mono ?_
    rintro e w6 ⟨v1, rfl, hv1, h6, k6⟩
    obtain ⟨p1, rfl⟩ := NodeAt.ptr _ _ hv1
    go_wp2_with fail
    refine (wants_rs _ (by simp) h6).mono ?_
    rintro e w7 ⟨rfl, h7, k7⟩
    go_wp2_with fail
    refine (hE n (Nat.lt_succ_self n) b s _ w7 t2 m2 h7 HP2.out).mono ?_
    rintro e w8 ⟨v2, rfl, hv2, h8, k8⟩
    obtain ⟨p2, rfl⟩ := NodeAt.ptr _ _ hv2
    have k8' := (k6.trans k7).trans k8
    have hv1' := NodeAt.kept (k7.trans k8) _ _ hv1
    clear h5 h6 h7 k6 k7 k8 hv1
    have hle : m3.given.length ≤ m2.given.length := by rw [HGL.out, HG2.out]; omega
    obtain ⟨gv2, pl2, hB2, ho2, hp2⟩ := h8.blk
    obtain ⟨g2, cap2, rfl, hce⟩ := own_at ho2 (by rw [HG2.out]; omega)
    have hcap : m3.given.length ≤ cap2 := by
      rcases ho2.2 with ⟨h1, _⟩ | ⟨g', cap', cur, h1, h2, h3, h4, h5, h6, h7⟩
      · cases h1
      · cases h1; omega
    obtain ⟨c0, c1, c2, c3, c4, c5, c6, c7, c8, c9, hf, hlt2⟩ := hB2.cells
    clear hce
    go_wp2_with fail
    go_ret
    obtain ⟨h9, k9⟩ := RS.popped h8 hle hB2 ho2 hp2
    have ka := (Kp.refl b (w8.setCell ⟨b, 6, none⟩ (.slice (some ⟨g2, 0, none⟩) m3.given.length cap2))).alloc (Nat.le_of_lt h9.lt) (.cells #[.int .u8 108, .int .i64 m3.given.length, .pointer (some p1), .pointer (some p2), .pointer none] 86 (0, 0))
    have hy := HP3.out
    cases hy
    have hL := HGL.out
    rw [← hL]
    exact ⟨_, rfl, ⟨_, _, IsN.made_at _ _ _ _ _ h9.lt (by simp), NodeAt.kept (k9.trans ka) _ _ hv1', NodeAt.kept (k9.trans ka) _ _ hv2⟩, h9.alloc _, (k5'.trans k8').trans (k9.trans ka)⟩
set_option maxRecDepth 100000 in
set_option maxHeartbeats 8000000 in
theorem expr_fn (n : Nat) (hE : ∀ j, j < n → CX 34 .expr j) (b s m w t m') (h : RS b s m w) (hb : m.isBad = false) (hq0 : eqb m.tok.text ⟨#[108, 101, 116]⟩ = false) (hq : eqb m.tok.text ⟨#[92]⟩ = true) (hP : PM s n .expr m = some (t, m')) :
    Calls Tryz.prog 34 #[.pointer (some ⟨b, 0, none⟩)] w fun e w' => ∃ v, e = .returned v ∧ NodeAt b w' t v ∧ RS b s m' w' ∧ Kp b w w' := by
  cases n with
  | zero => simp [PM] at hP
  | succ n =>
    simp only [PM] at hP
    rw [if_neg (by simp [isBad_of_bad hb]), if_neg (by simp [hq0]), if_pos hq] at hP
    obtain ⟨⟨t1, m2⟩, hP1, hP3⟩ := Option.bind_eq_some_iff.1 hP
    have hgl : m.given.length + 1 ≤ (((m.adv s).gives s).2.want s ⟨#[46]⟩).tok.at_ := by
      have e : m.tok.text.size = 1 := by rw [eqb_iff.1 hq]; rfl
      have a1 := adv_behind s m
      have a2 := gives_at_ge s (m.adv s)
      have a3 := want_at_ge s ⟨#[46]⟩ ((m.adv s).gives s).2
      have a4 := h.gl
      omega
    have hG2 : m2.given = m.given ++ [((m.adv s).gives s).1] := by
      have := (PM_keeps s n _ _ _ hP1).2; simpa using this
    have HG2 : Hid (m2.given.length = m.given.length + 1) := by unfold Hid; rw [hG2]; simp
    have HQ0 : Hid (m.has ⟨#[108, 101, 116]⟩ = false) := by unfold Hid; rw [has_of hb]; exact hq0
    have HQ : Hid (m.has ⟨#[92]⟩ = true) := by unfold Hid; rw [has_of hb]; exact hq
    have HP1 : Hid (PM s n .expr ((((m.adv s).gives s).2.want s ⟨#[46]⟩).push ((m.adv s).gives s).1) = some (t1, m2)) := hP1
    have HP3 : Hid ((T.fn m.given.length t1, m2.pop m.given.length) = (t, m')) := Option.some.inj hP3
    clear hP hP1 hP3 hq hq0 hb hG2
    obtain ⟨i0, hi, hz0, hz1, hz2⟩ := info_parts info9
    go_enter Tryz.func34, Tryz.ntmps34
    go_wp2_with fail
    refine (takes_no _ HQ0.out h).mono ?_
    rintro e w0 ⟨rfl, rfl⟩
    go_wp2_with fail
    refine (takes_yes _ (by simp) HQ.out h).mono ?_
    rintro e w1 ⟨rfl, h1, k1⟩
    go_wp2_with fail
    refine (gives_rs h1).mono ?_
    rintro e w2 ⟨rfl, h2, k2⟩
    go_wp2_with fail
    refine (wants_rs _ (by simp) h2).mono ?_
    rintro e w3 ⟨rfl, h3, k3⟩
    have hk3 := (k1.trans k2).trans k3
    clear k1 k2 k3 h1 h2 h
    have eg : (((m.adv s).gives s).2.want s ⟨#[46]⟩).given = m.given := by simp
    have HGL : Hid ((((m.adv s).gives s).2.want s ⟨#[46]⟩).given.length = m.given.length) := by unfold Hid; rw [eg]
    clear eg
    generalize ((m.adv s).gives s).1 = x at *
    generalize ((m.adv s).gives s).2.want s ⟨#[46]⟩ = m3 at *
    obtain ⟨gv, pl, hB, ho, hp⟩ := h3.blk
    obtain ⟨ga, gc, rfl⟩ := own_slice ho
    obtain ⟨c0, c1, c2, c3, c4, c5, c6, c7, c8, c9, hf, hlt0⟩ := hB.cells
    have hl3 : m3.given.length ≤ 300 := by
      have := h3.gl; have := h3.inv.at_le; have := h3.len; omega
    go_wp2_with (at_builtin; refine wpList_append_own _ rfl _ _ 35 rfl (b + 1) 9 i0 (.string ByteArray.empty) 1 16 Tryz.underlying35 hi hz0 hz1 hz2 rfl (by decide) _ _ _ rfl (ho.alloc _) ⟨w3.heap.size, 0, none⟩ 1 1 [.string x] rfl rfl (cell_one_new _ _ _) (fun u hu => by simp at hu; subst hu; rfl) (by unfold maxLen; omega) (by omega) (by simp; omega) ?_; intro v' w4 hown' hgrow _; obtain ⟨g', cap', rfl⟩ := own_succ hown'; have c6' : w4.cell? ⟨b, 6, none⟩ = some (.slice ga m3.given.length gc) := row_cell (hB.alloc _) (ho.alloc _) hgrow; have hf' : w4.frozen? ⟨b, 6, none⟩ = false := row_frozen (hB.alloc _) (ho.alloc _) hgrow)
    have hgrow' : (w3.alloc (Obj.cells #[Value.string x] 9)).grownBy w4 (Value.slice ga m3.given.length gc).ownBlock := hgrow
    have hgl3 : m3.given.length + 1 ≤ m3.tok.at_ := by rw [HGL.out]; exact hgl
    obtain ⟨h5, k5⟩ := RS.pushed h3 hgl3 (hB.alloc _) (ho.alloc _) hp ((Kp.refl b w3).alloc (Nat.le_of_lt hlt0) _) hgrow' hown'
    have k5' := hk3.trans k5
    clear c0 c1 c2 c3 c4 c5 c6 c7 c8 c9 hf hB ho hp hgrow hgrow' hown' c6' hf' k5 hk3 hgl3 hgl h3 hi hz0 hz1 hz2
    generalize w4.setCell ⟨b, 6, none⟩ (.slice (some ⟨g', 0, none⟩) (m3.given.length + 1) cap') = w5 at h5 k5' ⊢
    refine (hE n (Nat.lt_succ_self n) b s _ w5 t1 m2 h5 HP1.out).mono ?_
    rintro e w8 ⟨v1, rfl, hv1, h8, k8⟩
    obtain ⟨p1, rfl⟩ := NodeAt.ptr _ _ hv1
    clear h5
    have hle : m3.given.length ≤ m2.given.length := by rw [HGL.out, HG2.out]; omega
    obtain ⟨gv2, pl2, hB2, ho2, hp2⟩ := h8.blk
    obtain ⟨g2, cap2, rfl, hce⟩ := own_at ho2 (by rw [HG2.out]; omega)
    have hcap : m3.given.length ≤ cap2 := by
      rcases ho2.2 with ⟨h1, _⟩ | ⟨g', cap', cur, h1, h2, h3, h4, h5, h6, h7⟩
      · cases h1
      · cases h1; omega
    obtain ⟨c0, c1, c2, c3, c4, c5, c6, c7, c8, c9, hf, hlt2⟩ := hB2.cells
    clear hce
    go_wp2_with fail
    go_ret
    obtain ⟨h9, k9⟩ := RS.popped h8 hle hB2 ho2 hp2
    have ka := (Kp.refl b (w8.setCell ⟨b, 6, none⟩ (.slice (some ⟨g2, 0, none⟩) m3.given.length cap2))).alloc (Nat.le_of_lt h9.lt) (.cells #[.int .u8 102, .int .i64 m3.given.length, .pointer (some p1), .pointer none, .pointer none] 86 (0, 0))
    have hy := HP3.out
    cases hy
    have hL := HGL.out
    rw [← hL]
    exact ⟨_, rfl, ⟨_, IsN.made_at _ _ _ _ _ h9.lt (by simp), NodeAt.kept (k9.trans ka) _ _ hv1⟩, h9.alloc _, (k5'.trans k8).trans (k9.trans ka)⟩

set_option maxRecDepth 100000 in
set_option maxHeartbeats 8000000 in
theorem expr_if (n : Nat) (hE : ∀ j, j < n → CX 34 .expr j) (b s m w t m') (h : RS b s m w) (hb : m.isBad = false) (hq0 : eqb m.tok.text ⟨#[108, 101, 116]⟩ = false) (hq1 : eqb m.tok.text ⟨#[92]⟩ = false) (hq : eqb m.tok.text ⟨#[105, 102]⟩ = true) (hP : PM s n .expr m = some (t, m')) :
    Calls Tryz.prog 34 #[.pointer (some ⟨b, 0, none⟩)] w fun e w' => ∃ v, e = .returned v ∧ NodeAt b w' t v ∧ RS b s m' w' ∧ Kp b w w' := by
  cases n with
  | zero => simp [PM] at hP
  | succ n =>
    simp only [PM] at hP
    rw [if_neg (by simp [isBad_of_bad hb]), if_neg (by simp [hq0]), if_neg (by simp [hq1]), if_pos hq] at hP
    obtain ⟨⟨t1, m1⟩, hP1, hP'⟩ := Option.bind_eq_some_iff.1 hP
    obtain ⟨⟨t2, m2⟩, hP2, hP''⟩ := Option.bind_eq_some_iff.1 hP'
    obtain ⟨⟨t3, m3⟩, hP3, hP4⟩ := Option.bind_eq_some_iff.1 hP''
    have HQ0 : Hid (m.has ⟨#[108, 101, 116]⟩ = false) := by unfold Hid; rw [has_of hb]; exact hq0
    have HQ1 : Hid (m.has ⟨#[92]⟩ = false) := by unfold Hid; rw [has_of hb]; exact hq1
    have HQ : Hid (m.has ⟨#[105, 102]⟩ = true) := by unfold Hid; rw [has_of hb]; exact hq
    have HP1 : Hid (PM s n .expr (m.adv s) = some (t1, m1)) := hP1
    have HP2 : Hid (PM s n .expr (m1.want s ⟨#[116, 104, 101, 110]⟩) = some (t2, m2)) := hP2
    have HP3 : Hid (PM s n .expr (m2.want s ⟨#[101, 108, 115, 101]⟩) = some (t3, m3)) := hP3
    have HP4 : Hid ((T.ite t1 t2 t3, m3) = (t, m')) := Option.some.inj hP4
    clear hP hP' hP'' hP1 hP2 hP3 hP4 hq hq0 hq1 hb
    go_enter Tryz.func34, Tryz.ntmps34
    go_wp2_with fail
    refine (takes_no _ HQ0.out h).mono ?_
    rintro e w0 ⟨rfl, rfl⟩
    go_wp2_with fail
    refine (takes_no _ HQ1.out h).mono ?_
    rintro e w0 ⟨rfl, rfl⟩
    go_wp2_with fail
    refine (takes_yes _ (by simp) HQ.out h).mono ?_
    rintro e w1 ⟨rfl, h1, k1⟩
    go_wp2_with fail
    refine (hE n (Nat.lt_succ_self n) b s _ w1 t1 m1 h1 HP1.out).mono ?_
    rintro e w2 ⟨v1, rfl, hv1, h2, k2⟩
    obtain ⟨p1, rfl⟩ := NodeAt.ptr _ _ hv1
    go_wp2_with fail
    refine (wants_rs _ (by simp) h2).mono ?_
    rintro e w3 ⟨rfl, h3, k3⟩
    go_wp2_with fail
    refine (hE n (Nat.lt_succ_self n) b s _ w3 t2 m2 h3 HP2.out).mono ?_
    rintro e w4 ⟨v2, rfl, hv2, h4, k4⟩
    obtain ⟨p2, rfl⟩ := NodeAt.ptr _ _ hv2
    go_wp2_with fail
    refine (wants_rs _ (by simp) h4).mono ?_
    rintro e w5 ⟨rfl, h5, k5⟩
    go_wp2_with fail
    refine (hE n (Nat.lt_succ_self n) b s _ w5 t3 m3 h5 HP3.out).mono ?_
    rintro e w6 ⟨v3, rfl, hv3, h6, k6⟩
    obtain ⟨p3, rfl⟩ := NodeAt.ptr _ _ hv3
    go_wp2_with fail
    go_ret
    have ka := (Kp.refl b w6).alloc (Nat.le_of_lt h6.lt) (.cells #[.int .u8 105, .int .i64 0, .pointer (some p1), .pointer (some p2), .pointer (some p3)] 86 (0, 0))
    have hy := HP4.out
    cases hy
    exact ⟨_, rfl, ⟨_, _, _, IsN.made _ _ _ _ _ h6.lt, NodeAt.kept (((k3.trans k4).trans (k5.trans k6)).trans ka) _ _ hv1, NodeAt.kept ((k5.trans k6).trans ka) _ _ hv2, NodeAt.kept ka _ _ hv3⟩, h6.alloc _, (((k1.trans k2).trans (k3.trans k4)).trans (k5.trans k6)).trans ka⟩

set_option maxRecDepth 100000 in
set_option maxHeartbeats 8000000 in
theorem expr_c (n : Nat) (hE : ∀ j, j < n → CX 34 .expr j) (hL : ∀ j, j < n → CX 51 .list j) : CX 34 .expr n := by
  intro b s m w t m' h hP
  cases hb : m.isBad
  case true => exact CB.cx expr_bad rfl h hb hP
  cases hq0 : eqb m.tok.text ⟨#[108, 101, 116]⟩
  case true => exact expr_let n hE b s m w t m' h hb hq0 hP
  cases hq1 : eqb m.tok.text ⟨#[92]⟩
  case true => exact expr_fn n hE b s m w t m' h hb hq0 hq1 hP
  cases hq2 : eqb m.tok.text ⟨#[105, 102]⟩
  case true => exact expr_if n hE b s m w t m' h hb hq0 hq1 hq2 hP
  cases n with
  | zero => simp [PM] at hP
  | succ n =>
    simp only [PM] at hP
    rw [if_neg (by simp [isBad_of_bad hb]), if_neg (by simp [hq0]), if_neg (by simp [hq1]), if_neg (by simp [hq2])] at hP
    have HQ0 : Hid (m.has ⟨#[108, 101, 116]⟩ = false) := by unfold Hid; rw [has_of hb]; exact hq0
    have HQ1 : Hid (m.has ⟨#[92]⟩ = false) := by unfold Hid; rw [has_of hb]; exact hq1
    have HQ : Hid (m.has ⟨#[105, 102]⟩ = false) := by unfold Hid; rw [has_of hb]; exact hq2
    have HP : Hid (PM s n .list m = some (t, m')) := hP
    clear hP hb hq0 hq1 hq2
    go_enter Tryz.func34, Tryz.ntmps34
    go_wp2_with fail
    refine (takes_no _ HQ0.out h).mono ?_
    rintro e w0 ⟨rfl, rfl⟩
    go_wp2_with fail
    refine (takes_no _ HQ1.out h).mono ?_
    rintro e w0 ⟨rfl, rfl⟩
    go_wp2_with fail
    refine (takes_no _ HQ.out h).mono ?_
    rintro e w0 ⟨rfl, rfl⟩
    go_wp2_with fail
    refine (hL n (Nat.lt_succ_self n) b s m _ t m' h HP.out).mono ?_
    rintro e w1 ⟨v, rfl, hv, h1, k1⟩
    obtain ⟨p1, rfl⟩ := NodeAt.ptr _ _ hv
    go_wp2_with fail
    go_ret
    exact ⟨_, rfl, hv, h1, k1⟩
end Go.Proofs.YtjjlgjmebnkdjaaGreatDoor
