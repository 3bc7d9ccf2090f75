/-
  The document's reader: its state as the plain model's, and takes, wants, gives, begins.
-/
import Derived.Test.YtjjlgjmebnkdjaaGreatDoorRefB
namespace Go.Proofs.YtjjlgjmebnkdjaaGreatDoor
open Go Go.Proofs Go.RowKit Skein

structure RS (b : Nat) (s : ByteArray) (m : M) (w : World) : Prop where
  blk : ∃ gv pl, RB b s ((m.tok.at_ : Int) + (m.tok.text.size : Int)) m.tok.text m.tok.at_ (m.tok.k == .num) (m.tok.k == .name) gv m.isBad pl m.free w ∧
    w.ownsRow (b + 1) 9 1 gv m.given.length (m.given.map Value.string) ∧ (m.isBad = true → pl = m.place)
  inv : Inv s m
  len : s.size ≤ 300
  gl : m.given.length ≤ m.tok.at_

/-- What was below the reader is as it was; beyond it no block but those of texts has turned. -/
structure Kp (b : Nat) (w w' : World) : Prop where
  below : Below b w w'
  nodes : ∀ k cs T, b < k → T ≠ 9 → w.heap[k]? = some (.cells cs T (0, 0)) → w'.heap[k]? = some (.cells cs T (0, 0))

theorem Kp.refl (b : Nat) (w : World) : Kp b w w := ⟨Below.refl _ _, fun _ _ _ _ _ h => h⟩
theorem Kp.trans {b : Nat} {w w1 w2 : World} (h : Kp b w w1) (k : Kp b w1 w2) : Kp b w w2 :=
  ⟨h.below.trans k.below, fun j cs T hj hT e => k.nodes j cs T hj hT (h.nodes j cs T hj hT e)⟩
theorem Kp.grown {b : Nat} {w w' : World} (h : w.grownBy w' (some b)) (hb : b < w.heap.size) : Kp b w w' :=
  ⟨⟨h.os, h.tape, h.output, h.size, fun k hk => h.block k (by omega) (by intro e; cases e; omega)⟩,
   fun k cs T hk _ e => by rw [h.block k (Array.getElem?_eq_some_iff.1 e).1 (by intro e; cases e; omega)]; exact e⟩
theorem Kp.alloc {b : Nat} {w w' : World} (h : Kp b w w') (hb : b ≤ w'.heap.size) (o : Obj) : Kp b w (w'.alloc o) :=
  h.trans ⟨(Below.refl _ _).alloc hb o, fun k cs T _ _ e => by rw [Below.heap_alloc _ _ _ (Array.getElem?_eq_some_iff.1 e).1]; exact e⟩

theorem own_ne {w : World} {b : Nat} {gv : Value} {n : Nat} {xs : List Value} (h : w.ownsRow (b + 1) 9 1 gv n xs) : gv.ownBlock = none ∨ gv.ownBlock ≠ some b := by
  cases e : gv.ownBlock with
  | none => exact .inl rfl
  | some k =>
    right; intro e'; cases e'
    have := h.lt _ e; omega

theorem RS.lt {b s m w} (h : RS b s m w) : b < w.heap.size := by
  obtain ⟨gv, pl, hB, _⟩ := h.blk; exact hB.cells.2.2.2.2.2.2.2.2.2.2.2

theorem RS.alloc {b s m w} (h : RS b s m w) (o : Obj) : RS b s m (w.alloc o) := by
  obtain ⟨gv, pl, hB, ho, hp⟩ := h.blk
  exact ⟨⟨gv, pl, hB.alloc o, ho.alloc o, hp⟩, h.inv, h.len, h.gl⟩
theorem RS.drewN {b s m w} (h : RS b s m w) (n : Nat) : RS b s m (w.drewN n) := ⟨h.blk, h.inv, h.len, h.gl⟩
theorem RS.drew {b s m w} (h : RS b s m w) : RS b s m w.drew := ⟨h.blk, h.inv, h.len, h.gl⟩

/-- A fault that stands already. -/
theorem RS.fail_bad {b s m w} (h : RS b s m w) (hb : m.isBad = true) : RS b s m.fail w := by
  obtain ⟨gv, pl, hB, ho, hp⟩ := h.blk
  have e1 : m.fail.isBad = true := by simp [M.fail, M.isBad]
  have e2 : m.fail.place = m.place := by simp [M.fail, M.place]
  refine ⟨⟨gv, pl, ?_, ho, fun _ => by rw [e2]; exact hp hb⟩, h.inv.fail, h.len, h.gl⟩
  rw [e1]; rw [hb] at hB; exact hB

theorem adv_behind (s : ByteArray) (m : M) : m.tok.at_ + m.tok.text.size ≤ (m.adv s).tok.at_ := by
  show _ ≤ (tok s _).at_
  rw [tok_at]; exact skip_ge _ _
theorem adv_at_ge (s : ByteArray) (m : M) : m.tok.at_ ≤ (m.adv s).tok.at_ := Nat.le_trans (Nat.le_add_right _ _) (adv_behind s m)
theorem gives_at_ge (s : ByteArray) (m : M) : m.tok.at_ ≤ (m.gives s).2.tok.at_ := by
  unfold M.gives; split
  · exact adv_at_ge s m
  · exact Nat.le_refl _
theorem want_at_ge (s x : ByteArray) (m : M) : m.tok.at_ ≤ (m.want s x).tok.at_ := by
  unfold M.want; split
  · exact adv_at_ge s m
  · exact Nat.le_refl _

/-- The next sign. -/
theorem next_rs {b s m w} (h : RS b s m w) (hb : m.isBad = false) :
    Calls Tryz.prog 33 #[.pointer (some ⟨b, 0, none⟩)] w fun e w' => e = .returned (.tuple #[]) ∧ RS b s (m.adv s) w' ∧ Kp b w w' := by
  obtain ⟨gv, pl, hB, ho, hp⟩ := h.blk
  rw [hb] at hB
  have hB' : RB b s ((m.tok.at_ + m.tok.text.size : Nat) : Int) m.tok.text m.tok.at_ (m.tok.k == .num) (m.tok.k == .name) gv false pl m.free w := by
    push_cast; exact hB
  refine (next_any b s _ _ _ _ _ gv pl m.free w h.len h.inv.behind hB').mono ?_
  rintro e w' ⟨rfl, hg, pl', hB2, hpl⟩
  have hbn : m.bad = none := by
    unfold M.isBad at hb; cases hm : m.bad <;> simp_all
  have e1 : (m.adv s).isBad = ((tok s (m.tok.at_ + m.tok.text.size)).k == .bad) := by
    simp [M.isBad, M.adv, hbn]
  have e2 : (m.adv s).place = (tok s (m.tok.at_ + m.tok.text.size)).at_ := by
    simp [M.place, M.adv, hbn]
  refine ⟨rfl, ⟨⟨gv, pl', ?_, ho.kept hg (own_ne ho), fun hx => ?_⟩, h.inv.adv, h.len, Nat.le_trans h.gl (adv_at_ge s m)⟩, Kp.grown hg h.lt⟩
  · rw [e1]; exact hB2
  · rw [e2]; rw [e1] at hx; exact hpl (beq_iff_eq.1 hx)

/-- A fault at the sign that stands there. -/
theorem fails_rs {b s m w} (h : RS b s m w) :
    Calls Tryz.prog 35 #[.pointer (some ⟨b, 0, none⟩), .int .i64 m.tok.at_] w fun e w' => e = .returned (.tuple #[]) ∧ RS b s m.fail w' ∧ Kp b w w' := by
  obtain ⟨gv, pl, hB, ho, hp⟩ := h.blk
  obtain ⟨c0, c1, c2, c3, c4, c5, c6, c7, c8, c9, hf, hlt0⟩ := hB.cells
  cases hb : m.isBad
  · rw [hb] at c7 hB
    refine (fails_ok b _ w c7 hf ⟨_, c8⟩).mono ?_
    rintro e w' ⟨rfl, rfl⟩
    have hg : w.grownBy ((w.setCell ⟨b, 7, none⟩ (.bool true)).setCell ⟨b, 8, none⟩ (.int .i64 m.tok.at_)) (some b) := grown_set (grown_set (grown_refl _ _) 7 _) 8 _
    have e1 : m.fail.isBad = true := by simp [M.fail, M.isBad]
    have hbn : m.bad = none := by
      unfold M.isBad at hb; cases hm : m.bad <;> simp_all
    have e2 : m.fail.place = m.tok.at_ := by simp [M.fail, M.place, hbn]
    refine ⟨rfl, ⟨⟨gv, m.tok.at_, ?_, ho.kept hg (own_ne ho), fun _ => by rw [e2]⟩, h.inv.fail, h.len, h.gl⟩, Kp.grown hg h.lt⟩
    rw [e1]
    exact RB.set (RB.set hB 7 _) 8 _
  · rw [hb] at c7
    refine (fails_bad b _ w c7).mono ?_
    rintro e w' ⟨rfl, rfl⟩
    exact ⟨rfl, h.fail_bad hb, Kp.refl _ _⟩

theorem isBad_of_bad {m : M} (h : m.isBad = false) : m.bad = none := by
  unfold M.isBad at h; cases hm : m.bad <;> simp_all
theorem isBad_kind {m : M} (h : m.isBad = false) : (m.tok.k == .bad) = false := by
  unfold M.isBad at h; cases hm : m.bad <;> simp_all

theorem tokAt_bad_text (s : ByteArray) (a : Nat) (h : (tokAt s a).k = .bad) : (tokAt s a).text = ⟨#[]⟩ := by
  revert h; unfold tokAt
  repeat' split
  all_goals (intro h; first | rfl | cases h)
theorem RS.bad_text {b s m w} (h : RS b s m w) (hk : m.tok.k = .bad) : m.tok.text = ⟨#[]⟩ := by
  obtain ⟨i, _, e⟩ := h.inv.ex
  rw [e] at hk ⊢; exact tokAt_bad_text s _ hk

/-- Where a fault stands no sign is had. -/
theorem RS.has_bad {b s m w} (h : RS b s m w) (hb : m.isBad = true) (x : ByteArray) (hx : x.data.toList ≠ []) : m.has x = false := by
  unfold M.has
  cases hm : m.bad
  · have hk : m.tok.k = .bad := by unfold M.isBad at hb; simp [hm] at hb; exact hb
    have : eqb m.tok.text x = false := by
      rw [h.bad_text hk, eqb_ne]; rintro rfl; exact hx rfl
    simp [this]
  · simp

theorem has_eqb {m : M} {x : ByteArray} (h : m.has x = true) : m.bad = none ∧ eqb m.tok.text x = true := by
  unfold M.has at h; simpa using h
theorem RS.has_isBad {b s m w} (h : RS b s m w) {x : ByteArray} (hx : x.data.toList ≠ []) (hh : m.has x = true) : m.isBad = false := by
  cases hb : m.isBad
  · rfl
  · rw [h.has_bad hb x hx] at hh; cases hh

set_option maxRecDepth 100000 in
set_option maxHeartbeats 1000000 in
theorem takes_yes {b s m w} (x : ByteArray) (hx : x.data.toList ≠ []) (hh : m.has x = true) (h : RS b s m w) :
    Calls Tryz.prog 48 #[.pointer (some ⟨b, 0, none⟩), .string x] w fun e w' => e = .returned (.bool true) ∧ RS b s (m.adv s) w' ∧ Kp b w w' := by
  obtain ⟨gv, pl, hB, ho, hp⟩ := h.blk
  obtain ⟨c0, c1, c2, c3, c4, c5, c6, c7, c8, c9, hf, hlt0⟩ := hB.cells
  have HB : Hid (m.isBad = false) := h.has_isBad hx hh
  rw [HB.out] at c7
  have hq2 : (m.tok.text.toList == x.toList) = true := by rw [eqb_walk]; exact (has_eqb hh).2
  clear hh
  go_enter Tryz.func48, Tryz.ntmps48
  go_wp2_with fail
  refine (next_rs h HB.out).mono ?_
  rintro e w1 ⟨rfl, h1, hk⟩
  go_wp2_with fail
  go_ret
  exact ⟨rfl, h1, hk⟩

set_option maxRecDepth 100000 in
set_option maxHeartbeats 1000000 in
theorem takes_no {b s m w} (x : ByteArray) (hh : m.has x = false) (h : RS b s m w) :
    Calls Tryz.prog 48 #[.pointer (some ⟨b, 0, none⟩), .string x] w fun e w' => e = .returned (.bool false) ∧ w' = w := by
  obtain ⟨gv, pl, hB, ho, hp⟩ := h.blk
  obtain ⟨c0, c1, c2, c3, c4, c5, c6, c7, c8, c9, hf, hlt0⟩ := hB.cells
  cases hb : m.isBad
  · rw [hb] at c7
    have hq2 : (m.tok.text.toList == x.toList) = false := by
      rw [eqb_walk]; unfold M.has at hh; rw [isBad_of_bad hb] at hh; simpa using hh
    clear hh hb
    go_enter Tryz.func48, Tryz.ntmps48
    go_wp2_with fail
    go_ret
    exact ⟨rfl, rfl⟩
  · rw [hb] at c7
    clear hh hb
    go_enter Tryz.func48, Tryz.ntmps48
    go_wp2_with fail
    go_ret
    exact ⟨rfl, rfl⟩

set_option maxRecDepth 100000 in
set_option maxHeartbeats 1000000 in
theorem wants_rs {b s m w} (x : ByteArray) (hx : x.data.toList ≠ []) (h : RS b s m w) :
    Calls Tryz.prog 50 #[.pointer (some ⟨b, 0, none⟩), .string x] w fun e w' => e = .returned (.tuple #[]) ∧ RS b s (m.want s x) w' ∧ Kp b w w' := by
  cases hh : m.has x
  · have HH : Hid (m.has x = false) := hh
    clear hh
    go_enter Tryz.func50, Tryz.ntmps50
    go_wp2_with fail
    refine (takes_no x HH.out h).mono ?_
    rintro e w1 ⟨rfl, rfl⟩
    obtain ⟨gv, pl, hB, ho, hp⟩ := h.blk
    obtain ⟨c0, c1, c2, c3, c4, c5, c6, c7, c8, c9, hf, hlt0⟩ := hB.cells
    go_wp2_with fail
    refine (fails_rs h).mono ?_
    rintro e w2 ⟨rfl, h2, hk2⟩
    go_wp2_with fail
    go_end0
    refine ⟨rfl, ?_, hk2⟩
    unfold M.want; rw [HH.out]; exact h2
  · have HH : Hid (m.has x = true) := hh
    clear hh
    go_enter Tryz.func50, Tryz.ntmps50
    go_wp2_with fail
    refine (takes_yes x hx HH.out h).mono ?_
    rintro e w1 ⟨rfl, h1, hk⟩
    go_wp2_with fail
    go_end0
    refine ⟨rfl, ?_, hk⟩
    unfold M.want; rw [HH.out]; exact h1

set_option maxRecDepth 100000 in
set_option maxHeartbeats 1000000 in
theorem gives_rs {b s m w} (h : RS b s m w) :
    Calls Tryz.prog 49 #[.pointer (some ⟨b, 0, none⟩)] w fun e w' => e = .returned (.string (m.gives s).1) ∧ RS b s (m.gives s).2 w' ∧ Kp b w w' := by
  obtain ⟨gv, pl, hB, ho, hp⟩ := h.blk
  obtain ⟨c0, c1, c2, c3, c4, c5, c6, c7, c8, c9, hf, hlt0⟩ := hB.cells
  cases hb : m.isBad
  · have hbn := isBad_of_bad hb
    rw [hb] at c7
    cases hn : (m.tok.k == .name)
    · rw [hn] at c5
      have hgv : Hid (m.gives s = (⟨#[]⟩, m.fail)) := by simp [Hid, M.gives, hn]
      clear hn hbn hb
      go_enter Tryz.func49, Tryz.ntmps49
      go_wp2_with fail
      refine (fails_rs h).mono ?_
      rintro e w2 ⟨rfl, h2, hk2⟩
      go_wp2_with fail
      go_ret
      rw [hgv.out]
      exact ⟨rfl, h2, hk2⟩
    · rw [hn] at c5
      have hgv : Hid (m.gives s = (m.tok.text, m.adv s)) := by simp [Hid, M.gives, hn, hbn]
      have HB : Hid (m.isBad = false) := hb
      clear hn hbn hb
      go_enter Tryz.func49, Tryz.ntmps49
      go_wp2_with fail
      refine (next_rs h HB.out).mono ?_
      rintro e w2 ⟨rfl, h2, hk2⟩
      go_wp2_with fail
      go_ret
      rw [hgv.out]
      exact ⟨rfl, h2, hk2⟩
  · rw [hb] at c7
    have hgv : Hid (m.gives s = (⟨#[]⟩, m.fail)) := by
      unfold Hid M.gives
      rw [if_neg]
      intro hx
      simp only [Bool.and_eq_true, beq_iff_eq] at hx
      have : m.bad = none := by simpa using hx.1
      unfold M.isBad at hb
      rw [this, hx.2] at hb
      simp at hb
    clear hb
    go_enter Tryz.func49, Tryz.ntmps49
    go_wp2_with fail
    refine (fails_rs h).mono ?_
    rintro e w2 ⟨rfl, h2, hk2⟩
    go_wp2_with fail
    go_ret
    rw [hgv.out]
    exact ⟨rfl, h2, hk2⟩

theorem openers_bad : mem openers ⟨#[]⟩ = false := by decide

theorem RS.begins_bad {b s m w} (h : RS b s m w) (hb : m.isBad = true) : m.begins = false := by
  unfold M.begins
  cases hm : m.bad
  · have hk : m.tok.k = .bad := by unfold M.isBad at hb; simp [hm] at hb; exact hb
    rw [h.bad_text hk, hk, openers_bad]; rfl
  · rfl

set_option maxRecDepth 100000 in
set_option maxHeartbeats 1000000 in
theorem begins_rs {b s m w} (h : RS b s m w) :
    Calls Tryz.prog 168 #[.pointer (some ⟨b, 0, none⟩)] w fun e w' => e = .returned (.bool m.begins) ∧ RS b s m w' ∧ Kp b w w' := by
  obtain ⟨gv, pl, hB, ho, hp⟩ := h.blk
  obtain ⟨c0, c1, c2, c3, c4, c5, c6, c7, c8, c9, hf, hlt0⟩ := hB.cells
  cases hb : m.isBad
  · have hbn := isBad_of_bad hb
    have hbg : m.begins = (m.tok.k == .num || m.tok.k == .name || mem openers m.tok.text) := by simp [M.begins, hbn]
    clear hbn
    cases hnu : (m.tok.k == .num)
    · cases hna : (m.tok.k == .name)
      · have hfin : Hid (m.begins = mem openers m.tok.text) := by unfold Hid; rw [hbg, hnu, hna]; rfl
        have HU : Hid (m.isBad = false ∧ (m.tok.k == .num) = false ∧ (m.tok.k == .name) = false) := ⟨hb, hnu, hna⟩
        clear hnu hna hbg hb
        go_enter Tryz.func168, Tryz.ntmps168
        go_wp2_with fail
        refine (in_list openers 5 rfl (by decide) _ _ 9 _ (alloc_at _ _ _ (by first | rfl | simp))).mono ?_
        rintro e w1 ⟨rfl, rfl⟩
        have hW := h.alloc (.cells (List.map Value.string openers).toArray 9 (0, 0))
        have hK := (Kp.refl b w).alloc (Nat.le_of_lt hlt0) (.cells (List.map Value.string openers).toArray 9 (0, 0))
        generalize w.alloc (.cells (List.map Value.string openers).toArray 9 (0, 0)) = W at hW hK ⊢
        clear c0 c1 c2 c3 c4 c5 c6 c7 c8 c9 hf hlt0 ho hp hB
        obtain ⟨gv, pl, hB, ho, hp⟩ := hW.blk
        obtain ⟨c0, c1, c2, c3, c4, c5, c6, c7, c8, c9, hf, hlt0⟩ := hB.cells
        rw [HU.out.1] at c7; rw [HU.out.2.1] at c4; rw [HU.out.2.2] at c5
        go_wp2_with fail
        go_ret
        exact ⟨ret_bool hfin.out.symm, hW, hK⟩
      · have hfin : Hid (m.begins = true) := by unfold Hid; rw [hbg, hnu, hna]; rfl
        have HU : Hid (m.isBad = false ∧ (m.tok.k == .num) = false ∧ (m.tok.k == .name) = true) := ⟨hb, hnu, hna⟩
        clear hnu hna hbg hb
        go_enter Tryz.func168, Tryz.ntmps168
        go_wp2_with fail
        refine (in_list openers 5 rfl (by decide) _ _ 9 _ (alloc_at _ _ _ (by first | rfl | simp))).mono ?_
        rintro e w1 ⟨rfl, rfl⟩
        have hW := h.alloc (.cells (List.map Value.string openers).toArray 9 (0, 0))
        have hK := (Kp.refl b w).alloc (Nat.le_of_lt hlt0) (.cells (List.map Value.string openers).toArray 9 (0, 0))
        generalize w.alloc (.cells (List.map Value.string openers).toArray 9 (0, 0)) = W at hW hK ⊢
        clear c0 c1 c2 c3 c4 c5 c6 c7 c8 c9 hf hlt0 ho hp hB
        obtain ⟨gv, pl, hB, ho, hp⟩ := hW.blk
        obtain ⟨c0, c1, c2, c3, c4, c5, c6, c7, c8, c9, hf, hlt0⟩ := hB.cells
        rw [HU.out.1] at c7; rw [HU.out.2.1] at c4; rw [HU.out.2.2] at c5
        go_wp2_with fail
        go_ret
        exact ⟨ret_bool hfin.out.symm, hW, hK⟩
    · have hfin : Hid (m.begins = true) := by unfold Hid; rw [hbg, hnu]; rfl
      have HU : Hid (m.isBad = false ∧ (m.tok.k == .num) = true) := ⟨hb, hnu⟩
      clear hnu hbg hb
      go_enter Tryz.func168, Tryz.ntmps168
      go_wp2_with fail
      refine (in_list openers 5 rfl (by decide) _ _ 9 _ (alloc_at _ _ _ (by first | rfl | simp))).mono ?_
      rintro e w1 ⟨rfl, rfl⟩
      have hW := h.alloc (.cells (List.map Value.string openers).toArray 9 (0, 0))
      have hK := (Kp.refl b w).alloc (Nat.le_of_lt hlt0) (.cells (List.map Value.string openers).toArray 9 (0, 0))
      generalize w.alloc (.cells (List.map Value.string openers).toArray 9 (0, 0)) = W at hW hK ⊢
      clear c0 c1 c2 c3 c4 c5 c6 c7 c8 c9 hf hlt0 ho hp hB
      obtain ⟨gv, pl, hB, ho, hp⟩ := hW.blk
      obtain ⟨c0, c1, c2, c3, c4, c5, c6, c7, c8, c9, hf, hlt0⟩ := hB.cells
      rw [HU.out.1] at c7; rw [HU.out.2] at c4
      go_wp2_with fail
      go_ret
      exact ⟨ret_bool hfin.out.symm, hW, hK⟩
  · have hfin : Hid (m.begins = false) := h.begins_bad hb
    have HU : Hid (m.isBad = true) := hb
    clear hb
    go_enter Tryz.func168, Tryz.ntmps168
    go_wp2_with fail
    refine (in_list openers 5 rfl (by decide) _ _ 9 _ (alloc_at _ _ _ (by first | rfl | simp))).mono ?_
    rintro e w1 ⟨rfl, rfl⟩
    have hW := h.alloc (.cells (List.map Value.string openers).toArray 9 (0, 0))
    have hK := (Kp.refl b w).alloc (Nat.le_of_lt hlt0) (.cells (List.map Value.string openers).toArray 9 (0, 0))
    generalize w.alloc (.cells (List.map Value.string openers).toArray 9 (0, 0)) = W at hW hK ⊢
    clear c0 c1 c2 c3 c4 c5 c6 c7 c8 c9 hf hlt0 ho hp hB
    obtain ⟨gv, pl, hB, ho, hp⟩ := hW.blk
    obtain ⟨c0, c1, c2, c3, c4, c5, c6, c7, c8, c9, hf, hlt0⟩ := hB.cells
    rw [HU.out] at c7
    go_wp2_with fail
    go_ret
    exact ⟨ret_bool hfin.out.symm, hW, hK⟩

end Go.Proofs.YtjjlgjmebnkdjaaGreatDoor
