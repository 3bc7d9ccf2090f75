/-
  The document's reader: what a name stands for.
-/
import Derived.Test.YtjjlgjmebnkdjaaGreatDoorRefD
namespace Go.Proofs.YtjjlgjmebnkdjaaGreatDoor
open Go Go.Proofs Go.RowKit Skein

theorem lastIdx_none (x : ByteArray) : ∀ (l : List ByteArray), (∀ j (h : j < l.length), eqb l[j] x = false) → lastIdx x l = none := by
  intro l
  induction l with
  | nil => intro _; rfl
  | cons y r ih =>
    intro h
    have e : lastIdx x r = none := ih fun j hj => h (j + 1) (by simpa using hj)
    have e2 : eqb y x = false := h 0 (by simp)
    simp [lastIdx, e, e2]
theorem lastIdx_some (x : ByteArray) : ∀ (l : List ByteArray) (k : Nat) (hk : k < l.length), eqb l[k] x = true → (∀ j (h : j < l.length), k < j → eqb l[j] x = false) → lastIdx x l = some k := by
  intro l
  induction l with
  | nil => intro k hk; simp at hk
  | cons y r ih =>
    intro k hk he h
    cases k with
    | zero =>
      have e : lastIdx x r = none := lastIdx_none x r fun j hj => h (j + 1) (by simpa using hj) (by omega)
      have e2 : eqb y x = true := he
      simp [lastIdx, e, e2]
    | succ k =>
      have e := ih k (by simpa using hk) he fun j hj hlt => h (j + 1) (by simpa using hj) (by omega)
      simp [lastIdx, e]

theorem own_slice {w : World} {b n : Nat} {gv : Value} {xs : List Value} (h : w.ownsRow (b + 1) 9 1 gv n xs) : ∃ a c, gv = .slice a n c := by
  rcases h.2 with ⟨rfl, rfl⟩ | ⟨g, cap, cur, rfl, _⟩
  · exact ⟨_, _, rfl⟩
  · exact ⟨_, _, rfl⟩
theorem own_at {w : World} {b n : Nat} {gv : Value} {xs : List Value} (h : w.ownsRow (b + 1) 9 1 gv n xs) (hn : 0 < n) : ∃ g c, gv = .slice (some ⟨g, 0, none⟩) n c ∧ ∀ j u, xs[j]? = some u → w.cell? ⟨g, j, none⟩ = some u := by
  rcases h.2 with ⟨rfl, rfl⟩ | ⟨g, cap, cur, rfl, hb, hh, h1, h2, h3, h4⟩
  · omega
  · refine ⟨g, cap, rfl, fun j u hu => ?_⟩
    have := h.cells (g := g) rfl j u hu
    by_cases hj : j = 0
    · subst hj; simpa [Addr.add] using this
    · simpa [Addr.add, hj] using this

theorem RS.setFree {b s m w} (h : RS b s m w) (f : Int) : RS b s { m with free := f } (w.setCell ⟨b, 9, none⟩ (.int .i64 f)) ∧ Kp b w (w.setCell ⟨b, 9, none⟩ (.int .i64 f)) := by
  obtain ⟨gv, pl, hB, ho, hp⟩ := h.blk
  have hg : w.grownBy (w.setCell ⟨b, 9, none⟩ (.int .i64 f)) (some b) := grown_set (grown_refl _ _) 9 _
  exact ⟨⟨⟨gv, pl, RB.set hB 9 _, ho.kept hg (own_ne ho), hp⟩, ⟨h.inv.ex⟩, h.len, h.gl⟩, Kp.grown hg h.lt⟩

set_option maxRecDepth 100000 in
set_option maxHeartbeats 2000000 in
theorem named_rs {b s m w} (t : Tok) (u v : Bool) (h : RS b s m w) :
    Calls Tryz.prog 178 #[.pointer (some ⟨b, 0, none⟩), .agg #[.string t.text, .int .i64 t.at_, .bool u, .bool v]] w fun e w' => ∃ x, e = .returned x ∧ NodeAt b w' (named t m).1 x ∧ RS b s (named t m).2 w' ∧ Kp b w w' := by
  have hlt := h.lt
  have hl : m.given.length ≤ maxLen := by
    obtain ⟨gv, pl, hB, ho, hp⟩ := h.blk
    rcases ho.2 with ⟨rfl, h0⟩ | ⟨g, cap, cur, rfl, hb, hh, h1, h2, h3, h4⟩
    · omega
    · omega
  unfold maxLen at hl
  obtain ⟨gv, pl, hB, ho, hp⟩ := (h.alloc (.cells #[.string t.text, .int .i64 t.at_, .bool u, .bool v] 60 (0, 0))).blk
  obtain ⟨ga, gc, rfl⟩ := own_slice ho
  obtain ⟨c0, c1, c2, c3, c4, c5, c6, c7, c8, c9, hf, hlt0⟩ := hB.cells
  go_enter Tryz.func178, Tryz.ntmps178
  go_wp2_with fail
  have hW := h.alloc (.cells #[.string t.text, .int .i64 t.at_, .bool u, .bool v] 60 (0, 0))
  have hK := (Kp.refl b w).alloc (Nat.le_of_lt hlt) (.cells #[.string t.text, .int .i64 t.at_, .bool u, .bool v] 60 (0, 0))
  have hbox : (w.alloc (.cells #[.string t.text, .int .i64 t.at_, .bool u, .bool v] 60 (0, 0))).heap[w.heap.size]? = some (.cells #[.string t.text, .int .i64 t.at_, .bool u, .bool v] 60 (0, 0)) := alloc_at _ _ _ rfl
  clear hB ho hp c0 c1 c2 c3 c4 c5 c6 c7 c8 c9 hf hlt0
  generalize w.alloc (.cells #[.string t.text, .int .i64 t.at_, .bool u, .bool v] 60 (0, 0)) = W at hW hK hbox ⊢
  go_loopw [5] (fun i wr => ∃ k : Nat, k ≤ m.given.length ∧ i = .int .i64 ((k : Int) - 1) ∧ RS b s m wr ∧ Kp b W wr ∧ Hid (∀ j (h : j < m.given.length), k ≤ j → eqb m.given[j] t.text = false)) (fun i _ => (intOf i + 1).toNat)
  case atStart => exact ⟨m.given.length, Nat.le_refl _, rfl, hW, Kp.refl _ _, fun j h hj => by omega⟩
  case round =>
    obtain ⟨k, hk, rfl, hR, hKr, HN⟩ := hrel
    obtain ⟨x0, x1, x2, x3⟩ := cells4 (hKr.nodes w.heap.size _ 60 hlt (by decide) hbox)
    obtain ⟨gv, pl, hB, ho, hp⟩ := hR.blk
    obtain ⟨c0, c1, c2, c3, c4, c5, c6, c7, c8, c9, hf, hlt0⟩ := hB.cells
    cases k with
    | zero =>
      cases hfr : decide (m.free < 0)
      · have hfr' : ¬ m.free < 0 := by simpa using hfr
        have hnm : Hid (named t m = (.free, m)) := by
          unfold Hid named; rw [lastIdx_none _ _ fun j h => HN.out j h (Nat.zero_le _)]
          simp only [if_neg hfr']
        clear hfr hp ho
        go_wp2_with fail
        go_ret
        exact ⟨_, rfl, by rw [hnm.out]; exact ⟨_, rfl⟩, by rw [hnm.out]; exact hR.alloc _, (hK.trans hKr).alloc (Nat.le_of_lt hlt0) _⟩
      · have hfr' : m.free < 0 := by simpa using hfr
        have hnm : Hid (named t m = (.free, { m with free := (t.at_ : Int) })) := by
          unfold Hid named; rw [lastIdx_none _ _ fun j h => HN.out j h (Nat.zero_le _)]
          simp only [if_pos hfr']
        clear hfr
        go_wp2_with fail
        go_ret
        obtain ⟨hS, hKS⟩ := hR.setFree t.at_
        exact ⟨_, rfl, by rw [hnm.out]; exact ⟨_, rfl⟩, by rw [hnm.out]; exact hS.alloc _, ((hK.trans hKr).trans hKS).alloc (Nat.le_of_lt hS.lt) _⟩
    | succ k =>
      obtain ⟨g, cc, rfl, hcell⟩ := own_at ho (by omega)
      have hck : wr.cell? ⟨g, k, none⟩ = some (.string m.given[k]) := hcell k _ (by simp)
      clear hcell
      cases hq : eqb m.given[k] t.text
      · have hq2 : (m.given[k].toList == t.text.toList) = false := by rw [eqb_walk, hq]
        have HQ : Hid (eqb m.given[k] t.text = false) := hq
        clear hq
        go_wp2_with fail
        go_quiet (fail)
        go_wp2_with fail
        exact ⟨⟨k, by omega, rfl, hR.drewN _, hKr.drewN _, fun j h hj => by
          by_cases e : j = k
          · subst e; exact HQ.out
          · exact HN.out j h (by omega)⟩, by simp [intOf]⟩
      · have hq2 : (m.given[k].toList == t.text.toList) = true := by rw [eqb_walk, hq]
        have HQ : Hid (eqb m.given[k] t.text = true) := hq
        clear hq
        go_wp2_with fail
        go_quiet (fail)
        go_wp2_with fail
        go_ret
        have hnm : named t m = (.var k, m) := by
          unfold named; rw [lastIdx_some t.text m.given k (by omega) HQ.out (fun j h hj => HN.out j h (by omega))]
        rw [hnm, show ((k + 1 : Nat) : Int) - 1 = (k : Int) by omega]
        exact ⟨_, rfl, IsN.made _ _ _ _ _ hlt0, (hR.drewN _).alloc _, ((hK.trans hKr).drewN _).alloc (Nat.le_of_lt hlt0) _⟩
end Go.Proofs.YtjjlgjmebnkdjaaGreatDoor
