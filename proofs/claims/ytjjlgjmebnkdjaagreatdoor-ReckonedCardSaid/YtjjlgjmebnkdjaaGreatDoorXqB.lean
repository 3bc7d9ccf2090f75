/-
  'expression' of skeinkeep: the walk (for Reckoned, Idle, Once).
-/
import Derived.Test.YtjjlgjmebnkdjaaGreatDoorWg02
import Derived.Deep.RegionLaw
import Derived.Deep.RegionHeld3
import Derived.WalkSmall
import Derived.Deep.Cut
import Derived.Deep.CutRange
namespace Go.Proofs.YtjjlgjmebnkdjaaGreatDoor
open Go Go.Proofs Go.RowKit Skein

/-- What a block does behind its end, it does behind its body's. -/
theorem unblock {P : Program} {s : Code} {id : Nat} {K : Act → World → Prop} {Q' : Exit → Act → World → Prop} {a : Act} {w : World} (h : s.wp P (Exit.then K (Exit.inBlock id (Exit.then K Q'))) a w) : s.wp P (Exit.inBlock id (Exit.then K Q')) a w := by
  refine Code.wp_mono ?_ h
  intro e a' w' hq
  cases e <;> exact hq

set_option maxRecDepth 100000 in
set_option maxHeartbeats 16000000 in
theorem expression_ok (ra : Option Addr) (rl rc : Nat) (w : World) (_hrl : rl ≤ 9223372036854775807)
    (hR : ∀ j, j < rl → ∃ a n, ra = some a ∧ w.cell? (a.add j) = some (.int .i64 n) ∧ Skein.Int64 n) :
    Calls Tryz.prog 19 #[.slice ra rl rc] w fun e w' => ∃ x : X, x.ok ∧ x.txt.length ≤ 110 ∧ e = .returned (.agg #[.string ⟨x.txt.toArray⟩, .int .i64 x.n]) ∧ Below w.heap.size w w' := by
  obtain ⟨i0, hi0, hz0, hz1, hz2⟩ := info_parts info26
  have HR : Hid (∀ w', Below w.heap.size w w' → ∀ j, j < rl → ∃ a n, ra = some a ∧ w'.cell? (a.add j) = some (.int .i64 n) ∧ Skein.Int64 n) := fun w' hb j hj => by
    obtain ⟨a, n, h1, h2, h3⟩ := hR j hj
    refine ⟨a, n, h1, ?_, h3⟩
    have hlt : (a.add j).block < w.heap.size := by
      rcases Nat.lt_or_ge (a.add j).block w.heap.size with h | h
      · exact h
      · unfold World.cell? at h2; rw [Array.getElem?_eq_none h] at h2; cases h2
    rw [hb.cell hlt]; exact h2
  clear hR
  have g1 := grown_alloc (grown_refl w none) (.cells #[.string ⟨#[]⟩, .int .i64 0] 26 (0, 0))
  have g2 := grown_alloc (grown_refl (w.alloc (.cells #[.string ⟨#[]⟩, .int .i64 0] 26 (0, 0))) none) (.cells #[.string ⟨#[55]⟩, .int .i64 7] 26 (0, 0))
  have hr0 := keepB' (alloc_at w (.cells #[.string ⟨#[]⟩, .int .i64 0] 26 (0, 0)) _ rfl) g2
  have hx0 := alloc_at (w.alloc (.cells #[.string ⟨#[]⟩, .int .i64 0] 26 (0, 0))) (.cells #[.string ⟨#[55]⟩, .int .i64 7] 26 (0, 0)) (w.heap.size + 1) (by rw [alloc_size])
  have HX0 : Hid (XS (w.heap.size + 1) ((w.alloc (.cells #[.string ⟨#[]⟩, .int .i64 0] 26 (0, 0))).alloc (.cells #[.string ⟨#[55]⟩, .int .i64 7] 26 (0, 0))) (.slice (some ⟨w.heap.size + 1, 0, none⟩) 1 1) [.num [55]]) :=
    ⟨⟨rfl, .inr ⟨w.heap.size + 1, 1, _, rfl, Nat.le_refl _, hx0, Nat.le_refl _, by decide, rfl, rfl⟩⟩, fun x hx => by rw [List.mem_singleton.1 hx]; exact ⟨⟨by simp, by simp, by intro c hc; rw [List.mem_singleton.1 hc]; decide⟩, by decide⟩, by simp⟩
  have hB0 : Below w.heap.size w _ := (Below.refl _ w).grown (grown_trans g1 g2) (Nat.le_refl _) (by simp)
  clear g1 g2 hx0
  go_enter Tryz.func19, Tryz.ntmps19
  go_wp2_with fail
  go_loopw [3, 4] (fun v u wr => ∃ (i : Nat) (xs : List X), i ≤ 12 ∧ u = .int .i64 i ∧ Hid (XS (w.heap.size + 1) wr v xs) ∧ xs.length ≤ i + 1 ∧ Below w.heap.size w wr ∧ wr.heap[w.heap.size]? = some (.cells #[.string ⟨#[]⟩, .int .i64 0] 26 (0, 0))) (fun v u _ => 12 - (intOf u).toNat)
  case atStart => exact ⟨0, _, by omega, rfl, HX0, by simp, hB0, hr0⟩
  case round =>
    obtain ⟨i, xs, hi, rfl, HX, hxl, hB, hrb⟩ := hrel
    obtain ⟨g, cap, rfl, hgb, hcap, hcl, htk⟩ := own_cells HX.out.own HX.out.ne
    have hnn : 1 ≤ xs.length := by
      have := HX.out.ne
      rcases xs with _ | ⟨x, r⟩
      · exact absurd rfl this
      · simp
    have hglt : g < wr.heap.size := by
      have := (hcl 0 (by omega)).1
      rcases Nat.lt_or_ge g wr.heap.size with h | h
      · exact h
      · simp [World.cell?, Array.getElem?_eq_none h] at this
    by_cases hgo : i < rl ∧ i < 12
    · obtain ⟨hi1, hi2⟩ := hgo
      obtain ⟨ad, n, rfl, hcn, hn64⟩ := HR.out _ hB i hi1
      have hi1' : (i : Int) < (rl : Int) := by omega
      have hi2' : (i : Int) < 12 := by omega
      have HP : Hid (∀ w, Calls Tryz.prog 24 #[.int .i64 n, .int .i64 1099511627776] w fun e w' => e = .returned (.int .i64 (pickN n 1099511627776)) ∧ w' = w) := fun w => pick_is n hn64 1099511627776 (by decide) (by decide) w
      have hpk : pickN n 1099511627776 < 1099511627776 := by
        unfold pickN
        split <;> exact Nat.mod_lt _ (by decide)
      generalize pickN n 1099511627776 = v at HP hpk
      go_wp2_with fail
      refine (HP.out _).mono ?_
      rintro e w1 ⟨rfl, rfl⟩
      clear HP HX0 hB0 hr0 hcn
      have hvd : v / 3 % 1000000 < 1000000 := Nat.mod_lt _ (by decide)
      have HD : Hid (∀ w, Calls Tryz.prog 22 #[.int .i64 ((v : Int) / 3 % 1000000)] w fun e w' => e = .returned (.string ⟨(Lib.decDigits (v / 3 % 1000000)).toArray⟩) ∧ w' = w) := fun w => by
        have := kdigits (v / 3 % 1000000) (by omega) w
        rw [show ((v / 3 % 1000000 : Nat) : Int) = (v : Int) / 3 % 1000000 by omega] at this
        exact this
      by_cases hnum : (((v : Int) % 3 == 0) || ((xs.length : Int) - 1 == 0)) = true
      · as_aux_lemma =>
          obtain ⟨hx1, hx2, hx3⟩ := xnum _ hvd
          have hcast : ((v / 3 % 1000000 : Nat) : Int) = (v : Int) / 3 % 1000000 := by omega
          go_wp2_with fail
          all_goals
            refine (HD.out _).mono ?_
            rintro e w2 ⟨rfl, rfl⟩
            clear HD
            go_wp2_with (at_builtin; refine wpList_append_own _ rfl _ _ 48 rfl (w.heap.size + 1) 26 i0 (.agg #[.string ByteArray.empty, .int .i64 0]) 2 24 Tryz.underlying48 hi0 hz0 hz1 hz2 rfl (by decide) _ _ _ rfl (HX.out.own.alloc _) ⟨w2.heap.size, 0, none⟩ 1 1 [.string ⟨(Lib.decDigits (v / 3 % 1000000)).toArray⟩, .int .i64 ((v : Int) / 3 % 1000000)] rfl rfl (cell_two_new _ _ _ _) (fun u hu => by simp at hu; rcases hu with rfl | rfl <;> rfl) (by unfold maxLen; omega) (by omega) (by have := heap_lt hrb; simp; omega) ?_; intro v' w3 hown' hgrow _; obtain ⟨g', cap', rfl⟩ := own_succ hown')
          all_goals
            refine ⟨⟨i + 1, xs ++ [X.num (Lib.decDigits (v / 3 % 1000000))], by omega, by push_cast; rfl, ?_, by simp; omega, ?_, ?_⟩, by simp only [intOf]; omega⟩
            all_goals have hgrow' : (w2.alloc (.cells #[.string ⟨(Lib.decDigits (v / 3 % 1000000)).toArray⟩, .int .i64 ((v : Int) / 3 % 1000000)] 26 (0, 0))).grownBy w3 (some g) := hgrow
            · exact XS.push (x := X.num (Lib.decDigits (v / 3 % 1000000))) (by rw [hx3, hcast]; exact hown') HX.out.ok hx1 hx2
            · exact (hB.alloc (Nat.le_of_lt (heap_lt hrb)) _).grown hgrow' (by have := heap_lt hrb; simp; omega) (fun k e => by simp only [Option.some.injEq] at e; omega)
            · rw [hgrow'.block _ (by have := heap_lt hrb; simp; omega) (fun e => by simp only [Option.some.injEq] at e; omega), Below.heap_alloc _ _ _ (heap_lt hrb)]
              exact hrb
      · have hn2 : 2 ≤ xs.length := by
          have : ¬ ((xs.length : Int) - 1 = 0) := fun e => hnum (by simp [e])
          omega
        have hnum1 : ((v : Int) % 3 == 0) = false := by
          cases h : ((v : Int) % 3 == 0)
          · rfl
          · exact absurd (by rw [h]; rfl) hnum
        have hnum2 : ((xs.length : Int) - 1 == 0) = false := by
          cases h : ((xs.length : Int) - 1 == 0)
          · rfl
          · exact absurd (by rw [h]; simp) hnum
        clear hnum HD
        obtain ⟨ca0, ca1⟩ := hcl (xs.length - 1 - 1) (by omega)
        obtain ⟨cb0, cb1⟩ := hcl (xs.length - 1) (by omega)
        obtain ⟨oka, la⟩ := HX.out.ok _ (List.getElem_mem (show xs.length - 1 - 1 < xs.length by omega))
        obtain ⟨okb, lb⟩ := HX.out.ok _ (List.getElem_mem (show xs.length - 1 < xs.length by omega))
        generalize xs[xs.length - 1 - 1] = xa at ca0 ca1 oka la
        generalize xs[xs.length - 1] = xb at cb0 cb1 okb lb
        have HT : Hid (w1.ownsRow (w.heap.size + 1) 26 2 (.slice (some ⟨g, 0, none⟩) (xs.length - 1 - 1) cap) (xs.length - 1 - 1) (xcells (xs.take (xs.length - 1 - 1)))) := htk _ (by omega)
        clear hcl htk
        have h6 : (v : Int) / 3 % 6 = 0 ∨ (v : Int) / 3 % 6 = 1 ∨ (v : Int) / 3 % 6 = 2 ∨ (v : Int) / 3 % 6 = 3 ∨ (v : Int) / 3 % 6 = 4 ∨ (v : Int) / 3 % 6 = 5 := by omega
        have HM : Hid (∀ (na : Int) (S : ByteArray) (z : Int), MW w g cap w1.heap.size (xs.length - 1 - 1) xs S z (((w1.alloc (.cells #[.string ⟨xa.txt.toArray⟩, .int .i64 na] 26 (0, 0))).alloc (.cells #[.string ⟨xb.txt.toArray⟩, .int .i64 xb.n] 26 (0, 0))).alloc (.cells #[.string S, .int .i64 z] 26 (0, 0)))) := fun na S z => m_world _ _ _ _ hB hrb HX.out HT.out
        have hwlt := heap_lt hrb
        clear HX HT hB
        go_upto_if 82 with fail
        refine unblock ?_
        go_cut [] from 13 to 174 (fun wx => ∃ (S : ByteArray) (z : Int) (x : X), Hid (MW w g cap w1.heap.size (xs.length - 1 - 1) xs S z wx) ∧ Hid ((⟨x.txt.toArray⟩ : ByteArray) = S ∧ x.n = z ∧ x.ok))
        case first =>
          rcases h6 with h6 | h6 | h6 | h6 | h6 | h6
          · as_aux_lemma =>
              have HE : Hid ((⟨(X.op true 43 xa xb).txt.toArray⟩ : ByteArray) = (⟨#[40]⟩ : ByteArray) ++ (⟨xa.txt.toArray⟩ : ByteArray) ++ (⟨#[32, 43, 32]⟩ : ByteArray) ++ (⟨xb.txt.toArray⟩ : ByteArray) ++ (⟨#[41]⟩ : ByteArray) ∧ (X.op true 43 xa xb).n = wrap64 (xa.n + xb.n) ∧ (X.op true 43 xa xb).ok) := ⟨x43 xa xb, wrap_eq _, .inl rfl, oka, okb⟩
              go_wp2_with fail
              go_meet
              exact ⟨_, _, _, HM.out _ _ _, HE⟩
          · as_aux_lemma =>
              have HE : Hid ((⟨(X.op false 45 xa xb).txt.toArray⟩ : ByteArray) = (⟨#[40]⟩ : ByteArray) ++ (⟨xa.txt.toArray⟩ : ByteArray) ++ (⟨#[45]⟩ : ByteArray) ++ (⟨xb.txt.toArray⟩ : ByteArray) ++ (⟨#[41]⟩ : ByteArray) ∧ (X.op false 45 xa xb).n = wrap64 (xa.n - xb.n) ∧ (X.op false 45 xa xb).ok) := ⟨x45 xa xb, wrap_eq _, .inr (.inl rfl), oka, okb⟩
              go_wp2_with fail
              go_meet
              exact ⟨_, _, _, HM.out _ _ _, HE⟩
          · as_aux_lemma =>
              have HE : Hid ((⟨(X.op true 42 xa xb).txt.toArray⟩ : ByteArray) = (⟨#[40]⟩ : ByteArray) ++ (⟨xa.txt.toArray⟩ : ByteArray) ++ (⟨#[32, 42, 32]⟩ : ByteArray) ++ (⟨xb.txt.toArray⟩ : ByteArray) ++ (⟨#[41]⟩ : ByteArray) ∧ (X.op true 42 xa xb).n = wrap64 (xa.n * xb.n) ∧ (X.op true 42 xa xb).ok) := ⟨x42 xa xb, wrap_eq _, .inr (.inr (.inl rfl)), oka, okb⟩
              go_wp2_with fail
              go_meet
              exact ⟨_, _, _, HM.out _ _ _, HE⟩
          · as_aux_lemma =>
              have HE : Hid ((⟨(X.op true 60 xa xb).txt.toArray⟩ : ByteArray) = (⟨#[40]⟩ : ByteArray) ++ (⟨xa.txt.toArray⟩ : ByteArray) ++ (⟨#[32, 60, 32]⟩ : ByteArray) ++ (⟨xb.txt.toArray⟩ : ByteArray) ++ (⟨#[41]⟩ : ByteArray) ∧ (X.op true 60 xa xb).n = tr (decide (xa.n < xb.n)) ∧ (X.op true 60 xa xb).ok) := ⟨x60 xa xb, rfl, .inr (.inr (.inr (.inr rfl))), oka, okb⟩
              have HW0 : Hid (MW w g cap w1.heap.size (xs.length - 1 - 1) xs ⟨#[]⟩ 0 _) := HM.out xa.n _ _
              have HA' : Hid _ := ab_world (w1 := w1) (.cells #[.string ⟨xa.txt.toArray⟩, .int .i64 xa.n] 26 (0, 0)) (.cells #[.string ⟨xb.txt.toArray⟩, .int .i64 xb.n] 26 (0, 0)) (.cells #[.string ⟨#[]⟩, .int .i64 0] 26 (0, 0))
              have hd1 : ¬ (w1.heap.size = w1.heap.size + 1 + 1) := by omega
              have hd2 : ¬ (w1.heap.size + 1 + 1 = w1.heap.size) := by omega
              have hd3 : ¬ (w1.heap.size + 1 = w1.heap.size + 1 + 1) := by omega
              have hd4 : ¬ (w1.heap.size + 1 + 1 = w1.heap.size + 1) := by omega
              clear HM hrb
              go_wp2_with fail
              revert HW0 HA'
              generalize ((w1.alloc _).alloc _).alloc _ = W0
              intro HW0 HA'
              obtain ⟨p0, p1, _⟩ := mcells HA'.out.1
              obtain ⟨q0, q1, _⟩ := mcells HA'.out.2
              obtain ⟨s0, s1, _⟩ := mcells HW0.out.m
              obtain ⟨f0, f1⟩ := mfroz HW0.out.m
              have HW : Hid (MW w g cap w1.heap.size (xs.length - 1 - 1) xs ((⟨#[40]⟩ : ByteArray) ++ (⟨xa.txt.toArray⟩ : ByteArray) ++ (⟨#[32, 60, 32]⟩ : ByteArray) ++ (⟨xb.txt.toArray⟩ : ByteArray) ++ (⟨#[41]⟩ : ByteArray)) (tr (decide (xa.n < xb.n))) _) := HW0.out.store' hglt hwlt _ _
              clear HW0 HA'
              go_region_held (fun wd => wd.cell? ⟨w1.heap.size, 0, none⟩ = some (.string ⟨xa.txt.toArray⟩) ∧ wd.cell? ⟨w1.heap.size, 1, none⟩ = some (.int .i64 xa.n) ∧ wd.cell? ⟨w1.heap.size + 1, 0, none⟩ = some (.string ⟨xb.txt.toArray⟩) ∧ wd.cell? ⟨w1.heap.size + 1, 1, none⟩ = some (.int .i64 xb.n)) (go_keep) (first | (go_at_call 30; refine (truth_ok _ _).mono ?_; rintro e w2 ⟨rfl, rfl⟩))
              all_goals
                go_wp2_with fail
                go_meet
                exact ⟨_, _, _, HW, HE⟩
          · as_aux_lemma =>
              have HE : Hid ((⟨(X.op false 61 xa xb).txt.toArray⟩ : ByteArray) = (⟨#[40]⟩ : ByteArray) ++ (⟨xa.txt.toArray⟩ : ByteArray) ++ (⟨#[61]⟩ : ByteArray) ++ (⟨xb.txt.toArray⟩ : ByteArray) ++ (⟨#[41]⟩ : ByteArray) ∧ (X.op false 61 xa xb).n = tr (xa.n == xb.n) ∧ (X.op false 61 xa xb).ok) := ⟨x61 xa xb, rfl, .inr (.inr (.inr (.inl rfl))), oka, okb⟩
              have HW0 : Hid (MW w g cap w1.heap.size (xs.length - 1 - 1) xs ⟨#[]⟩ 0 _) := HM.out xa.n _ _
              have HA' : Hid _ := ab_world (w1 := w1) (.cells #[.string ⟨xa.txt.toArray⟩, .int .i64 xa.n] 26 (0, 0)) (.cells #[.string ⟨xb.txt.toArray⟩, .int .i64 xb.n] 26 (0, 0)) (.cells #[.string ⟨#[]⟩, .int .i64 0] 26 (0, 0))
              have hd1 : ¬ (w1.heap.size = w1.heap.size + 1 + 1) := by omega
              have hd2 : ¬ (w1.heap.size + 1 + 1 = w1.heap.size) := by omega
              have hd3 : ¬ (w1.heap.size + 1 = w1.heap.size + 1 + 1) := by omega
              have hd4 : ¬ (w1.heap.size + 1 + 1 = w1.heap.size + 1) := by omega
              clear HM hrb
              go_wp2_with fail
              revert HW0 HA'
              generalize ((w1.alloc _).alloc _).alloc _ = W0
              intro HW0 HA'
              obtain ⟨p0, p1, _⟩ := mcells HA'.out.1
              obtain ⟨q0, q1, _⟩ := mcells HA'.out.2
              obtain ⟨s0, s1, _⟩ := mcells HW0.out.m
              obtain ⟨f0, f1⟩ := mfroz HW0.out.m
              have HW : Hid (MW w g cap w1.heap.size (xs.length - 1 - 1) xs ((⟨#[40]⟩ : ByteArray) ++ (⟨xa.txt.toArray⟩ : ByteArray) ++ (⟨#[61]⟩ : ByteArray) ++ (⟨xb.txt.toArray⟩ : ByteArray) ++ (⟨#[41]⟩ : ByteArray)) (tr (xa.n == xb.n)) _) := HW0.out.store' hglt hwlt _ _
              clear HW0 HA'
              go_region_held (fun wd => wd.cell? ⟨w1.heap.size, 0, none⟩ = some (.string ⟨xa.txt.toArray⟩) ∧ wd.cell? ⟨w1.heap.size, 1, none⟩ = some (.int .i64 xa.n) ∧ wd.cell? ⟨w1.heap.size + 1, 0, none⟩ = some (.string ⟨xb.txt.toArray⟩) ∧ wd.cell? ⟨w1.heap.size + 1, 1, none⟩ = some (.int .i64 xb.n)) (go_keep) (first | (go_at_call 30; refine (truth_ok _ _).mono ?_; rintro e w2 ⟨rfl, rfl⟩))
              all_goals
                go_wp2_with fail
                go_meet
                exact ⟨_, _, _, HW, HE⟩
          · as_aux_lemma =>
              by_cases hz : xa.n = 0
              · have HE : Hid ((⟨(X.ite xa xb).txt.toArray⟩ : ByteArray) = (⟨#[40, 105, 102, 32]⟩ : ByteArray) ++ (⟨xa.txt.toArray⟩ : ByteArray) ++ (⟨#[32, 116, 104, 101, 110, 32]⟩ : ByteArray) ++ (⟨xb.txt.toArray⟩ : ByteArray) ++ (⟨#[32, 101, 108, 115, 101, 32]⟩ : ByteArray) ++ (⟨xa.txt.toArray⟩ : ByteArray) ++ (⟨#[41]⟩ : ByteArray) ∧ (X.ite xa xb).n = 0 ∧ (X.ite xa xb).ok) := ⟨xif xa xb, (if_pos (by simp [hz])).trans hz, oka, okb⟩
                go_wp2_with fail
                go_meet
                exact ⟨_, _, _, HM.out _ _ _, HE⟩
              · have HE : Hid ((⟨(X.ite xa xb).txt.toArray⟩ : ByteArray) = (⟨#[40, 105, 102, 32]⟩ : ByteArray) ++ (⟨xa.txt.toArray⟩ : ByteArray) ++ (⟨#[32, 116, 104, 101, 110, 32]⟩ : ByteArray) ++ (⟨xb.txt.toArray⟩ : ByteArray) ++ (⟨#[32, 101, 108, 115, 101, 32]⟩ : ByteArray) ++ (⟨xa.txt.toArray⟩ : ByteArray) ++ (⟨#[41]⟩ : ByteArray) ∧ (X.ite xa xb).n = xb.n ∧ (X.ite xa xb).ok) := ⟨xif xa xb, if_neg (by simp [hz]), oka, okb⟩
                go_wp2_with fail
                go_meet
                exact ⟨_, _, _, HM.out _ _ _, HE⟩
        case rest =>
          as_aux_lemma =>
            obtain ⟨S, z, x, HW, HE⟩ := hcut
            obtain ⟨m0, m1, mf⟩ := mcells HW.out.m
            clear HM
            by_cases hlen : S.size ≤ 110
            · have hd : decide ((110 : Int) < (S.size : Int)) = false := by simp; omega
              go_wp2_with fail
              obtain ⟨k, hk⟩ : ∃ k, k = xs.length - 1 - 1 := ⟨_, rfl⟩
              rw [← hk] at HW
              have hk1 : IntKind.wrap .i64 ((xs.length : Int) - 1 - 1) = (k : Int) := by
                rw [wrap_eq, IntWalk.wrap64_in _ ⟨by omega, by omega⟩]; omega
              have hk2 : (k : Int) ≤ (cap : Int) := by omega
              have hk3 : k + 1 ≤ cap := by omega
              have HK : Hid (k + 2 = xs.length) := by unfold Hid; omega
              have HL : Hid (x.txt.length ≤ 110) := by
                have h1 := congrArg ByteArray.size HE.out.1
                have h2 : (⟨x.txt.toArray⟩ : ByteArray).size = x.txt.length := rfl
                unfold Hid; omega
              clear hk hrb
              have HSP : Hid (∀ j, j < [Value.string S, .int .i64 z].length → _) := own_spare ((own_drew HW.out.row).alloc (.cells #[.string S, .int .i64 z] 26 (0, 0))) hk3 _ _
              go_region_law (refine step_append_room rfl (.tmp 171) (.tmp 173) 48 rfl 26 i0 2 Tryz.underlying48 hi0 hz1 g 0 k cap (by simp [Act.eval]) ⟨wc.heap.size, 0, none⟩ 1 1 [.string S, .int .i64 z] (by simp [Act.eval]) rfl (cell_two_new _ _ _ _) (fun u hu => by simp at hu; rcases hu with rfl | rfl <;> rfl) hk3 HSP.out ?_)
              have HP2 : Hid _ := m_push HW.out hgb hk3 (by have := HK.out; omega) HE.out.1 HE.out.2.1 HE.out.2.2 HL.out (.cells #[.string S, .int .i64 z] 26 (0, 0))
              clear HSP HW m0 m1 mf
              go_wp2_with fail
              have hK := HK.out
              exact ⟨⟨i + 1, xs.take k ++ [x], by omega, by push_cast; rfl, HP2.out.1, by rw [List.length_append, List.length_take]; simp; omega, HP2.out.2.1, HP2.out.2.2⟩, by simp only [intOf]; omega⟩
            · have hd : decide ((110 : Int) < (S.size : Int)) = true := by simp; omega
              go_wp2_with fail
              exact ⟨⟨i + 1, xs, by omega, by push_cast; rfl, HW.out.held, by omega, HW.out.below, HW.out.res⟩, by simp only [intOf]; omega⟩
    · as_aux_lemma =>
        obtain ⟨cb0, cb1⟩ := hcl (xs.length - 1) (by omega)
        obtain ⟨okb, lb⟩ := HX.out.ok _ (List.getElem_mem (show xs.length - 1 < xs.length by omega))
        generalize xs[xs.length - 1] = xb at cb0 cb1 okb lb
        clear hcl htk HX0 hB0 hr0
        have hgo' : (rl : Int) ≤ i ∨ ((i : Int) < rl ∧ (12 : Int) ≤ i) := by omega
        obtain ⟨r0, r1, rlt⟩ := mcells hrb
        obtain ⟨rf0, rf1⟩ := mfroz hrb
        rcases hgo' with hgo' | ⟨hgo1, hgo2⟩
        all_goals go_wp2_with fail
        all_goals exact fin2 (t := 2) Tryz.results19 rfl rfl (set26 hrb _ _) ⟨xb, okb, lb, rfl, (hB.setCell (p := ⟨w.heap.size, 0, none⟩) (Nat.le_refl _) _).setCell (p := ⟨w.heap.size, 1, none⟩) (Nat.le_refl _) _⟩
end Go.Proofs.YtjjlgjmebnkdjaaGreatDoor
