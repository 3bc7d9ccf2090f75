/-
  The program's reckoning: a scope with one name more.
-/
import Derived.Test.YtdpbclnpmkhooaaGreatDoorEvC
import Derived.ArgAppend
namespace Go.Proofs.YtdpbclnpmkhooaaGreatDoor
open Go Go.Proofs Go.RowKit Skein

set_option maxRecDepth 100000 in
set_option maxHeartbeats 1000000 in
theorem clip_none (w : World) : Calls Tryz.prog 135 #[.slice none 0 0] w fun e w' => e = .returned (.slice none 0 0) ∧ w' = w := by
  go_enter Tryz.func135, Tryz.ntmps135
  go_wp2_with fail
  go_ret
  exact ⟨rfl, rfl⟩

set_option maxRecDepth 100000 in
set_option maxHeartbeats 1000000 in
theorem clip_some (g n cap : Nat) (hn : n ≤ cap) (w : World) : Calls Tryz.prog 135 #[.slice (some ⟨g, 0, none⟩) n cap] w fun e w' => e = .returned (.slice (some ⟨g, 0, none⟩) n n) ∧ w' = w := by
  go_enter Tryz.func135, Tryz.ntmps135
  go_wp2_with fail
  go_ret
  exact ⟨rfl, rfl⟩

theorem info173 : (Tryz.prog.info? 173).map (fun i => (i.zero, i.size, i.bytes)) = some (some (.pointer none), 1, 8) := by kernel_rfl

/-- The cells that a scope names. -/
def addrs (B : List Nat) (env : List Nat) : List Value := env.map fun i => ptr (B.getD i 0)
theorem ScAt.snoc {w w' : World} {B env : List Nat} {i a : Nat} {v : Value} (hi : B[i]? = some a) (hB : ∀ j ∈ env, ∃ x, B[j]? = some x) (h : w'.ownsRow w.heap.size 173 1 v (env.length + 1) (addrs B env ++ [ptr a])) : ScAt w' B (env ++ [i]) v := by
  obtain ⟨hl, ⟨_, h0⟩ | ⟨g, cap, cur, rfl, hg, hh, h1, h2, h3, h4⟩⟩ := h
  · omega
  · refine .inr ⟨g, cur, cap, by simp, by simp, by simpa using h1, by omega, hh, fun j k hj => ?_⟩
    have hjl := (List.getElem?_eq_some_iff.1 hj).1
    simp at hjl
    have hc : cur[j]? = (addrs B env ++ [ptr a])[j]? := by
      rw [← h4, List.getElem?_take]
      rw [if_pos (by omega)]
      simp
    by_cases hje : j < env.length
    · rw [List.getElem?_append_left hje] at hj
      obtain ⟨x, hx⟩ := hB k (List.mem_of_getElem? hj)
      refine ⟨x, hx, ?_⟩
      rw [hc, List.getElem?_append_left (by simp [addrs]; exact hje)]
      have hx' : B.getD k 0 = x := by simp [List.getD, hx]
      have hq : (addrs B env)[j]? = some (ptr (B.getD k 0)) := by unfold addrs; rw [List.getElem?_map, hj]; rfl
      rw [hq, hx']
    · have e : j = env.length := by omega
      subst e
      rw [List.getElem?_append_right (by omega)] at hj
      simp at hj
      subst hj
      refine ⟨a, hi, ?_⟩
      rw [hc, List.getElem?_append_right (by simp [addrs])]
      simp [addrs]

set_option maxRecDepth 100000 in
set_option maxHeartbeats 2000000 in
theorem with_ok {w : World} {B env : List Nat} {i a : Nat} {sc : Value} (h : ScAt w B env sc) (hi : B[i]? = some a) (hl : env.length ≤ 999) :
    Calls Tryz.prog 118 #[sc, ptr a] w fun e w' => ∃ o n c, e = .returned (.slice o n c) ∧ w.grownBy w' none ∧ ScAt w' B (env ++ [i]) (.slice o n c) := by
  obtain ⟨i0, hi0, hz0, hz1, hz2⟩ := info_parts info173
  have hcl : ∃ o cap, sc = .slice o env.length cap ∧ (∀ w, Calls Tryz.prog 135 #[sc] w fun e w' => e = .returned (.slice o env.length env.length) ∧ w' = w) ∧ (o = none → env.length = 0) ∧ (∀ b, o = some b → ∀ j u, (addrs B env)[j]? = some u → w.cell? (b.add j) = some u) ∧ ∀ j ∈ env, ∃ x, B[j]? = some x := by
    rcases h with ⟨rfl, rfl⟩ | ⟨g, cs, cap, rfl, hn, h1, h2, hh, ha⟩
    · exact ⟨none, 0, rfl, fun w => clip_none w, fun _ => rfl, (fun b e => by cases e), (fun j hj => by cases hj)⟩
    · refine ⟨some ⟨g, 0, none⟩, cap, rfl, fun w => clip_some g _ cap h1 w, fun e => (by cases e), fun b e j u hj => ?_, fun j hj => ?_⟩
      · cases e
        simp only [addrs, List.getElem?_map, Option.map_eq_some_iff] at hj
        obtain ⟨k, hk, rfl⟩ := hj
        obtain ⟨x, hx, hc⟩ := ha j k hk
        have e2 : B.getD k 0 = x := by simp [List.getD, hx]
        rw [e2]
        have e3 : (⟨g, 0, none⟩ : Addr).add j = ⟨g, j, none⟩ := by
          by_cases hj : j = 0
          · subst hj; simp [Addr.add]
          · simp [Addr.add, hj]
        rw [e3]
        simp [World.cell?, hh, hc]
      · obtain ⟨k, hk, e⟩ := List.mem_iff_getElem.1 hj
        obtain ⟨x, hx, _⟩ := ha k j (by rw [List.getElem?_eq_getElem hk, e])
        exact ⟨x, hx⟩
  obtain ⟨o, cap, rfl, hC, hno, hold, hB⟩ := hcl
  have HC : Hid (∀ w, Calls Tryz.prog 135 #[.slice o env.length cap] w fun e w' => e = .returned (.slice o env.length env.length) ∧ w' = w) := hC
  clear hC h
  go_enter Tryz.func118, Tryz.ntmps118
  go_wp2_with fail
  refine (HC.out _).mono ?_
  rintro e w1 ⟨rfl, rfl⟩
  have hold2 : ∀ b, o = some b → ∀ j u, (addrs B env)[j]? = some u → (w1.alloc (.cells #[ptr a] 173)).cell? (b.add j) = some u := fun b e j u hj => by
    have := hold b e j u hj
    rw [World.cell?_alloc_some _ _ _ (by rw [this]; rfl)]; exact this
  go_wp2_with (at_builtin; refine wpList_append_grows _ rfl _ _ 172 rfl 173 i0 (.pointer none) 1 8 Tryz.underlying172 hi0 hz0 hz1 hz2 rfl (by decide) o env.length env.length (addrs B env) rfl (fun e => ⟨hno e, hno e⟩) (by simp [addrs]) hold2 ⟨w1.heap.size, 0, none⟩ 1 1 [ptr a] rfl rfl (cell_one_new _ _ _) (fun u hu => by simp at hu; subst hu; rfl) (by omega) (by unfold maxLen; omega) (by omega) ?_; intro v' w4 hown hgr)
  have hs := ScAt.snoc (w := w1.alloc (.cells #[ptr a] 173)) hi hB hown
  obtain ⟨o', c', rfl⟩ := hs.shape
  go_ret
  exact ⟨o', _, c', rfl, grown_trans (grown_alloc (grown_refl _ _) _) hgr, hs⟩
end Go.Proofs.YtdpbclnpmkhooaaGreatDoor
