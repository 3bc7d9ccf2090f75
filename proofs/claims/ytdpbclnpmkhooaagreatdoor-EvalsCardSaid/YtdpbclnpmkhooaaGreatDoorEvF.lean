/-
  The program's reckoning: the closures.
-/
import Derived.Test.YtdpbclnpmkhooaaGreatDoorEvE
import Derived.Laws.EntriesVeiled
namespace Go.Proofs.YtdpbclnpmkhooaaGreatDoor
open Go Go.Proofs Go.RowKit Skein

theorem Is1.cell {w k v T} (h : Is1 w k v T) : w.cell? ⟨k, 0, none⟩ = some v ∧ k < w.heap.size := by
  unfold Is1 at h
  exact ⟨by simp [World.cell?, h], heap_lt h⟩

set_option maxRecDepth 100000 in
set_option maxHeartbeats 2000000 in
theorem cnum (m : Nat) {L : Nat} {S : E} {b : Nat} {w : World} {B : List Nat} {st : Nat} {f : Nat} {c : Array Value} {o : Option Addr} {l cap : Nat} (h : PE b w B st L S) (hc : CodeAt st w (.num m) f c) :
    Calls Tryz.prog f (#[.slice o l cap] ++ c) w (GP b w B st L (.ok (.num m), S)) := by
  obtain ⟨rfl, k, rfl, h1⟩ := hc
  obtain ⟨e0, hlt⟩ := h1.cell
  clear h1
  show Calls Tryz.prog 113 #[.slice o l cap, ptr k] w _
  go_enter Tryz.func113, Tryz.ntmps113
  go_wp2_with fail
  go_ret
  exact GPV.got ⟨B, 127, .int .i64 m, rfl, Fr.refl _ _ _ _, Ext.refl _, h, rfl⟩

set_option maxRecDepth 100000 in
set_option maxHeartbeats 2000000 in
theorem cvar (n : Nat) (hF : CH n) (m j : Nat) {L : Nat} {S : E} {r : R × E} {env : List Nat} {b : Nat} {w : World} {B : List Nat} {st : Nat} {f : Nat} {c : Array Value} {sc : Value} (hj : env[m]? = some j) (he : ev L n (.force j) S = some r) (h : PE b w B st L S) (hc : CodeAt st w (.var m) f c) (hs : ScAt w B env sc) :
    Calls Tryz.prog f (#[sc] ++ c) w (GP b w B st L r) := by
  obtain ⟨rfl, k, rfl, h1⟩ := hc
  obtain ⟨e0, hlt⟩ := h1.cell
  clear h1
  have hm := (List.getElem?_eq_some_iff.1 hj).1
  rcases hs with ⟨rfl, _⟩ | ⟨g, cs, cap, rfl, hn, h1, h2, hh, ha⟩
  · cases hj
  obtain ⟨a, hBa, hca⟩ := ha m j hj
  have hcell : w.cell? ⟨g, m, none⟩ = some (ptr a) := by simp [World.cell?, hh, hca]
  have HF : Hid (Calls Tryz.prog 115 #[ptr a] w (GP b w B st L r)) := hF L j S r b w B st a he h hBa
  clear hh ha hca he hj
  have hml : (m : Int) < (env.length : Int) := by omega
  show Calls Tryz.prog 114 #[.slice (some ⟨g, 0, none⟩) env.length cap, ptr k] w _
  go_enter Tryz.func114, Tryz.ntmps114
  go_wp2_with fail
  refine HF.out.mono ?_
  rintro e w1 (⟨v, B', x, hr, rfl, hg⟩ | ⟨z, hr, rfl, hb, hs⟩)
  · have HR : Hid (r.1 = .ok v) := hr
    clear hr
    obtain ⟨hg1, hg2, hg3, hg4⟩ := hg
    obtain ⟨T1, x1, rfl⟩ := hg4.shape
    go_wp2_with fail
    go_ret
    exact .inl ⟨v, B', _, HR.out, rfl, hg1, hg2, hg3, hg4⟩
  · have HR : Hid (r.1 = .err z) := hr
    clear hr
    go_wp2_with fail
    exact ⟨rfl, .inr ⟨z, HR.out, rfl, hb, hs⟩⟩

set_option maxRecDepth 100000 in
set_option maxHeartbeats 2000000 in
theorem cfn (m : Nat) (y : T) {L : Nat} {S : E} {env : List Nat} {b : Nat} {w : World} {B : List Nat} {st : Nat} {f : Nat} {c : Array Value} {sc : Value} (h : PE b w B st L S) (hc : CodeAt st w (.fn m y) f c) (hs : ScAt w B env sc) (hd : env.length + dep (.fn m y) ≤ 1000) :
    Calls Tryz.prog f (#[sc] ++ c) w (GP b w B st L (.ok (.fn y env), S)) := by
  obtain ⟨rfl, k, f1, c1, rfl, h1, h2⟩ := hc
  obtain ⟨o, cap, rfl⟩ := hs.shape
  have hb := h.blt
  have hg := grown_alloc (grown_refl w none) (.cells #[.slice o env.length cap] 172 (0, 0))
  have hf : FP b w _ := Fr.grown hb hg
  have hx := alloc_at w (.cells #[.slice o env.length cap] 172 (0, 0)) _ rfl
  have hv : VP st (w.alloc (.cells #[.slice o env.length cap] 172 (0, 0))) B (.fn y env) (.iface 176 (fnv 117 #[ptr k, ptr w.heap.size])) := ⟨by simp only [dep] at hd; omega, k, w.heap.size, f1, c1, _, rfl, h1.fr hf (by decide) (by decide), hx, h2.fr hf, hs.fr hf (Ext.refl _)⟩
  have h3 := h.grown hg
  have hmf : ∀ (fn : Fn) (first cap : Array Value) (w : World), (Instr.makeFunc fn first cap).run Tryz.prog w = .ok (.func fn first cap) w := fun _ _ _ _ => rfl
  clear h1 h2 hs hx
  show Calls Tryz.prog 116 #[.slice o env.length cap, ptr k] w _
  go_enter Tryz.func116, Tryz.ntmps116
  go_wp2_with fail
  go_ret
  exact GPV.got ⟨B, 176, _, rfl, hf, Ext.refl _, h3, hv⟩
end Go.Proofs.YtdpbclnpmkhooaaGreatDoor
