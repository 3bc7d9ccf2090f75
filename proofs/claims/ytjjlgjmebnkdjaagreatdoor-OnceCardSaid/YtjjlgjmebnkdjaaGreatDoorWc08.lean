/-
  The program's reckoning: lists; all closures.
  The contract of strings.Join at this dump (laid by the shelf's own tools, in plain words; a part of what they print).
  The program: a value told as text, lists too.
-/
import Derived.Test.YtjjlgjmebnkdjaaGreatDoorWc07
import Derived.Shelf.Strings.OnBuilder
import Derived.Test.YtjjlgjmebnkdjaaGreatDoorProg
import Derived.Test.YtjjlgjmebnkdjaaGreatDoorWc06
namespace Go.Proofs.YtjjlgjmebnkdjaaGreatDoor
open Go Go.Proofs Go.RowKit Skein

set_option maxRecDepth 100000 in
set_option maxHeartbeats 2000000 in
theorem cnil {L : Nat} {S : E} {b : Nat} {w : World} {B : List Nat} {st : Nat} {f : Nat} {c : Array Value} {o : Option Addr} {l cap : Nat} (h : PE b w B st L S) (hc : CodeAt st w .nil f c) :
    Calls Tryz.prog f (#[.slice o l cap] ++ c) w (GP b w B st L (.ok .nil, S)) := by
  obtain ⟨rfl, rfl⟩ := hc
  show Calls Tryz.prog 141 #[.slice o l cap] w _
  go_enter Tryz.func141, Tryz.ntmps141
  go_wp2_with fail
  go_ret
  exact GPV.got ⟨B, 141, _, rfl, Fr.refl _ _ _ _, Ext.refl _, h, rfl⟩

theorem two_held {b w W B st L S} {x y : T} {env : List Nat} {f1 f2 : Nat} {c1 c2 : Array Value} {sc : Value} {p q : Nat} (h : PE b w B st L S) (hg : World.grownBy w W none)
    (hp : W.heap[p]? = some (.cells #[.int .i64 0, fnv f1 c1, sc, .nilIface] 194 (0, 0))) (hq : W.heap[q]? = some (.cells #[.int .i64 0, fnv f2 c2, sc, .nilIface] 194 (0, 0))) (lp : w.heap.size ≤ p) (lq : w.heap.size ≤ q) (hne : p ≠ q)
    (hx : CodeAt st w x f1 c1) (hy : CodeAt st w y f2 c2) (hs : ScAt w B env sc) (dx : env.length + dep x ≤ 1000) (dy : env.length + dep y ≤ 1000) :
    GP b w B st L (.ok (.cons S.heap.length (S.heap.length + 1)), ⟨S.heap ++ [.wait x env, .wait y env], S.steps⟩) (.returned (.iface 141 (.agg #[ptr p, ptr q]))) W := by
  have hf : FP b w W := Fr.grown h.blt hg
  have hB : Ext B (B ++ [p, q]) := Ext.app _ _
  refine GPV.got ⟨B ++ [p, q], 141, _, rfl, hf, hB, h.more2 hg (.wait x env) (.wait y env) p q lp lq hne ⟨dx, f1, c1, sc, hp, hx.fr hf, hs.fr hf hB⟩ ⟨dy, f2, c2, sc, hq, hy.fr hf, hs.fr hf hB⟩, p, q, rfl, ?_, ?_⟩
  · rw [← h.len]; simp
  · rw [← h.len]; simp

set_option maxRecDepth 100000 in
set_option maxHeartbeats 4000000 in
theorem ccons (x y : T) {L : Nat} {S : E} {env : List Nat} {b : Nat} {w : World} {B : List Nat} {st : Nat} {f : Nat} {c : Array Value} {sc : Value} (h : PE b w B st L S) (hc : CodeAt st w (.bin 58 x y) f c) (hs : ScAt w B env sc) (hd : env.length + dep (.bin 58 x y) ≤ 1000) :
    Calls Tryz.prog f (#[sc] ++ c) w (GP b w B st L (.ok (.cons S.heap.length (S.heap.length + 1)), ⟨S.heap ++ [.wait x env, .wait y env], S.steps⟩)) := by
  rcases hc with hc | ⟨ho, _⟩
  rotate_left
  · rcases ho with e | e | e | e | e <;> exact absurd e (by decide)
  obtain ⟨_, rfl, k1, k2, f1, c1, f2, c2, rfl, h1, h2, hx, hy⟩ := hc
  obtain ⟨o, cap, rfl⟩ := hs.shape
  obtain ⟨e1, l1⟩ := h1.cell
  obtain ⟨e2, l2⟩ := h2.cell
  have hdx : env.length + dep x ≤ 1000 := by simp only [dep] at hd; omega
  have hdy : env.length + dep y ≤ 1000 := by simp only [dep] at hd; omega
  have HF : Hid (∀ W p q, World.grownBy w W none → W.heap[p]? = some (.cells #[.int .i64 0, fnv f1 c1, .slice o env.length cap, .nilIface] 194 (0, 0)) → W.heap[q]? = some (.cells #[.int .i64 0, fnv f2 c2, .slice o env.length cap, .nilIface] 194 (0, 0)) → w.heap.size ≤ p → w.heap.size ≤ q → p ≠ q →
    GP b w B st L (.ok (.cons S.heap.length (S.heap.length + 1)), ⟨S.heap ++ [.wait x env, .wait y env], S.steps⟩) (.returned (.iface 141 (.agg #[ptr p, ptr q]))) W) := fun W p q hg hp hq lp lq hne => two_held h hg hp hq lp lq hne hx hy hs hdx hdy
  clear h1 h2 hx hy hs h
  show Calls Tryz.prog 142 #[.slice o env.length cap, ptr k1, ptr k2] w _
  go_enter Tryz.func142, Tryz.ntmps142
  go_wp2_with fail
  go_ret
  exact HF.out _ _ _ (grown_alloc (grown_alloc (grown_refl _ _) _) _) (keepB' (alloc_at w _ _ rfl) (grown_alloc (grown_refl _ none) _)) (alloc_at _ _ _ (by rw [alloc_size])) (Nat.le_refl _) (by omega) (by omega)

set_option maxRecDepth 100000 in
set_option maxHeartbeats 1000000 in
theorem lempty (o1 o2 : Option Addr) (w : World) : Calls Tryz.prog 101 #[.agg #[.pointer o1, .pointer o2]] w fun e w' => e = .returned (.bool (o1 == none)) ∧ World.grownBy w w' none := by
  cases o1
  all_goals
    go_enter Tryz.func101, Tryz.ntmps101
    go_wp2_with fail
    go_ret
    exact ⟨rfl, grown_alloc (grown_refl _ _) _⟩

theorem set2l {w : World} {k : Nat} {x y : Value} (h : w.heap[k]? = some (.cells #[x, y] 141 (0, 0))) (a b : Value) :
    ((w.setCell ⟨k, 0, none⟩ a).setCell ⟨k, 1, none⟩ b).heap[k]? = some (.cells #[a, b] 141 (0, 0)) := by
  simp [World.setCell, Array.getElem?_modify, h]

set_option maxRecDepth 100000 in
set_option maxHeartbeats 1000000 in
theorem lfull (a : Addr) (o2 : Option Addr) (w : World) : Calls Tryz.prog 97 #[.agg #[.pointer (some a), .pointer o2]] w fun e w' => e = .returned (.agg #[.pointer (some a), .pointer o2]) ∧ World.grownBy w w' none := by
  have g1 := grown_alloc (grown_refl w none) (.cells #[.pointer (some a), .pointer o2] 141 (0, 0))
  have g2 := grown_alloc (grown_refl (w.alloc (.cells #[.pointer (some a), .pointer o2] 141 (0, 0))) none) (.cells #[.pointer none, .pointer none] 141 (0, 0))
  have hA := keepB' (alloc_at w (.cells #[.pointer (some a), .pointer o2] 141 (0, 0)) _ rfl) g2
  have hR := alloc_at (w.alloc (.cells #[.pointer (some a), .pointer o2] 141 (0, 0))) (.cells #[.pointer none, .pointer none] 141 (0, 0)) (w.heap.size + 1) (by rw [alloc_size])
  go_enter Tryz.func97, Tryz.ntmps97
  go_wp2_with fail
  refine (lempty _ _ _).mono ?_
  rintro e w1 ⟨rfl, hg⟩
  have hA1 := keepB' hA hg
  have hR1 := keepB' hR hg
  obtain ⟨a0, a1, af, al⟩ := list_cells hA1
  obtain ⟨r0, r1, rf, rl⟩ := list_cells hR1
  have hgg := grown_trans (grown_trans g1 g2) hg
  clear hA hR g1 g2 hA1 hg
  have he : (some a == (none : Option Addr)) = false := rfl
  go_wp2_with fail
  exact fin_l (t := 2) Tryz.results97 rfl rfl (set2l hR1 _ _) ⟨rfl, grown_setnew2 (grown_setnew2 hgg (by omega) 0 _) (by omega) 1 _⟩

set_option maxRecDepth 100000 in
set_option maxHeartbeats 1000000 in
theorem lfull_no (w : World) : Calls Tryz.prog 97 #[.agg #[.pointer none, .pointer none]] w fun e w' => e = .panicked (oops 6) ∧ World.grownBy w w' none := by
  go_enter Tryz.func97, Tryz.ntmps97
  go_wp2_with fail
  refine (lempty _ _ _).mono ?_
  rintro e w1 ⟨rfl, hg⟩
  have he : ((none : Option Addr) == none) = true := rfl
  go_wp2_with fail
  exact ⟨rfl, rfl, grown_trans (grown_alloc (grown_alloc (grown_refl _ _) _) _) hg⟩

theorem fld0 (x y : Value) (w : World) : (Instr.field 141 (.agg #[x, y]) 0).run Tryz.prog w = .ok x w := by kernel_rfl
theorem fld1 (x y : Value) (w : World) : (Instr.field 141 (.agg #[x, y]) 1).run Tryz.prog w = .ok y w := by kernel_rfl

set_option maxRecDepth 100000 in
set_option maxHeartbeats 1000000 in
theorem ask_null (o1 o2 : Option Addr) (w : World) : Calls Tryz.prog 100 #[.agg #[.pointer o1, .pointer o2]] w fun e w' => e = .returned (.iface 134 (.int .i64 (tr o1.isNone))) ∧ World.grownBy w w' none := by
  go_enter Tryz.func100, Tryz.ntmps100
  go_wp2_with fail
  refine (lempty _ _ _).mono ?_
  rintro e w1 ⟨rfl, hg⟩
  go_wp2_with fail
  refine (ptruth _ _).mono ?_
  rintro e w2 ⟨rfl, rfl⟩
  go_wp2_with fail
  go_ret
  exact ⟨rfl, grown_trans (grown_alloc (grown_refl _ _) _) hg⟩

set_option maxRecDepth 100000 in
set_option maxHeartbeats 2000000 in
theorem ask_head {n : Nat} (hF : CH n) {L i : Nat} {S : E} {r : R × E} {b : Nat} {w : World} {B : List Nat} {st a : Nat} {o2 : Option Addr} (he : ev L n (.force i) S = some r) (h : PE b w B st L S) (ha : B[i]? = some a) :
    Calls Tryz.prog 96 #[.agg #[ptr a, .pointer o2]] w (GP b w B st L r) := by
  have hb := h.blt
  have HF : Hid (∀ wd, World.grownBy w wd none → Calls Tryz.prog 98 #[ptr a] wd (GP b w B st L r)) := fun wd hg => (hF L i S r b wd B st a he (h.grown hg) ha).mono fun _ _ hG => hG.fr (Fr.grown hb hg) (Ext.refl _)
  have hfl := fld0
  clear he
  go_enter Tryz.func96, Tryz.ntmps96
  go_wp2_with fail
  refine (lfull _ _ _).mono ?_
  rintro e w1 ⟨rfl, hg⟩
  have hgg := grown_trans (grown_alloc (grown_refl w none) (.cells #[ptr a, .pointer o2] 141 (0, 0))) hg
  go_wp2_with fail
  refine (HF.out _ hgg).mono ?_
  rintro e w2 (⟨v, B', x, hr, rfl, hg1, hg2, hg3, hg4⟩ | ⟨z, hr, rfl, hb2, hs2⟩)
  · have HR : Hid (r.1 = .ok v) := hr
    clear hr
    obtain ⟨T1, x1, rfl⟩ := hg4.shape
    go_wp2_with fail
    go_ret
    exact .inl ⟨v, B', _, HR.out, rfl, hg1, hg2, hg3, hg4⟩
  · have HR : Hid (r.1 = .err z) := hr
    clear hr
    go_wp2_with fail
    exact ⟨rfl, .inr ⟨z, HR.out, rfl, hb2, hs2⟩⟩

set_option maxRecDepth 100000 in
set_option maxHeartbeats 2000000 in
theorem ask_tail {n : Nat} (hF : CH n) {L i : Nat} {S : E} {r : R × E} {b : Nat} {w : World} {B : List Nat} {st a c : Nat} (he : ev L n (.force i) S = some r) (h : PE b w B st L S) (ha : B[i]? = some c) :
    Calls Tryz.prog 99 #[.agg #[ptr a, ptr c]] w (GP b w B st L r) := by
  have hb := h.blt
  have HF : Hid (∀ wd, World.grownBy w wd none → Calls Tryz.prog 98 #[ptr c] wd (GP b w B st L r)) := fun wd hg => (hF L i S r b wd B st c he (h.grown hg) ha).mono fun _ _ hG => hG.fr (Fr.grown hb hg) (Ext.refl _)
  have hfl := fld1
  clear he
  go_enter Tryz.func99, Tryz.ntmps99
  go_wp2_with fail
  refine (lfull _ _ _).mono ?_
  rintro e w1 ⟨rfl, hg⟩
  have hgg := grown_trans (grown_alloc (grown_refl w none) (.cells #[ptr a, ptr c] 141 (0, 0))) hg
  go_wp2_with fail
  refine (HF.out _ hgg).mono ?_
  rintro e w2 (⟨v, B', x, hr, rfl, hg1, hg2, hg3, hg4⟩ | ⟨z, hr, rfl, hb2, hs2⟩)
  · have HR : Hid (r.1 = .ok v) := hr
    clear hr
    obtain ⟨T1, x1, rfl⟩ := hg4.shape
    go_wp2_with fail
    go_ret
    exact .inl ⟨v, B', _, HR.out, rfl, hg1, hg2, hg3, hg4⟩
  · have HR : Hid (r.1 = .err z) := hr
    clear hr
    go_wp2_with fail
    exact ⟨rfl, .inr ⟨z, HR.out, rfl, hb2, hs2⟩⟩

set_option maxRecDepth 100000 in
set_option maxHeartbeats 1000000 in
theorem ask_empty (f : Nat) (hf : f = 96 ∨ f = 99) (w : World) : Calls Tryz.prog f #[.agg #[.pointer none, .pointer none]] w fun e w' => e = .panicked (oops 6) ∧ World.grownBy w w' none := by
  rcases hf with rfl | rfl
  · go_enter Tryz.func96, Tryz.ntmps96
    go_wp2_with fail
    refine (lfull_no _).mono ?_
    rintro e w1 ⟨rfl, hg⟩
    go_wp2_with fail
    exact ⟨rfl, rfl, grown_trans (grown_alloc (grown_refl _ _) _) hg⟩
  · go_enter Tryz.func99, Tryz.ntmps99
    go_wp2_with fail
    refine (lfull_no _).mono ?_
    rintro e w1 ⟨rfl, hg⟩
    go_wp2_with fail
    exact ⟨rfl, rfl, grown_trans (grown_alloc (grown_refl _ _) _) hg⟩

/-- A word at a list. -/
theorem ask_nil (op : UInt8) (hop : op = 104 ∨ op = 116 ∨ op = 110) {L : Nat} {S : E} {b : Nat} {w : World} {B : List Nat} {st : Nat} (h : PE b w B st L S) :
    Calls Tryz.prog (askOf op) #[.agg #[.pointer none, .pointer none]] w (GP b w B st L (if op == 110 then (.ok (.num 1), S) else (.err 6, S))) := by
  have hb := h.blt
  rcases hop with rfl | rfl | rfl
  · refine (ask_empty 96 (.inl rfl) w).mono ?_
    rintro e w' ⟨rfl, hg⟩
    exact GPX.got ⟨rfl, (Fr.grown (d1 := 194) (d2 := 78) hb hg).below, (h.grown hg).steps⟩
  · refine (ask_empty 99 (.inr rfl) w).mono ?_
    rintro e w' ⟨rfl, hg⟩
    exact GPX.got ⟨rfl, (Fr.grown (d1 := 194) (d2 := 78) hb hg).below, (h.grown hg).steps⟩
  · refine (ask_null none none w).mono ?_
    rintro e w' ⟨rfl, hg⟩
    exact GPV.got ⟨B, _, _, rfl, Fr.grown hb hg, Ext.refl _, h.grown hg, rfl⟩
theorem ask_cons (op : UInt8) (hop : op = 104 ∨ op = 116 ∨ op = 110) {n : Nat} (hF : CH n) {L i j : Nat} {S : E} {r : R × E} {b : Nat} {w : World} {B : List Nat} {st a c : Nat} (h : PE b w B st L S) (ha : B[i]? = some a) (hc : B[j]? = some c)
    (he : (if op == 110 then some (R.ok (.num 0), S) else if op == 104 then ev L n (.force i) S else ev L n (.force j) S) = some r) :
    Calls Tryz.prog (askOf op) #[.agg #[ptr a, ptr c]] w (GP b w B st L r) := by
  have hb := h.blt
  rcases hop with rfl | rfl | rfl
  · exact ask_head hF he h ha
  · exact ask_tail hF he h hc
  · have e : (R.ok (.num 0), S) = r := Option.some.inj he
    subst e
    refine (ask_null _ _ w).mono ?_
    rintro e w' ⟨rfl, hg⟩
    exact GPV.got ⟨B, _, _, rfl, Fr.grown hb hg, Ext.refl _, h.grown hg, rfl⟩
theorem ask_ent (op : UInt8) (hop : op = 104 ∨ op = 116 ∨ op = 110) : ∀ (args : Array Value) (w : World), (callFunc (askOf op) args).run Tryz.prog w = .ok (.enter (askOf op) args) w := by
  rcases hop with rfl | rfl | rfl
  · exact enters_of Tryz.func96 (by kernel_rfl) rfl
  · exact enters_of Tryz.func99 (by kernel_rfl) rfl
  · exact enters_of Tryz.func100 (by kernel_rfl) rfl

set_option maxRecDepth 100000 in
set_option maxHeartbeats 8000000 in
theorem cun (n : Nat) (hN : CC n) (hF : CH n) (op : UInt8) (x : T) {L : Nat} {S : E} {r1 r : R × E} {env : List Nat} {b : Nat} {w : World} {B : List Nat} {st : Nat} {f : Nat} {c : Array Value} {sc : Value} (he1 : ev L n (.need x env) S = some r1)
    (he2 : (match r1.1.list with | .ok none => if op == 110 then some (R.ok (.num 1), r1.2) else some (.err 6, r1.2) | .ok (some p) => if op == 110 then some (.ok (.num 0), r1.2) else if op == 104 then ev L n (.force p.1) r1.2 else ev L n (.force p.2) r1.2 | .error e => some (.err e, r1.2)) = some r)
    (h : PE b w B st L S) (hc : CodeAt st w (.un op x) f c) (hs : ScAt w B env sc) (hd : env.length + dep (.un op x) ≤ 1000) :
    Calls Tryz.prog f (#[sc] ++ c) w (GP b w B st L r) := by
  obtain ⟨hop, rfl, k1, k2, f1, c1, rfl, h1, h2, hx⟩ := hc
  obtain ⟨o, cap, rfl⟩ := hs.shape
  obtain ⟨e1, l1⟩ := h1.cell
  obtain ⟨e2, l2⟩ := h2.cell
  have hent := hx.ent
  have hent3 := ask_ent op hop
  have hb := h.blt
  have hdx : env.length + dep x ≤ 1000 := by simp only [dep] at hd; omega
  generalize hfa : askOf op = fa at h1 e1 hent3
  have HC : Hid (∀ wd, World.grownBy w wd none → Calls Tryz.prog f1 (#[.slice o env.length cap] ++ c1) wd fun e w' =>
      (∃ T1 x1, e = .returned (.iface T1 x1) ∧ w'.cell? ⟨k1, 0, none⟩ = some (fnv fa #[]) ∧
        ∀ w2, World.grownBy w' w2 none → Calls Tryz.prog 145 #[.iface T1 x1] w2 fun e w3 =>
          (∃ o1 o2, e = .returned (.agg #[.pointer o1, .pointer o2]) ∧ w3.cell? ⟨k1, 0, none⟩ = some (fnv fa #[]) ∧ ∀ w4, World.grownBy w3 w4 none → Calls Tryz.prog fa #[.agg #[.pointer o1, .pointer o2]] w4 (GP b w B st L r)) ∨
          (e = .panicked (oops 5) ∧ GP b w B st L r (.panicked (oops 5)) w3)) ∨
      (∃ z, e = .panicked (oops z) ∧ GP b w B st L r (.panicked (oops z)) w')) := fun wd hg => by
    have hfd : FP b w wd := Fr.grown hb hg
    refine (hN L x env S r1 b wd B st f1 c1 _ he1 (h.grown hg) (hx.fr hfd) (hs.fr hfd (Ext.refl _)) hdx).mono ?_
    rintro e w' (⟨v, B', u, hr, rfl, hk1, hB, hp1, hv⟩ | ⟨z, hr, rfl, hb1, hs1⟩)
    · obtain ⟨T1, x1, rfl⟩ := hv.shape
      have hfw := hfd.trans hk1
      refine .inl ⟨T1, x1, rfl, (h1.fr hfw (by decide) (by decide)).cell.1, fun w2 hg2 => ?_⟩
      rw [hr] at he2
      rcases as_list_of hv with ⟨rfl, rfl, rfl⟩ | ⟨i, j, a, c, rfl, rfl, rfl, hi, hj⟩ | ⟨hno, hbad⟩
      · refine (as_list none none w2).mono ?_
        rintro e w3 ⟨rfl, hg3⟩
        have hgg := grown_trans hg2 hg3
        refine .inl ⟨none, none, rfl, (h1.fr (hfw.trans (Fr.grown hp1.blt hgg)) (by decide) (by decide)).cell.1, fun w4 hg4 => ?_⟩
        have hg5 := grown_trans hgg hg4
        have e5 : r = (if op == 110 then (R.ok (.num 1), r1.2) else (.err 6, r1.2)) := by
          have he3 : (if op == 110 then some (R.ok (.num 1), r1.2) else some (.err 6, r1.2)) = some r := he2
          split at he3 <;> (rename_i hq; simp only [hq]; exact (Option.some.inj he3).symm)
        rw [e5, ← hfa]
        exact (ask_nil op hop (hp1.grown hg5)).mono fun _ _ hG => hG.fr (hfw.trans (Fr.grown hp1.blt hg5)) hB
      · refine (as_list _ _ w2).mono ?_
        rintro e w3 ⟨rfl, hg3⟩
        have hgg := grown_trans hg2 hg3
        refine .inl ⟨_, _, rfl, (h1.fr (hfw.trans (Fr.grown hp1.blt hgg)) (by decide) (by decide)).cell.1, fun w4 hg4 => ?_⟩
        have hg5 := grown_trans hgg hg4
        rw [← hfa]
        exact (ask_cons op hop hF (hp1.grown hg5) hi hj he2).mono fun _ _ hG => hG.fr (hfw.trans (Fr.grown hp1.blt hg5)) hB
      · refine (hno w2).mono ?_
        rintro e w3 ⟨rfl, hg3⟩
        have hgg := grown_trans hg2 hg3
        rw [hbad] at he2
        have e5 : (R.err 5, r1.2) = r := Option.some.inj he2
        subst e5
        exact .inr ⟨rfl, GPX.got ⟨rfl, (hfw.trans (Fr.grown hp1.blt hgg)).below, (hp1.grown hgg).steps⟩⟩
    · refine .inr ⟨z, rfl, ?_⟩
      rw [hr] at he2
      have e5 : (R.err z, r1.2) = r := Option.some.inj he2
      subst e5
      exact GPX.got ⟨rfl, hfd.below.trans hb1, hs1⟩
  clear h1 h2 hx hs he1 he2 hop
  show Calls Tryz.prog 144 #[.slice o env.length cap, ptr k1, ptr k2] w _
  go_enter Tryz.func144, Tryz.ntmps144
  go_wp2_with fail
  go_region_with (first
    | (go_at_fn f1; refine (HC.out _ (by exact grown_same (grown_refl _ _) rfl rfl rfl rfl)).mono ?_; rintro e w1 (⟨T1, x1, rfl, q1, hL0⟩ | ⟨z, rfl, hG⟩); rotate_left; exact ⟨rfl, hG⟩; have HL := (show Hid _ from hL0); clear hL0)
    | (go_at_call 145; refine (HL.out _ (by exact grown_same (grown_refl _ _) rfl rfl rfl rfl)).mono ?_; rintro e w3 (⟨o1, o2, rfl, q3, hA0⟩ | ⟨rfl, hG⟩); rotate_left; exact ⟨rfl, hG⟩; have HA := (show Hid _ from hA0); clear hA0)
    | (go_at_fn fa; refine (HA.out _ (by exact grown_same (grown_refl _ _) rfl rfl rfl rfl)).mono ?_; rintro e w5 (⟨v, B5, u, hr, rfl, hk5, hB5, hp5, hv5⟩ | ⟨z, hr, rfl, hb5, hs5⟩); rotate_left; exact ⟨rfl, .inr ⟨z, hr, rfl, hb5, hs5⟩⟩; obtain ⟨T1, y1, rfl⟩ := hv5.shape; have HR : Hid (r.1 = .ok v) := hr; clear hr))
  all_goals
    go_wp2_with fail
    go_ret
    exact .inl ⟨v, B5, _, HR.out, rfl, hk5, hB5, hp5, hv5⟩

theorem cc_step (n : Nat) (hN : CC n) (hF : CH n) : CC (n + 1) := by
  intro L x env S r b w B st f c sc he h hc hs hd
  cases x with
  | junk => exact hc.elim
  | free => exact hc.elim
  | nil => simp only [ev, Option.some.injEq] at he; subst he; obtain ⟨o, cap, rfl⟩ := hs.shape; exact cnil h hc
  | un op x =>
    simp only [ev] at he
    obtain ⟨r1, he1, he2⟩ := Option.bind_eq_some_iff.1 he
    exact cun n hN hF op x he1 he2 h hc hs hd
  | num m => simp only [ev, Option.some.injEq] at he; subst he; obtain ⟨o, cap, rfl⟩ := hs.shape; exact cnum m h hc
  | fn m y => simp only [ev, Option.some.injEq] at he; subst he; exact cfn m y h hc hs hd
  | var m =>
    simp only [ev] at he
    cases hj : env[m]? with
    | none => rw [hj] at he; cases he
    | some j => rw [hj] at he; exact cvar n hF m j hj he h hc hs
  | letE m x y => simp only [ev] at he; exact clet n hN m x y he h hc hs hd
  | ite x y t =>
    simp only [ev] at he
    obtain ⟨r1, he1, he2⟩ := Option.bind_eq_some_iff.1 he
    exact cite n hN x y t he1 he2 h hc hs hd
  | app x y =>
    simp only [ev] at he
    obtain ⟨r1, he1, he2⟩ := Option.bind_eq_some_iff.1 he
    exact capp n hN x y he1 he2 h hc hs hd
  | bin op x y =>
    have hop : op = 58 ∨ Sign5 op := by
      rcases hc with hc | hc
      · exact .inl hc.1
      · exact .inr hc.1
    rcases hop with rfl | hop
    · simp only [ev] at he
      rw [if_pos (by decide)] at he
      have e := Option.some.inj he
      subst e
      exact ccons x y h hc hs hd
    · have ho : (op == 58) = false := by rcases hop with rfl | rfl | rfl | rfl | rfl <;> rfl
      simp only [ev, ho, Bool.false_eq_true, if_false] at he
      obtain ⟨r1, he1, he2⟩ := Option.bind_eq_some_iff.1 he
      exact cbin n hN op hop x y he1 he2 h hc hs hd

theorem cc_all : ∀ n, CC n ∧ CH n := by
  intro n
  induction n with
  | zero => exact ⟨fun L x env S r b w B st f c sc he => by simp [ev] at he, fun L i S r b w B st a he => by simp [ev] at he⟩
  | succ n ih => exact ⟨cc_step n ih.1 ih.2, hneed n ih.1⟩
end Go.Proofs.YtjjlgjmebnkdjaaGreatDoor

namespace Go.Proofs
open Go.Shelf
def Tryz.lays156_ren : Go.Shelf.Ren := ⟨fun | 156 => 212 | 165 => 213 | 166 => 214 | 169 => 215 | 240 => 216 | 241 => 217 | 276 => 218 | 277 => 219 | n => n, fun | 31 => 35 | 9 => 9 | 3 => 3 | 4 => 4 | 0 => 0 | 20 => 20 | 72 => 270 | 76 => 271 | 70 => 268 | 37 => 87 | 75 => 183 | 127 => 238 | 164 => 273 | 5 => 5 | 80 => 57 | n => n, fun | n => n⟩
theorem Tryz.lays156 : Go.Proofs.Lays.n156 Tryz.prog Tryz.lays156_ren := {
  mixed := by kernel_rfl
  f156 := Tryz.func212.trans (congrArg some (by kernel_rfl))
  f165 := Tryz.func213.trans (congrArg some (by kernel_rfl))
  f166 := Tryz.func214.trans (congrArg some (by kernel_rfl))
  f169 := Tryz.func215.trans (congrArg some (by kernel_rfl))
  f240 := Tryz.func216.trans (congrArg some (by kernel_rfl))
  f241 := Tryz.func217.trans (congrArg some (by kernel_rfl))
  f276 := Tryz.func218.trans (congrArg some (by kernel_rfl))
  f277 := Tryz.func219.trans (congrArg some (by kernel_rfl))
  t0 := Tryz.underlying0
  a0 := Tryz.isAgg0
  z0 := Tryz.sizeOf0
  v0 := Tryz.zeroValue0
  t3 := Tryz.underlying3
  a3 := Tryz.isAgg3
  z3 := Tryz.sizeOf3
  v3 := Tryz.zeroValue3
  t4 := Tryz.underlying4
  a4 := Tryz.isAgg4
  z4 := Tryz.sizeOf4
  v4 := Tryz.zeroValue4
  t9 := Tryz.underlying9
  a9 := Tryz.isAgg9
  z9 := Tryz.sizeOf9
  v9 := Tryz.zeroValue9
  t20 := Tryz.underlying20
  a20 := Tryz.isAgg20
  z20 := Tryz.sizeOf20
  v20 := Tryz.zeroValue20
  t31 := Tryz.underlying35
  a31 := Tryz.isAgg35
  z31 := Tryz.sizeOf35
  v31 := Tryz.zeroValue35
  t37 := Tryz.underlying87
  a37 := Tryz.isAgg87
  z37 := Tryz.sizeOf87
  v37 := Tryz.zeroValue87
  t70 := Tryz.underlying268
  a70 := Tryz.isAgg268
  z70 := Tryz.sizeOf268
  v70 := Tryz.zeroValue268
  t72 := Tryz.underlying270
  a72 := Tryz.isAgg270
  z72 := Tryz.sizeOf270
  v72 := Tryz.zeroValue270
  t75 := Tryz.underlying183
  a75 := Tryz.isAgg183
  z75 := Tryz.sizeOf183
  v75 := Tryz.zeroValue183
  t76 := Tryz.underlying271
  a76 := Tryz.isAgg271
  z76 := Tryz.sizeOf271
  v76 := Tryz.zeroValue271
  t127 := Tryz.underlying238
  a127 := Tryz.isAgg238
  z127 := Tryz.sizeOf238
  v127 := Tryz.zeroValue238
  t164 := Tryz.underlying273
  a164 := Tryz.isAgg273
  z164 := Tryz.sizeOf273
  v164 := Tryz.zeroValue273 }
theorem Tryz.Builder_Extra_156 : Builder.Extra Tryz.prog Tryz.lays156_ren := {
  sizeBuilder := by kernel_rfl
  liesBuilder := by kernel_rfl
  t5 := Tryz.underlying5
  a5 := Tryz.isAgg5
  z5 := Tryz.sizeOf5
  v5 := Tryz.zeroValue5
  infoByte := by kernel_rfl
  cellsByte := by kernel_rfl
  sizeByte := by kernel_rfl
  neB5 := by decide }
open Go.RowKit in
theorem Tryz.strings_Join_none (a : Option Addr) (c : Nat) (sep : ByteArray) (w : World) :
    Calls Tryz.prog 212 #[.slice a 0 c, .string sep] w fun e w' => e = .returned (.string ⟨#[]⟩) ∧ w' = w := Any.strings_Join_none Tryz.lays156 Tryz.Builder_Extra_156 a c sep w
open Go.RowKit in
theorem Tryz.strings_Join (bk o c : Nat) (xs : List ByteArray) (sep : ByteArray) (w : World) (hcells : ∀ (j : Nat) x, xs[j]? = some x → w.cell? ⟨bk, o + j, none⟩ = some (.string x)) (hbk : bk < w.heap.size) (hN : xs.length ≤ 140737488355328) (hcap : xs.length ≤ c) (hlen : (Lib.join (xs.map (·.data.toList)) sep.data.toList).length ≤ 140737488355328) :
    Calls Tryz.prog 212 #[.slice (some ⟨bk, o, none⟩) xs.length c, .string sep] w fun e w' => e = .returned (.string ⟨(Lib.join (xs.map (·.data.toList)) sep.data.toList).toArray⟩) ∧ Below w.heap.size w w' := Any.strings_Join Tryz.lays156 Tryz.Builder_Extra_156 bk o c xs sep w hcells hbk hN hcap hlen
end Go.Proofs

namespace Go.Proofs.YtjjlgjmebnkdjaaGreatDoor
open Go Go.Proofs Go.RowKit Skein

/-- All blocks but those of strings and lists stay. -/
def Lk (w w' : World) : Prop := ∀ (j : Nat) (cs : Array Value) (T : TypeId), T ≠ 9 → T ≠ 141 → w.heap[j]? = some (.cells cs T (0, 0)) → w'.heap[j]? = some (.cells cs T (0, 0))
theorem CodeAt.lk {st w w'} (hk : Lk w w') : ∀ {x : T} {f : Nat} {c : Array Value}, CodeAt st w x f c → CodeAt st w' x f c := by
  intro x
  induction x with
  | num n => rintro f c ⟨e, k, ec, h⟩; exact ⟨e, k, ec, hk _ _ _ (by decide) (by decide) h⟩
  | var n => rintro f c ⟨e, k, ec, h⟩; exact ⟨e, k, ec, hk _ _ _ (by decide) (by decide) h⟩
  | fn n a ia => rintro f c ⟨e, k, f1, c1, ec, h, ha⟩; exact ⟨e, k, f1, c1, ec, hk _ _ _ (by decide) (by decide) h, ia ha⟩
  | app a d ia id => rintro f c ⟨e, k1, k2, k3, f1, c1, f2, c2, sg, pg, ec, h1, h2, h3, ha, hd⟩; exact ⟨e, k1, k2, k3, f1, c1, f2, c2, sg, pg, ec, hk _ _ _ (by decide) (by decide) h1, hk _ _ _ (by decide) (by decide) h2, hk _ _ _ (by decide) (by decide) h3, ia ha, id hd⟩
  | letE n a d ia id => rintro f c ⟨e, k1, k2, f1, c1, f2, c2, ec, h1, h2, ha, hd⟩; exact ⟨e, k1, k2, f1, c1, f2, c2, ec, hk _ _ _ (by decide) (by decide) h1, hk _ _ _ (by decide) (by decide) h2, ia ha, id hd⟩
  | ite a d g ia id ig => rintro f c ⟨e, k1, k2, k3, f1, c1, f2, c2, f3, c3, ec, h1, h2, h3, ha, hd, hg⟩; exact ⟨e, k1, k2, k3, f1, c1, f2, c2, f3, c3, ec, hk _ _ _ (by decide) (by decide) h1, hk _ _ _ (by decide) (by decide) h2, hk _ _ _ (by decide) (by decide) h3, ia ha, id hd, ig hg⟩
  | nil => rintro f c h; exact h
  | un op a ia => rintro f c ⟨eo, e, k1, k2, f1, c1, ec, h1, h2, ha⟩; exact ⟨eo, e, k1, k2, f1, c1, ec, hk _ _ _ (by decide) (by decide) h1, hk _ _ _ (by decide) (by decide) h2, ia ha⟩
  | bin op a d ia id =>
    rintro f c (⟨eo, e, k1, k2, f1, c1, f2, c2, ec, h1, h2, ha, hd⟩ | ⟨eo, e, k1, k2, k3, f1, c1, f2, c2, ec, h1, h2, h3, ha, hd⟩)
    · exact .inl ⟨eo, e, k1, k2, f1, c1, f2, c2, ec, hk _ _ _ (by decide) (by decide) h1, hk _ _ _ (by decide) (by decide) h2, ia ha, id hd⟩
    · exact .inr ⟨eo, e, k1, k2, k3, f1, c1, f2, c2, ec, hk _ _ _ (by decide) (by decide) h1, hk _ _ _ (by decide) (by decide) h2, hk _ _ _ (by decide) (by decide) h3, ia ha, id hd⟩
  | _ => rintro f c h; exact h.elim
theorem ScAt.lk {w w' B env v} (h : ScAt w B env v) (hk : Lk w w') : ScAt w' B env v := by
  rcases h with h | ⟨g, cs, cap, e, hn, h1, h2, hh, ha⟩
  · exact .inl h
  · exact .inr ⟨g, cs, cap, e, hn, h1, h2, hk _ _ 139 (by decide) (by decide) hh, ha⟩
theorem VP.lk {st w w' B} (hk : Lk w w') {v : V} {x : Value} (h : VP st w B v x) : VP st w' B v x := by
  cases v with
  | num n => exact h
  | fn y env => obtain ⟨hd, k1, k2, f1, c1, sc, e, h1, h2, h3, h4⟩ := h; exact ⟨hd, k1, k2, f1, c1, sc, e, hk _ _ _ (by decide) (by decide) h1, hk _ _ _ (by decide) (by decide) h2, h3.lk hk, h4.lk hk⟩
  | nil => exact h
  | cons i j => exact h
theorem HdAt.lk {st w w' B} (hk : Lk w w') {c : C} {a : Nat} (h : HdAt st w B c a) : HdAt st w' B c a := by
  cases c with
  | wait x env => obtain ⟨hd, f, c, sc, hh, h1, h2⟩ := h; exact ⟨hd, f, c, sc, hk _ _ _ (by decide) (by decide) hh, h1.lk hk, h2.lk hk⟩
  | busy => obtain ⟨x, y, z, hh⟩ := h; exact ⟨x, y, z, hk _ _ _ (by decide) (by decide) hh⟩
  | known v => obtain ⟨x, y, z, hh, hv⟩ := h; exact ⟨x, y, z, hk _ _ _ (by decide) (by decide) hh, hv.lk hk⟩
theorem PE.lk {b w w' B st L S} (h : PE b w B st L S) (hk : Lk w w') : PE b w' B st L S :=
  ⟨hk _ _ _ (by decide) (by decide) h.steps, h.len, fun i c a h1 h2 => (h.hd i c a h1 h2).lk hk, h.inj, h.lo, h.slo, h.lim⟩

def TP (b : Nat) (w : World) (B : List Nat) (st L : Nat) (r : Except Int ByteArray × E) (e : Ending) (w' : World) : Prop :=
  (∃ s B', r.1 = .ok s ∧ e = .returned (.string s) ∧ FP b w w' ∧ Ext B B' ∧ PE b w' B' st L r.2) ∨ (∃ z, r.1 = .error z ∧ e = .panicked (oops z) ∧ Below b w w' ∧ SB w' st L r.2.steps)
def txf (T : Nat) : Nat := if T == 134 then 209 else if T == 196 then 231 else 211
def CPx (n : Nat) : Prop := ∀ (L : Nat) (v : V) (S : E) (r : Except Int ByteArray × E) (b : Nat) (w : World) (B : List Nat) (st T : Nat) (y : Value), tell L numT fnText n (.val v) S = some r → S.steps ≤ L → HIn S → VIn v → PE b w B st L S → VP st w B v (.iface T y) → Tab w → 3 < b →
  Calls Tryz.prog (txf T) #[y, ptr st] w (TP b w B st L r)

/-- What has been told of a list. -/
def accOf (told : List ByteArray) : ByteArray := ⟨(91 :: told.flatMap fun s => s.data.toList ++ [44, 32]).toArray⟩
def accE (told : List ByteArray) : ByteArray := ⟨(91 :: (Lib.join (told.map (·.data.toList)) [44, 32] ++ [93])).toArray⟩

theorem join_snoc (sep x : List UInt8) : ∀ xs : List (List UInt8), Lib.join (xs ++ [x]) sep = xs.flatMap (· ++ sep) ++ x
  | [] => by simp [Lib.join_one]
  | y :: r => by
    have ih := join_snoc sep x r
    obtain ⟨z, q, e⟩ : ∃ z q, r ++ [x] = z :: q := by cases r <;> exact ⟨_, _, rfl⟩
    rw [List.cons_append, e]
    rw [e] at ih
    have e2 : Lib.join (y :: z :: q) sep = y ++ sep ++ Lib.join (z :: q) sep := by simp [Lib.join, List.intercalate]
    rw [e2, ih]; simp
theorem accOf_snoc (told : List ByteArray) (s : ByteArray) : accOf (told ++ [s]) = accOf told ++ s ++ ⟨#[44, 32]⟩ := by
  apply ByteArray.ext; apply Array.toList_inj.1
  simp [accOf]
theorem accE_snoc (told : List ByteArray) (s : ByteArray) : accE (told ++ [s]) = accOf told ++ s ++ ⟨#[93]⟩ := by
  apply ByteArray.ext; apply Array.toList_inj.1
  simp only [accE, accOf, List.map_append, List.map_cons, List.map_nil, join_snoc]
  simp [List.flatMap_map]
theorem accE_eq (told : List ByteArray) : ⟨#[91]⟩ ++ ⟨(Lib.join (told.map (·.data.toList)) [44, 32]).toArray⟩ ++ ⟨#[93]⟩ = accE told := by
  apply ByteArray.ext; apply Array.toList_inj.1
  simp [accE]

/-- What went wrong is what is told. -/
def PXx (b : Nat) (w : World) (st L : Nat) (r : Except Int ByteArray × E) (z : Int) (w' : World) : Prop := r.1 = .error z ∧ Below b w w' ∧ SB w' st L r.2.steps

theorem xstep {b w B st L g acc r i j S} (h : PE b w B st L S) (hH : HIn S) (ha : acc.size ≤ 40 * S.steps + 1) (ht : tell L numT fnText (g + 1) (.parts acc i j) S = some r) :
    Calls Tryz.prog 135 #[ptr st] w fun e w' => (e = .returned (.tuple #[]) ∧ FP b w w' ∧ ∃ S1, PE b w' B st L S1 ∧ S1.steps = S.steps + 1 ∧ S1.steps ≤ L ∧ HIn S1 ∧ acc.size + 40 ≤ 40 * S1.steps + 1 ∧ Tail1 L numT fnText g acc r i j S1) ∨ (∃ z, e = .panicked (oops z) ∧ PXx b w st L r z w') := by
  rcases parts_tail ht with ⟨hl, rfl⟩ | ⟨hl, h1⟩
  · refine (count_no h hl).mono ?_
    rintro e w' ⟨rfl, k, q⟩
    exact .inr ⟨8, rfl, rfl, k, q⟩
  · refine (count_ok h hl).mono ?_
    rintro e w' ⟨rfl, k, q⟩
    exact .inl ⟨rfl, k, _, q, rfl, by show S.steps + 1 ≤ L; omega, hH, by show acc.size + 40 ≤ 40 * (S.steps + 1) + 1; omega, h1⟩

theorem xneed1 {b w B st L g acc r i j a S} (h : PE b w B st L S) (hS : S.steps ≤ L) (hH : HIn S) (ht : Tail1 L numT fnText g acc r i j S) (ha : B[i]? = some a) :
    Calls Tryz.prog 98 #[ptr a] w fun e w' => (∃ T y, e = .returned (.iface T y) ∧ FP b w w' ∧ ∃ B1 S1 v, Ext B B1 ∧ PE b w' B1 st L S1 ∧ S.steps ≤ S1.steps ∧ S1.steps ≤ L ∧ HIn S1 ∧ VIn v ∧ VP st w' B1 v (.iface T y) ∧ Tail2 L numT fnText g acc r j v S1) ∨ (∃ z, e = .panicked (oops z) ∧ PXx b w st L r z w') := by
  obtain ⟨q, h5, h6, h7⟩ := ht
  have st := ev_steps L g _ _ _ h5 hS
  have hin := ev_in L g _ _ _ h5 hH trivial
  refine ((cc_all g).2 L i S q b w B _ a h5 h ha).mono ?_
  rintro e w' (⟨v, B', x, hr, rfl, hk, hB, hp, hv⟩ | ⟨z, hr, rfl, hb, hs⟩)
  · obtain ⟨T, y, rfl⟩ := hv.shape
    have hI := hin.2
    rw [hr] at hI
    exact .inl ⟨T, y, rfl, hk, B', q.2, v, hB, hp, st.1, st.2, hin.1, hI, hv, h7 v hr⟩
  · have := h6 z hr
    subst this
    exact .inr ⟨z, rfl, rfl, hb, hs⟩

theorem xtext {b w B st L g acc r j v S T y} (hT : CPx g) (h : PE b w B st L S) (hS : S.steps ≤ L) (hH : HIn S) (hacc : acc.size + 40 ≤ 40 * S.steps + 1) (hI : VIn v) (hv : VP st w B v (.iface T y)) (ht : Tail2 L numT fnText g acc r j v S) (hTab : Tab w) (h3 : 3 < b) :
    Calls Tryz.prog (txf T) #[y, ptr st] w fun e w' => (∃ s, e = .returned (.string s) ∧ FP b w w' ∧ ∃ B1 S1, Ext B B1 ∧ PE b w' B1 st L S1 ∧ S.steps ≤ S1.steps ∧ S1.steps ≤ L ∧ HIn S1 ∧ acc.size + s.size + 2 ≤ 40 * S1.steps + 1 ∧ Tail3 L numT fnText g acc r j s S1) ∨ (∃ z, e = .panicked (oops z) ∧ PXx b w st L r z w') := by
  obtain ⟨t, h7, h8, h9⟩ := ht
  obtain ⟨st2, st3, sz2⟩ := tell_size L numT fnText numT_size (by decide) g _ _ _ h7 hS
  have hin := tell_in L numT fnText g _ _ _ h7 hH
  refine (hT L v S t b w B _ T y h7 hS hH hI h hv hTab h3).mono ?_
  rintro e w' (⟨s, B', ht, rfl, hk, hB, hp⟩ | ⟨z, ht, rfl, hb, hs⟩)
  · have hs := sz2 s ht
    exact .inl ⟨s, rfl, hk, B', t.2, hB, hp, st2, st3, hin, by omega, h9 s ht⟩
  · have := h8 z ht
    subst this
    exact .inr ⟨z, rfl, rfl, hb, hs⟩

theorem xneed2 {b w B st L g acc r j a s S} (h : PE b w B st L S) (hS : S.steps ≤ L) (hH : HIn S) (ht : Tail3 L numT fnText g acc r j s S) (ha : B[j]? = some a) :
    Calls Tryz.prog 98 #[ptr a] w fun e w' => (∃ T y, e = .returned (.iface T y) ∧ FP b w w' ∧ ∃ B1 S1 v, Ext B B1 ∧ PE b w' B1 st L S1 ∧ S.steps ≤ S1.steps ∧ S1.steps ≤ L ∧ HIn S1 ∧ VP st w' B1 v (.iface T y) ∧ Tail4 L numT fnText g acc r s v S1) ∨ (∃ z, e = .panicked (oops z) ∧ PXx b w st L r z w') := by
  obtain ⟨q, h5, h6, h7⟩ := ht
  have st := ev_steps L g _ _ _ h5 hS
  have hin := ev_in L g _ _ _ h5 hH trivial
  refine ((cc_all g).2 L j S q b w B _ a h5 h ha).mono ?_
  rintro e w' (⟨v, B', x, hr, rfl, hk, hB, hp, hv⟩ | ⟨z, hr, rfl, hb, hs⟩)
  · obtain ⟨T, y, rfl⟩ := hv.shape
    exact .inl ⟨T, y, rfl, hk, B', q.2, v, hB, hp, st.1, st.2, hin.1, hv, h7 v hr⟩
  · have := h6 z hr
    subst this
    exact .inr ⟨z, rfl, rfl, hb, hs⟩

/-- How it goes on with the rest. -/
def Next (B : List Nat) (L g : Nat) (told : List ByteArray) (r : Except Int ByteArray × E) (S : E) (o1 o2 : Option Addr) : Prop :=
  (∃ i j a c, o1 = some ⟨a, 0, none⟩ ∧ o2 = some ⟨c, 0, none⟩ ∧ B[i]? = some a ∧ B[j]? = some c ∧ tell L numT fnText g (.parts (accOf told) i j) S = some r) ∨ (o1 = none ∧ o2 = none ∧ told ≠ [] ∧ r = (.ok (accE told), S))
theorem Next.ext {B B' L g told r S o1 o2} (h : Next B L g told r S o1 o2) (hB : Ext B B') : Next B' L g told r S o1 o2 := by
  rcases h with ⟨i, j, a, c, h1, h2, h3, h4, h5⟩ | h
  · exact .inl ⟨i, j, a, c, h1, h2, hB _ _ h3, hB _ _ h4, h5⟩
  · exact .inr h

theorem xlist {b w0 w B st L g told r s v S T y} (h : PE b w B st L S) (hv : VP st w B v (.iface T y)) (ht : Tail4 L numT fnText g (accOf told) r s v S) (hk : Below b w0 w) :
    Calls Tryz.prog 145 #[.iface T y] w fun e w' => (∃ o1 o2, e = .returned (.agg #[.pointer o1, .pointer o2]) ∧ World.grownBy w w' none ∧ Next B L g (told ++ [s]) r S o1 o2) ∨ (∃ z, e = .panicked (oops z) ∧ PXx b w0 st L r z w') := by
  have hb := h.blt
  rcases as_list_of hv with ⟨rfl, rfl, rfl⟩ | ⟨i, j, a, c, rfl, rfl, rfl, hi, hj⟩ | ⟨hno, hbad⟩
  · refine (as_list _ _ w).mono ?_
    rintro e w' ⟨rfl, hg⟩
    refine .inl ⟨_, _, rfl, hg, .inr ⟨rfl, rfl, by simp, ?_⟩⟩
    rcases ht with ⟨_, ht⟩ | ⟨i, j, ht, _⟩ | ⟨ht, _⟩
    · rw [accE_snoc]; exact ht
    · cases ht
    · cases ht
  · refine (as_list _ _ w).mono ?_
    rintro e w' ⟨rfl, hg⟩
    refine .inl ⟨_, _, rfl, hg, .inl ⟨i, j, a, c, rfl, rfl, hi, hj, ?_⟩⟩
    rcases ht with ⟨ht, _⟩ | ⟨i', j', ht, hr⟩ | ⟨ht, _⟩
    · cases ht
    · cases ht; rw [accOf_snoc]; exact hr
    · cases ht
  · refine (hno w).mono ?_
    rintro e w' ⟨rfl, hg⟩
    have hr : r = (.error 5, S) := by
      rcases ht with ⟨rfl, _⟩ | ⟨i', j', rfl, hr⟩ | ⟨_, ht⟩
      · cases hbad
      · cases hbad
      · exact ht
    subst hr
    exact .inr ⟨5, rfl, rfl, hk.trans (Fr.grown (d1 := 194) (d2 := 78) hb hg).below, (h.grown hg).steps⟩

theorem Fr.row {d1 d2 b : Nat} {w w4 w5 : World} (h : Fr d1 d2 b w w4) {o : Option Nat} (hg : w4.grownBy w5 o) (ho : ∀ g, o = some g → w.heap.size ≤ g) (hb : b ≤ w.heap.size) : Fr d1 d2 b w w5 := by
  have hs := h.size
  refine ⟨⟨hg.os.trans h.below.os, hg.tape.trans h.below.tape, hg.output.trans h.below.output, Nat.le_trans hs hg.size, fun j hj => ?_⟩, fun j cs T h1 h2 hc => ?_⟩
  · rw [hg.block j (by omega) (by rintro e; have := ho j e.symm; omega)]; exact h.below.block j hj
  · have hl := heap_lt hc
    rw [hg.block j (by omega) (by rintro e; have := ho j e.symm; omega)]; exact h.keep j cs T h1 h2 hc
theorem Lk.row {w4 w5 : World} {base n : Nat} {v : Value} {xs : List Value} (ho : w4.ownsRow base 9 1 v n xs) (hg : w4.grownBy w5 v.ownBlock) : Lk w4 w5 := by
  intro j cs T hT _ hc
  rw [hg.block j (heap_lt hc) ?_]; exact hc
  intro e
  rcases ho.2 with ⟨rfl, _⟩ | ⟨g, cap, cur, rfl, _, hh, _⟩
  · cases e
  · have e' : j = g := by simpa [Value.ownBlock] using e
    subst e'
    rw [hc] at hh
    simp only [Option.some.injEq, Obj.cells.injEq] at hh
    exact hT hh.2.1
theorem Lk0.of {w4 w5 : World} {base n k : Nat} {v : Value} {xs : List Value} {cs : Array Value} (ho : w4.ownsRow base 9 1 v n xs) (hg : w4.grownBy w5 v.ownBlock) (hc : w4.heap[k]? = some (.cells cs 141 (0, 0))) : w5.heap[k]? = some (.cells cs 141 (0, 0)) := by
  rw [hg.block k (heap_lt hc) ?_]; exact hc
  intro e
  rcases ho.2 with ⟨rfl, _⟩ | ⟨g, cap, cur, rfl, _, hh, _⟩
  · cases e
  · have e' : k = g := by simpa [Value.ownBlock] using e
    subst e'
    rw [hc] at hh
    simp only [Option.some.injEq, Obj.cells.injEq] at hh
    exact absurd hh.2.1 (by decide)
theorem own_lo {w : World} {base n : Nat} {v : Value} {xs : List Value} (ho : w.ownsRow base 9 1 v n xs) : ∀ g, v.ownBlock = some g → base ≤ g := by
  intro g e
  rcases ho.2 with ⟨rfl, _⟩ | ⟨g', cap, cur, rfl, hb, _⟩
  · cases e
  · have e' : g' = g := by simpa [Value.ownBlock] using e
    subst e'; exact hb
theorem own_fp {w w' : World} {base n : Nat} {v : Value} {xs : List Value} {bb : Nat} (ho : w.ownsRow base 9 1 v n xs) (hk : FP bb w w') : w'.ownsRow base 9 1 v n xs := by
  refine ⟨ho.1, ?_⟩
  rcases ho.2 with h | ⟨g, cap, cur, e, hb, hh, h1, h2, h3, h4⟩
  · exact .inl h
  · exact .inr ⟨g, cap, cur, e, hb, hk.keep _ _ 9 (by decide) (by decide) hh, h1, h2, h3, h4⟩

theorem join_len (sep : List UInt8) : ∀ xs : List (List UInt8), (Lib.join xs sep).length ≤ (xs.flatMap (· ++ sep)).length := by
  intro xs
  rcases List.eq_nil_or_concat xs with rfl | ⟨l, x, rfl⟩
  · simp [Lib.join, List.intercalate]
  · rw [List.concat_eq_append, join_snoc]; simp
theorem join_size (told : List ByteArray) : (Lib.join (told.map (·.data.toList)) [44, 32]).length + 1 ≤ (accOf told).size := by
  have := join_len [44, 32] (told.map (·.data.toList))
  have e : (accOf told).size = (told.flatMap fun s => s.data.toList ++ [44, 32]).length + 1 := by
    show (List.toArray _).size = _
    rw [List.size_toArray, List.length_cons]
  rw [e]
  rw [List.flatMap_map] at this
  omega

/-- Where the loop stands. -/
def LRel (b : Nat) (w : World) (B : List Nat) (st L : Nat) (r : Except Int ByteArray × E) (g : Nat) (v : Value) (wr : World) : Prop :=
  ∃ told B' S' o1 o2, wr.ownsRow (w.heap.size + 1) 9 1 v told.length (told.map Value.string) ∧ FP b w wr ∧ Ext B B' ∧ PE b wr B' st L S' ∧ S'.steps ≤ L ∧ HIn S' ∧ told.length ≤ S'.steps ∧ (accOf told).size ≤ 40 * S'.steps + 1 ∧
    wr.heap[w.heap.size]? = some (.cells #[.pointer o1, .pointer o2] 141 (0, 0)) ∧ Hid (Next B' L g told r S' o1 o2)

theorem Lk.set {w : World} {k : Nat} {cs : Array Value} (h : w.heap[k]? = some (.cells cs 141 (0, 0))) (o : Nat) (v : Value) : Lk w (w.setCell ⟨k, o, none⟩ v) := by
  intro j cs' T _ hT hc
  rw [Below.heap_setCell _ _ _ _ ?_]; exact hc
  show j ≠ k
  rintro rfl
  rw [h] at hc
  simp only [Option.some.injEq, Obj.cells.injEq] at hc
  exact hT hc.2.1.symm
theorem vp_text {st w B v T y} (h : VP st w B v (.iface T y)) : (∀ w, (method 376 T y "skein/need.text").run Tryz.prog w = .ok (txf T, y) w) ∧ ∀ (args : Array Value) (w : World), (callFunc (txf T) args).run Tryz.prog w = .ok (.enter (txf T) args) w := by
  cases v with
  | num k => simp only [VP, Value.iface.injEq] at h; obtain ⟨rfl, rfl⟩ := h; exact ⟨fun _ => by kernel_rfl, enters_of Tryz.func209 (by kernel_rfl) rfl⟩
  | fn t e => obtain ⟨_, j1, j2, g1, d1, sc', h, _⟩ := h; simp only [Value.iface.injEq] at h; obtain ⟨rfl, rfl⟩ := h; exact ⟨fun _ => by kernel_rfl, enters_of Tryz.func231 (by kernel_rfl) rfl⟩
  | nil => simp only [VP, Value.iface.injEq] at h; obtain ⟨rfl, rfl⟩ := h; exact ⟨fun _ => by kernel_rfl, enters_of Tryz.func211 (by kernel_rfl) rfl⟩
  | cons i j => obtain ⟨a, c, h, h1, h2⟩ := h; simp only [Value.iface.injEq] at h; obtain ⟨rfl, rfl⟩ := h; exact ⟨fun _ => by kernel_rfl, enters_of Tryz.func211 (by kernel_rfl) rfl⟩

theorem info9x : (Tryz.prog.info? 9).map (fun i => (i.zero, i.size, i.bytes)) = some (some (.string ByteArray.empty), 1, 16) := by kernel_rfl

set_option maxRecDepth 100000 in
set_option maxHeartbeats 16000000 in
theorem ltext (n : Nat) (hT : ∀ m, m < n → CPx m) {L : Nat} {S : E} {r : Except Int ByteArray × E} {b : Nat} {w : World} {B : List Nat} {st i j a c : Nat} (he : tell L numT fnText n (.parts ⟨#[91]⟩ i j) S = some r) (hS : S.steps ≤ L) (hH : HIn S) (h : PE b w B st L S) (ha : B[i]? = some a) (hc : B[j]? = some c) (ht : Tab w) (h3 : 3 < b) :
    Calls Tryz.prog 211 #[.agg #[ptr a, ptr c], ptr st] w (TP b w B st L r) := by
  have hb := h.blt
  have hL := h.lim
  obtain ⟨i0, hi, hz0, hz1, hz2⟩ := info_parts info9x
  have HTab : Hid (∀ w', FP b w w' → Tab w') := fun w' hk => ht.belowB hk.below h3
  have hg := grown_alloc (grown_refl w none) (.cells #[ptr a, ptr c] 141 (0, 0))
  have hy := alloc_at w (.cells #[ptr a, ptr c] 141 (0, 0)) w.heap.size rfl
  have HR0 : Hid (LRel b w B st L r n (.slice none 0 0) (w.alloc (.cells #[ptr a, ptr c] 141 (0, 0)))) :=
    ⟨[], B, S, _, _, World.ownsRow_nil _ _ _ _, Fr.grown hb hg, Ext.refl _, h.grown hg, hS, hH, Nat.zero_le _, by show 1 ≤ _; omega, hy, .inl ⟨i, j, a, c, rfl, rfl, ha, hc, he⟩⟩
  clear he h hS hH ha hc ht hg hy
  go_enter Tryz.func211, Tryz.ntmps211
  go_wp2_with fail
  go_loopg [5] n (fun g v wr => g ≤ n ∧ Hid (LRel b w B st L r g v wr))
  case atStart => exact ⟨Nat.le_refl _, HR0⟩
  case round =>
    clear HR0
    obtain ⟨hgn, HRel⟩ := hrel
    obtain ⟨told, B', S', o1, o2, hown, hf, hB, hP, hS, hH, htl, hacc, hbl, HN⟩ := HRel.out
    clear HRel
    obtain ⟨x0, x1, xf, xlt⟩ := list_cells hbl
    rcases HN.out with ⟨i, j, a, c, rfl, rfl, hi', hj', htell⟩ | ⟨rfl, rfl, hne, hr⟩
    · cases gk with
      | zero => simp [tell] at htell
      | succ g =>
        obtain ⟨ga, gc, rfl⟩ := own_slice hown
        have HT' : Hid (CPx g) := hT g (by omega)
        have Hi : Hid (B'[i]? = some a) := hi'
        have Hj : Hid (B'[j]? = some c) := hj'
        have HTL : Hid (tell L numT fnText (g + 1) (.parts (accOf told) i j) S' = some r) := htell
        clear HN htell hi' hj' hT
        have hne0 : ((some (⟨a, 0, none⟩ : Addr)) == none) = false := rfl
        go_wp2_with fail
        refine (lempty _ _ _).mono ?_
        rintro e w1 ⟨rfl, g1⟩
        have f1 : FP b wr w1 := Fr.grown hP.blt g1
        have P1 := hP.grown g1
        have b1 := keepB' hbl g1
        have own1 := own_fp hown f1
        have hf1 := hf.trans f1
        have HS1 : Hid (Calls Tryz.prog 135 #[ptr st] w1 _) := xstep P1 hH hacc HTL.out
        obtain ⟨y0, y1, yf, ylt⟩ := list_cells b1
        clear x0 x1 xf xlt hbl hown hP g1 f1 hf HTL
        go_wp2_with fail
        refine HS1.out.mono ?_
        rintro e w2 (⟨rfl, k2, S1, P2, e1, l1, hH1, ac1, t1⟩ | ⟨z, rfl, hx⟩)
        rotate_left
        · go_wp2_with fail
          exact ⟨rfl, .inr ⟨z, hx.1, rfl, hf1.below.trans hx.2.1, hx.2.2⟩⟩
        have b2 := k2.keep _ _ 141 (by decide) (by decide) b1
        have own2 := own_fp own1 k2
        have hf2 := hf1.trans k2
        have HS2 : Hid (Calls Tryz.prog 98 #[ptr a] w2 _) := xneed1 P2 l1 hH1 t1 Hi.out
        obtain ⟨z0, z1, zf, zlt⟩ := list_cells b2
        clear y0 y1 yf ylt b1 own1 P1 hf1 k2 HS1 t1
        go_wp2_with fail
        refine HS2.out.mono ?_
        rintro e w3 (⟨T3, y3, rfl, k3, B3, S3, v3, hB3, P3, m3, l3, hH3, hI3, hv3, t3⟩ | ⟨z, rfl, hx⟩)
        rotate_left
        · go_wp2_with fail
          exact ⟨rfl, .inr ⟨z, hx.1, rfl, hf2.below.trans hx.2.1, hx.2.2⟩⟩
        have b3 := k3.keep _ _ 141 (by decide) (by decide) b2
        have own3 := own_fp own2 k3
        have hf3 := hf2.trans k3
        obtain ⟨hm3, hent3⟩ := vp_text hv3
        have HS3 : Hid (Calls Tryz.prog (txf T3) #[y3, ptr st] w3 _) := xtext HT'.out P3 l3 hH3 (by omega) hI3 hv3 t3 (HTab.out _ hf3) h3
        clear z0 z1 zf zlt b2 own2 P2 hf2 k3 HS2 t3 hv3
        generalize txf T3 = ft at hm3 hent3 HS3
        go_wp2_with fail
        refine HS3.out.mono ?_
        rintro e w4 (⟨s, rfl, k4, B4, S4, hB4, P4, m4, l4, hH4, ac4, t4⟩ | ⟨z, rfl, hx⟩)
        rotate_left
        · go_wp2_with fail
          exact ⟨rfl, .inr ⟨z, hx.1, rfl, hf3.below.trans hx.2.1, hx.2.2⟩⟩
        have b4 := k4.keep _ _ 141 (by decide) (by decide) b3
        have own4 := own_fp own3 k4
        have hf4 := hf3.trans k4
        have Ht4 : Hid (Tail3 L numT fnText g (accOf told) r j s S4) := t4
        clear b3 own3 P3 hf3 k4 HS3 t4 hm3 hent3
        go_wp2_with (at_builtin; refine wpList_append_own _ rfl _ _ 35 rfl (w.heap.size + 1) 9 i0 (.string ByteArray.empty) 1 16 Tryz.underlying35 hi hz0 hz1 hz2 rfl (by decide) _ _ _ rfl (own4.alloc _) ⟨w4.heap.size, 0, none⟩ 1 1 [.string s] rfl rfl (cell_one_new _ _ _) (fun u hu => by simp at hu; subst hu; rfl) (by unfold maxLen; omega) (by omega) (by have := heap_lt b4; simp; omega) ?_; intro v' w5 hown' hgrow _; obtain ⟨g', cap', rfl⟩ := own_succ hown'; have b5 := Lk0.of (own4.alloc _) hgrow (keepB' b4 (grown_alloc (grown_refl _ none) _)); obtain ⟨q0, q1, qf, qlt⟩ := list_cells b5)
        have hgrow' : (w4.alloc (.cells #[.string s] 9 (0, 0))).grownBy w5 (Value.slice ga told.length gc).ownBlock := hgrow
        have ga5 := grown_alloc (grown_refl w4 none) (.cells #[.string s] 9 (0, 0))
        have f5 : FP b w w5 := Fr.row (hf4.trans (Fr.grown P4.blt ga5)) hgrow' (fun q e => by have := own_lo own4 q e; omega) hb
        have P5 := (P4.grown ga5).lk (Lk.row (own4.alloc (.cells #[.string s] 9 (0, 0))) hgrow')
        have HS4 : Hid (Calls Tryz.prog 98 #[ptr c] w5 _) := xneed2 P5 l4 hH4 Ht4.out (hB4 _ _ (hB3 _ _ Hj.out))
        have hown5 : w5.ownsRow (w.heap.size + 1) 9 1 (.slice (some ⟨g', 0, none⟩) (told.length + 1) cap') (told ++ [s]).length ((told ++ [s]).map Value.string) := by simpa using hown'
        clear hgrow hgrow' ga5 P4 hf4 own4 b4 hown' Ht4 P5
        refine HS4.out.mono ?_
        rintro e w6 (⟨T6, y6, rfl, k6, B6, S6, v6, hB6, P6, m6, l6, hH6, hv6, t6⟩ | ⟨z, rfl, hx⟩)
        rotate_left
        · go_wp2_with fail
          exact ⟨rfl, .inr ⟨z, hx.1, rfl, f5.below.trans hx.2.1, hx.2.2⟩⟩
        have b6 := k6.keep _ _ 141 (by decide) (by decide) b5
        have own6 := own_fp hown5 k6
        have hf6 := f5.trans k6
        have HS5 : Hid (Calls Tryz.prog 145 #[.iface T6 y6] w6 _) := xlist P6 hv6 t6 hf6.below
        clear q0 q1 qf qlt b5 hown5 f5 k6 HS4 t6 hv6
        go_wp2_with fail
        refine HS5.out.mono ?_
        rintro e w7 (⟨o1, o2, rfl, g7, nx⟩ | ⟨z, rfl, hx⟩)
        rotate_left
        · go_wp2_with fail
          exact ⟨rfl, .inr ⟨z, hx.1, rfl, hx.2.1, hx.2.2⟩⟩
        have b7 := keepB' b6 g7
        have f7 : FP b w6 w7 := Fr.grown P6.blt g7
        have own7 := own_fp own6 f7
        have hf7 := hf6.trans f7
        have P7 := P6.grown g7
        have HN7 : Hid (Next B6 L g (told ++ [s]) r S6 o1 o2) := nx
        obtain ⟨r0, r1, rf, rl⟩ := list_cells b7
        clear HS5 nx b6 own6 hf6 P6 g7 f7
        go_wp2_with fail
        have HL : Hid (LRel b w B st L r g (.slice (some ⟨g', 0, none⟩) (told.length + 1) cap') ((w7.setCell ⟨w.heap.size, 0, none⟩ (.pointer o1)).setCell ⟨w.heap.size, 1, none⟩ (.pointer o2))) := by
          have c0 := RB.set b7 0 (.pointer o1)
          refine ⟨told ++ [s], B6, S6, o1, o2, ?_, (hf7.setnew (Nat.le_refl _) hb 0 _).setnew (Nat.le_refl _) hb 1 _, ((hB.trans hB3).trans hB4).trans hB6, (P7.lk (Lk.set b7 0 _)).lk (Lk.set c0 1 _), l6, hH6, ?_, ?_, set2l b7 _ _, HN7⟩
          · exact ownsRow_setCell_below (ownsRow_setCell_below own7 (a := ⟨w.heap.size, 0, none⟩) (Nat.lt_succ_self _) _) (a := ⟨w.heap.size, 1, none⟩) (Nat.lt_succ_self _) _
          · simp; omega
          · rw [accOf_snoc]; simp only [ByteArray.size_append]
            have e2 : (ByteArray.mk #[44, 32]).size = 2 := rfl
            omega
        go_roundg g
        case measure => omega
        case rel => exact ⟨by omega, HL⟩
    · obtain ⟨g', cap', rfl, hcell⟩ := own_at hown (by rcases told with _ | ⟨t, l⟩; exact absurd rfl hne; simp)
      have hcap : told.length ≤ cap' := by
        rcases hown.2 with ⟨h1, _⟩ | ⟨g2, cap2, cur, h1, h2, h3, h4, h5, h6, h7⟩
        · cases h1
        · cases h1; exact h4
      have hgl : g' < wr.heap.size := by
        rcases hown.2 with ⟨h1, _⟩ | ⟨g2, cap2, cur, h1, h2, h3, h4, h5, h6, h7⟩
        · cases h1
        · cases h1; exact heap_lt h3
      have HR : Hid (r = (.ok (accE told), S')) := hr
      clear HN hr hne hT
      have hne0 : ((none : Option Addr) == none) = true := rfl
      go_wp2_with fail
      refine (lempty _ _ _).mono ?_
      rintro e w1 ⟨rfl, g1⟩
      have P1 := hP.grown g1
      have hf1 := hf.trans (Fr.grown hP.blt g1)
      have hjs := join_size told
      have HJ : Hid (Calls Tryz.prog 212 #[.slice (some ⟨g', 0, none⟩) told.length cap', .string ⟨#[44, 32]⟩] w1 _) := Tryz.strings_Join g' 0 cap' told ⟨#[44, 32]⟩ w1 (fun j x hx => by
          have := hcell j (.string x) (by rw [List.getElem?_map, hx]; rfl)
          rw [Nat.zero_add, World.cell?_of_block (g1.block g' hgl (by simp))]; exact this) (Nat.lt_of_lt_of_le hgl g1.size) (by omega) hcap (by show (Lib.join _ [44, 32]).length ≤ _; omega)
      clear hcell x0 x1 xf hown hP hf hbl
      go_wp2_with fail
      refine HJ.out.mono ?_
      rintro e w2 ⟨rfl, hb2⟩
      have hg2 : World.grownBy w1 w2 none := ⟨hb2.os, hb2.tape, hb2.output, hb2.size, fun j hj _ => hb2.block j hj⟩
      have P2 := P1.grown hg2
      have hf2 := hf1.trans (Fr.grown P1.blt hg2)
      have HA : Hid (⟨#[91]⟩ ++ ⟨(Lib.join (told.map (·.data.toList)) [44, 32]).toArray⟩ ++ ⟨#[93]⟩ = accE told) := accE_eq told
      have hz1 : (ByteArray.mk (Lib.join (told.map (·.data.toList)) [44, 32]).toArray).size ≤ 100000 := by
        show (List.toArray _).size ≤ _
        rw [List.size_toArray]; omega
      generalize (ByteArray.mk (Lib.join (told.map (·.data.toList)) [44, 32]).toArray) = J at HA hz1 ⊢
      have hz2 : 1 + J.size ≤ 9223372036854775807 := by omega
      have hz3 : (⟨#[91]⟩ ++ J).size + 1 ≤ 9223372036854775807 := by
        rw [ByteArray.size_append]
        have e2 : (ByteArray.mk #[91]).size = 1 := rfl
        omega
      clear hjs hb2
      go_wp2_with fail
      go_ret
      have e2 := HR.out
      subst e2
      exact .inl ⟨_, B', rfl, ret_str HA.out, hf2, hB, P2⟩

set_option maxRecDepth 100000 in
set_option maxHeartbeats 4000000 in
theorem ltext_nil (st : Nat) (w : World) : Calls Tryz.prog 211 #[.agg #[.pointer none, .pointer none], ptr st] w fun e w' => e = .returned (.string ⟨#[91, 93]⟩) ∧ World.grownBy w w' none := by
  have hg := grown_alloc (grown_refl w none) (.cells #[.pointer none, .pointer none] 141 (0, 0))
  have hy := alloc_at w (.cells #[.pointer none, .pointer none] 141 (0, 0)) w.heap.size rfl
  go_enter Tryz.func211, Tryz.ntmps211
  go_wp2_with fail
  go_loopg [5] 0 (fun g v wr => v = .slice none 0 0 ∧ wr = w.alloc (.cells #[.pointer none, .pointer none] 141 (0, 0)))
  case atStart => exact ⟨rfl, rfl⟩
  case round =>
    obtain ⟨rfl, rfl⟩ := hrel
    have hne0 : ((none : Option Addr) == none) = true := rfl
    go_wp2_with fail
    refine (lempty _ _ _).mono ?_
    rintro e w1 ⟨rfl, g1⟩
    go_wp2_with fail
    refine (Tryz.strings_Join_none none 0 ⟨#[44, 32]⟩ w1).mono ?_
    rintro e w2 ⟨rfl, rfl⟩
    go_wp2_with fail
    go_ret
    exact ⟨rfl, grown_trans hg g1⟩

theorem cpx_all : ∀ n, CPx n := by
  intro n
  induction n using Nat.strongRecOn with
  | _ n ih =>
    intro L v S r b w B st T y he hS hH hI h hv ht h3
    cases n with
    | zero => simp [tell] at he
    | succ n =>
      have hb := h.blt
      cases v with
      | num k =>
        simp only [VP, Value.iface.injEq] at hv
        obtain ⟨rfl, rfl⟩ := hv
        simp only [tell, Option.some.injEq] at he
        subst he
        refine (vnum_text k hI st w ht).mono ?_
        rintro e w' ⟨rfl, hg⟩
        exact .inl ⟨_, B, rfl, by rw [numT_in hI], Fr.grown hb hg, Ext.refl _, h.grown hg⟩
      | fn t fe =>
        obtain ⟨_, j1, j2, g1, d1, sc', hv, _⟩ := hv
        simp only [Value.iface.injEq] at hv
        obtain ⟨rfl, rfl⟩ := hv
        simp only [tell, Option.some.injEq] at he
        subst he
        refine (fn_text _ st w).mono ?_
        rintro e w' ⟨rfl, rfl⟩
        exact .inl ⟨_, B, rfl, rfl, Fr.refl _ _ _ _, Ext.refl _, h⟩
      | nil =>
        simp only [VP, Value.iface.injEq] at hv
        obtain ⟨rfl, rfl⟩ := hv
        simp only [tell, Option.some.injEq] at he
        subst he
        refine (ltext_nil st w).mono ?_
        rintro e w' ⟨rfl, hg⟩
        exact .inl ⟨_, B, rfl, rfl, Fr.grown hb hg, Ext.refl _, h.grown hg⟩
      | cons i j =>
        obtain ⟨a, c, hv, h1, h2⟩ := hv
        simp only [Value.iface.injEq] at hv
        obtain ⟨rfl, rfl⟩ := hv
        simp only [tell] at he
        exact ltext n (fun m hm => ih m (by omega)) he hS hH h h1 h2 ht h3
end Go.Proofs.YtjjlgjmebnkdjaaGreatDoor
