/-
  The document's plain form.
-/
import Derived.Test.YtjjlgjmebnkdjaaGreatDoorRefK
import Derived.Test.YtjjlgjmebnkdjaaGreatDoorGood
import Derived.Lib.ItoaLen
import Derived.Laws.IdiomStrings
namespace Go.Proofs.YtjjlgjmebnkdjaaGreatDoor
open Go Go.Proofs Go.RowKit Skein

def wordOf (op : UInt8) : ByteArray := if op == 104 then ⟨#[40, 104, 101, 97, 100, 32]⟩ else if op == 116 then ⟨#[40, 116, 97, 105, 108, 32]⟩ else ⟨#[40, 110, 117, 108, 108, 32]⟩

def plain : T → ByteArray
  | .junk => ⟨#[]⟩
  | .free => ⟨#[]⟩
  | .nil => ⟨#[91, 93]⟩
  | .num n => dig n
  | .var n => ⟨#[118]⟩ ++ dig n
  | .letE n a b => ⟨#[40, 108, 101, 116, 32, 118]⟩ ++ dig n ++ ⟨#[32, 61, 32]⟩ ++ plain a ++ ⟨#[32, 105, 110, 32]⟩ ++ plain b ++ ⟨#[41]⟩
  | .fn n a => ⟨#[40, 92, 118]⟩ ++ dig n ++ ⟨#[46, 32]⟩ ++ plain a ++ ⟨#[41]⟩
  | .ite a b c => ⟨#[40, 105, 102, 32]⟩ ++ plain a ++ ⟨#[32, 116, 104, 101, 110, 32]⟩ ++ plain b ++ ⟨#[32, 101, 108, 115, 101, 32]⟩ ++ plain c ++ ⟨#[41]⟩
  | .app a b => ⟨#[40]⟩ ++ plain a ++ ⟨#[32]⟩ ++ plain b ++ ⟨#[41]⟩
  | .un op a => wordOf op ++ plain a ++ ⟨#[41]⟩
  | .bin op a b => ⟨#[40]⟩ ++ plain a ++ ⟨#[32]⟩ ++ ⟨#[op]⟩ ++ ⟨#[32]⟩ ++ plain b ++ ⟨#[41]⟩

theorem dig_size (n : Nat) (h : n < 10 ^ 15) : (dig n).size ≤ 21 := by
  have := Lib.itoa_length_le (n : Int) (by omega) (by omega)
  rw [Lib.itoa_nonneg] at this
  show (Lib.decDigits n).toArray.size ≤ 21
  rw [List.size_toArray]; exact this

theorem plain_size : ∀ t, Clean t → (plain t).size ≤ 60 * nodes t := by
  intro t
  induction t with
  | junk => intro h; exact h.elim
  | free => intro h; exact h.elim
  | nil => intro _; exact (by decide : 2 ≤ 60 * 1)
  | num n => intro h; have hn : n < 10 ^ 9 := h; have := dig_size n (by omega); simp only [plain, nodes]; omega
  | var n => intro h; have hn : n ≤ 300 := h; have := dig_size n (by omega); simp only [plain, nodes, ByteArray.size_append]; have e : (ByteArray.mk #[118]).size = 1 := rfl; omega
  | letE n a b ia ib =>
    rintro ⟨hn, ha, hb⟩
    have := dig_size n (by omega); have := ia ha; have := ib hb
    simp only [plain, nodes, ByteArray.size_append]
    have e1 : (ByteArray.mk #[40, 108, 101, 116, 32, 118]).size = 6 := rfl
    have e2 : (ByteArray.mk #[32, 61, 32]).size = 3 := rfl
    have e3 : (ByteArray.mk #[32, 105, 110, 32]).size = 4 := rfl
    have e4 : (ByteArray.mk #[41]).size = 1 := rfl
    omega
  | fn n a ia =>
    rintro ⟨hn, ha⟩
    have := dig_size n (by omega); have := ia ha
    simp only [plain, nodes, ByteArray.size_append]
    have e1 : (ByteArray.mk #[40, 92, 118]).size = 3 := rfl
    have e2 : (ByteArray.mk #[46, 32]).size = 2 := rfl
    have e4 : (ByteArray.mk #[41]).size = 1 := rfl
    omega
  | ite a b c ia ib ic =>
    rintro ⟨ha, hb, hc⟩
    have := ia ha; have := ib hb; have := ic hc
    simp only [plain, nodes, ByteArray.size_append]
    have e1 : (ByteArray.mk #[40, 105, 102, 32]).size = 4 := rfl
    have e2 : (ByteArray.mk #[32, 116, 104, 101, 110, 32]).size = 6 := rfl
    have e3 : (ByteArray.mk #[32, 101, 108, 115, 101, 32]).size = 6 := rfl
    have e4 : (ByteArray.mk #[41]).size = 1 := rfl
    omega
  | app a b ia ib =>
    rintro ⟨ha, hb⟩
    have := ia ha; have := ib hb
    simp only [plain, nodes, ByteArray.size_append]
    have e1 : (ByteArray.mk #[40]).size = 1 := rfl
    have e2 : (ByteArray.mk #[32]).size = 1 := rfl
    have e4 : (ByteArray.mk #[41]).size = 1 := rfl
    omega
  | un op a ia =>
    rintro ⟨_, ha⟩
    have := ia ha
    simp only [plain, nodes, ByteArray.size_append]
    have e1 : (wordOf op).size = 6 := by unfold wordOf; repeat' split
                                         all_goals rfl
    have e4 : (ByteArray.mk #[41]).size = 1 := rfl
    omega
  | bin op a b ia ib =>
    rintro ⟨_, ha, hb⟩
    have := ia ha; have := ib hb
    simp only [plain, nodes, ByteArray.size_append]
    have e1 : (ByteArray.mk #[40]).size = 1 := rfl
    have e2 : (ByteArray.mk #[32]).size = 1 := rfl
    have e3 : (ByteArray.mk #[op]).size = 1 := rfl
    have e4 : (ByteArray.mk #[41]).size = 1 := rfl
    omega

theorem nodes_pos (t : T) : 1 ≤ nodes t := by cases t <;> simp [nodes] <;> omega

def Shn (t : T) : Prop := ∀ b w v, NodeAt b w t v → b < w.heap.size → Clean t → nodes t ≤ 600 → Calls Tryz.prog 36 #[v] w fun e w' => e = .returned (.string (plain t)) ∧ w.grownBy w' none

theorem cellsK {w : World} {k : Nat} {op n : Int} {x y z : Value} (h : w.heap[k]? = some (.cells (cellsN op n x y z) 86 (0, 0))) :
    w.cell? ⟨k, 0, none⟩ = some (.int .u8 op) ∧ w.cell? ⟨k, 1, none⟩ = some (.int .i64 n) ∧ w.cell? ⟨k, 2, none⟩ = some x ∧ w.cell? ⟨k, 3, none⟩ = some y ∧ w.cell? ⟨k, 4, none⟩ = some z := by
  refine ⟨?_, ?_, ?_, ?_, ?_⟩ <;> simp [World.cell?, h, cellsN]

theorem keepK {w w' : World} {k : Nat} {o : Obj} (h : w.heap[k]? = some o) (hg : w.grownBy w' none) : w'.heap[k]? = some o := by
  rw [hg.block k (Array.getElem?_eq_some_iff.1 h).1 (by simp)]; exact h

theorem NodeAt.grown {b w w' t v} (h : NodeAt b w t v) (hb : b < w.heap.size) (hg : w.grownBy w' none) : NodeAt b w' t v :=
  NodeAt.kept ⟨⟨hg.os, hg.tape, hg.output, hg.size, fun k hk => hg.block k (by omega) (by simp)⟩, fun k _ _ _ _ h => keepK h hg⟩ t v h

set_option maxRecDepth 100000 in
set_option maxHeartbeats 2000000 in
theorem shn_letE (n : Nat) (p q : T) (ip : Shn p) (iq : Shn q) : Shn (.letE n p q) := by
  rintro b w v ⟨x, y, ⟨k, rfl, hk, hh⟩, hx, hy⟩ hb ⟨hn, cp, cq⟩ hz
  simp only [nodes] at hz
  have sp : (plain p).size ≤ 36000 := by have := plain_size p cp; omega
  have sq : (plain q).size ≤ 36000 := by have := plain_size q cq; omega
  have sd := dig_size n (by omega)
  obtain ⟨ax, rfl⟩ := NodeAt.ptr _ _ hx
  obtain ⟨ay, rfl⟩ := NodeAt.ptr _ _ hy
  obtain ⟨c0, c1, c2, c3, c4⟩ := cellsK hh
  have HX : Hid (NodeAt b w p (.pointer (some ax))) := hx
  have HY : Hid (NodeAt b w q (.pointer (some ay))) := hy
  clear hx hy
  go_enter Tryz.func36, Tryz.ntmps36
  go_wp2_with fail
  refine (ip b _ _ HX.out hb cp (by omega)).mono ?_
  rintro e w1 ⟨rfl, hg1⟩
  have hh1 := keepK hh hg1
  obtain ⟨d0, d1, d2, d3, d4⟩ := cellsK hh1
  go_wp2_with fail
  refine (iq b _ _ (HY.out.grown hb hg1) (Nat.lt_of_lt_of_le hb hg1.size) cq (by omega)).mono ?_
  rintro e w2 ⟨rfl, hg2⟩
  have hh2 := keepK hh1 hg2
  obtain ⟨f0, f1, f2, f3, f4⟩ := cellsK hh2
  go_wp2_with fail
  refine (rdigits n (by omega) _).mono ?_
  rintro e w3 ⟨rfl, rfl⟩
  go_wp2_with fail
  go_ret
  exact ⟨rfl, grown_trans hg1 hg2⟩

set_option maxRecDepth 100000 in
set_option maxHeartbeats 2000000 in
theorem shn_nil : Shn .nil := by
  rintro b w v ⟨k, rfl, hk, hh⟩ hb - hz
  obtain ⟨c0, c1, c2, c3, c4⟩ := cellsK hh
  go_enter Tryz.func36, Tryz.ntmps36
  go_wp2_with fail
  go_ret
  exact ⟨rfl, grown_refl _ _⟩

set_option maxRecDepth 100000 in
set_option maxHeartbeats 2000000 in
theorem shn_num (n : Nat) : Shn (.num n) := by
  rintro b w v ⟨k, rfl, hk, hh⟩ hb hn hz
  have hn' : n < 10 ^ 9 := hn
  have sd := dig_size n (by omega)
  obtain ⟨c0, c1, c2, c3, c4⟩ := cellsK hh
  go_enter Tryz.func36, Tryz.ntmps36
  go_wp2_with fail
  refine (rdigits n (by omega) _).mono ?_
  rintro e w3 ⟨rfl, rfl⟩
  go_wp2_with fail
  go_ret
  exact ⟨rfl, grown_refl _ _⟩

set_option maxRecDepth 100000 in
set_option maxHeartbeats 2000000 in
theorem shn_var (n : Nat) : Shn (.var n) := by
  rintro b w v ⟨k, rfl, hk, hh⟩ hb hn hz
  have hn' : n ≤ 300 := hn
  have sd := dig_size n (by omega)
  obtain ⟨c0, c1, c2, c3, c4⟩ := cellsK hh
  go_enter Tryz.func36, Tryz.ntmps36
  go_wp2_with fail
  refine (rdigits n (by omega) _).mono ?_
  rintro e w3 ⟨rfl, rfl⟩
  go_wp2_with fail
  go_ret
  exact ⟨rfl, grown_refl _ _⟩

set_option maxRecDepth 100000 in
set_option maxHeartbeats 2000000 in
theorem shn_fn (n : Nat) (p : T) (ip : Shn p) : Shn (.fn n p) := by
  rintro b w v ⟨x, ⟨k, rfl, hk, hh⟩, hx⟩ hb ⟨hn, cp⟩ hz
  simp only [nodes] at hz
  have sp : (plain p).size ≤ 36000 := by have := plain_size p cp; omega
  have sd := dig_size n (by omega)
  obtain ⟨ax, rfl⟩ := NodeAt.ptr _ _ hx
  obtain ⟨c0, c1, c2, c3, c4⟩ := cellsK hh
  have HX : Hid (NodeAt b w p (.pointer (some ax))) := hx
  clear hx
  go_enter Tryz.func36, Tryz.ntmps36
  go_wp2_with fail
  refine (ip b _ _ HX.out hb cp (by omega)).mono ?_
  rintro e w1 ⟨rfl, hg1⟩
  have hh1 := keepK hh hg1
  obtain ⟨d0, d1, d2, d3, d4⟩ := cellsK hh1
  go_wp2_with fail
  refine (rdigits n (by omega) _).mono ?_
  rintro e w3 ⟨rfl, rfl⟩
  go_wp2_with fail
  go_ret
  exact ⟨rfl, hg1⟩

set_option maxRecDepth 100000 in
set_option maxHeartbeats 2000000 in
theorem shn_ite (p q r : T) (ip : Shn p) (iq : Shn q) (ir : Shn r) : Shn (.ite p q r) := by
  rintro b w v ⟨x, y, z, ⟨k, rfl, hk, hh⟩, hx, hy, hzz⟩ hb ⟨cp, cq, cr⟩ hz
  simp only [nodes] at hz
  have sp : (plain p).size ≤ 36000 := by have := plain_size p cp; omega
  have sq : (plain q).size ≤ 36000 := by have := plain_size q cq; omega
  have sr : (plain r).size ≤ 36000 := by have := plain_size r cr; omega
  obtain ⟨ax, rfl⟩ := NodeAt.ptr _ _ hx
  obtain ⟨ay, rfl⟩ := NodeAt.ptr _ _ hy
  obtain ⟨az, rfl⟩ := NodeAt.ptr _ _ hzz
  obtain ⟨c0, c1, c2, c3, c4⟩ := cellsK hh
  have HX : Hid (NodeAt b w p (.pointer (some ax))) := hx
  have HY : Hid (NodeAt b w q (.pointer (some ay))) := hy
  have HZ : Hid (NodeAt b w r (.pointer (some az))) := hzz
  clear hx hy hzz
  go_enter Tryz.func36, Tryz.ntmps36
  go_wp2_with fail
  refine (ip b _ _ HX.out hb cp (by omega)).mono ?_
  rintro e w1 ⟨rfl, hg1⟩
  have hh1 := keepK hh hg1
  obtain ⟨d0, d1, d2, d3, d4⟩ := cellsK hh1
  go_wp2_with fail
  refine (iq b _ _ (HY.out.grown hb hg1) (Nat.lt_of_lt_of_le hb hg1.size) cq (by omega)).mono ?_
  rintro e w2 ⟨rfl, hg2⟩
  have hg12 := grown_trans hg1 hg2
  have hh2 := keepK hh1 hg2
  obtain ⟨f0, f1, f2, f3, f4⟩ := cellsK hh2
  go_wp2_with fail
  refine (ir b _ _ (HZ.out.grown hb hg12) (Nat.lt_of_lt_of_le hb hg12.size) cr (by omega)).mono ?_
  rintro e w3 ⟨rfl, hg3⟩
  go_wp2_with fail
  go_ret
  exact ⟨rfl, grown_trans hg12 hg3⟩

set_option maxRecDepth 100000 in
set_option maxHeartbeats 2000000 in
theorem shn_app (p q : T) (ip : Shn p) (iq : Shn q) : Shn (.app p q) := by
  rintro b w v ⟨x, y, ⟨k, rfl, hk, hh⟩, hx, hy⟩ hb ⟨cp, cq⟩ hz
  simp only [nodes] at hz
  have sp : (plain p).size ≤ 36000 := by have := plain_size p cp; omega
  have sq : (plain q).size ≤ 36000 := by have := plain_size q cq; omega
  obtain ⟨ax, rfl⟩ := NodeAt.ptr _ _ hx
  obtain ⟨ay, rfl⟩ := NodeAt.ptr _ _ hy
  obtain ⟨c0, c1, c2, c3, c4⟩ := cellsK hh
  have HX : Hid (NodeAt b w p (.pointer (some ax))) := hx
  have HY : Hid (NodeAt b w q (.pointer (some ay))) := hy
  clear hx hy
  go_enter Tryz.func36, Tryz.ntmps36
  go_wp2_with fail
  refine (ip b _ _ HX.out hb cp (by omega)).mono ?_
  rintro e w1 ⟨rfl, hg1⟩
  have hh1 := keepK hh hg1
  obtain ⟨d0, d1, d2, d3, d4⟩ := cellsK hh1
  go_wp2_with fail
  refine (iq b _ _ (HY.out.grown hb hg1) (Nat.lt_of_lt_of_le hb hg1.size) cq (by omega)).mono ?_
  rintro e w2 ⟨rfl, hg2⟩
  have hh2 := keepK hh1 hg2
  obtain ⟨f0, f1, f2, f3, f4⟩ := cellsK hh2
  go_wp2_with fail
  go_ret
  exact ⟨rfl, grown_trans hg1 hg2⟩

set_option maxRecDepth 100000 in
set_option maxHeartbeats 2000000 in
theorem shn_un (op : UInt8) (p : T) (ip : Shn p) : Shn (.un op p) := by
  rintro b w v ⟨x, ⟨k, rfl, hk, hh⟩, hx⟩ hb ⟨hop, cp⟩ hz
  simp only [nodes] at hz
  have sp : (plain p).size ≤ 36000 := by have := plain_size p cp; omega
  obtain ⟨ax, rfl⟩ := NodeAt.ptr _ _ hx
  have HX : Hid (NodeAt b w p (.pointer (some ax))) := hx
  clear hx
  rcases hop with rfl | rfl | rfl
  all_goals
    obtain ⟨c0, c1, c2, c3, c4⟩ := cellsK hh
    first
    | (have c0' : w.cell? ⟨k, 0, none⟩ = some (.int .u8 104) := c0; clear c0)
    | (have c0' : w.cell? ⟨k, 0, none⟩ = some (.int .u8 116) := c0; clear c0)
    | (have c0' : w.cell? ⟨k, 0, none⟩ = some (.int .u8 117) := c0; clear c0)
    go_enter Tryz.func36, Tryz.ntmps36
    go_wp2_with fail
    refine (ip b _ _ HX.out hb cp (by omega)).mono ?_
    rintro e w1 ⟨rfl, hg1⟩
    have hh1 := keepK hh hg1
    obtain ⟨d0, d1, d2, d3, d4⟩ := cellsK hh1
    first
    | (have d0' : w1.cell? ⟨k, 0, none⟩ = some (.int .u8 104) := d0; clear d0)
    | (have d0' : w1.cell? ⟨k, 0, none⟩ = some (.int .u8 116) := d0; clear d0)
    | (have d0' : w1.cell? ⟨k, 0, none⟩ = some (.int .u8 117) := d0; clear d0)
    go_wp2_with fail
    go_ret
    exact ⟨rfl, hg1⟩

set_option maxRecDepth 100000 in
set_option maxHeartbeats 2000000 in
theorem shn_bin (op : UInt8) (p q : T) (ip : Shn p) (iq : Shn q) : Shn (.bin op p q) := by
  rintro b w v ⟨x, y, ⟨k, rfl, hk, hh⟩, hx, hy⟩ hb ⟨hop, cp, cq⟩ hz
  simp only [nodes] at hz
  have sp : (plain p).size ≤ 36000 := by have := plain_size p cp; omega
  have sq : (plain q).size ≤ 36000 := by have := plain_size q cq; omega
  obtain ⟨ax, rfl⟩ := NodeAt.ptr _ _ hx
  obtain ⟨ay, rfl⟩ := NodeAt.ptr _ _ hy
  have HX : Hid (NodeAt b w p (.pointer (some ax))) := hx
  have HY : Hid (NodeAt b w q (.pointer (some ay))) := hy
  clear hx hy
  obtain ⟨c0, c1, c2, c3, c4⟩ := cellsK hh
  have ho : ((op.toNat : Int) == 110) = false ∧ ((op.toNat : Int) == 118) = false ∧ ((op.toNat : Int) == 101) = false ∧ ((op.toNat : Int) == 108) = false ∧ ((op.toNat : Int) == 102) = false ∧ ((op.toNat : Int) == 105) = false ∧ ((op.toNat : Int) == 97) = false ∧ ((op.toNat : Int) == 104) = false ∧ ((op.toNat : Int) == 116) = false ∧ ((op.toNat : Int) == 117) = false := by
    rcases hop with rfl | rfl | rfl | rfl | rfl | rfl <;> decide
  obtain ⟨o1, o2, o3, o4, o5, o6, o7, o8, o9, o10⟩ := ho
  clear hop
  have hcv : ∀ (W : World), (convert 87 9 (.slice (some ⟨W.heap.size, 0, none⟩) 1 1)).run Tryz.prog (W.alloc (.cells #[.int .u8 (op.toNat : Int)] 5)) = .ok (.string ⟨#[op]⟩) (W.alloc (.cells #[.int .u8 (op.toNat : Int)] 5)) := fun W =>
    run_convert_bytes_back _ 87 9 5 ⟨W.heap.size, 0, none⟩ 1 [op] Tryz.underlying87 Tryz.underlying5 Tryz.underlying9 (by
      intro j hj
      have hj' : j < 1 := hj
      obtain rfl : j = 0 := by omega
      have h := alloc_at W (.cells #[.int .u8 (op.toNat : Int)] 5) W.heap.size rfl
      show (W.alloc (.cells #[.int .u8 (op.toNat : Int)] 5)).cell? ⟨W.heap.size, 0, none⟩ = some (.int .u8 (op.toNat : Int))
      unfold World.cell?
      rw [h]
      rfl)
  go_enter Tryz.func36, Tryz.ntmps36
  go_wp2_with fail
  refine (ip b _ _ HX.out hb cp (by omega)).mono ?_
  rintro e w1 ⟨rfl, hg1⟩
  have hh1 := keepK hh hg1
  obtain ⟨d0, d1, d2, d3, d4⟩ := cellsK hh1
  go_wp2_with fail
  refine (iq b _ _ (HY.out.grown hb hg1) (Nat.lt_of_lt_of_le hb hg1.size) cq (by omega)).mono ?_
  rintro e w2 ⟨rfl, hg2⟩
  have hh2 := keepK hh1 hg2
  obtain ⟨f0, f1, f2, f3, f4⟩ := cellsK hh2
  go_wp2_with fail
  go_ret
  exact ⟨rfl, grown_alloc (grown_trans hg1 hg2) _⟩

theorem shn_all : ∀ t, Shn t := by
  intro t
  induction t with
  | junk => intro b w v _ _ h; exact h.elim
  | free => intro b w v _ _ h; exact h.elim
  | nil => exact shn_nil
  | num n => exact shn_num n
  | var n => exact shn_var n
  | letE n p q ip iq => exact shn_letE n p q ip iq
  | fn n p ip => exact shn_fn n p ip
  | ite p q r ip iq ir => exact shn_ite p q r ip iq ir
  | app p q ip iq => exact shn_app p q ip iq
  | un op p ip => exact shn_un op p ip
  | bin op p q ip iq => exact shn_bin op p q ip iq
end Go.Proofs.YtjjlgjmebnkdjaaGreatDoor
