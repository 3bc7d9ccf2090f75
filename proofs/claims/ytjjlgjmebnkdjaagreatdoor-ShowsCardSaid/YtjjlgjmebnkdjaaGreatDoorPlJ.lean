/-
  The program's plain form, whatever the tree.
-/
import Derived.Test.YtjjlgjmebnkdjaaGreatDoorPlB
import Derived.Test.YtjjlgjmebnkdjaaGreatDoorPlC
import Derived.Test.YtjjlgjmebnkdjaaGreatDoorPlF
import Derived.Test.YtjjlgjmebnkdjaaGreatDoorPlH
import Derived.Test.YtjjlgjmebnkdjaaGreatDoorPlI
import Derived.Test.YtjjlgjmebnkdjaaGreatDoorPlL
import Derived.Test.YtjjlgjmebnkdjaaGreatDoorPlM
import Derived.Test.YtjjlgjmebnkdjaaGreatDoorPlN
namespace Go.Proofs.YtjjlgjmebnkdjaaGreatDoor
open Go Go.Proofs Go.RowKit Skein
theorem m92 (x : Value) (w : World) : (method 376 173 x "Plain").run Tryz.prog w = .ok (229, x) w := by kernel_rfl
theorem m94 (x : Value) (w : World) : (method 376 167 x "Plain").run Tryz.prog w = .ok (227, x) w := by kernel_rfl
theorem m97 (x : Value) (w : World) : (method 376 161 x "Plain").run Tryz.prog w = .ok (225, x) w := by kernel_rfl
theorem m99 (x : Value) (w : World) : (method 376 155 x "Plain").run Tryz.prog w = .ok (223, x) w := by kernel_rfl
theorem m101 (x : Value) (w : World) : (method 376 164 x "Plain").run Tryz.prog w = .ok (226, x) w := by kernel_rfl
theorem m107 (x : Value) (w : World) : (method 376 149 x "Plain").run Tryz.prog w = .ok (220, x) w := by kernel_rfl
theorem m109 (x : Value) (w : World) : (method 376 152 x "Plain").run Tryz.prog w = .ok (221, x) w := by kernel_rfl
theorem m111 (x : Value) (w : World) : (method 376 170 x "Plain").run Tryz.prog w = .ok (228, x) w := by kernel_rfl
theorem m113 (x : Value) (w : World) : (method 376 176 x "Plain").run Tryz.prog w = .ok (230, x) w := by kernel_rfl
theorem m124 (x : Value) (w : World) : (method 376 158 x "Plain").run Tryz.prog w = .ok (224, x) w := by kernel_rfl

theorem sz_of {t : T} (h : Clean t) (hz : nodes t ≤ 600) : (plain t).size ≤ 36000 := by have := plain_size t h; omega
theorem vsize (n : Nat) (hn : n < 10 ^ 15) : ((⟨#[118]⟩ : ByteArray) ++ dig n).size ≤ 36000 := by
  have := dig_size n hn
  rw [ByteArray.size_append]
  have e : (ByteArray.mk #[118]).size = 1 := rfl
  omega

def Spk (t : T) : Prop := Clean t → nodes t ≤ 600 → ∃ T x f, pv t = .iface T x ∧ Says T x f (plain t)

theorem spk_list (a b : T) (ia : Spk a) (ib : Spk b) : Spk (.bin 58 a b) := by
  rintro ⟨-, ca, cb⟩ hz
  simp only [nodes] at hz
  obtain ⟨T1, x1, f1, e1, s1⟩ := ia ca (by omega)
  obtain ⟨T2, x2, f2, e2, s2⟩ := ib cb (by omega)
  refine ⟨173, .agg #[.iface T1 x1, .iface T2 x2], 229, ?_, m92 _, enters_of Tryz.func229 (by kernel_rfl) rfl, fun w ht => ?_⟩
  · show Value.iface 173 (.agg #[pv a, pv b]) = _
    rw [e1, e2]
  · have h := plistP s1 s2 (sz_of ca (by omega)) (sz_of cb (by omega)) w ht
    have e : plain (.bin 58 a b) = ⟨#[40]⟩ ++ plain a ++ ⟨#[32, 58, 32]⟩ ++ plain b ++ ⟨#[41]⟩ := by
      show ⟨#[40]⟩ ++ plain a ++ ⟨#[32]⟩ ++ ⟨#[58]⟩ ++ ⟨#[32]⟩ ++ plain b ++ ⟨#[41]⟩ = _
      rw [ByteArray.append_assoc (a := ⟨#[40]⟩ ++ plain a), ByteArray.append_assoc (a := ⟨#[40]⟩ ++ plain a)]; rfl
    rw [e]; exact h

theorem spk_reck (op : UInt8) (hop : (op == 58) = false) (a b : T) (ia : Spk a) (ib : Spk b) : Spk (.bin op a b) := by
  rintro ⟨-, ca, cb⟩ hz
  simp only [nodes] at hz
  obtain ⟨T1, x1, f1, e1, s1⟩ := ia ca (by omega)
  obtain ⟨T2, x2, f2, e2, s2⟩ := ib cb (by omega)
  refine ⟨167, .agg #[.string ⟨#[op]⟩, .iface T1 x1, .iface T2 x2], 227, ?_, m94 _, enters_of Tryz.func227 (by kernel_rfl) rfl, fun w ht => ?_⟩
  · show (if op == 58 then Value.iface 173 (.agg #[pv a, pv b]) else .iface 167 (.agg #[.string ⟨#[op]⟩, pv a, pv b])) = _
    rw [hop, e1, e2]; rfl
  · exact preckP (g := ⟨#[op]⟩) (by show 1 ≤ 36000; decide) s1 (sz_of ca (by omega)) s2 (sz_of cb (by omega)) w ht

theorem spk_let (n : Nat) (a b : T) (ia : Spk a) (ib : Spk b) : Spk (.letE n a b) := by
  rintro ⟨hn, ca, cb⟩ hz
  simp only [nodes] at hz
  obtain ⟨T1, x1, f1, e1, s1⟩ := ia ca (by omega)
  obtain ⟨T2, x2, f2, e2, s2⟩ := ib cb (by omega)
  refine ⟨161, .agg #[.int .i64 n, .iface T1 x1, .iface T2 x2], 225, ?_, m97 _, enters_of Tryz.func225 (by kernel_rfl) rfl, fun w ht => ?_⟩
  · show Value.iface 161 (.agg #[.int .i64 n, pv a, pv b]) = _
    rw [e1, e2]
  · have h := pletP (pcalled n (by omega)) (vsize n (by omega)) s1 (sz_of ca (by omega)) s2 (sz_of cb (by omega)) w ht
    have e : (⟨#[40, 108, 101, 116, 32]⟩ : ByteArray) ++ (⟨#[118]⟩ ++ dig n) = ⟨#[40, 108, 101, 116, 32, 118]⟩ ++ dig n := by
      rw [← ByteArray.append_assoc]; rfl
    rw [e] at h
    exact h

theorem spk_fn (n : Nat) (a : T) (ia : Spk a) : Spk (.fn n a) := by
  rintro ⟨hn, ca⟩ hz
  simp only [nodes] at hz
  obtain ⟨T1, x1, f1, e1, s1⟩ := ia ca (by omega)
  refine ⟨155, .agg #[.int .i64 n, .iface T1 x1], 223, ?_, m99 _, enters_of Tryz.func223 (by kernel_rfl) rfl, fun w ht => ?_⟩
  · show Value.iface 155 (.agg #[.int .i64 n, pv a]) = _
    rw [e1]
  · have h := pfnP (pcalled n (by omega)) (vsize n (by omega)) s1 (sz_of ca (by omega)) w ht
    have e : (⟨#[40, 92]⟩ : ByteArray) ++ (⟨#[118]⟩ ++ dig n) = ⟨#[40, 92, 118]⟩ ++ dig n := by
      rw [← ByteArray.append_assoc]; rfl
    rw [e] at h
    exact h

theorem spk_ite (a b c : T) (ia : Spk a) (ib : Spk b) (ic : Spk c) : Spk (.ite a b c) := by
  rintro ⟨ca, cb, cc⟩ hz
  simp only [nodes] at hz
  obtain ⟨T1, x1, f1, e1, s1⟩ := ia ca (by omega)
  obtain ⟨T2, x2, f2, e2, s2⟩ := ib cb (by omega)
  obtain ⟨T3, x3, f3, e3, s3⟩ := ic cc (by omega)
  refine ⟨164, .agg #[.iface T1 x1, .iface T2 x2, .iface T3 x3], 226, ?_, m101 _, enters_of Tryz.func226 (by kernel_rfl) rfl, fun w ht => ?_⟩
  · show Value.iface 164 (.agg #[pv a, pv b, pv c]) = _
    rw [e1, e2, e3]
  · exact pifP s1 (sz_of ca (by omega)) s2 (sz_of cb (by omega)) s3 (sz_of cc (by omega)) w ht

theorem spk_app (a b : T) (ia : Spk a) (ib : Spk b) : Spk (.app a b) := by
  rintro ⟨ca, cb⟩ hz
  simp only [nodes] at hz
  obtain ⟨T1, x1, f1, e1, s1⟩ := ia ca (by omega)
  obtain ⟨T2, x2, f2, e2, s2⟩ := ib cb (by omega)
  refine ⟨158, .agg #[.iface T1 x1, .iface T2 x2], 224, ?_, m124 _, enters_of Tryz.func224 (by kernel_rfl) rfl, fun w ht => ?_⟩
  · show Value.iface 158 (.agg #[pv a, pv b]) = _
    rw [e1, e2]
  · exact puseP s1 (sz_of ca (by omega)) s2 (sz_of cb (by omega)) w ht

theorem spk_un (op : UInt8) (a : T) (ia : Spk a) : Spk (.un op a) := by
  rintro ⟨hop, ca⟩ hz
  simp only [nodes] at hz
  obtain ⟨T1, x1, f1, e1, s1⟩ := ia ca (by omega)
  have key : ∀ g : ByteArray, pv (.un op a) = .iface 176 (.agg #[.string g, pv a]) → g.size ≤ 36000 → wordOf op = ⟨#[40]⟩ ++ g ++ ⟨#[32]⟩ → ∃ T x f, pv (.un op a) = .iface T x ∧ Says T x f (plain (.un op a)) := by
    intro g e hg hw
    refine ⟨176, .agg #[.string g, .iface T1 x1], 230, by rw [e, e1], m113 _, enters_of Tryz.func230 (by kernel_rfl) rfl, fun w ht => ?_⟩
    have h := ppartP (g := g) hg s1 (sz_of ca (by omega)) w ht
    rw [← hw] at h
    exact h
  rcases hop with rfl | rfl | rfl
  · exact key ⟨#[104, 101, 97, 100]⟩ rfl (by show 4 ≤ 36000; decide) rfl
  · exact key ⟨#[116, 97, 105, 108]⟩ rfl (by show 4 ≤ 36000; decide) rfl
  · exact key ⟨#[110, 117, 108, 108]⟩ rfl (by show 4 ≤ 36000; decide) rfl

theorem spk_all : ∀ t, Spk t := by
  intro t
  induction t with
  | junk => intro h; exact h.elim
  | free => intro h; exact h.elim
  | nil => intro _ _; exact ⟨170, _, 228, rfl, m111 _, enters_of Tryz.func228 (by kernel_rfl) rfl, fun w _ => pemptyP w⟩
  | num n => intro h _; have hn : n < 10 ^ 9 := h; exact ⟨149, _, 220, rfl, m107 _, enters_of Tryz.func220 (by kernel_rfl) rfl, fun w ht => pnumberP n (by omega) w ht⟩
  | var n => intro h _; have hn : n ≤ 300 := h; exact ⟨152, _, 221, rfl, m109 _, enters_of Tryz.func221 (by kernel_rfl) rfl, fun w ht => pnameP n (by omega) w ht⟩
  | letE n a b ia ib => exact spk_let n a b ia ib
  | fn n a ia => exact spk_fn n a ia
  | ite a b c ia ib ic => exact spk_ite a b c ia ib ic
  | app a b ia ib => exact spk_app a b ia ib
  | un op a ia => exact spk_un op a ia
  | bin op a b ia ib =>
    cases h : op == 58
    · exact spk_reck op h a b ia ib
    · have e : op = 58 := by simpa using h
      subst e; exact spk_list a b ia ib
end Go.Proofs.YtjjlgjmebnkdjaaGreatDoor
