/-
  The program's plain form, whatever the tree.
-/
import Derived.Test.YtdpbclnpmkhooaaGreatDoorPlB
import Derived.Test.YtdpbclnpmkhooaaGreatDoorPlC
import Derived.Test.YtdpbclnpmkhooaaGreatDoorPlF
import Derived.Test.YtdpbclnpmkhooaaGreatDoorPlH
import Derived.Test.YtdpbclnpmkhooaaGreatDoorPlI
import Derived.Test.YtdpbclnpmkhooaaGreatDoorPlL
import Derived.Test.YtdpbclnpmkhooaaGreatDoorPlM
import Derived.Test.YtdpbclnpmkhooaaGreatDoorPlN
namespace Go.Proofs.YtdpbclnpmkhooaaGreatDoor
open Go Go.Proofs Go.RowKit Skein
theorem m92 (x : Value) (w : World) : (method 347 157 x "Plain").run Tryz.prog w = .ok (198, x) w := by kernel_rfl
theorem m94 (x : Value) (w : World) : (method 347 151 x "Plain").run Tryz.prog w = .ok (197, x) w := by kernel_rfl
theorem m97 (x : Value) (w : World) : (method 347 145 x "Plain").run Tryz.prog w = .ok (195, x) w := by kernel_rfl
theorem m99 (x : Value) (w : World) : (method 347 139 x "Plain").run Tryz.prog w = .ok (193, x) w := by kernel_rfl
theorem m101 (x : Value) (w : World) : (method 347 148 x "Plain").run Tryz.prog w = .ok (196, x) w := by kernel_rfl
theorem m107 (x : Value) (w : World) : (method 347 133 x "Plain").run Tryz.prog w = .ok (190, x) w := by kernel_rfl
theorem m109 (x : Value) (w : World) : (method 347 136 x "Plain").run Tryz.prog w = .ok (191, x) w := by kernel_rfl
theorem m111 (x : Value) (w : World) : (method 347 164 x "Plain").run Tryz.prog w = .ok (199, x) w := by kernel_rfl
theorem m113 (x : Value) (w : World) : (method 347 166 x "Plain").run Tryz.prog w = .ok (200, x) w := by kernel_rfl
theorem m124 (x : Value) (w : World) : (method 347 142 x "Plain").run Tryz.prog w = .ok (194, x) w := by kernel_rfl

theorem sz_of {t : T} (h : Clean t) (hz : nodes t ≤ 600) : (plain t).size ≤ 36000 := by have := plain_size t h; omega
theorem vsize (n : Nat) (hn : n < 10 ^ 15) : ((⟨#[118]⟩ : ByteArray) ++ dig n).size ≤ 36000 := by
  have := dig_size n hn
  rw [ByteArray.size_append]
  have e : (ByteArray.mk #[118]).size = 1 := rfl
  omega

def Spk (t : T) : Prop := Clean t → nodes t ≤ 600 → ∃ T x f, pv t = .iface T x ∧ Says T x f (plain t)

theorem spk_list (a b : T) (ia : Spk a) (ib : Spk b) : Spk (.bin 58 a b) := by
  rintro ⟨-, ca, cb⟩ hz
  simp only [nodes] at hz
  obtain ⟨T1, x1, f1, e1, s1⟩ := ia ca (by omega)
  obtain ⟨T2, x2, f2, e2, s2⟩ := ib cb (by omega)
  refine ⟨157, .agg #[.iface T1 x1, .iface T2 x2], 198, ?_, m92 _, enters_of Tryz.func198 (by kernel_rfl) rfl, fun w ht => ?_⟩
  · show Value.iface 157 (.agg #[pv a, pv b]) = _
    rw [e1, e2]
  · have h := plistP s1 s2 (sz_of ca (by omega)) (sz_of cb (by omega)) w ht
    have e : plain (.bin 58 a b) = ⟨#[40]⟩ ++ plain a ++ ⟨#[32, 58, 32]⟩ ++ plain b ++ ⟨#[41]⟩ := by
      show ⟨#[40]⟩ ++ plain a ++ ⟨#[32]⟩ ++ ⟨#[58]⟩ ++ ⟨#[32]⟩ ++ plain b ++ ⟨#[41]⟩ = _
      rw [ByteArray.append_assoc (a := ⟨#[40]⟩ ++ plain a), ByteArray.append_assoc (a := ⟨#[40]⟩ ++ plain a)]; rfl
    rw [e]; exact h

theorem spk_reck (op : UInt8) (hop : (op == 58) = false) (a b : T) (ia : Spk a) (ib : Spk b) : Spk (.bin op a b) := by
  rintro ⟨-, ca, cb⟩ hz
  simp only [nodes] at hz
  obtain ⟨T1, x1, f1, e1, s1⟩ := ia ca (by omega)
  obtain ⟨T2, x2, f2, e2, s2⟩ := ib cb (by omega)
  refine ⟨151, .agg #[.string ⟨#[op]⟩, .iface T1 x1, .iface T2 x2], 197, ?_, m94 _, enters_of Tryz.func197 (by kernel_rfl) rfl, fun w ht => ?_⟩
  · show (if op == 58 then Value.iface 157 (.agg #[pv a, pv b]) else .iface 151 (.agg #[.string ⟨#[op]⟩, pv a, pv b])) = _
    rw [hop, e1, e2]; rfl
  · exact preckP (g := ⟨#[op]⟩) (by show 1 ≤ 36000; decide) s1 (sz_of ca (by omega)) s2 (sz_of cb (by omega)) w ht

theorem spk_let (n : Nat) (a b : T) (ia : Spk a) (ib : Spk b) : Spk (.letE n a b) := by
  rintro ⟨hn, ca, cb⟩ hz
  simp only [nodes] at hz
  obtain ⟨T1, x1, f1, e1, s1⟩ := ia ca (by omega)
  obtain ⟨T2, x2, f2, e2, s2⟩ := ib cb (by omega)
  refine ⟨145, .agg #[.int .i64 n, .iface T1 x1, .iface T2 x2], 195, ?_, m97 _, enters_of Tryz.func195 (by kernel_rfl) rfl, fun w ht => ?_⟩
  · show Value.iface 145 (.agg #[.int .i64 n, pv a, pv b]) = _
    rw [e1, e2]
  · have h := pletP (pcalled n (by omega)) (vsize n (by omega)) s1 (sz_of ca (by omega)) s2 (sz_of cb (by omega)) w ht
    have e : (⟨#[40, 108, 101, 116, 32]⟩ : ByteArray) ++ (⟨#[118]⟩ ++ dig n) = ⟨#[40, 108, 101, 116, 32, 118]⟩ ++ dig n := by
      rw [← ByteArray.append_assoc]; rfl
    rw [e] at h
    exact h

theorem spk_fn (n : Nat) (a : T) (ia : Spk a) : Spk (.fn n a) := by
  rintro ⟨hn, ca⟩ hz
  simp only [nodes] at hz
  obtain ⟨T1, x1, f1, e1, s1⟩ := ia ca (by omega)
  refine ⟨139, .agg #[.int .i64 n, .iface T1 x1], 193, ?_, m99 _, enters_of Tryz.func193 (by kernel_rfl) rfl, fun w ht => ?_⟩
  · show Value.iface 139 (.agg #[.int .i64 n, pv a]) = _
    rw [e1]
  · have h := pfnP (pcalled n (by omega)) (vsize n (by omega)) s1 (sz_of ca (by omega)) w ht
    have e : (⟨#[40, 92]⟩ : ByteArray) ++ (⟨#[118]⟩ ++ dig n) = ⟨#[40, 92, 118]⟩ ++ dig n := by
      rw [← ByteArray.append_assoc]; rfl
    rw [e] at h
    exact h

theorem spk_ite (a b c : T) (ia : Spk a) (ib : Spk b) (ic : Spk c) : Spk (.ite a b c) := by
  rintro ⟨ca, cb, cc⟩ hz
  simp only [nodes] at hz
  obtain ⟨T1, x1, f1, e1, s1⟩ := ia ca (by omega)
  obtain ⟨T2, x2, f2, e2, s2⟩ := ib cb (by omega)
  obtain ⟨T3, x3, f3, e3, s3⟩ := ic cc (by omega)
  refine ⟨148, .agg #[.iface T1 x1, .iface T2 x2, .iface T3 x3], 196, ?_, m101 _, enters_of Tryz.func196 (by kernel_rfl) rfl, fun w ht => ?_⟩
  · show Value.iface 148 (.agg #[pv a, pv b, pv c]) = _
    rw [e1, e2, e3]
  · exact pifP s1 (sz_of ca (by omega)) s2 (sz_of cb (by omega)) s3 (sz_of cc (by omega)) w ht

theorem spk_app (a b : T) (ia : Spk a) (ib : Spk b) : Spk (.app a b) := by
  rintro ⟨ca, cb⟩ hz
  simp only [nodes] at hz
  obtain ⟨T1, x1, f1, e1, s1⟩ := ia ca (by omega)
  obtain ⟨T2, x2, f2, e2, s2⟩ := ib cb (by omega)
  refine ⟨142, .agg #[.iface T1 x1, .iface T2 x2], 194, ?_, m124 _, enters_of Tryz.func194 (by kernel_rfl) rfl, fun w ht => ?_⟩
  · show Value.iface 142 (.agg #[pv a, pv b]) = _
    rw [e1, e2]
  · exact puseP s1 (sz_of ca (by omega)) s2 (sz_of cb (by omega)) w ht

theorem spk_un (op : UInt8) (a : T) (ia : Spk a) : Spk (.un op a) := by
  rintro ⟨hop, ca⟩ hz
  simp only [nodes] at hz
  obtain ⟨T1, x1, f1, e1, s1⟩ := ia ca (by omega)
  have key : ∀ g : ByteArray, pv (.un op a) = .iface 166 (.agg #[.string g, pv a]) → g.size ≤ 36000 → wordOf op = ⟨#[40]⟩ ++ g ++ ⟨#[32]⟩ → ∃ T x f, pv (.un op a) = .iface T x ∧ Says T x f (plain (.un op a)) := by
    intro g e hg hw
    refine ⟨166, .agg #[.string g, .iface T1 x1], 200, by rw [e, e1], m113 _, enters_of Tryz.func200 (by kernel_rfl) rfl, fun w ht => ?_⟩
    have h := ppartP (g := g) hg s1 (sz_of ca (by omega)) w ht
    rw [← hw] at h
    exact h
  rcases hop with rfl | rfl | rfl
  · exact key ⟨#[104, 101, 97, 100]⟩ rfl (by show 4 ≤ 36000; decide) rfl
  · exact key ⟨#[116, 97, 105, 108]⟩ rfl (by show 4 ≤ 36000; decide) rfl
  · exact key ⟨#[110, 117, 108, 108]⟩ rfl (by show 4 ≤ 36000; decide) rfl

theorem spk_all : ∀ t, Spk t := by
  intro t
  induction t with
  | junk => intro h; exact h.elim
  | free => intro h; exact h.elim
  | nil => intro _ _; exact ⟨164, _, 199, rfl, m111 _, enters_of Tryz.func199 (by kernel_rfl) rfl, fun w _ => pemptyP w⟩
  | num n => intro h _; have hn : n < 10 ^ 9 := h; exact ⟨133, _, 190, rfl, m107 _, enters_of Tryz.func190 (by kernel_rfl) rfl, fun w ht => pnumberP n (by omega) w ht⟩
  | var n => intro h _; have hn : n ≤ 300 := h; exact ⟨136, _, 191, rfl, m109 _, enters_of Tryz.func191 (by kernel_rfl) rfl, fun w ht => pnameP n (by omega) w ht⟩
  | letE n a b ia ib => exact spk_let n a b ia ib
  | fn n a ia => exact spk_fn n a ia
  | ite a b c ia ib ic => exact spk_ite a b c ia ib ic
  | app a b ia ib => exact spk_app a b ia ib
  | un op a ia => exact spk_un op a ia
  | bin op a b ia ib =>
    cases h : op == 58
    · exact spk_reck op h a b ia ib
    · have e : op = 58 := by simpa using h
      subst e; exact spk_list a b ia ib
end Go.Proofs.YtdpbclnpmkhooaaGreatDoor
