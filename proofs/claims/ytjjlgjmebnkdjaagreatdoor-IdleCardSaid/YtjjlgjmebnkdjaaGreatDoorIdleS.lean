/-
  Idle: row and card.
-/
import Derived.Test.YtjjlgjmebnkdjaaGreatDoorRqI
import Derived.Test.YtjjlgjmebnkdjaaGreatDoorSlA
import Derived.Lib.LaidTab
import Derived.Stop.LaidErr
namespace Go.Proofs.YtjjlgjmebnkdjaaGreatDoor
open Go Go.Proofs Go.RowKit Go.ChangeShapes Go.WideShapes Go.ChangeAt Go.Lib
open Go.ChangeMaps (open_string shut_string)

theorem ridle_i64 {n : Int} (h : (Lit.int .i64 n).wf = true) : Skein.Int64 n := by
  simp only [Lit.wf, Bool.and_eq_true, decide_eq_true_eq] at h
  exact h
theorem ridle_cellsPow : Tryz.prog.cellsOf 248 = 20 := by kernel_rfl
theorem ridle_powType : (Tryz.prog.globals[3]?).map (·.type) = some 248 := by kernel_rfl

theorem ridle_tab_of {W : World} (h : laidMet Tryz.prog Rows.idleRow.laid W) : Tab W := by
  have h2 : laidMet Tryz.prog (("internal/strconv.uint64pow10", Lib.tabData .u64 Lib.pow10Tab) :: [("strconv.ErrRange", Rows.laid_strconv_ErrRange), ("strconv.ErrSyntax", Rows.laid_strconv_ErrSyntax)]) W := laidMet.tail (laidMet.tail h)
  exact Lib.tabIs_of_head gPow ridle_powType (n := 20) (e := 219) (by kernel_rfl) (by kernel_rfl) (by kernel_rfl) ridle_cellsPow h2

theorem ridle_met (os : Os) (args : Array Value) : laidMet Tryz.prog Rows.idleRow.laid ((laidWorld os).forCall (fun _ _ => 0) ⟨#[], args, []⟩).memory := laid_met os args

theorem ridle_witness (os : Os) {H : Type} (enc : TypeId × Value → H) :
    (OpenSpec.ofChange Rows.idleSpec).preRow enc Tryz.prog Tryz.f8 Rows.idleRow.domain false Rows.idleRow.laid ((laidWorld os).forCall (fun _ _ => 0) ⟨#[], #[.slice none 0 0, .int .i64 0], []⟩).memory #[.slice none 0 0, .int .i64 0] := by
  have hw : (DataW.whole enc Tryz.prog ((laidWorld os).forCall (fun _ _ => 0) ⟨#[], #[.slice none 0 0, .int .i64 0], []⟩).memory Tryz.f8.params.toList Rows.idleSpec.vars false #[Value.slice none 0 0, Value.int .i64 0].toList 8).map (fun x => (x.1, x.2.1)) =
      some ([.nil, .lit (.int .i64 0)], []) := by kernel_rfl
  obtain ⟨⟨x1, x2, x3⟩, hx, hx1⟩ := Option.map_eq_some_iff.1 hw
  simp only [Prod.mk.injEq] at hx1
  obtain ⟨rfl, rfl⟩ := hx1
  exact OpenSpec.preRow_of_cond 8 hx (by kernel_rfl) (fun k hk => by cases hk) (by kernel_rfl) (ridle_met os _)

set_option maxRecDepth 100000 in
set_option maxHeartbeats 2000000 in
theorem ridle_lifted (os : Os) (started : os.Started) (H : Type) (enc : TypeId × Value → H) (F : Stop.Interp) :
    ReturnsInHanded {} Tryz.checked os 8 .any ((OpenSpec.ofChange Rows.idleSpec).preRow enc Tryz.prog Tryz.f8 Rows.idleRow.domain false Rows.idleRow.laid) (((OpenSpec.ofChange Rows.idleSpec).at F).post enc Tryz.prog Tryz.f8 false true false false) := by
  refine returnsInHanded_of_row (C := Tryz.checked) (s := OpenSpec.ofChange Rows.idleSpec) own_ started (by kernel_rfl) Tryz.func8
    (witness_row_atRef (enc := enc) (C := Tryz.checked) false (laidWorld os) #[.slice none 0 0, .int .i64 0] rfl (by kernel_rfl) (by kernel_rfl) (by kernel_rfl) (ridle_witness os enc)) ?_
  intro W base args ds gs before hval0 hW _ _ _ hL _ _
  have hval : ∀ (j : Nat) t v, Tryz.f8.params[j]? = some t → args[j]? = some v → Value.okWide Tryz.prog W .any base t v := hval0
  have hL' : laidMet Tryz.prog Rows.idleRow.laid W := hL
  have hW' := hW
  obtain ⟨p, q, hA0, hV0, rfl, _, _⟩ := hW
  have hA : DataW.TrodAll enc Tryz.prog W 0 (fun _ => true) true Tryz.f8.params.toList args.toList ds p := hA0
  rw [Tryz.params8] at hA hval
  obtain ⟨v0, v1, d0, d1, p0, p1, ha, rfl, rfl, h0, h1⟩ := trodAll_two hA
  obtain rfl : args = #[v0, v1] := by cases args; simp_all
  obtain ⟨rfl, rfl⟩ := trodVars_none hV0
  obtain ⟨la0, ll0, lc0, rfl, hll0, hLm0, back0⟩ := ints_back Tryz.underlying24 h0 (okWide_slice Tryz.underlying24 (hval 0 24 v0 rfl rfl))
  obtain ⟨n1, rfl, rfl, rfl, wn1⟩ := open_int Tryz.underlying3 (hval 1 3 v1 rfl rfl) h1
  clear hA0 hV0 hval0
  have e1 : ((OpenSpec.ofChange Rows.idleSpec).at F).fn H ([d0, .lit (.int .i64 n1)] ++ []) = { results := [.lit (.bool true)], args := [d0, .lit (.int .i64 n1)] } := rfl
  refine (idle_ok la0 ll0 lc0 n1 W (ridle_tab_of hL') hll0 (fun j hj => by obtain ⟨b, n, h1, h2, h3⟩ := hLm0 j hj; exact ⟨b, n, h1, h2, ridle_i64 h3⟩) (ridle_i64 wn1)).mono ?_
  rintro e W' ⟨rfl, bel⟩
  refine ⟨_, rfl, _, _, _, [], (p0 ++ []), [], hW', ?_, ?_, ?_, bel.frame _, fun h => by cases h⟩
  · rw [e1]; exact trodAll_mk1 (shut_bool Tryz.underlying4 _)
  · rw [e1]; exact trodAll_mk2 (back0 W' bel) (shut_int Tryz.underlying3 wn1)
  · rw [e1]; rfl

theorem ridle_said : Rows.IdleSaid :=
  OpenClaim.holds_of_cond 8 Tryz.f8 rfl rfl rfl rfl rfl rfl rfl ⟨rfl, rfl, rfl, rfl, rfl⟩ rfl rfl rfl rfl rfl (by kernel_rfl) Tryz.func8 (by kernel_rfl)
    (of_decide_eq_true (by kernel_rfl)) (by unfold Func.isWrapper; first | (rw [if_pos (by decide +kernel)]; kernel_rfl) | (rw [if_neg (by decide +kernel)]; exact ⟨rfl, rfl⟩))
    (fun os started H enc _ F => by rw [OpenClaim.pre_eq_preRow]; exact ridle_lifted os started H enc F)

theorem ridle_plain (f : FuncId) (fn : Func) (hf : Tryz.pinned.checked.prog.funcNamed "skein/skeinkeep.Idle" = some f) (hfn : Tryz.pinned.checked.prog.funcs[f]? = some fn) :
    true = Tryz.pinned.checked.prog.looks [] ∧ ∀ (j : Nat) t, fn.params[j]? = some t → Tryz.pinned.checked.prog.wantsStandIn t = false := by
  obtain rfl : f = 8 := Option.some.inj ((show Tryz.prog.funcNamed "skein/skeinkeep.Idle" = some 8 by kernel_rfl).symm.trans hf) |>.symm
  obtain rfl : fn = Tryz.f8 := (Option.some.inj (Tryz.func8.symm.trans hfn)).symm
  refine ⟨by kernel_rfl, fun j t ht => ?_⟩
  rw [Tryz.params8] at ht
  have ht' : t = 24 ∨ t = 3 := by simpa using Array.mem_of_getElem? ht
  rcases ht' with rfl | rfl
  · exact (show Tryz.prog.wantsStandIn 24 = false by kernel_rfl)
  · exact (show Tryz.prog.wantsStandIn 3 = false by kernel_rfl)

theorem ridle_card : Rows.IdleCardSaid :=
  Claim7.holds_tied_plain_at .later [] _ _ _ _ ridle_said (fun _ h => by cases h) (by kernel_rfl) (fun _ h => by cases h) idle_row_tie rfl ⟨rfl, rfl⟩ (by kernel_rfl) rfl ridle_plain (by kernel_rfl)
end Go.Proofs.YtjjlgjmebnkdjaaGreatDoor
