/-
  The program's plain form: what a node says.
-/
import Derived.Test.YtjjlgjmebnkdjaaGreatDoorPrgJ
import Derived.Test.YtjjlgjmebnkdjaaGreatDoorRefK
import Derived.Deep.RegionWith
namespace Go.Proofs.YtjjlgjmebnkdjaaGreatDoor
open Go Go.Proofs Go.RowKit Skein

def Tab (w : World) : Prop := Lib.TabIs Tryz.prog w "internal/strconv.uint64pow10" .u64 Lib.pow10Tab

theorem gPow : Tryz.prog.globalNamed "internal/strconv.uint64pow10" = some 3 := by kernel_rfl

theorem Tab.grown {w w' : World} (h : Tab w) (hg : w.grownBy w' none) : Tab w' := by
  unfold Tab Lib.TabIs World.var? at *
  rw [gPow] at h ⊢
  simp only [Option.bind_some] at h ⊢
  have hlt : 3 < w.heap.size := by
    rcases Nat.lt_or_ge 3 w.heap.size with h' | h'
    · exact h'
    · rw [Array.getElem?_eq_none h'] at h; simp at h
  rw [hg.block 3 hlt (by simp)]; exact h

structure Says (T : TypeId) (x : Value) (f : Nat) (s : ByteArray) : Prop where
  meth : ∀ w, (method 376 T x "Plain").run Tryz.prog w = .ok (f, x) w
  ent : ∀ args w, (callFunc f args).run Tryz.prog w = .ok (.enter f args) w
  call : ∀ w, Tab w → Calls Tryz.prog f #[x] w fun e w' => e = .returned (.string s) ∧ w.grownBy w' none

theorem boxed {W : World} {cs : Array Value} {T : TypeId} {k : Nat} (h : W.heap[k]? = some (.cells cs T (0, 0))) (w1 : World) (hg : W.grownBy w1 none) : w1.heap[k]? = some (.cells cs T (0, 0)) := by
  rw [hg.block k (Array.getElem?_eq_some_iff.1 h).1 (by simp)]; exact h

end Go.Proofs.YtjjlgjmebnkdjaaGreatDoor
