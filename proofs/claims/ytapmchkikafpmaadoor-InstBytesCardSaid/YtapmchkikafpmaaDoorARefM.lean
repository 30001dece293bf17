/-
  The document's own Merge and Within.
-/
import Derived.Test.YtapmchkikafpmaaDoorARight
import Derived.RegionTactic
namespace Go.Proofs.YtapmchkikafpmaaDoor
open Go.ChangeShapes Go.WideShapes Go.ChangeAt Go.RowKit
set_option linter.unusedVariables false

theorem info_refa : (Tryd.prog.info? 43).map (·.size) = some 8 := by kernel_rfl
theorem len_refa (f : Nat → Int) : (Tryd.prog.info? 43).map (·.size) = some (rowA f).size := by rw [rowA_size]; exact info_refa

theorem inB_no {f g : Nat → Int} {i : Nat} (hi : i < 8) (h : g i < f i) : inB f g = false := by
  rw [Bool.eq_false_iff]; intro hh; have := inB_iff.1 hh i hi; omega
theorem inB_of {f g : Nat → Int} {j : Nat} (hj : 7 ≤ j) (h : ∀ i, i < j → f (1 + i) ≤ g (1 + i)) : inB f g = decide (f 0 ≤ g 0) := by
  by_cases h0 : f 0 ≤ g 0
  · rw [decide_eq_true h0]
    refine inB_iff.2 fun i hi => ?_
    cases i with
    | zero => exact h0
    | succ i => have := h i (by omega); rwa [Nat.add_comm] at this
  · rw [decide_eq_false h0]
    exact inB_no (i := 0) (by decide) (by omega)

end Go.Proofs.YtapmchkikafpmaaDoor
