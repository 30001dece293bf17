/-
  Contracts of attributes (package attr): Within.
-/
import Derived.Test.YtapmchkikafpmaaDoorAEq
namespace Go.Proofs.YtapmchkikafpmaaDoor
open Go.ChangeShapes Go.WideShapes Go.ChangeAt Go.RowKit
set_option linter.unusedVariables false

/-- Within is: the number isn't greater, and the merge's slots are the other's. -/
theorem inB_eq (f g : Nat → Int) : inB f g = (decide (f 0 ≤ g 0) && eqD (mx f g) g) := by
  rw [Bool.eq_iff_iff, inB_iff, Bool.and_eq_true, decide_eq_true_eq, eqD_iff]
  constructor
  · intro h
    refine ⟨h 0 (by decide), fun i hi => ?_⟩
    have := h (i + 1) (by omega)
    unfold mx; split <;> omega
  · rintro ⟨h0, h⟩ i hi
    cases i with
    | zero => exact h0
    | succ i => have := h i (by omega); unfold mx at this; split at this <;> omega

end Go.Proofs.YtapmchkikafpmaaDoor
