/-
  What comes ahead, with one more note. No program in it.
-/
import Derived.Test.YtpdfakjopeldmaaDoorMgD
namespace Go.Proofs.YtpdfakjopeldmaaDoor
open Go.ChangeShapes Go.WideShapes Go.ChangeAt Go.RowKit
set_option linter.unusedVariables false

theorem aheadC_nil (c : K) (r s : Int) : aheadC [] c r s = fun _ => 0 := by
  unfold aheadC
  split <;> rfl
theorem aheadC_snoc_no {l : List Nt} {n : Nt} {c : K} {r s : Int} (h : (keyed c && nameB r s && clashes (keyF c) (keyN c) n) = false) : aheadC (l ++ [n]) c r s = aheadC l c r s := by
  unfold aheadC
  by_cases h1 : (keyed c && nameB r s) = true
  · rw [if_pos h1, if_pos h1]
    rw [h1, Bool.true_and] at h
    exact aheadF_snoc_not _ _ _ h
  · rw [if_neg h1, if_neg h1]
theorem aheadC_snoc_yes {l : List Nt} {n : Nt} {c : K} {r s : Int} (h : (keyed c && nameB r s && clashes (keyF c) (keyN c) n) = true) : aheadC (l ++ [n]) c r s = mx (aheadC l c r s) (nextF n.att) := by
  have h1 : (keyed c && nameB r s) = true := by
    cases h2 : (keyed c && nameB r s) with
    | true => rfl
    | false => rw [h2] at h; cases h
  unfold aheadC
  rw [if_pos h1, if_pos h1]
  rw [h1, Bool.true_and] at h
  exact aheadF_snoc _ _ _ h
theorem aheadC_take {l : List Nt} {i : Nat} (hi : i < l.length) (c : K) (r s : Int) : l.take (i + 1) = l.take i ++ [l[i]] := List.take_succ_eq_append_getElem hi

end Go.Proofs.YtpdfakjopeldmaaDoor
