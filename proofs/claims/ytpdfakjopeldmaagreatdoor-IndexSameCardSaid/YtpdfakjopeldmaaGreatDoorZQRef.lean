/-
  The contracts of the document's Overlap and Clash (moothillref04, moothillref08), and of the law's anchor.
-/
import Derived.Test.YtpdfakjopeldmaaGreatDoorQBase
import Derived.Test.YtpdfakjopeldmaaGreatDoorZKRef
import Derived.Test.YtpdfakjopeldmaaGreatDoorMgP
namespace Go.Proofs.YtpdfakjopeldmaaGreatDoor
open Go.ChangeShapes Go.WideShapes Go.ChangeAt Go.RowKit Go.Lib
set_option linter.unusedSimpArgs false
set_option linter.unusedVariables false

theorem clashF_off (c d : K) (h1 : keyed c = true) (h2 : keyed d = true) : clashK c d = ((c.num == d.num) || overlap (L (keyF c)) (L (keyF d))) := by
  have e1 : keyN c = c.num := by unfold keyN; unfold keyed at h1; rw [h1]; rfl
  have e2 : keyN d = d.num := by unfold keyN; unfold keyed at h2; rw [h2]; rfl
  unfold clashK clashF
  rw [h1, h2, e1, e2]
  rfl
theorem overlap_comm (p q : List UInt8) : overlap p q = overlap q p := by unfold overlap; exact Bool.or_comm _ _
theorem clashK_comm (c d : K) : clashK c d = clashK d c := by
  unfold clashK clashF
  rw [overlap_comm, Bool.and_comm (keyed c), show (keyN c == keyN d) = (keyN d == keyN c) by rw [Bool.eq_iff_iff]; simp; exact eq_comm]
theorem clashK_self (c : K) : clashK c c = keyed c := by
  unfold clashK clashF
  simp
theorem keyed_eq (c : K) : keyed c = (rightK c && (c.kind != 0)) := by
  unfold keyed footK
  cases hr : rightK c
  · simp
  · have hk := right_kind hr
    have : h0 c.kind = (c.kind != 0) := by
      have : c.kind = 0 ∨ c.kind = 1 ∨ c.kind = 2 ∨ c.kind = 3 ∨ c.kind = 4 ∨ c.kind = 5 ∨ c.kind = 6 ∨ c.kind = 7 ∨ c.kind = 8 := by omega
      rcases this with h | h | h | h | h | h | h | h | h <;> rw [h] <;> rfl
    rw [this]
    cases (c.kind != 0) <;> rfl

theorem anc1 : clashK ⟨2, 1, ⟨#[97]⟩, 1, ⟨#[]⟩, 0, 0, 0⟩ ⟨4, 2, ⟨#[97, 47, 98]⟩, 1, ⟨#[97, 47, 98]⟩, 2, 0, 0⟩ = true := by kernel_rfl
theorem anc2 : clashK ⟨4, 2, ⟨#[97, 47, 98]⟩, 1, ⟨#[97, 47, 98]⟩, 2, 0, 0⟩ ⟨2, 3, ⟨#[98]⟩, 1, ⟨#[]⟩, 0, 0, 0⟩ = false := by kernel_rfl

end Go.Proofs.YtpdfakjopeldmaaGreatDoor
