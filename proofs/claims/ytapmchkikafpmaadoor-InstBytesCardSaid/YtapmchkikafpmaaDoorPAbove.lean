/-
  Contracts of path.Above and Overlap.
-/
import Derived.Test.YtapmchkikafpmaaDoorPRow
namespace Go.Proofs.YtapmchkikafpmaaDoor
open Go.ChangeShapes Go.WideShapes Go.ChangeAt Go.RowKit

theorem L_mk (l : List UInt8) : L ⟨l.toArray⟩ = l := by simp [L]

/-- A text without a front, and whether it has it. -/
def Fronts (s p : ByteArray) (w : World) (e : Ending) (w' : World) : Prop :=
  ∃ (r : ByteArray) (f : Bool), e = .returned (.tuple #[.string r, .bool f]) ∧ w = w' ∧ f = (L p).isPrefixOf (L s) ∧ (f = true → L r = (L s).drop (L p).length)
theorem toList_nil {r : ByteArray} : r.toList = [] ↔ L r = [] := by rw [toList_L]

end Go.Proofs.YtapmchkikafpmaaDoor
