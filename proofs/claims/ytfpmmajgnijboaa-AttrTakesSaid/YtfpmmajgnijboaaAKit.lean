/-
  Three boxes of attributes, and others beside them, as the laws hold them.
-/
import Derived.Test.YtfpmmajgnijboaaAOwn
namespace Go.Proofs.Ytfpmmajgnijboaa
open Go.ChangeShapes Go.WideShapes Go.ChangeAt Go.RowKit
set_option linter.unusedVariables false

theorem mx_comm (f g : Nat → Int) : eqA (mx f g) (mx g f) = true := eqA_iff.2 fun i _ => by unfold mx; split <;> split <;> omega
theorem mx_self (f : Nat → Int) : eqA (mx f f) f = true := eqA_iff.2 fun i _ => by unfold mx; split <;> omega
theorem mx_assoc (f g h : Nat → Int) : eqA (mx (mx f g) h) (mx f (mx g h)) = true := eqA_iff.2 fun i _ => by
  unfold mx
  split <;> split <;> (try split) <;> (try split) <;> omega
theorem inB_left (f g : Nat → Int) : inB f (mx f g) = true := inB_iff.2 fun i _ => by unfold mx; split <;> omega
theorem inB_right (f g : Nat → Int) : inB g (mx f g) = true := inB_iff.2 fun i _ => by unfold mx; split <;> omega
theorem inB_least {f g h : Nat → Int} (h1 : inB f h = true) (h2 : inB g h = true) : inB (mx f g) h = true := inB_iff.2 fun i hi => by
  have := inB_iff.1 h1 i hi
  have := inB_iff.1 h2 i hi
  unfold mx; split <;> omega

/-- Three boxes of attributes one behind the other. -/
def Three (W : World) (k : Nat) (f g h : Nat → Int) : Prop := Blk W k 24 (rowA f) ∧ Blk W (k + 1) 24 (rowA g) ∧ Blk W (k + 1 + 1) 24 (rowA h)
theorem Three.on {W W' : World} {k : Nat} {f g h : Nat → Int} (H : Three W k f g h) (hb : Below W.heap.size W W') : Three W' k f g h := ⟨H.1.below hb H.1.lt, H.2.1.below hb H.2.1.lt, H.2.2.below hb H.2.2.lt⟩
theorem Three.drew {W : World} {k : Nat} {f g h : Nat → Int} (H : Three W k f g h) : Three W.drew k f g h := H
theorem Three.eights {W : World} {k : Nat} {f g h : Nat → Int} (H : Three W k f g h) : Eight W k f ∧ Eight W (k + 1) g ∧ Eight W (k + 1 + 1) h := ⟨H.1.eight, H.2.1.eight, H.2.2.eight⟩
theorem three_at {w W : World} {f g h : Nat → Int} (hW : ((w.alloc (.cells #[.int .i64 (f 0), .int .i64 (f 1), .int .i64 (f 2), .int .i64 (f 3), .int .i64 (f 4), .int .i64 (f 5), .int .i64 (f 6), .int .i64 (f 7)] 24)).alloc (.cells #[.int .i64 (g 0), .int .i64 (g 1), .int .i64 (g 2), .int .i64 (g 3), .int .i64 (g 4), .int .i64 (g 5), .int .i64 (g 6), .int .i64 (g 7)] 24)).alloc (.cells #[.int .i64 (h 0), .int .i64 (h 1), .int .i64 (h 2), .int .i64 (h 3), .int .i64 (h 4), .int .i64 (h 5), .int .i64 (h 6), .int .i64 (h 7)] 24) = W) :
    Hid (Three W w.heap.size f g h) ∧ Hid (Below w.heap.size w W) := by
  obtain ⟨h1, h2, h3, h4⟩ := three_new hW
  exact ⟨hid ⟨h1.out, h2.out, h3.out⟩, h4⟩

end Go.Proofs.Ytfpmmajgnijboaa
