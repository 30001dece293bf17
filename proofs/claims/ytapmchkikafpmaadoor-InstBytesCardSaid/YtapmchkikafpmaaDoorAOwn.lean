/-
  Contracts of attributes (package attr): Own, Past; and the laws' anchor.
-/
import Derived.Test.YtapmchkikafpmaaDoorACovers
namespace Go.Proofs.YtapmchkikafpmaaDoor
open Go.ChangeShapes Go.WideShapes Go.ChangeAt Go.RowKit
set_option linter.unusedVariables false
set_option linter.unusedSimpArgs false

/-- Three boxes: attributes, a name, and the result's. -/
theorem att_name_new {w W : World} {f : Nat → Int} {r s : Int} (h : ((w.alloc (.cells (#[.int .i64 (f 0), .int .i64 (f 1), .int .i64 (f 2), .int .i64 (f 3), .int .i64 (f 4), .int .i64 (f 5), .int .i64 (f 6), .int .i64 (f 7)]) 33)).alloc (.cells #[.int .i64 r, .int .i64 s] 23)).alloc (.cells #[.int .i64 0, .int .i64 0, .int .i64 0, .int .i64 0, .int .i64 0, .int .i64 0, .int .i64 0, .int .i64 0] 33) = W) :
    Hid (Blk W w.heap.size 33 (rowA f)) ∧ Hid (Blk W (w.heap.size + 1) 23 #[.int .i64 r, .int .i64 s]) ∧ Hid (Blk W (w.heap.size + 1 + 1) 33 (rowA fun _ => 0)) ∧ Hid (Below w.heap.size w W) := by
  obtain ⟨h1, h2, h3, h4⟩ := three_new h
  exact ⟨h1, h2, h3, h4⟩
theorem att_new {w W : World} {f : Nat → Int} (h : (w.alloc (.cells (#[.int .i64 (f 0), .int .i64 (f 1), .int .i64 (f 2), .int .i64 (f 3), .int .i64 (f 4), .int .i64 (f 5), .int .i64 (f 6), .int .i64 (f 7)]) 33)).alloc (.cells #[.int .i64 0, .int .i64 0, .int .i64 0, .int .i64 0, .int .i64 0, .int .i64 0, .int .i64 0, .int .i64 0] 33) = W) :
    Hid (Blk W w.heap.size 33 (rowA f)) ∧ Hid (Blk W (w.heap.size + 1) 33 (rowA fun _ => 0)) ∧ Hid (Below w.heap.size w W) := by
  obtain ⟨h1, h2, h4⟩ := two_new h
  exact ⟨h1, h2, h4⟩

/-- The example's attributes. -/
def exA : Nat → Int := fun i => if i = 3 then 3 else 0
theorem ex_own (w : World) : Calls Tryd.prog 57 #[.agg #[.int .i64 0, .int .i64 0, .int .i64 0, .int .i64 3, .int .i64 0, .int .i64 0, .int .i64 0, .int .i64 0], .agg #[.int .i64 2, .int .i64 3]] w fun e w' => e = .returned (.bool true) ∧ Below w.heap.size w w' :=
  owns8 exA 2 3 w

theorem exA_row : (#[.int .i64 0, .int .i64 0, .int .i64 0, .int .i64 3, .int .i64 0, .int .i64 0, .int .i64 0, .int .i64 0] : Array Value) = rowA exA := rfl
theorem eight_ex {w : World} {g : Nat} (h : Eight w g exA) : w.cell? ⟨g, 0, none⟩ = some (.int .i64 0) ∧ w.cell? ⟨g, 1, none⟩ = some (.int .i64 0) ∧ w.cell? ⟨g, 2, none⟩ = some (.int .i64 0) ∧ w.cell? ⟨g, 3, none⟩ = some (.int .i64 3) ∧ w.cell? ⟨g, 4, none⟩ = some (.int .i64 0) ∧ w.cell? ⟨g, 5, none⟩ = some (.int .i64 0) ∧ w.cell? ⟨g, 6, none⟩ = some (.int .i64 0) ∧ w.cell? ⟨g, 7, none⟩ = some (.int .i64 0) := h

end Go.Proofs.YtapmchkikafpmaaDoor
