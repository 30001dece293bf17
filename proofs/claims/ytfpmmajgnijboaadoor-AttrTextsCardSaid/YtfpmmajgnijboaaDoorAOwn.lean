/-
  Contracts of attributes (package attr): Own, Past; and the laws' anchor.
-/
import Derived.Test.YtfpmmajgnijboaaDoorACovers
namespace Go.Proofs.YtfpmmajgnijboaaDoor
open Go.ChangeShapes Go.WideShapes Go.ChangeAt Go.RowKit
set_option linter.unusedVariables false
set_option linter.unusedSimpArgs false

/-- Three boxes: attributes, a name, and the result's. -/
theorem att_name_new {w W : World} {f : Nat → Int} {r s : Int} (h : ((w.alloc (.cells (#[.int .i64 (f 0), .int .i64 (f 1), .int .i64 (f 2), .int .i64 (f 3), .int .i64 (f 4), .int .i64 (f 5), .int .i64 (f 6), .int .i64 (f 7)]) 24)).alloc (.cells #[.int .i64 r, .int .i64 s] 36)).alloc (.cells #[.int .i64 0, .int .i64 0, .int .i64 0, .int .i64 0, .int .i64 0, .int .i64 0, .int .i64 0, .int .i64 0] 24) = W) :
    Hid (Blk W w.heap.size 24 (rowA f)) ∧ Hid (Blk W (w.heap.size + 1) 36 #[.int .i64 r, .int .i64 s]) ∧ Hid (Blk W (w.heap.size + 1 + 1) 24 (rowA fun _ => 0)) ∧ Hid (Below w.heap.size w W) := by
  obtain ⟨h1, h2, h3, h4⟩ := three_new h
  exact ⟨h1, h2, h3, h4⟩
theorem att_new {w W : World} {f : Nat → Int} (h : (w.alloc (.cells (#[.int .i64 (f 0), .int .i64 (f 1), .int .i64 (f 2), .int .i64 (f 3), .int .i64 (f 4), .int .i64 (f 5), .int .i64 (f 6), .int .i64 (f 7)]) 24)).alloc (.cells #[.int .i64 0, .int .i64 0, .int .i64 0, .int .i64 0, .int .i64 0, .int .i64 0, .int .i64 0, .int .i64 0] 24) = W) :
    Hid (Blk W w.heap.size 24 (rowA f)) ∧ Hid (Blk W (w.heap.size + 1) 24 (rowA fun _ => 0)) ∧ Hid (Below w.heap.size w W) := by
  obtain ⟨h1, h2, h4⟩ := two_new h
  exact ⟨h1, h2, h4⟩

/-- The example's attributes. -/
def exA : Nat → Int := fun i => if i = 3 then 3 else 0
theorem ex_cov (w : World) : Calls Tryd.prog 9 #[.agg #[.int .i64 0, .int .i64 0, .int .i64 0, .int .i64 3, .int .i64 0, .int .i64 0, .int .i64 0, .int .i64 0], .agg #[.int .i64 2, .int .i64 2]] w fun e w' => e = .returned (.bool true) ∧ Below w.heap.size w w' :=
  covers8 exA 2 2 w
theorem ex_not (w : World) : Calls Tryd.prog 9 #[.agg #[.int .i64 0, .int .i64 0, .int .i64 0, .int .i64 3, .int .i64 0, .int .i64 0, .int .i64 0, .int .i64 0], .agg #[.int .i64 2, .int .i64 3]] w fun e w' => e = .returned (.bool false) ∧ Below w.heap.size w w' :=
  covers8 exA 2 3 w
theorem ex_own (w : World) : Calls Tryd.prog 10 #[.agg #[.int .i64 0, .int .i64 0, .int .i64 0, .int .i64 3, .int .i64 0, .int .i64 0, .int .i64 0, .int .i64 0], .agg #[.int .i64 2, .int .i64 3]] w fun e w' => e = .returned (.bool true) ∧ Below w.heap.size w w' :=
  owns8 exA 2 3 w

theorem exA_row : (#[.int .i64 0, .int .i64 0, .int .i64 0, .int .i64 3, .int .i64 0, .int .i64 0, .int .i64 0, .int .i64 0] : Array Value) = rowA exA := rfl
theorem eight_ex {w : World} {g : Nat} (h : Eight w g exA) : w.cell? ⟨g, 0, none⟩ = some (.int .i64 0) ∧ w.cell? ⟨g, 1, none⟩ = some (.int .i64 0) ∧ w.cell? ⟨g, 2, none⟩ = some (.int .i64 0) ∧ w.cell? ⟨g, 3, none⟩ = some (.int .i64 3) ∧ w.cell? ⟨g, 4, none⟩ = some (.int .i64 0) ∧ w.cell? ⟨g, 5, none⟩ = some (.int .i64 0) ∧ w.cell? ⟨g, 6, none⟩ = some (.int .i64 0) ∧ w.cell? ⟨g, 7, none⟩ = some (.int .i64 0) := h

set_option maxRecDepth 100000 in
set_option maxHeartbeats 1000000 in
theorem anchor9 (w : World) : Calls Tryd.prog 4 #[] w fun e w' => e = .returned (.bool true) ∧ Below w.heap.size w w' := by
  go_enter Tryd.func4, Tryd.ntmps4
  go_wp2_with fail
  obtain ⟨W, hW⟩ : ∃ W, w.alloc (.cells #[.int .i64 0, .int .i64 0, .int .i64 0, .int .i64 3, .int .i64 0, .int .i64 0, .int .i64 0, .int .i64 0] 24) = W := ⟨_, rfl⟩
  rw [hW]
  obtain ⟨K0, KB⟩ := one_new hW
  rw [exA_row] at K0
  clear hW
  obtain ⟨k, hk⟩ : ∃ k, w.heap.size = k := ⟨_, rfl⟩
  rw [hk] at K0 KB
  rw [hk]
  have HK := hid hk
  clear hk
  with_reducible refine (ex_cov _).mono ?_
  rintro e w1 ⟨rfl, hb1⟩
  have D0 := hid (K0.out.below hb1 K0.out.lt)
  have DB := hid (KB.out.trans (hb1.mono (by have := K0.out.lt; omega)))
  clear hb1 K0 KB
  obtain ⟨c0, c1, c2, c3, c4, c5, c6, c7⟩ := eight_ex D0.out.eight
  go_wp2_with fail
  clear c0 c1 c2 c3 c4 c5 c6 c7
  with_reducible refine (ex_not _).mono ?_
  rintro e w2 ⟨rfl, hb2⟩
  have E0 := hid (D0.out.below hb2 D0.out.lt)
  have EB := hid (DB.out.trans (hb2.mono (by have := D0.out.lt; omega)))
  clear hb2 D0 DB
  obtain ⟨c0, c1, c2, c3, c4, c5, c6, c7⟩ := eight_ex E0.out.eight
  go_wp2_with fail
  clear c0 c1 c2 c3 c4 c5 c6 c7
  with_reducible refine (ex_own _).mono ?_
  rintro e w3 ⟨rfl, hb3⟩
  have FB := hid (EB.out.trans (hb3.mono (by have := E0.out.lt; omega)))
  clear hb3 E0 EB
  go_wp2
  go_ret
  exact ⟨rfl, by rw [HK.out]; exact FB.out⟩

end Go.Proofs.YtfpmmajgnijboaaDoor
