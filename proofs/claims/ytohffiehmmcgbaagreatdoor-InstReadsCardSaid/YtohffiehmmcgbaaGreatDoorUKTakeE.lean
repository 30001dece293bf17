/-
  The contracts of withTaken and Take (package cmd) off any bytes.
-/
import Derived.Test.YtohffiehmmcgbaaGreatDoorUD
import Derived.Test.YtohffiehmmcgbaaGreatDoorUKTakenE
import Derived.Test.YtohffiehmmcgbaaGreatDoorUC
namespace Go.Proofs.YtohffiehmmcgbaaGreatDoor
open Go.ChangeShapes Go.WideShapes Go.ChangeAt Go.RowKit Go.Lib
set_option linter.unusedVariables false
set_option linter.unusedSimpArgs false
def TwoK (w0 w : World) (g k n : Nat) (c : K) (l : List Nat) (e : Nat) : Prop :=
  InAt w g l e ∧ Blk w k 32 (cellsOf zeroK) ∧ Blk w n 32 (cellsOf c) ∧ w0.grownBy w (some g) ∧ PartsIs w ∧ 3 < g ∧ g < k ∧ k < n ∧ w0.heap.size ≤ k
section
variable {w0 w w' : World} {g k n : Nat} {c : K} {l l' : List Nat} {e e' : Nat}
theorem TwoK.res (h : TwoK w0 w g k n c l e) : Blk w k 32 (cellsOf zeroK) := h.2.1
theorem TwoK.box (h : TwoK w0 w g k n c l e) : Blk w n 32 (cellsOf c) := h.2.2.1
theorem TwoK.grown (h : TwoK w0 w g k n c l e) : w0.grownBy w (some g) := h.2.2.2.1
theorem TwoK.parts (h : TwoK w0 w g k n c l e) : PartsIs w := h.2.2.2.2.1
theorem TwoK.on (h : TwoK w0 w g k n c l e) (hb : Below w.heap.size w w') : TwoK w0 w' g k n c l e :=
  ⟨h.1.keep (hb.mono h.1.lt), h.res.below hb h.res.lt, h.box.below hb h.box.lt, only_below h.grown hb, h.parts.below hb, h.2.2.2.2.2⟩
theorem TwoK.turn (h : TwoK w0 w g k n c l e) (hi : InAt w' g l' e') (hb : w.grownBy w' (some g)) : TwoK w0 w' g k n c l' e' := by
  obtain ⟨h1, h2, h3, h4, h5, h6, h7, h8, h9⟩ := h
  exact ⟨hi, h2.grown hb (by intro e; injection e with e; omega), h3.grown hb (by intro e; injection e with e; omega), h4.trans hb, var_grown gParts h5 h5.lt (by intro e; injection e with e; omega) hb, h6, h7, h8, h9⟩
theorem TwoK.row (h : TwoK w0 w g k n c l e) (d : K) : TwoK w0 (w.setRow n (cellsOf d)) g k n d l e := by
  obtain ⟨h1, h2, h3, h4, h5, h6, h7, h8, h9⟩ := h
  exact ⟨h1.setRow (by omega), h2.rowFar (by omega) _, h3.row _, only_setRow h4 (by omega), var_under gParts h5 (base := n) (by omega) (below_setRow_ (Below.refl _ _) (Nat.le_refl _)), h6, h7, h8, h9⟩
end
end Go.Proofs.YtohffiehmmcgbaaGreatDoor
