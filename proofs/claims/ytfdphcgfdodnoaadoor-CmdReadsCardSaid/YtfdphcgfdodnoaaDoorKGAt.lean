/-
  What holds while a command is guessed from a text (package cmd).
-/
import Derived.Test.YtfdphcgfdodnoaaDoorKNext
import Derived.Test.YtfdphcgfdodnoaaDoorKSmall
namespace Go.Proofs.YtfdphcgfdodnoaaDoor
open Go.ChangeShapes Go.WideShapes Go.ChangeAt Go.RowKit Go.Lib
set_option linter.unusedVariables false

abbrev zK : K := ⟨0, 0, ⟨#[]⟩, 0, ⟨#[]⟩, 0, 0, 0⟩
/-- The box of what is left at g, the command's at b, the result's at the first new block. -/
def GAt (w0 w : World) (g b : Nat) (c : K) (r : ByteArray) : Prop :=
  Blk w g 9 #[.string r] ∧ Blk w b 26 (cellsOf c) ∧ Blk w w0.heap.size 26 (cellsOf zK) ∧ w0.heap.size < g ∧ g < b ∧ Below w0.heap.size w0 w ∧ Laid7 w0
theorem GAt.laid {w0 w : World} {g b : Nat} {c : K} {r : ByteArray} (h : GAt w0 w g b c r) : Laid7 w := h.2.2.2.2.2.2.below h.2.2.2.2.2.1
theorem GAt.parts {w0 w : World} {g b : Nat} {c : K} {r : ByteArray} (h : GAt w0 w g b c r) : PartsIs w := h.laid.1
theorem GAt.below {w0 w : World} {g b : Nat} {c : K} {r : ByteArray} (h : GAt w0 w g b c r) : Below w0.heap.size w0 w := h.2.2.2.2.2.1
theorem GAt.blk {w0 w : World} {g b : Nat} {c : K} {r : ByteArray} (h : GAt w0 w g b c r) : Blk w b 26 (cellsOf c) := h.2.1
theorem GAt.box {w0 w : World} {g b : Nat} {c : K} {r : ByteArray} (h : GAt w0 w g b c r) : Blk w g 9 #[.string r] := h.1
theorem GAt.on {w0 w w' : World} {g b : Nat} {c : K} {r : ByteArray} (h : GAt w0 w g b c r) (hb : Below w.heap.size w w') : GAt w0 w' g b c r :=
  ⟨h.1.below hb h.1.lt, h.2.1.below hb h.2.1.lt, h.2.2.1.below hb h.2.2.1.lt, h.2.2.2.1, h.2.2.2.2.1, h.2.2.2.2.2.1.trans (hb.mono h.2.2.2.2.2.1.size), h.2.2.2.2.2.2⟩
theorem GAt.turn {w0 w w' : World} {g b : Nat} {c : K} {r r' : ByteArray} (h : GAt w0 w g b c r) (hk : Blk w' g 9 #[.string r']) (hb : w.grownBy w' (some g)) : GAt w0 w' g b c r' := by
  have h1 := h.2.2.2.1
  have h2 := h.2.2.2.2.1
  have h3 := h.2.2.2.2.2.1.size
  exact ⟨hk, h.2.1.grown hb (by intro e; injection e with e; omega), h.2.2.1.grown hb (by intro e; injection e with e; omega), h1, h2, h.2.2.2.2.2.1.trans (below_only hb (by omega) h3), h.2.2.2.2.2.2⟩
theorem GAt.set_ {w0 w : World} {g b : Nat} {c : K} {r : ByteArray} (h : GAt w0 w g b c r) (i : Nat) (u : Value) (c' : K) (hc : (cellsOf c).setIfInBounds i u = cellsOf c') : GAt w0 (w.setCell ⟨b, i, none⟩ u) g b c' r := by
  have h1 := h.2.2.2.1
  have h2 := h.2.2.2.2.1
  exact ⟨h.1.far (p := ⟨b, i, none⟩) (by show g ≠ b; omega) u, hc ▸ h.2.1.set_ i u, h.2.2.1.far (p := ⟨b, i, none⟩) (by show w0.heap.size ≠ b; omega) u, h1, h2, Below.setCell (p := ⟨b, i, none⟩) h.2.2.2.2.2.1 (by show w0.heap.size ≤ b; omega) u, h.2.2.2.2.2.2⟩
theorem GAt.res {w0 w : World} {g b : Nat} {c : K} {r : ByteArray} (h : GAt w0 w g b c r) : Boxed w0 w w0.heap.size zK := ⟨h.2.2.1, Nat.le_refl _, h.2.2.2.2.2.1, h.2.2.2.2.2.2.1⟩

end Go.Proofs.YtfdphcgfdodnoaaDoor
