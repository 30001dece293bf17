/-
  DERIVED. GIVEN WITH THE SEED: THE CARDS: each row of YtfpmmajgnijboaaDoorRows.lean that lists a variable, with what it lists TIED to the program's text (the seventh form; the later family's looks); each row that meets fmt, with fmt's text TOLD by the authors' own Lean function (tested against real Go, not proved from fmt's source: count such statements apart). THE CARD IS WHAT COUNTS. Prove the row's statement (the work); the ties are given (YtfpmmajgnijboaaDoorTie.lean); close each card by the builder's one call (the guide's Derived/Test/ToyasCard.lean, 'card_holds'). Laid BY PROGRAM, IN A SANDBOX (cutbox-door.mjs). By AI agents, Wed Nov 11 2026. No macro, syntax, notation, axiom, sorry.
-/
import Derived.Test.YtfpmmajgnijboaaDoorRows
import GoSem.ClaimSeven
namespace Go.Proofs.YtfpmmajgnijboaaDoor
namespace Rows

/-- THE TIED CARD OF 'moothilllaw09.AttrTexts'. -/
def attrTextsCard : Claim7 := { stood := { row := attrTextsRow, standIns := [], harness := (true, "c0a720100e031a36b8b2521db2505b564168c5fa0fe4cce412857cca7af58cec"), looks := true }, kinds := [], alts := [], laidByText := true, laidKinds := [.data, .data, .data, .sentinel, .sentinel], laidTests := true, laidLooks := .later }
def AttrTextsCardSaid : Prop := Claim7.holds Tryd.pinned (.plain (OpenSpec.ofChange attrTextsSpec)) attrTextsCard

/-- THE SECOND FORM's CARD OF 'moothilllaw09.AttrTexts'. -/
def attrTextsUptoCard : Claim7 := { stood := { row := attrTextsUptoRow, standIns := [], harness := (true, "c0a720100e031a36b8b2521db2505b564168c5fa0fe4cce412857cca7af58cec"), looks := true }, kinds := [], alts := [], laidByText := true, laidKinds := [.data, .data, .data, .sentinel, .sentinel], laidTests := true, laidLooks := .later }
def AttrTextsUptoCardSaid : Prop := Claim7.holds Tryd.pinned (.plain (OpenSpec.upto attrTextsSpec)) attrTextsUptoCard
end Rows
end Go.Proofs.YtfpmmajgnijboaaDoor
