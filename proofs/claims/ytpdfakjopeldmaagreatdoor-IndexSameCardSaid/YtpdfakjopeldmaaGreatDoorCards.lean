/-
  DERIVED. GIVEN WITH THE SEED: THE CARDS: each row of YtpdfakjopeldmaaGreatDoorRows.lean that lists a variable, with what it lists TIED to the program's text (the seventh form; the later family's looks); each row that meets fmt, with fmt's text TOLD by the authors' own Lean function (tested against real Go, not proved from fmt's source: count such statements apart). THE CARD IS WHAT COUNTS. Prove the row's statement (the work); the ties are given (YtpdfakjopeldmaaGreatDoorTie.lean); close each card by the builder's one call (the guide's Derived/Test/ToyasCard.lean, 'card_holds'). Laid BY PROGRAM, IN A SANDBOX (cutbox-door.mjs). By AI agents, Wed Nov 11 2026. No macro, syntax, notation, axiom, sorry.
-/
import Derived.Test.YtpdfakjopeldmaaGreatDoorRows
import GoSem.ClaimSeven
namespace Go.Proofs.YtpdfakjopeldmaaGreatDoor
namespace Rows

/-- THE TIED CARD OF 'moothilllaw12.IndexSame'. -/
def indexSameCard : Claim7 := { stood := { row := indexSameRow, standIns := [], harness := (true, "e96ac39d3c40d276fd824ca19e47b1826b2518b70c2b7ad5808a05cec7f69d48"), looks := false }, kinds := [], alts := [], laidByText := true, laidKinds := [.data], laidTests := true, laidLooks := .later }
def IndexSameCardSaid : Prop := Claim7.holds Tryz.pinned (.plain (OpenSpec.ofChange indexSameSpec)) indexSameCard

/-- THE SECOND FORM's CARD OF 'moothilllaw12.IndexSame'. -/
def indexSameUptoCard : Claim7 := { stood := { row := indexSameUptoRow, standIns := [], harness := (true, "e96ac39d3c40d276fd824ca19e47b1826b2518b70c2b7ad5808a05cec7f69d48"), looks := false }, kinds := [], alts := [], laidByText := true, laidKinds := [.data], laidTests := true, laidLooks := .later }
def IndexSameUptoCardSaid : Prop := Claim7.holds Tryz.pinned (.plain (OpenSpec.upto indexSameSpec)) indexSameUptoCard
end Rows
end Go.Proofs.YtpdfakjopeldmaaGreatDoor
