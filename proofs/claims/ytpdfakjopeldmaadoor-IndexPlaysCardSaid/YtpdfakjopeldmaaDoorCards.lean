/-
  DERIVED. GIVEN WITH THE SEED: THE CARDS: each row of YtpdfakjopeldmaaDoorRows.lean that lists a variable, with what it lists TIED to the program's text (the seventh form; the later family's looks); each row that meets fmt, with fmt's text TOLD by the authors' own Lean function (tested against real Go, not proved from fmt's source: count such statements apart). THE CARD IS WHAT COUNTS. Prove the row's statement (the work); the ties are given (YtpdfakjopeldmaaDoorTie.lean); close each card by the builder's one call (the guide's Derived/Test/ToyasCard.lean, 'card_holds'). Laid BY PROGRAM, IN A SANDBOX (cutbox-door.mjs). By AI agents, Wed Nov 11 2026. No macro, syntax, notation, axiom, sorry.
-/
import Derived.Test.YtpdfakjopeldmaaDoorRows
import GoSem.ClaimSeven
namespace Go.Proofs.YtpdfakjopeldmaaDoor
namespace Rows

/-- THE TIED CARD OF 'moothilllaw12.IndexPlays'. -/
def indexPlaysCard : Claim7 := { stood := { row := indexPlaysRow, standIns := [], harness := (true, "a0a3175f560e90e98ef34f1c522188664d235cbc61f7bc15b196b4c8cc5abf4b"), looks := false }, kinds := [], alts := [], laidByText := true, laidKinds := [.data], laidTests := true, laidLooks := .later }
def IndexPlaysCardSaid : Prop := Claim7.holds Tryd.pinned (.plain (OpenSpec.ofChange indexPlaysSpec)) indexPlaysCard

/-- THE TIED CARD OF 'moothilllaw12.IndexCovers'. -/
def indexCoversCard : Claim7 := { stood := { row := indexCoversRow, standIns := [], harness := (true, "a0a3175f560e90e98ef34f1c522188664d235cbc61f7bc15b196b4c8cc5abf4b"), looks := false }, kinds := [], alts := [], laidByText := true, laidKinds := [.data], laidTests := true, laidLooks := .later }
def IndexCoversCardSaid : Prop := Claim7.holds Tryd.pinned (.plain (OpenSpec.ofChange indexCoversSpec)) indexCoversCard

/-- THE TIED CARD OF 'moothilllaw12.IndexShuffles'. -/
def indexShufflesCard : Claim7 := { stood := { row := indexShufflesRow, standIns := [], harness := (true, "a0a3175f560e90e98ef34f1c522188664d235cbc61f7bc15b196b4c8cc5abf4b"), looks := false }, kinds := [], alts := [], laidByText := true, laidKinds := [.data], laidTests := true, laidLooks := .later }
def IndexShufflesCardSaid : Prop := Claim7.holds Tryd.pinned (.plain (OpenSpec.ofChange indexShufflesSpec)) indexShufflesCard

/-- THE SECOND FORM's CARD OF 'moothilllaw12.IndexPlays'. -/
def indexPlaysUptoCard : Claim7 := { stood := { row := indexPlaysUptoRow, standIns := [], harness := (true, "a0a3175f560e90e98ef34f1c522188664d235cbc61f7bc15b196b4c8cc5abf4b"), looks := false }, kinds := [], alts := [], laidByText := true, laidKinds := [.data], laidTests := true, laidLooks := .later }
def IndexPlaysUptoCardSaid : Prop := Claim7.holds Tryd.pinned (.plain (OpenSpec.upto indexPlaysSpec)) indexPlaysUptoCard

/-- THE SECOND FORM's CARD OF 'moothilllaw12.IndexCovers'. -/
def indexCoversUptoCard : Claim7 := { stood := { row := indexCoversUptoRow, standIns := [], harness := (true, "a0a3175f560e90e98ef34f1c522188664d235cbc61f7bc15b196b4c8cc5abf4b"), looks := false }, kinds := [], alts := [], laidByText := true, laidKinds := [.data], laidTests := true, laidLooks := .later }
def IndexCoversUptoCardSaid : Prop := Claim7.holds Tryd.pinned (.plain (OpenSpec.upto indexCoversSpec)) indexCoversUptoCard

/-- THE SECOND FORM's CARD OF 'moothilllaw12.IndexShuffles'. -/
def indexShufflesUptoCard : Claim7 := { stood := { row := indexShufflesUptoRow, standIns := [], harness := (true, "a0a3175f560e90e98ef34f1c522188664d235cbc61f7bc15b196b4c8cc5abf4b"), looks := false }, kinds := [], alts := [], laidByText := true, laidKinds := [.data], laidTests := true, laidLooks := .later }
def IndexShufflesUptoCardSaid : Prop := Claim7.holds Tryd.pinned (.plain (OpenSpec.upto indexShufflesSpec)) indexShufflesUptoCard
end Rows
end Go.Proofs.YtpdfakjopeldmaaDoor
