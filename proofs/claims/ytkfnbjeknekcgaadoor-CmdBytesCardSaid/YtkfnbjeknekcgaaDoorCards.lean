/-
  DERIVED. GIVEN WITH THE SEED: THE CARDS: each row of YtkfnbjeknekcgaaDoorRows.lean that lists a variable, with what it lists TIED to the program's text (the seventh form; the later family's looks); each row that meets fmt, with fmt's text TOLD by the authors' own Lean function (tested against real Go, not proved from fmt's source: count such statements apart). THE CARD IS WHAT COUNTS. Prove the row's statement (the work); the ties are given (YtkfnbjeknekcgaaDoorTie.lean); close each card by the builder's one call (the guide's Derived/Test/ToyasCard.lean, 'card_holds'). Laid BY PROGRAM, IN A SANDBOX (cutbox-door.mjs). By AI agents, Wed Nov 11 2026. No macro, syntax, notation, axiom, sorry.
-/
import Derived.Test.YtkfnbjeknekcgaaDoorRows
import GoSem.ClaimSeven
namespace Go.Proofs.YtkfnbjeknekcgaaDoor
namespace Rows

/-- THE TIED CARD OF 'moothilllaw07.CmdRight'. -/
def cmdRightCard : Claim7 := { stood := { row := cmdRightRow, standIns := [], harness := (true, "816ecf7776a363879e9d1194b1ee53086ff9c5c1380a50dfded440f12c75bae4"), looks := true }, kinds := [], alts := [], laidByText := true, laidKinds := [.data], laidTests := true, laidLooks := .later }
def CmdRightCardSaid : Prop := Claim7.holds Tryd.pinned (.plain (OpenSpec.ofChange cmdRightSpec)) cmdRightCard

/-- THE TIED CARD OF 'moothilllaw07.CmdBytes'. -/
def cmdBytesCard : Claim7 := { stood := { row := cmdBytesRow, standIns := [], harness := (true, "816ecf7776a363879e9d1194b1ee53086ff9c5c1380a50dfded440f12c75bae4"), looks := true }, kinds := [], alts := [], laidByText := true, laidKinds := [.data], laidTests := true, laidLooks := .later }
def CmdBytesCardSaid : Prop := Claim7.holds Tryd.pinned (.plain (OpenSpec.ofChange cmdBytesSpec)) cmdBytesCard

/-- THE TIED CARD OF 'moothilllaw07.CmdShows'. -/
def cmdShowsCard : Claim7 := { stood := { row := cmdShowsRow, standIns := [], harness := (true, "816ecf7776a363879e9d1194b1ee53086ff9c5c1380a50dfded440f12c75bae4"), looks := true }, kinds := [], alts := [], laidByText := true, laidKinds := [.data, .data, .data, .sentinel, .sentinel, .data, .data], laidTests := true, laidLooks := .later }
def CmdShowsCardSaid : Prop := Claim7.holds Tryd.pinned (.plain (OpenSpec.ofChange cmdShowsSpec)) cmdShowsCard

/-- THE TIED CARD OF 'moothilllaw07.CmdReads'. -/
def cmdReadsCard : Claim7 := { stood := { row := cmdReadsRow, standIns := [], harness := (true, "816ecf7776a363879e9d1194b1ee53086ff9c5c1380a50dfded440f12c75bae4"), looks := true }, kinds := [], alts := [], laidByText := true, laidKinds := [.data, .data, .data, .sentinel, .sentinel, .data, .data], laidTests := true, laidLooks := .later }
def CmdReadsCardSaid : Prop := Claim7.holds Tryd.pinned (.plain (OpenSpec.ofChange cmdReadsSpec)) cmdReadsCard

/-- THE TIED CARD OF 'moothilllaw07.CmdUnlike'. -/
def cmdUnlikeCard : Claim7 := { stood := { row := cmdUnlikeRow, standIns := [], harness := (true, "816ecf7776a363879e9d1194b1ee53086ff9c5c1380a50dfded440f12c75bae4"), looks := true }, kinds := [], alts := [], laidByText := true, laidKinds := [.data], laidTests := true, laidLooks := .later }
def CmdUnlikeCardSaid : Prop := Claim7.holds Tryd.pinned (.plain (OpenSpec.ofChange cmdUnlikeSpec)) cmdUnlikeCard

/-- THE SECOND FORM's CARD OF 'moothilllaw07.CmdRight'. -/
def cmdRightUptoCard : Claim7 := { stood := { row := cmdRightUptoRow, standIns := [], harness := (true, "816ecf7776a363879e9d1194b1ee53086ff9c5c1380a50dfded440f12c75bae4"), looks := true }, kinds := [], alts := [], laidByText := true, laidKinds := [.data], laidTests := true, laidLooks := .later }
def CmdRightUptoCardSaid : Prop := Claim7.holds Tryd.pinned (.plain (OpenSpec.upto cmdRightSpec)) cmdRightUptoCard

/-- THE SECOND FORM's CARD OF 'moothilllaw07.CmdBytes'. -/
def cmdBytesUptoCard : Claim7 := { stood := { row := cmdBytesUptoRow, standIns := [], harness := (true, "816ecf7776a363879e9d1194b1ee53086ff9c5c1380a50dfded440f12c75bae4"), looks := true }, kinds := [], alts := [], laidByText := true, laidKinds := [.data], laidTests := true, laidLooks := .later }
def CmdBytesUptoCardSaid : Prop := Claim7.holds Tryd.pinned (.plain (OpenSpec.upto cmdBytesSpec)) cmdBytesUptoCard

/-- THE SECOND FORM's CARD OF 'moothilllaw07.CmdShows'. -/
def cmdShowsUptoCard : Claim7 := { stood := { row := cmdShowsUptoRow, standIns := [], harness := (true, "816ecf7776a363879e9d1194b1ee53086ff9c5c1380a50dfded440f12c75bae4"), looks := true }, kinds := [], alts := [], laidByText := true, laidKinds := [.data, .data, .data, .sentinel, .sentinel, .data, .data], laidTests := true, laidLooks := .later }
def CmdShowsUptoCardSaid : Prop := Claim7.holds Tryd.pinned (.plain (OpenSpec.upto cmdShowsSpec)) cmdShowsUptoCard

/-- THE SECOND FORM's CARD OF 'moothilllaw07.CmdReads'. -/
def cmdReadsUptoCard : Claim7 := { stood := { row := cmdReadsUptoRow, standIns := [], harness := (true, "816ecf7776a363879e9d1194b1ee53086ff9c5c1380a50dfded440f12c75bae4"), looks := true }, kinds := [], alts := [], laidByText := true, laidKinds := [.data, .data, .data, .sentinel, .sentinel, .data, .data], laidTests := true, laidLooks := .later }
def CmdReadsUptoCardSaid : Prop := Claim7.holds Tryd.pinned (.plain (OpenSpec.upto cmdReadsSpec)) cmdReadsUptoCard

/-- THE SECOND FORM's CARD OF 'moothilllaw07.CmdUnlike'. -/
def cmdUnlikeUptoCard : Claim7 := { stood := { row := cmdUnlikeUptoRow, standIns := [], harness := (true, "816ecf7776a363879e9d1194b1ee53086ff9c5c1380a50dfded440f12c75bae4"), looks := true }, kinds := [], alts := [], laidByText := true, laidKinds := [.data], laidTests := true, laidLooks := .later }
def CmdUnlikeUptoCardSaid : Prop := Claim7.holds Tryd.pinned (.plain (OpenSpec.upto cmdUnlikeSpec)) cmdUnlikeUptoCard
end Rows
end Go.Proofs.YtkfnbjeknekcgaaDoor
