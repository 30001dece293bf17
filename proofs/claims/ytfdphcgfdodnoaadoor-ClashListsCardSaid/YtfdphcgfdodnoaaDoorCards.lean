/-
  DERIVED. GIVEN WITH THE SEED: THE CARDS: each row of YtfdphcgfdodnoaaDoorRows.lean that lists a variable, with what it lists TIED to the program's text (the seventh form; the later family's looks); each row that meets fmt, with fmt's text TOLD by the authors' own Lean function (tested against real Go, not proved from fmt's source: count such statements apart). THE CARD IS WHAT COUNTS. Prove the row's statement (the work); the ties are given (YtfdphcgfdodnoaaDoorTie.lean); close each card by the builder's one call (the guide's Derived/Test/ToyasCard.lean, 'card_holds'). Laid BY PROGRAM, IN A SANDBOX (cutbox-door.mjs). By AI agents, Wed Nov 11 2026. No macro, syntax, notation, axiom, sorry.
-/
import Derived.Test.YtfdphcgfdodnoaaDoorRows
import GoSem.ClaimSeven
namespace Go.Proofs.YtfdphcgfdodnoaaDoor
namespace Rows

/-- THE TIED CARD OF 'moothilllaw07.CmdShows'. -/
def cmdShowsCard : Claim7 := { stood := { row := cmdShowsRow, standIns := [], harness := (true, "d009f84c9bead76cad5e14a8b2509363a61cd6b1f9fc98482000ca997de376ad"), looks := true }, kinds := [], alts := [], laidByText := true, laidKinds := [.data, .data, .data, .sentinel, .sentinel, .data, .data], laidTests := true, laidLooks := .later }
def CmdShowsCardSaid : Prop := Claim7.holds Tryd.pinned (.plain (OpenSpec.ofChange cmdShowsSpec)) cmdShowsCard

/-- THE TIED CARD OF 'moothilllaw07.CmdReads'. -/
def cmdReadsCard : Claim7 := { stood := { row := cmdReadsRow, standIns := [], harness := (true, "d009f84c9bead76cad5e14a8b2509363a61cd6b1f9fc98482000ca997de376ad"), looks := true }, kinds := [], alts := [], laidByText := true, laidKinds := [.data, .data, .data, .sentinel, .sentinel, .data, .data], laidTests := true, laidLooks := .later }
def CmdReadsCardSaid : Prop := Claim7.holds Tryd.pinned (.plain (OpenSpec.ofChange cmdReadsSpec)) cmdReadsCard

/-- THE TIED CARD OF 'moothilllaw08.ClashPairs'. -/
def clashPairsCard : Claim7 := { stood := { row := clashPairsRow, standIns := [], harness := (true, "d009f84c9bead76cad5e14a8b2509363a61cd6b1f9fc98482000ca997de376ad"), looks := true }, kinds := [], alts := [], laidByText := true, laidKinds := [.data], laidTests := true, laidLooks := .later }
def ClashPairsCardSaid : Prop := Claim7.holds Tryd.pinned (.plain (OpenSpec.ofChange clashPairsSpec)) clashPairsCard

/-- THE TIED CARD OF 'moothilllaw08.ClashKeys'. -/
def clashKeysCard : Claim7 := { stood := { row := clashKeysRow, standIns := [], harness := (true, "d009f84c9bead76cad5e14a8b2509363a61cd6b1f9fc98482000ca997de376ad"), looks := true }, kinds := [], alts := [], laidByText := true, laidKinds := [.data], laidTests := true, laidLooks := .later }
def ClashKeysCardSaid : Prop := Claim7.holds Tryd.pinned (.plain (OpenSpec.ofChange clashKeysSpec)) clashKeysCard

/-- THE TIED CARD OF 'moothilllaw08.ClashSessions'. -/
def clashSessionsCard : Claim7 := { stood := { row := clashSessionsRow, standIns := [], harness := (true, "d009f84c9bead76cad5e14a8b2509363a61cd6b1f9fc98482000ca997de376ad"), looks := true }, kinds := [], alts := [], laidByText := true, laidKinds := [.data], laidTests := true, laidLooks := .later }
def ClashSessionsCardSaid : Prop := Claim7.holds Tryd.pinned (.plain (OpenSpec.ofChange clashSessionsSpec)) clashSessionsCard

/-- THE TIED CARD OF 'moothilllaw08.ClashLists'. -/
def clashListsCard : Claim7 := { stood := { row := clashListsRow, standIns := [], harness := (true, "d009f84c9bead76cad5e14a8b2509363a61cd6b1f9fc98482000ca997de376ad"), looks := true }, kinds := [], alts := [], laidByText := true, laidKinds := [.data], laidTests := true, laidLooks := .later }
def ClashListsCardSaid : Prop := Claim7.holds Tryd.pinned (.plain (OpenSpec.ofChange clashListsSpec)) clashListsCard

/-- THE SECOND FORM's CARD OF 'moothilllaw07.CmdShows'. -/
def cmdShowsUptoCard : Claim7 := { stood := { row := cmdShowsUptoRow, standIns := [], harness := (true, "d009f84c9bead76cad5e14a8b2509363a61cd6b1f9fc98482000ca997de376ad"), looks := true }, kinds := [], alts := [], laidByText := true, laidKinds := [.data, .data, .data, .sentinel, .sentinel, .data, .data], laidTests := true, laidLooks := .later }
def CmdShowsUptoCardSaid : Prop := Claim7.holds Tryd.pinned (.plain (OpenSpec.upto cmdShowsSpec)) cmdShowsUptoCard

/-- THE SECOND FORM's CARD OF 'moothilllaw07.CmdReads'. -/
def cmdReadsUptoCard : Claim7 := { stood := { row := cmdReadsUptoRow, standIns := [], harness := (true, "d009f84c9bead76cad5e14a8b2509363a61cd6b1f9fc98482000ca997de376ad"), looks := true }, kinds := [], alts := [], laidByText := true, laidKinds := [.data, .data, .data, .sentinel, .sentinel, .data, .data], laidTests := true, laidLooks := .later }
def CmdReadsUptoCardSaid : Prop := Claim7.holds Tryd.pinned (.plain (OpenSpec.upto cmdReadsSpec)) cmdReadsUptoCard

/-- THE SECOND FORM's CARD OF 'moothilllaw08.ClashPairs'. -/
def clashPairsUptoCard : Claim7 := { stood := { row := clashPairsUptoRow, standIns := [], harness := (true, "d009f84c9bead76cad5e14a8b2509363a61cd6b1f9fc98482000ca997de376ad"), looks := true }, kinds := [], alts := [], laidByText := true, laidKinds := [.data], laidTests := true, laidLooks := .later }
def ClashPairsUptoCardSaid : Prop := Claim7.holds Tryd.pinned (.plain (OpenSpec.upto clashPairsSpec)) clashPairsUptoCard

/-- THE SECOND FORM's CARD OF 'moothilllaw08.ClashKeys'. -/
def clashKeysUptoCard : Claim7 := { stood := { row := clashKeysUptoRow, standIns := [], harness := (true, "d009f84c9bead76cad5e14a8b2509363a61cd6b1f9fc98482000ca997de376ad"), looks := true }, kinds := [], alts := [], laidByText := true, laidKinds := [.data], laidTests := true, laidLooks := .later }
def ClashKeysUptoCardSaid : Prop := Claim7.holds Tryd.pinned (.plain (OpenSpec.upto clashKeysSpec)) clashKeysUptoCard

/-- THE SECOND FORM's CARD OF 'moothilllaw08.ClashSessions'. -/
def clashSessionsUptoCard : Claim7 := { stood := { row := clashSessionsUptoRow, standIns := [], harness := (true, "d009f84c9bead76cad5e14a8b2509363a61cd6b1f9fc98482000ca997de376ad"), looks := true }, kinds := [], alts := [], laidByText := true, laidKinds := [.data], laidTests := true, laidLooks := .later }
def ClashSessionsUptoCardSaid : Prop := Claim7.holds Tryd.pinned (.plain (OpenSpec.upto clashSessionsSpec)) clashSessionsUptoCard

/-- THE SECOND FORM's CARD OF 'moothilllaw08.ClashLists'. -/
def clashListsUptoCard : Claim7 := { stood := { row := clashListsUptoRow, standIns := [], harness := (true, "d009f84c9bead76cad5e14a8b2509363a61cd6b1f9fc98482000ca997de376ad"), looks := true }, kinds := [], alts := [], laidByText := true, laidKinds := [.data], laidTests := true, laidLooks := .later }
def ClashListsUptoCardSaid : Prop := Claim7.holds Tryd.pinned (.plain (OpenSpec.upto clashListsSpec)) clashListsUptoCard
end Rows
end Go.Proofs.YtfdphcgfdodnoaaDoor
