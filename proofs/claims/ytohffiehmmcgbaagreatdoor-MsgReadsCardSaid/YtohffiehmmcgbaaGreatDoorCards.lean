/-
  DERIVED. GIVEN WITH THE SEED: THE CARDS: each row of YtohffiehmmcgbaaGreatDoorRows.lean that lists a variable, with what it lists TIED to the program's text (the seventh form; the later family's looks); each row that meets fmt, with fmt's text TOLD by the authors' own Lean function (tested against real Go, not proved from fmt's source: count such statements apart). THE CARD IS WHAT COUNTS. Prove the row's statement (the work); the ties are given (YtohffiehmmcgbaaGreatDoorTie.lean); close each card by the builder's one call (the guide's Derived/Test/ToyasCard.lean, 'card_holds'). Laid BY PROGRAM, IN A SANDBOX (cutbox-door.mjs). By AI agents, Wed Nov 11 2026. No macro, syntax, notation, axiom, sorry.
-/
import Derived.Test.YtohffiehmmcgbaaGreatDoorRows
import GoSem.ClaimSeven
namespace Go.Proofs.YtohffiehmmcgbaaGreatDoor
namespace Rows

/-- THE TIED CARD OF 'moothilllaw10.InstParses'. -/
def instParsesCard : Claim7 := { stood := { row := instParsesRow, standIns := [], harness := (true, "5de52e5134b91491f7707e83cd8a325a78bac273c68d3ac1dcc0f001f0887fe5"), looks := true }, kinds := [], alts := [], laidByText := true, laidKinds := [.data], laidTests := true, laidLooks := .later }
def InstParsesCardSaid : Prop := Claim7.holds Tryz.pinned (.plain (OpenSpec.ofChange instParsesSpec)) instParsesCard

/-- THE TIED CARD OF 'moothilllaw10.InstTexts'. -/
def instTextsCard : Claim7 := { stood := { row := instTextsRow, standIns := [], harness := (true, "5de52e5134b91491f7707e83cd8a325a78bac273c68d3ac1dcc0f001f0887fe5"), looks := true }, kinds := [], alts := [], laidByText := true, laidKinds := [.data, .data, .data, .data, .sentinel, .sentinel, .data, .data, .data, .pinned], laidTests := true, laidLooks := .later }
def InstTextsCardSaid : Prop := Claim7.holds Tryz.pinned (.plain (OpenSpec.ofChange instTextsSpec)) instTextsCard

/-- THE TIED CARD OF 'moothilllaw10.InstReads'. -/
def instReadsCard : Claim7 := { stood := { row := instReadsRow, standIns := [], harness := (true, "5de52e5134b91491f7707e83cd8a325a78bac273c68d3ac1dcc0f001f0887fe5"), looks := true }, kinds := [], alts := [], laidByText := true, laidKinds := [.data, .data, .data, .data, .sentinel, .sentinel, .data, .data, .data, .pinned], laidTests := true, laidLooks := .later }
def InstReadsCardSaid : Prop := Claim7.holds Tryz.pinned (.plain (OpenSpec.ofChange instReadsSpec)) instReadsCard

/-- THE TIED CARD OF 'moothilllaw11.MsgFrames'. -/
def msgFramesCard : Claim7 := { stood := { row := msgFramesRow, standIns := [], harness := (true, "5de52e5134b91491f7707e83cd8a325a78bac273c68d3ac1dcc0f001f0887fe5"), looks := true }, kinds := [], alts := [], laidByText := true, laidKinds := [.data], laidTests := true, laidLooks := .later }
def MsgFramesCardSaid : Prop := Claim7.holds Tryz.pinned (.plain (OpenSpec.ofChange msgFramesSpec)) msgFramesCard

/-- THE TIED CARD OF 'moothilllaw11.MsgTurns'. -/
def msgTurnsCard : Claim7 := { stood := { row := msgTurnsRow, standIns := [], harness := (true, "5de52e5134b91491f7707e83cd8a325a78bac273c68d3ac1dcc0f001f0887fe5"), looks := true }, kinds := [], alts := [], laidByText := true, laidKinds := [.data], laidTests := true, laidLooks := .later }
def MsgTurnsCardSaid : Prop := Claim7.holds Tryz.pinned (.plain (OpenSpec.ofChange msgTurnsSpec)) msgTurnsCard

/-- THE TIED CARD OF 'moothilllaw11.MsgAsks'. -/
def msgAsksCard : Claim7 := { stood := { row := msgAsksRow, standIns := [], harness := (true, "5de52e5134b91491f7707e83cd8a325a78bac273c68d3ac1dcc0f001f0887fe5"), looks := true }, kinds := [], alts := [], laidByText := true, laidKinds := [.data], laidTests := true, laidLooks := .later }
def MsgAsksCardSaid : Prop := Claim7.holds Tryz.pinned (.plain (OpenSpec.ofChange msgAsksSpec)) msgAsksCard

/-- THE TIED CARD OF 'moothilllaw11.MsgTexts'. -/
def msgTextsCard : Claim7 := { stood := { row := msgTextsRow, standIns := [], harness := (true, "5de52e5134b91491f7707e83cd8a325a78bac273c68d3ac1dcc0f001f0887fe5"), looks := true }, kinds := [], alts := [], laidByText := true, laidKinds := [.data, .data, .data, .data, .sentinel, .sentinel, .data, .data, .data, .data, .pinned], laidTests := true, laidLooks := .later }
def MsgTextsCardSaid : Prop := Claim7.holds Tryz.pinned (.plain (OpenSpec.ofChange msgTextsSpec)) msgTextsCard

/-- THE TIED CARD OF 'moothilllaw11.MsgReads'. -/
def msgReadsCard : Claim7 := { stood := { row := msgReadsRow, standIns := [], harness := (true, "5de52e5134b91491f7707e83cd8a325a78bac273c68d3ac1dcc0f001f0887fe5"), looks := true }, kinds := [], alts := [], laidByText := true, laidKinds := [.data, .data, .data, .data, .sentinel, .sentinel, .data, .data, .data, .data, .pinned], laidTests := true, laidLooks := .later }
def MsgReadsCardSaid : Prop := Claim7.holds Tryz.pinned (.plain (OpenSpec.ofChange msgReadsSpec)) msgReadsCard

/-- THE SECOND FORM's CARD OF 'moothilllaw10.InstParses'. -/
def instParsesUptoCard : Claim7 := { stood := { row := instParsesUptoRow, standIns := [], harness := (true, "5de52e5134b91491f7707e83cd8a325a78bac273c68d3ac1dcc0f001f0887fe5"), looks := true }, kinds := [], alts := [], laidByText := true, laidKinds := [.data], laidTests := true, laidLooks := .later }
def InstParsesUptoCardSaid : Prop := Claim7.holds Tryz.pinned (.plain (OpenSpec.upto instParsesSpec)) instParsesUptoCard

/-- THE SECOND FORM's CARD OF 'moothilllaw10.InstTexts'. -/
def instTextsUptoCard : Claim7 := { stood := { row := instTextsUptoRow, standIns := [], harness := (true, "5de52e5134b91491f7707e83cd8a325a78bac273c68d3ac1dcc0f001f0887fe5"), looks := true }, kinds := [], alts := [], laidByText := true, laidKinds := [.data, .data, .data, .data, .sentinel, .sentinel, .data, .data, .data, .pinned], laidTests := true, laidLooks := .later }
def InstTextsUptoCardSaid : Prop := Claim7.holds Tryz.pinned (.plain (OpenSpec.upto instTextsSpec)) instTextsUptoCard

/-- THE SECOND FORM's CARD OF 'moothilllaw10.InstReads'. -/
def instReadsUptoCard : Claim7 := { stood := { row := instReadsUptoRow, standIns := [], harness := (true, "5de52e5134b91491f7707e83cd8a325a78bac273c68d3ac1dcc0f001f0887fe5"), looks := true }, kinds := [], alts := [], laidByText := true, laidKinds := [.data, .data, .data, .data, .sentinel, .sentinel, .data, .data, .data, .pinned], laidTests := true, laidLooks := .later }
def InstReadsUptoCardSaid : Prop := Claim7.holds Tryz.pinned (.plain (OpenSpec.upto instReadsSpec)) instReadsUptoCard

/-- THE SECOND FORM's CARD OF 'moothilllaw11.MsgFrames'. -/
def msgFramesUptoCard : Claim7 := { stood := { row := msgFramesUptoRow, standIns := [], harness := (true, "5de52e5134b91491f7707e83cd8a325a78bac273c68d3ac1dcc0f001f0887fe5"), looks := true }, kinds := [], alts := [], laidByText := true, laidKinds := [.data], laidTests := true, laidLooks := .later }
def MsgFramesUptoCardSaid : Prop := Claim7.holds Tryz.pinned (.plain (OpenSpec.upto msgFramesSpec)) msgFramesUptoCard

/-- THE SECOND FORM's CARD OF 'moothilllaw11.MsgTurns'. -/
def msgTurnsUptoCard : Claim7 := { stood := { row := msgTurnsUptoRow, standIns := [], harness := (true, "5de52e5134b91491f7707e83cd8a325a78bac273c68d3ac1dcc0f001f0887fe5"), looks := true }, kinds := [], alts := [], laidByText := true, laidKinds := [.data], laidTests := true, laidLooks := .later }
def MsgTurnsUptoCardSaid : Prop := Claim7.holds Tryz.pinned (.plain (OpenSpec.upto msgTurnsSpec)) msgTurnsUptoCard

/-- THE SECOND FORM's CARD OF 'moothilllaw11.MsgAsks'. -/
def msgAsksUptoCard : Claim7 := { stood := { row := msgAsksUptoRow, standIns := [], harness := (true, "5de52e5134b91491f7707e83cd8a325a78bac273c68d3ac1dcc0f001f0887fe5"), looks := true }, kinds := [], alts := [], laidByText := true, laidKinds := [.data], laidTests := true, laidLooks := .later }
def MsgAsksUptoCardSaid : Prop := Claim7.holds Tryz.pinned (.plain (OpenSpec.upto msgAsksSpec)) msgAsksUptoCard

/-- THE SECOND FORM's CARD OF 'moothilllaw11.MsgTexts'. -/
def msgTextsUptoCard : Claim7 := { stood := { row := msgTextsUptoRow, standIns := [], harness := (true, "5de52e5134b91491f7707e83cd8a325a78bac273c68d3ac1dcc0f001f0887fe5"), looks := true }, kinds := [], alts := [], laidByText := true, laidKinds := [.data, .data, .data, .data, .sentinel, .sentinel, .data, .data, .data, .data, .pinned], laidTests := true, laidLooks := .later }
def MsgTextsUptoCardSaid : Prop := Claim7.holds Tryz.pinned (.plain (OpenSpec.upto msgTextsSpec)) msgTextsUptoCard

/-- THE SECOND FORM's CARD OF 'moothilllaw11.MsgReads'. -/
def msgReadsUptoCard : Claim7 := { stood := { row := msgReadsUptoRow, standIns := [], harness := (true, "5de52e5134b91491f7707e83cd8a325a78bac273c68d3ac1dcc0f001f0887fe5"), looks := true }, kinds := [], alts := [], laidByText := true, laidKinds := [.data, .data, .data, .data, .sentinel, .sentinel, .data, .data, .data, .data, .pinned], laidTests := true, laidLooks := .later }
def MsgReadsUptoCardSaid : Prop := Claim7.holds Tryz.pinned (.plain (OpenSpec.upto msgReadsSpec)) msgReadsUptoCard
end Rows
end Go.Proofs.YtohffiehmmcgbaaGreatDoor
