/-
  DERIVED. GIVEN WITH THE SEED: THE CARDS: each row of YtapmchkikafpmaaDoorRows.lean that lists a variable, with what it lists TIED to the program's text (the seventh form; the later family's looks); each row that meets fmt, with fmt's text TOLD by the authors' own Lean function (tested against real Go, not proved from fmt's source: count such statements apart). THE CARD IS WHAT COUNTS. Prove the row's statement (the work); the ties are given (YtapmchkikafpmaaDoorTie.lean); close each card by the builder's one call (the guide's Derived/Test/ToyasCard.lean, 'card_holds'). Laid BY PROGRAM, IN A SANDBOX (cutbox-door.mjs). By AI agents, Wed Nov 11 2026. No macro, syntax, notation, axiom, sorry.
-/
import Derived.Test.YtapmchkikafpmaaDoorRows
import GoSem.ClaimSeven
namespace Go.Proofs.YtapmchkikafpmaaDoor
namespace Rows

/-- THE TIED CARD OF 'moothilllaw10.InstFollows'. -/
def instFollowsCard : Claim7 := { stood := { row := instFollowsRow, standIns := [], harness := (true, "e5641deaff44f0f5a0e2a0583336e678f976fa1776520ffb808d68132dcc2f69"), looks := false }, kinds := [], alts := [], laidByText := true, laidKinds := [.data], laidTests := true, laidLooks := .later }
def InstFollowsCardSaid : Prop := Claim7.holds Tryd.pinned (.plain (OpenSpec.ofChange instFollowsSpec)) instFollowsCard

/-- THE TIED CARD OF 'moothilllaw10.InstBytes'. -/
def instBytesCard : Claim7 := { stood := { row := instBytesRow, standIns := [], harness := (true, "e5641deaff44f0f5a0e2a0583336e678f976fa1776520ffb808d68132dcc2f69"), looks := false }, kinds := [], alts := [], laidByText := true, laidKinds := [.data], laidTests := true, laidLooks := .later }
def InstBytesCardSaid : Prop := Claim7.holds Tryd.pinned (.plain (OpenSpec.ofChange instBytesSpec)) instBytesCard

/-- THE SECOND FORM's CARD OF 'moothilllaw10.InstFollows'. -/
def instFollowsUptoCard : Claim7 := { stood := { row := instFollowsUptoRow, standIns := [], harness := (true, "e5641deaff44f0f5a0e2a0583336e678f976fa1776520ffb808d68132dcc2f69"), looks := false }, kinds := [], alts := [], laidByText := true, laidKinds := [.data], laidTests := true, laidLooks := .later }
def InstFollowsUptoCardSaid : Prop := Claim7.holds Tryd.pinned (.plain (OpenSpec.upto instFollowsSpec)) instFollowsUptoCard

/-- THE SECOND FORM's CARD OF 'moothilllaw10.InstBytes'. -/
def instBytesUptoCard : Claim7 := { stood := { row := instBytesUptoRow, standIns := [], harness := (true, "e5641deaff44f0f5a0e2a0583336e678f976fa1776520ffb808d68132dcc2f69"), looks := false }, kinds := [], alts := [], laidByText := true, laidKinds := [.data], laidTests := true, laidLooks := .later }
def InstBytesUptoCardSaid : Prop := Claim7.holds Tryd.pinned (.plain (OpenSpec.upto instBytesSpec)) instBytesUptoCard
end Rows
end Go.Proofs.YtapmchkikafpmaaDoor
