/-
  DERIVED. GIVEN WITH THE SEED: THE CARDS: each row of YtnjdckoljmgcjaaGreatDoorRows.lean that lists a variable, with what it lists TIED to the program's text (the seventh form; the later family's looks); each row that meets fmt, with fmt's text TOLD by the authors' own Lean function (tested against real Go, not proved from fmt's source: count such statements apart). THE CARD IS WHAT COUNTS. Prove the row's statement (the work); the ties are given (YtnjdckoljmgcjaaGreatDoorTie.lean); close each card by the builder's one call (the guide's Derived/Test/ToyasCard.lean, 'card_holds'). Laid BY PROGRAM, IN A SANDBOX (cutbox-door.mjs). By AI agents, Wed Nov 11 2026. No macro, syntax, notation, axiom, sorry.
-/
import Derived.Test.YtnjdckoljmgcjaaGreatDoorRows
import GoSem.ClaimSeven
namespace Go.Proofs.YtnjdckoljmgcjaaGreatDoor
namespace Rows

/-- THE TIED CARD OF 'moothilllaw15.VaultOpens'. -/
def vaultOpensCard : Claim7 := { stood := { row := vaultOpensRow, standIns := [], harness := (true, "41b6684f3e892d29717b848a19564e1b870ed5119b1591f5c3ee55791dc867f3"), looks := false }, kinds := [], alts := [], laidByText := true, laidKinds := [.data], laidTests := true, laidLooks := .later }
def VaultOpensCardSaid : Prop := Claim7.holds Tryz.pinned (.plain (OpenSpec.ofChange vaultOpensSpec)) vaultOpensCard

/-- THE SECOND FORM's CARD OF 'moothilllaw15.VaultOpens'. -/
def vaultOpensUptoCard : Claim7 := { stood := { row := vaultOpensUptoRow, standIns := [], harness := (true, "41b6684f3e892d29717b848a19564e1b870ed5119b1591f5c3ee55791dc867f3"), looks := false }, kinds := [], alts := [], laidByText := true, laidKinds := [.data], laidTests := true, laidLooks := .later }
def VaultOpensUptoCardSaid : Prop := Claim7.holds Tryz.pinned (.plain (OpenSpec.upto vaultOpensSpec)) vaultOpensUptoCard
end Rows
end Go.Proofs.YtnjdckoljmgcjaaGreatDoor
