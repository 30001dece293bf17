/-
  No cell of these rows narrows 'for every input' (looked for: loops, veiled, ifaces, maps, wideKeys, modest, calm, conditions, laid).
  DERIVED. THE GIVEN ROWS OF THIS SEAT. 3 by the template 'for every input the law returns true; each argument reads behind the call as it read before'; 0 by the template 'total and deterministic' (their statements: YtmihfalekbgdhaaTotals.lean).
  GIVEN WITH THE SEED: the statements are not yours to turn. If you find one false, say at which input.
  Laid BY PROGRAM, IN A SANDBOX (cutbox-rows.mjs): the forced cells as the released guide's own fill.sh prints them over the translation 492311583bc2fde3… (all of the seat's roots in one cut). By AI agents, Wed Nov 11 2026. No macro, syntax, notation, axiom, sorry.
-/
import Derived.Test.YtmihfalekbgdhaaChecked
import GoSem.Claim
import GoSem.ClaimJoined
import GoSem.ClaimMapViews
import Derived.JoinedTies
import Derived.KernelRfl
namespace Go.Proofs.Ytmihfalekbgdhaa
/- THE CELL 'sum', in the pinned program and in every row, IS THE sha256 OF THE DUMP (.gsa) THAT YtmihfalekbgdhaaProg.lean LOADS. Nothing in Lean hashes anything: it is a label: what it is worth is what the hold of that sum in a sandbox is worth. -/
noncomputable def Try.pinned : Pinned := { name := "ytmihfalekbgdhaa", sum := "492311583bc2fde378e5d0032a40ecfc54a91d2c0f1a5ec7871d10d3d72399f7", checked := Try.checked }
namespace Rows
def none {H : Type} : Left H := { results := [], args := [] }

/-- 'moothilllaw06.MarkWords': WHATEVER THE INPUT: true; the input reads as it did. -/
def markWordsSpec : ChangeSpec := { name := "markWords", fn := fun _ => fun
  | [d1, d2, d3] => { results := [.lit (.bool true)], args := [d1, d2, d3] }
  | _ => none }
def markWordsRow : OpenClaim := { program := "ytmihfalekbgdhaa", sum := "492311583bc2fde378e5d0032a40ecfc54a91d2c0f1a5ec7871d10d3d72399f7", func := "moothill/moothilllaw06.MarkWords", spec := "markWords", apart := false }
def MarkWordsSaid : Prop := markWordsRow.holds Try.pinned (OpenSpec.ofChange markWordsSpec)

/-- ITS FALSE NEIGHBOUR: 'it returns false'. Refute it at one input. -/
def markWordsWrong : ChangeSpec := { name := "markWords", fn := fun _ => fun
  | [d1, d2, d3] => { results := [.lit (.bool false)], args := [d1, d2, d3] }
  | _ => none }
def MarkWordsWrongFalsely : Prop := markWordsRow.holds Try.pinned (OpenSpec.ofChange markWordsWrong)

/-- 'moothilllaw06.MarkBallots': WHATEVER THE INPUT: true; the input reads as it did. -/
def markBallotsSpec : ChangeSpec := { name := "markBallots", fn := fun _ => fun
  | [d1, d2, d3] => { results := [.lit (.bool true)], args := [d1, d2, d3] }
  | _ => none }
def markBallotsRow : OpenClaim := { program := "ytmihfalekbgdhaa", sum := "492311583bc2fde378e5d0032a40ecfc54a91d2c0f1a5ec7871d10d3d72399f7", func := "moothill/moothilllaw06.MarkBallots", spec := "markBallots", apart := false }
def MarkBallotsSaid : Prop := markBallotsRow.holds Try.pinned (OpenSpec.ofChange markBallotsSpec)

/-- ITS FALSE NEIGHBOUR: 'it returns false'. Refute it at one input. -/
def markBallotsWrong : ChangeSpec := { name := "markBallots", fn := fun _ => fun
  | [d1, d2, d3] => { results := [.lit (.bool false)], args := [d1, d2, d3] }
  | _ => none }
def MarkBallotsWrongFalsely : Prop := markBallotsRow.holds Try.pinned (OpenSpec.ofChange markBallotsWrong)

/-- 'moothilllaw06.MarkTakes': WHATEVER THE INPUT: true; the input reads as it did. -/
def markTakesSpec : ChangeSpec := { name := "markTakes", fn := fun _ => fun
  | [d1, d2, d3] => { results := [.lit (.bool true)], args := [d1, d2, d3] }
  | _ => none }
def markTakesRow : OpenClaim := { program := "ytmihfalekbgdhaa", sum := "492311583bc2fde378e5d0032a40ecfc54a91d2c0f1a5ec7871d10d3d72399f7", func := "moothill/moothilllaw06.MarkTakes", spec := "markTakes", apart := false }
def MarkTakesSaid : Prop := markTakesRow.holds Try.pinned (OpenSpec.ofChange markTakesSpec)

/-- ITS FALSE NEIGHBOUR: 'it returns false'. Refute it at one input. -/
def markTakesWrong : ChangeSpec := { name := "markTakes", fn := fun _ => fun
  | [d1, d2, d3] => { results := [.lit (.bool false)], args := [d1, d2, d3] }
  | _ => none }
def MarkTakesWrongFalsely : Prop := markTakesRow.holds Try.pinned (OpenSpec.ofChange markTakesWrong)

/- THE SECOND FORM. 'bulk': how many values and letters a reading holds, each counted each time it is reached (what is shared counts as often as it is met; a slice's spare places count too). A statement '..UptoSaid' is the law's where the arguments, and the package variables that the reading takes, are together of bulk at most 1048576: NARROWER than '..Said'. Prove '..Said' where nothing that the law and all that it calls make is longer than what came in: it says more and counts as full. Else prove '..UptoSaid'. A law counts once. -/
mutual
def uptoBulk {H : Type} : DataW H → Nat
  | .lit (.string bytes) => bytes.length + 1
  | .lit _ => 1
  | .nil => 1
  | .ptr d => uptoBulk d + 1
  | .slice elems spare => uptoBulkAll elems + uptoBulkAll spare + 1
  | .agg parts => uptoBulkAll parts + 1
  | .iface _ d => uptoBulk d + 1
  | .map entries => uptoBulkEntries entries + 1
  | .held _ => 1
def uptoBulkAll {H : Type} : List (DataW H) → Nat
  | [] => 0
  | d :: r => uptoBulk d + uptoBulkAll r
def uptoBulkEntries {H : Type} : List (Lit × DataW H) → Nat
  | [] => 0
  | x :: r => uptoBulkEntry x + uptoBulkEntries r
def uptoBulkEntry {H : Type} : Lit × DataW H → Nat
  | (.string bytes, d) => bytes.length + uptoBulk d + 1
  | (_, d) => uptoBulk d + 1
 end
def uptoSmall : (H : Type) → List (DataW H) → Bool := fun _ ds => decide (uptoBulkAll ds ≤ 1048576)
def OpenSpec.upto (s : _root_.Go.ChangeSpec) : _root_.Go.OpenSpec := { _root_.Go.OpenSpec.ofChange s with cond := some uptoSmall }

/-- 'moothilllaw06.MarkWords', WHERE WHAT IT READS IS OF BULK AT MOST 1048576: true; the input reads as it did. -/
def markWordsUptoRow : OpenClaim := { program := "ytmihfalekbgdhaa", sum := "492311583bc2fde378e5d0032a40ecfc54a91d2c0f1a5ec7871d10d3d72399f7", func := "moothill/moothilllaw06.MarkWords", spec := "markWords", apart := false, narrowed := true }
def MarkWordsUptoSaid : Prop := markWordsUptoRow.holds Try.pinned (OpenSpec.upto markWordsSpec)

/-- 'moothilllaw06.MarkBallots', WHERE WHAT IT READS IS OF BULK AT MOST 1048576: true; the input reads as it did. -/
def markBallotsUptoRow : OpenClaim := { program := "ytmihfalekbgdhaa", sum := "492311583bc2fde378e5d0032a40ecfc54a91d2c0f1a5ec7871d10d3d72399f7", func := "moothill/moothilllaw06.MarkBallots", spec := "markBallots", apart := false, narrowed := true }
def MarkBallotsUptoSaid : Prop := markBallotsUptoRow.holds Try.pinned (OpenSpec.upto markBallotsSpec)

/-- 'moothilllaw06.MarkTakes', WHERE WHAT IT READS IS OF BULK AT MOST 1048576: true; the input reads as it did. -/
def markTakesUptoRow : OpenClaim := { program := "ytmihfalekbgdhaa", sum := "492311583bc2fde378e5d0032a40ecfc54a91d2c0f1a5ec7871d10d3d72399f7", func := "moothill/moothilllaw06.MarkTakes", spec := "markTakes", apart := false, narrowed := true }
def MarkTakesUptoSaid : Prop := markTakesUptoRow.holds Try.pinned (OpenSpec.upto markTakesSpec)

end Rows
end Go.Proofs.Ytmihfalekbgdhaa
