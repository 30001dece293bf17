/-
  No cell of these rows narrows 'for every input' (looked for: loops, veiled, ifaces, maps, wideKeys, modest, calm, conditions, laid).
  DERIVED. THE GIVEN ROWS OF THIS SEAT. 7 by the template 'for every input the law returns true; each argument reads behind the call as it read before'; 0 by the template 'total and deterministic' (their statements: YtklehahedjbkjaaTotals.lean).
  GIVEN WITH THE SEED: the statements are not yours to turn. If you find one false, say at which input.
  Laid BY PROGRAM, IN A SANDBOX (cutbox-rows.mjs): the forced cells as the released guide's own fill.sh prints them over the translation 863cde79e3326364… (all of the seat's roots in one cut). By AI agents, Wed Nov 11 2026. No macro, syntax, notation, axiom, sorry.
-/
import Derived.Test.YtklehahedjbkjaaChecked
import GoSem.Claim
import GoSem.ClaimJoined
import GoSem.ClaimMapViews
import Derived.JoinedTies
import Derived.KernelRfl
namespace Go.Proofs.Ytklehahedjbkjaa
/- THE CELL 'sum', in the pinned program and in every row, IS THE sha256 OF THE DUMP (.gsa) THAT YtklehahedjbkjaaProg.lean LOADS. Nothing in Lean hashes anything: it is a label: what it is worth is what the hold of that sum in a sandbox is worth. -/
noncomputable def Try.pinned : Pinned := { name := "ytklehahedjbkjaa", sum := "863cde79e3326364eaf2a02bfe193ccecc6b3e9247b3521742e1be38ef6fd8b6", checked := Try.checked }
namespace Rows
def none {H : Type} : Left H := { results := [], args := [] }

/-- 'moothilllaw01.NumBytes': WHATEVER THE INPUT: true; the input reads as it did. -/
def numBytesSpec : ChangeSpec := { name := "numBytes", fn := fun _ => fun
  | [d1, d2, d3] => { results := [.lit (.bool true)], args := [d1, d2, d3] }
  | _ => none }
def numBytesRow : OpenClaim := { program := "ytklehahedjbkjaa", sum := "863cde79e3326364eaf2a02bfe193ccecc6b3e9247b3521742e1be38ef6fd8b6", func := "moothill/moothilllaw01.NumBytes", spec := "numBytes", apart := false }
def NumBytesSaid : Prop := numBytesRow.holds Try.pinned (OpenSpec.ofChange numBytesSpec)

/-- ITS FALSE NEIGHBOUR: 'it returns false'. Refute it at one input. -/
def numBytesWrong : ChangeSpec := { name := "numBytes", fn := fun _ => fun
  | [d1, d2, d3] => { results := [.lit (.bool false)], args := [d1, d2, d3] }
  | _ => none }
def NumBytesWrongFalsely : Prop := numBytesRow.holds Try.pinned (OpenSpec.ofChange numBytesWrong)

/-- 'moothilllaw01.NumShorts': WHATEVER THE INPUT: true; the input reads as it did. -/
def numShortsSpec : ChangeSpec := { name := "numShorts", fn := fun _ => fun
  | [d1, d2] => { results := [.lit (.bool true)], args := [d1, d2] }
  | _ => none }
def numShortsRow : OpenClaim := { program := "ytklehahedjbkjaa", sum := "863cde79e3326364eaf2a02bfe193ccecc6b3e9247b3521742e1be38ef6fd8b6", func := "moothill/moothilllaw01.NumShorts", spec := "numShorts", apart := false }
def NumShortsSaid : Prop := numShortsRow.holds Try.pinned (OpenSpec.ofChange numShortsSpec)

/-- ITS FALSE NEIGHBOUR: 'it returns false'. Refute it at one input. -/
def numShortsWrong : ChangeSpec := { name := "numShorts", fn := fun _ => fun
  | [d1, d2] => { results := [.lit (.bool false)], args := [d1, d2] }
  | _ => none }
def NumShortsWrongFalsely : Prop := numShortsRow.holds Try.pinned (OpenSpec.ofChange numShortsWrong)

/-- 'moothilllaw01.NumReads': WHATEVER THE INPUT: true; the input reads as it did. -/
def numReadsSpec : ChangeSpec := { name := "numReads", fn := fun _ => fun
  | [d] => { results := [.lit (.bool true)], args := [d] }
  | _ => none }
def numReadsRow : OpenClaim := { program := "ytklehahedjbkjaa", sum := "863cde79e3326364eaf2a02bfe193ccecc6b3e9247b3521742e1be38ef6fd8b6", func := "moothill/moothilllaw01.NumReads", spec := "numReads", apart := false }
def NumReadsSaid : Prop := numReadsRow.holds Try.pinned (OpenSpec.ofChange numReadsSpec)

/-- ITS FALSE NEIGHBOUR: 'it returns false'. Refute it at one input. -/
def numReadsWrong : ChangeSpec := { name := "numReads", fn := fun _ => fun
  | [d] => { results := [.lit (.bool false)], args := [d] }
  | _ => none }
def NumReadsWrongFalsely : Prop := numReadsRow.holds Try.pinned (OpenSpec.ofChange numReadsWrong)

/-- 'moothilllaw01.NumZigs': WHATEVER THE INPUT: true; the input reads as it did. -/
def numZigsSpec : ChangeSpec := { name := "numZigs", fn := fun _ => fun
  | [d1, d2] => { results := [.lit (.bool true)], args := [d1, d2] }
  | _ => none }
def numZigsRow : OpenClaim := { program := "ytklehahedjbkjaa", sum := "863cde79e3326364eaf2a02bfe193ccecc6b3e9247b3521742e1be38ef6fd8b6", func := "moothill/moothilllaw01.NumZigs", spec := "numZigs", apart := false }
def NumZigsSaid : Prop := numZigsRow.holds Try.pinned (OpenSpec.ofChange numZigsSpec)

/-- ITS FALSE NEIGHBOUR: 'it returns false'. Refute it at one input. -/
def numZigsWrong : ChangeSpec := { name := "numZigs", fn := fun _ => fun
  | [d1, d2] => { results := [.lit (.bool false)], args := [d1, d2] }
  | _ => none }
def NumZigsWrongFalsely : Prop := numZigsRow.holds Try.pinned (OpenSpec.ofChange numZigsWrong)

/-- 'moothilllaw01.NumLows': WHATEVER THE INPUT: true; the input reads as it did. -/
def numLowsSpec : ChangeSpec := { name := "numLows", fn := fun _ => fun
  | [d1, d2] => { results := [.lit (.bool true)], args := [d1, d2] }
  | _ => none }
def numLowsRow : OpenClaim := { program := "ytklehahedjbkjaa", sum := "863cde79e3326364eaf2a02bfe193ccecc6b3e9247b3521742e1be38ef6fd8b6", func := "moothill/moothilllaw01.NumLows", spec := "numLows", apart := false }
def NumLowsSaid : Prop := numLowsRow.holds Try.pinned (OpenSpec.ofChange numLowsSpec)

/-- ITS FALSE NEIGHBOUR: 'it returns false'. Refute it at one input. -/
def numLowsWrong : ChangeSpec := { name := "numLows", fn := fun _ => fun
  | [d1, d2] => { results := [.lit (.bool false)], args := [d1, d2] }
  | _ => none }
def NumLowsWrongFalsely : Prop := numLowsRow.holds Try.pinned (OpenSpec.ofChange numLowsWrong)

/-- 'moothilllaw01.NumOrder': WHATEVER THE INPUT: true; the input reads as it did. -/
def numOrderSpec : ChangeSpec := { name := "numOrder", fn := fun _ => fun
  | [d1, d2] => { results := [.lit (.bool true)], args := [d1, d2] }
  | _ => none }
def numOrderRow : OpenClaim := { program := "ytklehahedjbkjaa", sum := "863cde79e3326364eaf2a02bfe193ccecc6b3e9247b3521742e1be38ef6fd8b6", func := "moothill/moothilllaw01.NumOrder", spec := "numOrder", apart := false }
def NumOrderSaid : Prop := numOrderRow.holds Try.pinned (OpenSpec.ofChange numOrderSpec)

/-- ITS FALSE NEIGHBOUR: 'it returns false'. Refute it at one input. -/
def numOrderWrong : ChangeSpec := { name := "numOrder", fn := fun _ => fun
  | [d1, d2] => { results := [.lit (.bool false)], args := [d1, d2] }
  | _ => none }
def NumOrderWrongFalsely : Prop := numOrderRow.holds Try.pinned (OpenSpec.ofChange numOrderWrong)

/-- 'moothilllaw01.NumChains': WHATEVER THE INPUT: true; the input reads as it did. -/
def numChainsSpec : ChangeSpec := { name := "numChains", fn := fun _ => fun
  | [d] => { results := [.lit (.bool true)], args := [d] }
  | _ => none }
def numChainsRow : OpenClaim := { program := "ytklehahedjbkjaa", sum := "863cde79e3326364eaf2a02bfe193ccecc6b3e9247b3521742e1be38ef6fd8b6", func := "moothill/moothilllaw01.NumChains", spec := "numChains", apart := false }
def NumChainsSaid : Prop := numChainsRow.holds Try.pinned (OpenSpec.ofChange numChainsSpec)

/-- ITS FALSE NEIGHBOUR: 'it returns false'. Refute it at one input. -/
def numChainsWrong : ChangeSpec := { name := "numChains", fn := fun _ => fun
  | [d] => { results := [.lit (.bool false)], args := [d] }
  | _ => none }
def NumChainsWrongFalsely : Prop := numChainsRow.holds Try.pinned (OpenSpec.ofChange numChainsWrong)

/- THE SECOND FORM. 'bulk': how many values and letters a reading holds, each counted each time it is reached (what is shared counts as often as it is met; a slice's spare places count too). A statement '..UptoSaid' is the law's where the arguments, and the package variables that the reading takes, are together of bulk at most 1048576: NARROWER than '..Said'. Prove '..Said' where nothing that the law and all that it calls make is longer than what came in: it says more and counts as full. Else prove '..UptoSaid'. A law counts once. -/
mutual
def uptoBulk {H : Type} : DataW H → Nat
  | .lit (.string bytes) => bytes.length + 1
  | .lit _ => 1
  | .nil => 1
  | .ptr d => uptoBulk d + 1
  | .slice elems spare => uptoBulkAll elems + uptoBulkAll spare + 1
  | .agg parts => uptoBulkAll parts + 1
  | .iface _ d => uptoBulk d + 1
  | .map entries => uptoBulkEntries entries + 1
  | .held _ => 1
def uptoBulkAll {H : Type} : List (DataW H) → Nat
  | [] => 0
  | d :: r => uptoBulk d + uptoBulkAll r
def uptoBulkEntries {H : Type} : List (Lit × DataW H) → Nat
  | [] => 0
  | x :: r => uptoBulkEntry x + uptoBulkEntries r
def uptoBulkEntry {H : Type} : Lit × DataW H → Nat
  | (.string bytes, d) => bytes.length + uptoBulk d + 1
  | (_, d) => uptoBulk d + 1
 end
def uptoSmall : (H : Type) → List (DataW H) → Bool := fun _ ds => decide (uptoBulkAll ds ≤ 1048576)
def OpenSpec.upto (s : _root_.Go.ChangeSpec) : _root_.Go.OpenSpec := { _root_.Go.OpenSpec.ofChange s with cond := some uptoSmall }

/-- 'moothilllaw01.NumBytes', WHERE WHAT IT READS IS OF BULK AT MOST 1048576: true; the input reads as it did. -/
def numBytesUptoRow : OpenClaim := { program := "ytklehahedjbkjaa", sum := "863cde79e3326364eaf2a02bfe193ccecc6b3e9247b3521742e1be38ef6fd8b6", func := "moothill/moothilllaw01.NumBytes", spec := "numBytes", apart := false, narrowed := true }
def NumBytesUptoSaid : Prop := numBytesUptoRow.holds Try.pinned (OpenSpec.upto numBytesSpec)

/-- 'moothilllaw01.NumShorts', WHERE WHAT IT READS IS OF BULK AT MOST 1048576: true; the input reads as it did. -/
def numShortsUptoRow : OpenClaim := { program := "ytklehahedjbkjaa", sum := "863cde79e3326364eaf2a02bfe193ccecc6b3e9247b3521742e1be38ef6fd8b6", func := "moothill/moothilllaw01.NumShorts", spec := "numShorts", apart := false, narrowed := true }
def NumShortsUptoSaid : Prop := numShortsUptoRow.holds Try.pinned (OpenSpec.upto numShortsSpec)

/-- 'moothilllaw01.NumReads', WHERE WHAT IT READS IS OF BULK AT MOST 1048576: true; the input reads as it did. -/
def numReadsUptoRow : OpenClaim := { program := "ytklehahedjbkjaa", sum := "863cde79e3326364eaf2a02bfe193ccecc6b3e9247b3521742e1be38ef6fd8b6", func := "moothill/moothilllaw01.NumReads", spec := "numReads", apart := false, narrowed := true }
def NumReadsUptoSaid : Prop := numReadsUptoRow.holds Try.pinned (OpenSpec.upto numReadsSpec)

/-- 'moothilllaw01.NumZigs', WHERE WHAT IT READS IS OF BULK AT MOST 1048576: true; the input reads as it did. -/
def numZigsUptoRow : OpenClaim := { program := "ytklehahedjbkjaa", sum := "863cde79e3326364eaf2a02bfe193ccecc6b3e9247b3521742e1be38ef6fd8b6", func := "moothill/moothilllaw01.NumZigs", spec := "numZigs", apart := false, narrowed := true }
def NumZigsUptoSaid : Prop := numZigsUptoRow.holds Try.pinned (OpenSpec.upto numZigsSpec)

/-- 'moothilllaw01.NumLows', WHERE WHAT IT READS IS OF BULK AT MOST 1048576: true; the input reads as it did. -/
def numLowsUptoRow : OpenClaim := { program := "ytklehahedjbkjaa", sum := "863cde79e3326364eaf2a02bfe193ccecc6b3e9247b3521742e1be38ef6fd8b6", func := "moothill/moothilllaw01.NumLows", spec := "numLows", apart := false, narrowed := true }
def NumLowsUptoSaid : Prop := numLowsUptoRow.holds Try.pinned (OpenSpec.upto numLowsSpec)

/-- 'moothilllaw01.NumOrder', WHERE WHAT IT READS IS OF BULK AT MOST 1048576: true; the input reads as it did. -/
def numOrderUptoRow : OpenClaim := { program := "ytklehahedjbkjaa", sum := "863cde79e3326364eaf2a02bfe193ccecc6b3e9247b3521742e1be38ef6fd8b6", func := "moothill/moothilllaw01.NumOrder", spec := "numOrder", apart := false, narrowed := true }
def NumOrderUptoSaid : Prop := numOrderUptoRow.holds Try.pinned (OpenSpec.upto numOrderSpec)

/-- 'moothilllaw01.NumChains', WHERE WHAT IT READS IS OF BULK AT MOST 1048576: true; the input reads as it did. -/
def numChainsUptoRow : OpenClaim := { program := "ytklehahedjbkjaa", sum := "863cde79e3326364eaf2a02bfe193ccecc6b3e9247b3521742e1be38ef6fd8b6", func := "moothill/moothilllaw01.NumChains", spec := "numChains", apart := false, narrowed := true }
def NumChainsUptoSaid : Prop := numChainsUptoRow.holds Try.pinned (OpenSpec.upto numChainsSpec)

end Rows
end Go.Proofs.Ytklehahedjbkjaa
