/-
  No cell of these rows narrows 'for every input' (looked for: loops, veiled, ifaces, maps, wideKeys, modest, calm, conditions, laid).
  DERIVED. THE GIVEN ROWS OF THIS SEAT. 3 by the template 'for every input the law returns true; each argument reads behind the call as it read before'; 0 by the template 'total and deterministic' (their statements: YtkkjjhljlcabaaaTotals.lean).
  GIVEN WITH THE SEED: the statements are not yours to turn. If you find one false, say at which input.
  Laid BY PROGRAM, IN A SANDBOX (cutbox-rows.mjs): the forced cells as the released guide's own fill.sh prints them over the translation aa95d02ee99a8140… (all of the seat's roots in one cut). By AI agents, Wed Nov 11 2026. No macro, syntax, notation, axiom, sorry.
-/
import Derived.Test.YtkkjjhljlcabaaaChecked
import GoSem.Claim
import GoSem.ClaimJoined
import GoSem.ClaimMapViews
import Derived.JoinedTies
import Derived.KernelRfl
namespace Go.Proofs.Ytkkjjhljlcabaaa
/- THE CELL 'sum', in the pinned program and in every row, IS THE sha256 OF THE DUMP (.gsa) THAT YtkkjjhljlcabaaaProg.lean LOADS. Nothing in Lean hashes anything: it is a label: what it is worth is what the hold of that sum in a sandbox is worth. -/
noncomputable def Try.pinned : Pinned := { name := "ytkkjjhljlcabaaa", sum := "aa95d02ee99a8140f06b0ae3380dd634c8df35728ce22b0689045c0666502d4a", checked := Try.checked }
namespace Rows
def none {H : Type} : Left H := { results := [], args := [] }

/-- 'moothilllaw05.CrewSets': WHATEVER THE INPUT: true; the input reads as it did. -/
def crewSetsSpec : ChangeSpec := { name := "crewSets", fn := fun _ => fun
  | [d1, d2, d3] => { results := [.lit (.bool true)], args := [d1, d2, d3] }
  | _ => none }
def crewSetsRow : OpenClaim := { program := "ytkkjjhljlcabaaa", sum := "aa95d02ee99a8140f06b0ae3380dd634c8df35728ce22b0689045c0666502d4a", func := "moothill/moothilllaw05.CrewSets", spec := "crewSets", unfollowed := true, recurses := true, apart := false }
def CrewSetsSaid : Prop := crewSetsRow.holds Try.pinned (OpenSpec.ofChange crewSetsSpec)

/-- ITS FALSE NEIGHBOUR: 'it returns false'. Refute it at one input. -/
def crewSetsWrong : ChangeSpec := { name := "crewSets", fn := fun _ => fun
  | [d1, d2, d3] => { results := [.lit (.bool false)], args := [d1, d2, d3] }
  | _ => none }
def CrewSetsWrongFalsely : Prop := crewSetsRow.holds Try.pinned (OpenSpec.ofChange crewSetsWrong)

/-- 'moothilllaw05.CrewOf': WHATEVER THE INPUT: true; the input reads as it did. -/
def crewOfSpec : ChangeSpec := { name := "crewOf", fn := fun _ => fun
  | [d1, d2] => { results := [.lit (.bool true)], args := [d1, d2] }
  | _ => none }
def crewOfRow : OpenClaim := { program := "ytkkjjhljlcabaaa", sum := "aa95d02ee99a8140f06b0ae3380dd634c8df35728ce22b0689045c0666502d4a", func := "moothill/moothilllaw05.CrewOf", spec := "crewOf", apart := false }
def CrewOfSaid : Prop := crewOfRow.holds Try.pinned (OpenSpec.ofChange crewOfSpec)

/-- ITS FALSE NEIGHBOUR: 'it returns false'. Refute it at one input. -/
def crewOfWrong : ChangeSpec := { name := "crewOf", fn := fun _ => fun
  | [d1, d2] => { results := [.lit (.bool false)], args := [d1, d2] }
  | _ => none }
def CrewOfWrongFalsely : Prop := crewOfRow.holds Try.pinned (OpenSpec.ofChange crewOfWrong)

/-- 'moothilllaw05.CrewEnough': WHATEVER THE INPUT: true; the input reads as it did. -/
def crewEnoughSpec : ChangeSpec := { name := "crewEnough", fn := fun _ => fun
  | [d1, d2, d3, d4] => { results := [.lit (.bool true)], args := [d1, d2, d3, d4] }
  | _ => none }
def crewEnoughRow : OpenClaim := { program := "ytkkjjhljlcabaaa", sum := "aa95d02ee99a8140f06b0ae3380dd634c8df35728ce22b0689045c0666502d4a", func := "moothill/moothilllaw05.CrewEnough", spec := "crewEnough", apart := false }
def CrewEnoughSaid : Prop := crewEnoughRow.holds Try.pinned (OpenSpec.ofChange crewEnoughSpec)

/-- ITS FALSE NEIGHBOUR: 'it returns false'. Refute it at one input. -/
def crewEnoughWrong : ChangeSpec := { name := "crewEnough", fn := fun _ => fun
  | [d1, d2, d3, d4] => { results := [.lit (.bool false)], args := [d1, d2, d3, d4] }
  | _ => none }
def CrewEnoughWrongFalsely : Prop := crewEnoughRow.holds Try.pinned (OpenSpec.ofChange crewEnoughWrong)

/- THE SECOND FORM. 'bulk': how many values and letters a reading holds, each counted each time it is reached (what is shared counts as often as it is met; a slice's spare places count too). A statement '..UptoSaid' is the law's where the arguments, and the package variables that the reading takes, are together of bulk at most 1048576: NARROWER than '..Said'. Prove '..Said' where nothing that the law and all that it calls make is longer than what came in: it says more and counts as full. Else prove '..UptoSaid'. A law counts once. -/
mutual
def uptoBulk {H : Type} : DataW H → Nat
  | .lit (.string bytes) => bytes.length + 1
  | .lit _ => 1
  | .nil => 1
  | .ptr d => uptoBulk d + 1
  | .slice elems spare => uptoBulkAll elems + uptoBulkAll spare + 1
  | .agg parts => uptoBulkAll parts + 1
  | .iface _ d => uptoBulk d + 1
  | .map entries => uptoBulkEntries entries + 1
  | .held _ => 1
def uptoBulkAll {H : Type} : List (DataW H) → Nat
  | [] => 0
  | d :: r => uptoBulk d + uptoBulkAll r
def uptoBulkEntries {H : Type} : List (Lit × DataW H) → Nat
  | [] => 0
  | x :: r => uptoBulkEntry x + uptoBulkEntries r
def uptoBulkEntry {H : Type} : Lit × DataW H → Nat
  | (.string bytes, d) => bytes.length + uptoBulk d + 1
  | (_, d) => uptoBulk d + 1
 end
def uptoSmall : (H : Type) → List (DataW H) → Bool := fun _ ds => decide (uptoBulkAll ds ≤ 1048576)
def OpenSpec.upto (s : _root_.Go.ChangeSpec) : _root_.Go.OpenSpec := { _root_.Go.OpenSpec.ofChange s with cond := some uptoSmall }

/-- 'moothilllaw05.CrewSets', WHERE WHAT IT READS IS OF BULK AT MOST 1048576: true; the input reads as it did. -/
def crewSetsUptoRow : OpenClaim := { program := "ytkkjjhljlcabaaa", sum := "aa95d02ee99a8140f06b0ae3380dd634c8df35728ce22b0689045c0666502d4a", func := "moothill/moothilllaw05.CrewSets", spec := "crewSets", unfollowed := true, recurses := true, apart := false, narrowed := true }
def CrewSetsUptoSaid : Prop := crewSetsUptoRow.holds Try.pinned (OpenSpec.upto crewSetsSpec)

/-- 'moothilllaw05.CrewOf', WHERE WHAT IT READS IS OF BULK AT MOST 1048576: true; the input reads as it did. -/
def crewOfUptoRow : OpenClaim := { program := "ytkkjjhljlcabaaa", sum := "aa95d02ee99a8140f06b0ae3380dd634c8df35728ce22b0689045c0666502d4a", func := "moothill/moothilllaw05.CrewOf", spec := "crewOf", apart := false, narrowed := true }
def CrewOfUptoSaid : Prop := crewOfUptoRow.holds Try.pinned (OpenSpec.upto crewOfSpec)

/-- 'moothilllaw05.CrewEnough', WHERE WHAT IT READS IS OF BULK AT MOST 1048576: true; the input reads as it did. -/
def crewEnoughUptoRow : OpenClaim := { program := "ytkkjjhljlcabaaa", sum := "aa95d02ee99a8140f06b0ae3380dd634c8df35728ce22b0689045c0666502d4a", func := "moothill/moothilllaw05.CrewEnough", spec := "crewEnough", apart := false, narrowed := true }
def CrewEnoughUptoSaid : Prop := crewEnoughUptoRow.holds Try.pinned (OpenSpec.upto crewEnoughSpec)

end Rows
end Go.Proofs.Ytkkjjhljlcabaaa
