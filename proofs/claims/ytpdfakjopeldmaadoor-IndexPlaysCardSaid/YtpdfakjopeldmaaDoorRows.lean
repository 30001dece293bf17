/-
  NARROWER THAN 'FOR EVERY INPUT', by the rows' own cells (each row's printed sentence says how): IndexPlays: laid · IndexCovers: laid · IndexShuffles: laid.
  DERIVED. THE GIVEN ROWS OF THIS SEAT. 3 by the template 'for every input the law returns true; each argument reads behind the call as it read before'; 0 by the template 'total and deterministic' (their statements: YtpdfakjopeldmaaDoorTotals.lean).
  GIVEN WITH THE SEED: the statements are not yours to turn. If you find one false, say at which input.
  Laid BY PROGRAM, IN A SANDBOX (cutbox-rows.mjs): the forced cells as the released guide's own fill.sh prints them over the translation d35d4426bd2b732c… (all of the seat's roots in one cut). By AI agents, Wed Nov 11 2026. No macro, syntax, notation, axiom, sorry.
-/
import Derived.Test.YtpdfakjopeldmaaDoorChecked
import GoSem.Claim
import GoSem.ClaimJoined
import GoSem.ClaimMapViews
import Derived.JoinedTies
import Derived.KernelRfl
namespace Go.Proofs.YtpdfakjopeldmaaDoor
/- THE CELL 'sum', in the pinned program and in every row, IS THE sha256 OF THE DUMP (.gsa) THAT YtpdfakjopeldmaaDoorProg.lean LOADS. Nothing in Lean hashes anything: it is a label: what it is worth is what the hold of that sum in a sandbox is worth. -/
noncomputable def Tryd.pinned : Pinned := { name := "ytpdfakjopeldmaadoor", sum := "d35d4426bd2b732c359ffb69f7f6277332da920673b94de2531a0df89c1d80a3", checked := Tryd.checked }
namespace Rows
def none {H : Type} : Left H := { results := [], args := [] }

/- WHAT THE LISTED PACKAGE-LEVEL VARIABLES READ AS WHEN THE CALL BEGINS. Each datum BY PROGRAM (the guide's laid-datum.mjs) off the statement by which the dump's own 'gosem.cut.vars' lays the variable. In a bare row this is a premise. The card (YtpdfakjopeldmaaDoorCards.lean) ties it to the program's text. -/
def laid_moothill_cmd_parts {H : Type} : DataW H := .agg [.lit (.int .u8 0), .lit (.int .u8 51), .lit (.int .u8 3), .lit (.int .u8 35), .lit (.int .u8 15), .lit (.int .u8 15), .lit (.int .u8 7), .lit (.int .u8 23), .lit (.int .u8 33)]

/-- 'moothilllaw12.IndexPlays': WHATEVER THE INPUT: true; the input reads as it did. -/
def indexPlaysSpec : ChangeSpec := { name := "indexPlays", fn := fun _ => fun
  | [d1, d2, d3] => { results := [.lit (.bool true)], args := [d1, d2, d3] }
  | _ => none }
def indexPlaysRow : OpenClaim := { program := "ytpdfakjopeldmaadoor", sum := "d35d4426bd2b732c359ffb69f7f6277332da920673b94de2531a0df89c1d80a3", func := "moothill/moothilllaw12.IndexPlays", spec := "indexPlays", inPlace := ["internal/bytealg.IndexByteString", "internal/bytealg.IndexString", "internal/bytealg.abigen_runtime_cmpstring"], unfollowed := true, recurses := true, named := ["moothill/cmd.parts", "internal/bytealg.MaxLen"], plainKeys := false, apart := false, laid := [("moothill/cmd.parts", laid_moothill_cmd_parts)] }
def IndexPlaysSaid : Prop := indexPlaysRow.holds Tryd.pinned (OpenSpec.ofChange indexPlaysSpec)

/-- ITS FALSE NEIGHBOUR: 'it returns false'. Refute it at one input. -/
def indexPlaysWrong : ChangeSpec := { name := "indexPlays", fn := fun _ => fun
  | [d1, d2, d3] => { results := [.lit (.bool false)], args := [d1, d2, d3] }
  | _ => none }
def IndexPlaysWrongFalsely : Prop := indexPlaysRow.holds Tryd.pinned (OpenSpec.ofChange indexPlaysWrong)

/-- 'moothilllaw12.IndexCovers': WHATEVER THE INPUT: true; the input reads as it did. -/
def indexCoversSpec : ChangeSpec := { name := "indexCovers", fn := fun _ => fun
  | [d1, d2, d3, d4, d5, d6, d7] => { results := [.lit (.bool true)], args := [d1, d2, d3, d4, d5, d6, d7] }
  | _ => none }
def indexCoversRow : OpenClaim := { program := "ytpdfakjopeldmaadoor", sum := "d35d4426bd2b732c359ffb69f7f6277332da920673b94de2531a0df89c1d80a3", func := "moothill/moothilllaw12.IndexCovers", spec := "indexCovers", inPlace := ["internal/bytealg.IndexByteString", "internal/bytealg.IndexString"], unfollowed := true, recurses := true, named := ["moothill/cmd.parts", "internal/bytealg.MaxLen"], plainKeys := false, apart := false, laid := [("moothill/cmd.parts", laid_moothill_cmd_parts)] }
def IndexCoversSaid : Prop := indexCoversRow.holds Tryd.pinned (OpenSpec.ofChange indexCoversSpec)

/-- ITS FALSE NEIGHBOUR: 'it returns false'. Refute it at one input. -/
def indexCoversWrong : ChangeSpec := { name := "indexCovers", fn := fun _ => fun
  | [d1, d2, d3, d4, d5, d6, d7] => { results := [.lit (.bool false)], args := [d1, d2, d3, d4, d5, d6, d7] }
  | _ => none }
def IndexCoversWrongFalsely : Prop := indexCoversRow.holds Tryd.pinned (OpenSpec.ofChange indexCoversWrong)

/-- 'moothilllaw12.IndexShuffles': WHATEVER THE INPUT: true; the input reads as it did. -/
def indexShufflesSpec : ChangeSpec := { name := "indexShuffles", fn := fun _ => fun
  | [d1, d2, d3, d4] => { results := [.lit (.bool true)], args := [d1, d2, d3, d4] }
  | _ => none }
def indexShufflesRow : OpenClaim := { program := "ytpdfakjopeldmaadoor", sum := "d35d4426bd2b732c359ffb69f7f6277332da920673b94de2531a0df89c1d80a3", func := "moothill/moothilllaw12.IndexShuffles", spec := "indexShuffles", inPlace := ["internal/bytealg.IndexByteString", "internal/bytealg.IndexString"], unfollowed := true, recurses := true, named := ["moothill/cmd.parts", "internal/bytealg.MaxLen"], plainKeys := false, apart := false, laid := [("moothill/cmd.parts", laid_moothill_cmd_parts)] }
def IndexShufflesSaid : Prop := indexShufflesRow.holds Tryd.pinned (OpenSpec.ofChange indexShufflesSpec)

/-- ITS FALSE NEIGHBOUR: 'it returns false'. Refute it at one input. -/
def indexShufflesWrong : ChangeSpec := { name := "indexShuffles", fn := fun _ => fun
  | [d1, d2, d3, d4] => { results := [.lit (.bool false)], args := [d1, d2, d3, d4] }
  | _ => none }
def IndexShufflesWrongFalsely : Prop := indexShufflesRow.holds Tryd.pinned (OpenSpec.ofChange indexShufflesWrong)

/- THE SECOND FORM. 'bulk': how many values and letters a reading holds, each counted each time it is reached (what is shared counts as often as it is met; a slice's spare places count too). A statement '..UptoSaid' is the law's where the arguments, and the package variables that the reading takes, are together of bulk at most 1048576: NARROWER than '..Said'. Prove '..Said' where nothing that the law and all that it calls make is longer than what came in: it says more and counts as full. Else prove '..UptoSaid'. A law counts once. -/
mutual
def uptoBulk {H : Type} : DataW H → Nat
  | .lit (.string bytes) => bytes.length + 1
  | .lit _ => 1
  | .nil => 1
  | .ptr d => uptoBulk d + 1
  | .slice elems spare => uptoBulkAll elems + uptoBulkAll spare + 1
  | .agg parts => uptoBulkAll parts + 1
  | .iface _ d => uptoBulk d + 1
  | .map entries => uptoBulkEntries entries + 1
  | .held _ => 1
def uptoBulkAll {H : Type} : List (DataW H) → Nat
  | [] => 0
  | d :: r => uptoBulk d + uptoBulkAll r
def uptoBulkEntries {H : Type} : List (Lit × DataW H) → Nat
  | [] => 0
  | x :: r => uptoBulkEntry x + uptoBulkEntries r
def uptoBulkEntry {H : Type} : Lit × DataW H → Nat
  | (.string bytes, d) => bytes.length + uptoBulk d + 1
  | (_, d) => uptoBulk d + 1
 end
def uptoSmall : (H : Type) → List (DataW H) → Bool := fun _ ds => decide (uptoBulkAll ds ≤ 1048576)
def OpenSpec.upto (s : _root_.Go.ChangeSpec) : _root_.Go.OpenSpec := { _root_.Go.OpenSpec.ofChange s with cond := some uptoSmall }

/-- 'moothilllaw12.IndexPlays', WHERE WHAT IT READS IS OF BULK AT MOST 1048576: true; the input reads as it did. -/
def indexPlaysUptoRow : OpenClaim := { program := "ytpdfakjopeldmaadoor", sum := "d35d4426bd2b732c359ffb69f7f6277332da920673b94de2531a0df89c1d80a3", func := "moothill/moothilllaw12.IndexPlays", spec := "indexPlays", inPlace := ["internal/bytealg.IndexByteString", "internal/bytealg.IndexString", "internal/bytealg.abigen_runtime_cmpstring"], unfollowed := true, recurses := true, named := ["moothill/cmd.parts", "internal/bytealg.MaxLen"], plainKeys := false, apart := false, laid := [("moothill/cmd.parts", laid_moothill_cmd_parts)], narrowed := true }
def IndexPlaysUptoSaid : Prop := indexPlaysUptoRow.holds Tryd.pinned (OpenSpec.upto indexPlaysSpec)

/-- 'moothilllaw12.IndexCovers', WHERE WHAT IT READS IS OF BULK AT MOST 1048576: true; the input reads as it did. -/
def indexCoversUptoRow : OpenClaim := { program := "ytpdfakjopeldmaadoor", sum := "d35d4426bd2b732c359ffb69f7f6277332da920673b94de2531a0df89c1d80a3", func := "moothill/moothilllaw12.IndexCovers", spec := "indexCovers", inPlace := ["internal/bytealg.IndexByteString", "internal/bytealg.IndexString"], unfollowed := true, recurses := true, named := ["moothill/cmd.parts", "internal/bytealg.MaxLen"], plainKeys := false, apart := false, laid := [("moothill/cmd.parts", laid_moothill_cmd_parts)], narrowed := true }
def IndexCoversUptoSaid : Prop := indexCoversUptoRow.holds Tryd.pinned (OpenSpec.upto indexCoversSpec)

/-- 'moothilllaw12.IndexShuffles', WHERE WHAT IT READS IS OF BULK AT MOST 1048576: true; the input reads as it did. -/
def indexShufflesUptoRow : OpenClaim := { program := "ytpdfakjopeldmaadoor", sum := "d35d4426bd2b732c359ffb69f7f6277332da920673b94de2531a0df89c1d80a3", func := "moothill/moothilllaw12.IndexShuffles", spec := "indexShuffles", inPlace := ["internal/bytealg.IndexByteString", "internal/bytealg.IndexString"], unfollowed := true, recurses := true, named := ["moothill/cmd.parts", "internal/bytealg.MaxLen"], plainKeys := false, apart := false, laid := [("moothill/cmd.parts", laid_moothill_cmd_parts)], narrowed := true }
def IndexShufflesUptoSaid : Prop := indexShufflesUptoRow.holds Tryd.pinned (OpenSpec.upto indexShufflesSpec)

end Rows
end Go.Proofs.YtpdfakjopeldmaaDoor
