/-
  NARROWER THAN 'FOR EVERY INPUT', by the rows' own cells (each row's printed sentence says how): InstFollows: laid · InstBytes: laid.
  DERIVED. THE GIVEN ROWS OF THIS SEAT. 2 by the template 'for every input the law returns true; each argument reads behind the call as it read before'; 0 by the template 'total and deterministic' (their statements: YtapmchkikafpmaaDoorTotals.lean).
  GIVEN WITH THE SEED: the statements are not yours to turn. If you find one false, say at which input.
  Laid BY PROGRAM, IN A SANDBOX (cutbox-rows.mjs): the forced cells as the released guide's own fill.sh prints them over the translation e976682b91ecbba4… (all of the seat's roots in one cut). By AI agents, Wed Nov 11 2026. No macro, syntax, notation, axiom, sorry.
-/
import Derived.Test.YtapmchkikafpmaaDoorChecked
import GoSem.Claim
import GoSem.ClaimJoined
import GoSem.ClaimMapViews
import Derived.JoinedTies
import Derived.KernelRfl
namespace Go.Proofs.YtapmchkikafpmaaDoor
/- THE CELL 'sum', in the pinned program and in every row, IS THE sha256 OF THE DUMP (.gsa) THAT YtapmchkikafpmaaDoorProg.lean LOADS. Nothing in Lean hashes anything: it is a label: what it is worth is what the hold of that sum in a sandbox is worth. -/
noncomputable def Tryd.pinned : Pinned := { name := "ytapmchkikafpmaadoor", sum := "e976682b91ecbba45e5ec69d783033b2bdecc2baf97c6fddd8828dc89479e143", checked := Tryd.checked }
namespace Rows
def none {H : Type} : Left H := { results := [], args := [] }

/- WHAT THE LISTED PACKAGE-LEVEL VARIABLES READ AS WHEN THE CALL BEGINS. Each datum BY PROGRAM (the guide's laid-datum.mjs) off the statement by which the dump's own 'gosem.cut.vars' lays the variable. In a bare row this is a premise. The card (YtapmchkikafpmaaDoorCards.lean) ties it to the program's text. -/
def laid_moothill_cmd_parts {H : Type} : DataW H := .agg [.lit (.int .u8 0), .lit (.int .u8 51), .lit (.int .u8 3), .lit (.int .u8 35), .lit (.int .u8 15), .lit (.int .u8 15), .lit (.int .u8 7), .lit (.int .u8 23), .lit (.int .u8 33)]

/-- 'moothilllaw10.InstFollows': WHATEVER THE INPUT: true; the input reads as it did. -/
def instFollowsSpec : ChangeSpec := { name := "instFollows", fn := fun _ => fun
  | [d1, d2, d3] => { results := [.lit (.bool true)], args := [d1, d2, d3] }
  | _ => none }
def instFollowsRow : OpenClaim := { program := "ytapmchkikafpmaadoor", sum := "e976682b91ecbba45e5ec69d783033b2bdecc2baf97c6fddd8828dc89479e143", func := "moothill/moothilllaw10.InstFollows", spec := "instFollows", inPlace := ["internal/bytealg.IndexByteString", "internal/bytealg.IndexString"], unfollowed := true, recurses := true, named := ["moothill/cmd.parts", "internal/bytealg.MaxLen"], apart := false, laid := [("moothill/cmd.parts", laid_moothill_cmd_parts)] }
def InstFollowsSaid : Prop := instFollowsRow.holds Tryd.pinned (OpenSpec.ofChange instFollowsSpec)

/-- ITS FALSE NEIGHBOUR: 'it returns false'. Refute it at one input. -/
def instFollowsWrong : ChangeSpec := { name := "instFollows", fn := fun _ => fun
  | [d1, d2, d3] => { results := [.lit (.bool false)], args := [d1, d2, d3] }
  | _ => none }
def InstFollowsWrongFalsely : Prop := instFollowsRow.holds Tryd.pinned (OpenSpec.ofChange instFollowsWrong)

/-- 'moothilllaw10.InstBytes': WHATEVER THE INPUT: true; the input reads as it did. -/
def instBytesSpec : ChangeSpec := { name := "instBytes", fn := fun _ => fun
  | [d1, d2] => { results := [.lit (.bool true)], args := [d1, d2] }
  | _ => none }
def instBytesRow : OpenClaim := { program := "ytapmchkikafpmaadoor", sum := "e976682b91ecbba45e5ec69d783033b2bdecc2baf97c6fddd8828dc89479e143", func := "moothill/moothilllaw10.InstBytes", spec := "instBytes", inPlace := ["internal/bytealg.IndexByteString", "internal/bytealg.IndexString"], unfollowed := true, recurses := true, named := ["moothill/cmd.parts", "internal/bytealg.MaxLen"], apart := false, laid := [("moothill/cmd.parts", laid_moothill_cmd_parts)] }
def InstBytesSaid : Prop := instBytesRow.holds Tryd.pinned (OpenSpec.ofChange instBytesSpec)

/-- ITS FALSE NEIGHBOUR: 'it returns false'. Refute it at one input. -/
def instBytesWrong : ChangeSpec := { name := "instBytes", fn := fun _ => fun
  | [d1, d2] => { results := [.lit (.bool false)], args := [d1, d2] }
  | _ => none }
def InstBytesWrongFalsely : Prop := instBytesRow.holds Tryd.pinned (OpenSpec.ofChange instBytesWrong)

/- THE SECOND FORM. 'bulk': how many values and letters a reading holds, each counted each time it is reached (what is shared counts as often as it is met; a slice's spare places count too). A statement '..UptoSaid' is the law's where the arguments, and the package variables that the reading takes, are together of bulk at most 1048576: NARROWER than '..Said'. Prove '..Said' where nothing that the law and all that it calls make is longer than what came in: it says more and counts as full. Else prove '..UptoSaid'. A law counts once. -/
mutual
def uptoBulk {H : Type} : DataW H → Nat
  | .lit (.string bytes) => bytes.length + 1
  | .lit _ => 1
  | .nil => 1
  | .ptr d => uptoBulk d + 1
  | .slice elems spare => uptoBulkAll elems + uptoBulkAll spare + 1
  | .agg parts => uptoBulkAll parts + 1
  | .iface _ d => uptoBulk d + 1
  | .map entries => uptoBulkEntries entries + 1
  | .held _ => 1
def uptoBulkAll {H : Type} : List (DataW H) → Nat
  | [] => 0
  | d :: r => uptoBulk d + uptoBulkAll r
def uptoBulkEntries {H : Type} : List (Lit × DataW H) → Nat
  | [] => 0
  | x :: r => uptoBulkEntry x + uptoBulkEntries r
def uptoBulkEntry {H : Type} : Lit × DataW H → Nat
  | (.string bytes, d) => bytes.length + uptoBulk d + 1
  | (_, d) => uptoBulk d + 1
 end
def uptoSmall : (H : Type) → List (DataW H) → Bool := fun _ ds => decide (uptoBulkAll ds ≤ 1048576)
def OpenSpec.upto (s : _root_.Go.ChangeSpec) : _root_.Go.OpenSpec := { _root_.Go.OpenSpec.ofChange s with cond := some uptoSmall }

/-- 'moothilllaw10.InstFollows', WHERE WHAT IT READS IS OF BULK AT MOST 1048576: true; the input reads as it did. -/
def instFollowsUptoRow : OpenClaim := { program := "ytapmchkikafpmaadoor", sum := "e976682b91ecbba45e5ec69d783033b2bdecc2baf97c6fddd8828dc89479e143", func := "moothill/moothilllaw10.InstFollows", spec := "instFollows", inPlace := ["internal/bytealg.IndexByteString", "internal/bytealg.IndexString"], unfollowed := true, recurses := true, named := ["moothill/cmd.parts", "internal/bytealg.MaxLen"], apart := false, laid := [("moothill/cmd.parts", laid_moothill_cmd_parts)], narrowed := true }
def InstFollowsUptoSaid : Prop := instFollowsUptoRow.holds Tryd.pinned (OpenSpec.upto instFollowsSpec)

/-- 'moothilllaw10.InstBytes', WHERE WHAT IT READS IS OF BULK AT MOST 1048576: true; the input reads as it did. -/
def instBytesUptoRow : OpenClaim := { program := "ytapmchkikafpmaadoor", sum := "e976682b91ecbba45e5ec69d783033b2bdecc2baf97c6fddd8828dc89479e143", func := "moothill/moothilllaw10.InstBytes", spec := "instBytes", inPlace := ["internal/bytealg.IndexByteString", "internal/bytealg.IndexString"], unfollowed := true, recurses := true, named := ["moothill/cmd.parts", "internal/bytealg.MaxLen"], apart := false, laid := [("moothill/cmd.parts", laid_moothill_cmd_parts)], narrowed := true }
def InstBytesUptoSaid : Prop := instBytesUptoRow.holds Tryd.pinned (OpenSpec.upto instBytesSpec)

end Rows
end Go.Proofs.YtapmchkikafpmaaDoor
