/-
  No cell of these rows narrows 'for every input' (looked for: loops, veiled, ifaces, maps, wideKeys, modest, calm, conditions, laid).
  DERIVED. THE GIVEN ROWS OF THIS SEAT. 5 by the template 'for every input the law returns true; each argument reads behind the call as it read before'; 0 by the template 'total and deterministic' (their statements: YtfpmmajgnijboaaTotals.lean).
  GIVEN WITH THE SEED: the statements are not yours to turn. If you find one false, say at which input.
  Laid BY PROGRAM, IN A SANDBOX (cutbox-rows.mjs): the forced cells as the released guide's own fill.sh prints them over the translation 994ac595f8fa6bd0… (all of the seat's roots in one cut). By AI agents, Wed Nov 11 2026. No macro, syntax, notation, axiom, sorry.
-/
import Derived.Test.YtfpmmajgnijboaaChecked
import GoSem.Claim
import GoSem.ClaimJoined
import GoSem.ClaimMapViews
import Derived.JoinedTies
import Derived.KernelRfl
namespace Go.Proofs.Ytfpmmajgnijboaa
/- THE CELL 'sum', in the pinned program and in every row, IS THE sha256 OF THE DUMP (.gsa) THAT YtfpmmajgnijboaaProg.lean LOADS. Nothing in Lean hashes anything: it is a label: what it is worth is what the hold of that sum in a sandbox is worth. -/
noncomputable def Try.pinned : Pinned := { name := "ytfpmmajgnijboaa", sum := "994ac595f8fa6bd0650e8b41aafbfbfd66ea053e4dc7db9a23dbfb6d38e2c498", checked := Try.checked }
namespace Rows
def none {H : Type} : Left H := { results := [], args := [] }

/-- 'moothilllaw09.AttrMerge': WHATEVER THE INPUT: true; the input reads as it did. -/
def attrMergeSpec : ChangeSpec := { name := "attrMerge", fn := fun _ => fun
  | [d1, d2, d3] => { results := [.lit (.bool true)], args := [d1, d2, d3] }
  | _ => none }
def attrMergeRow : OpenClaim := { program := "ytfpmmajgnijboaa", sum := "994ac595f8fa6bd0650e8b41aafbfbfd66ea053e4dc7db9a23dbfb6d38e2c498", func := "moothill/moothilllaw09.AttrMerge", spec := "attrMerge", apart := false }
def AttrMergeSaid : Prop := attrMergeRow.holds Try.pinned (OpenSpec.ofChange attrMergeSpec)

/-- ITS FALSE NEIGHBOUR: 'it returns false'. Refute it at one input. -/
def attrMergeWrong : ChangeSpec := { name := "attrMerge", fn := fun _ => fun
  | [d1, d2, d3] => { results := [.lit (.bool false)], args := [d1, d2, d3] }
  | _ => none }
def AttrMergeWrongFalsely : Prop := attrMergeRow.holds Try.pinned (OpenSpec.ofChange attrMergeWrong)

/-- 'moothilllaw09.AttrCovers': WHATEVER THE INPUT: true; the input reads as it did. -/
def attrCoversSpec : ChangeSpec := { name := "attrCovers", fn := fun _ => fun
  | [d1, d2] => { results := [.lit (.bool true)], args := [d1, d2] }
  | _ => none }
def attrCoversRow : OpenClaim := { program := "ytfpmmajgnijboaa", sum := "994ac595f8fa6bd0650e8b41aafbfbfd66ea053e4dc7db9a23dbfb6d38e2c498", func := "moothill/moothilllaw09.AttrCovers", spec := "attrCovers", apart := false }
def AttrCoversSaid : Prop := attrCoversRow.holds Try.pinned (OpenSpec.ofChange attrCoversSpec)

/-- ITS FALSE NEIGHBOUR: 'it returns false'. Refute it at one input. -/
def attrCoversWrong : ChangeSpec := { name := "attrCovers", fn := fun _ => fun
  | [d1, d2] => { results := [.lit (.bool false)], args := [d1, d2] }
  | _ => none }
def AttrCoversWrongFalsely : Prop := attrCoversRow.holds Try.pinned (OpenSpec.ofChange attrCoversWrong)

/-- 'moothilllaw09.AttrPast': WHATEVER THE INPUT: true; the input reads as it did. -/
def attrPastSpec : ChangeSpec := { name := "attrPast", fn := fun _ => fun
  | [d1, d2] => { results := [.lit (.bool true)], args := [d1, d2] }
  | _ => none }
def attrPastRow : OpenClaim := { program := "ytfpmmajgnijboaa", sum := "994ac595f8fa6bd0650e8b41aafbfbfd66ea053e4dc7db9a23dbfb6d38e2c498", func := "moothill/moothilllaw09.AttrPast", spec := "attrPast", apart := false }
def AttrPastSaid : Prop := attrPastRow.holds Try.pinned (OpenSpec.ofChange attrPastSpec)

/-- ITS FALSE NEIGHBOUR: 'it returns false'. Refute it at one input. -/
def attrPastWrong : ChangeSpec := { name := "attrPast", fn := fun _ => fun
  | [d1, d2] => { results := [.lit (.bool false)], args := [d1, d2] }
  | _ => none }
def AttrPastWrongFalsely : Prop := attrPastRow.holds Try.pinned (OpenSpec.ofChange attrPastWrong)

/-- 'moothilllaw09.AttrTakes': WHATEVER THE INPUT: true; the input reads as it did. -/
def attrTakesSpec : ChangeSpec := { name := "attrTakes", fn := fun _ => fun
  | [d1, d2] => { results := [.lit (.bool true)], args := [d1, d2] }
  | _ => none }
def attrTakesRow : OpenClaim := { program := "ytfpmmajgnijboaa", sum := "994ac595f8fa6bd0650e8b41aafbfbfd66ea053e4dc7db9a23dbfb6d38e2c498", func := "moothill/moothilllaw09.AttrTakes", spec := "attrTakes", apart := false }
def AttrTakesSaid : Prop := attrTakesRow.holds Try.pinned (OpenSpec.ofChange attrTakesSpec)

/-- ITS FALSE NEIGHBOUR: 'it returns false'. Refute it at one input. -/
def attrTakesWrong : ChangeSpec := { name := "attrTakes", fn := fun _ => fun
  | [d1, d2] => { results := [.lit (.bool false)], args := [d1, d2] }
  | _ => none }
def AttrTakesWrongFalsely : Prop := attrTakesRow.holds Try.pinned (OpenSpec.ofChange attrTakesWrong)

/-- 'moothilllaw09.AttrOrder': WHATEVER THE INPUT: true; the input reads as it did. -/
def attrOrderSpec : ChangeSpec := { name := "attrOrder", fn := fun _ => fun
  | [d1, d2, d3, d4] => { results := [.lit (.bool true)], args := [d1, d2, d3, d4] }
  | _ => none }
def attrOrderRow : OpenClaim := { program := "ytfpmmajgnijboaa", sum := "994ac595f8fa6bd0650e8b41aafbfbfd66ea053e4dc7db9a23dbfb6d38e2c498", func := "moothill/moothilllaw09.AttrOrder", spec := "attrOrder", apart := false }
def AttrOrderSaid : Prop := attrOrderRow.holds Try.pinned (OpenSpec.ofChange attrOrderSpec)

/-- ITS FALSE NEIGHBOUR: 'it returns false'. Refute it at one input. -/
def attrOrderWrong : ChangeSpec := { name := "attrOrder", fn := fun _ => fun
  | [d1, d2, d3, d4] => { results := [.lit (.bool false)], args := [d1, d2, d3, d4] }
  | _ => none }
def AttrOrderWrongFalsely : Prop := attrOrderRow.holds Try.pinned (OpenSpec.ofChange attrOrderWrong)

/- THE SECOND FORM. 'bulk': how many values and letters a reading holds, each counted each time it is reached (what is shared counts as often as it is met; a slice's spare places count too). A statement '..UptoSaid' is the law's where the arguments, and the package variables that the reading takes, are together of bulk at most 1048576: NARROWER than '..Said'. Prove '..Said' where nothing that the law and all that it calls make is longer than what came in: it says more and counts as full. Else prove '..UptoSaid'. A law counts once. -/
mutual
def uptoBulk {H : Type} : DataW H → Nat
  | .lit (.string bytes) => bytes.length + 1
  | .lit _ => 1
  | .nil => 1
  | .ptr d => uptoBulk d + 1
  | .slice elems spare => uptoBulkAll elems + uptoBulkAll spare + 1
  | .agg parts => uptoBulkAll parts + 1
  | .iface _ d => uptoBulk d + 1
  | .map entries => uptoBulkEntries entries + 1
  | .held _ => 1
def uptoBulkAll {H : Type} : List (DataW H) → Nat
  | [] => 0
  | d :: r => uptoBulk d + uptoBulkAll r
def uptoBulkEntries {H : Type} : List (Lit × DataW H) → Nat
  | [] => 0
  | x :: r => uptoBulkEntry x + uptoBulkEntries r
def uptoBulkEntry {H : Type} : Lit × DataW H → Nat
  | (.string bytes, d) => bytes.length + uptoBulk d + 1
  | (_, d) => uptoBulk d + 1
 end
def uptoSmall : (H : Type) → List (DataW H) → Bool := fun _ ds => decide (uptoBulkAll ds ≤ 1048576)
def OpenSpec.upto (s : _root_.Go.ChangeSpec) : _root_.Go.OpenSpec := { _root_.Go.OpenSpec.ofChange s with cond := some uptoSmall }

/-- 'moothilllaw09.AttrMerge', WHERE WHAT IT READS IS OF BULK AT MOST 1048576: true; the input reads as it did. -/
def attrMergeUptoRow : OpenClaim := { program := "ytfpmmajgnijboaa", sum := "994ac595f8fa6bd0650e8b41aafbfbfd66ea053e4dc7db9a23dbfb6d38e2c498", func := "moothill/moothilllaw09.AttrMerge", spec := "attrMerge", apart := false, narrowed := true }
def AttrMergeUptoSaid : Prop := attrMergeUptoRow.holds Try.pinned (OpenSpec.upto attrMergeSpec)

/-- 'moothilllaw09.AttrCovers', WHERE WHAT IT READS IS OF BULK AT MOST 1048576: true; the input reads as it did. -/
def attrCoversUptoRow : OpenClaim := { program := "ytfpmmajgnijboaa", sum := "994ac595f8fa6bd0650e8b41aafbfbfd66ea053e4dc7db9a23dbfb6d38e2c498", func := "moothill/moothilllaw09.AttrCovers", spec := "attrCovers", apart := false, narrowed := true }
def AttrCoversUptoSaid : Prop := attrCoversUptoRow.holds Try.pinned (OpenSpec.upto attrCoversSpec)

/-- 'moothilllaw09.AttrPast', WHERE WHAT IT READS IS OF BULK AT MOST 1048576: true; the input reads as it did. -/
def attrPastUptoRow : OpenClaim := { program := "ytfpmmajgnijboaa", sum := "994ac595f8fa6bd0650e8b41aafbfbfd66ea053e4dc7db9a23dbfb6d38e2c498", func := "moothill/moothilllaw09.AttrPast", spec := "attrPast", apart := false, narrowed := true }
def AttrPastUptoSaid : Prop := attrPastUptoRow.holds Try.pinned (OpenSpec.upto attrPastSpec)

/-- 'moothilllaw09.AttrTakes', WHERE WHAT IT READS IS OF BULK AT MOST 1048576: true; the input reads as it did. -/
def attrTakesUptoRow : OpenClaim := { program := "ytfpmmajgnijboaa", sum := "994ac595f8fa6bd0650e8b41aafbfbfd66ea053e4dc7db9a23dbfb6d38e2c498", func := "moothill/moothilllaw09.AttrTakes", spec := "attrTakes", apart := false, narrowed := true }
def AttrTakesUptoSaid : Prop := attrTakesUptoRow.holds Try.pinned (OpenSpec.upto attrTakesSpec)

/-- 'moothilllaw09.AttrOrder', WHERE WHAT IT READS IS OF BULK AT MOST 1048576: true; the input reads as it did. -/
def attrOrderUptoRow : OpenClaim := { program := "ytfpmmajgnijboaa", sum := "994ac595f8fa6bd0650e8b41aafbfbfd66ea053e4dc7db9a23dbfb6d38e2c498", func := "moothill/moothilllaw09.AttrOrder", spec := "attrOrder", apart := false, narrowed := true }
def AttrOrderUptoSaid : Prop := attrOrderUptoRow.holds Try.pinned (OpenSpec.upto attrOrderSpec)

end Rows
end Go.Proofs.Ytfpmmajgnijboaa
