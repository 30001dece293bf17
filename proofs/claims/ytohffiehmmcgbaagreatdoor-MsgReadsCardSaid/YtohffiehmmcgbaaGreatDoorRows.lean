/-
  NARROWER THAN 'FOR EVERY INPUT', by the rows' own cells (each row's printed sentence says how): InstParses: laid · InstTexts: laid · InstReads: laid · MsgFrames: laid · MsgTurns: laid · MsgAsks: laid · MsgTexts: laid · MsgReads: laid.
  DERIVED. THE GIVEN ROWS OF THIS SEAT. 8 by the template 'for every input the law returns true; each argument reads behind the call as it read before'; 0 by the template 'total and deterministic' (their statements: YtohffiehmmcgbaaGreatDoorTotals.lean).
  GIVEN WITH THE SEED: the statements are not yours to turn. If you find one false, say at which input.
  Laid BY PROGRAM, IN A SANDBOX (cutbox-rows.mjs): the forced cells as the released guide's own fill.sh prints them over the translation 5ac49e1ba3406d5c… (all of the seat's roots in one cut). By AI agents, Wed Nov 11 2026. No macro, syntax, notation, axiom, sorry.
-/
import Derived.Test.YtohffiehmmcgbaaGreatDoorChecked
import GoSem.PinnedTables
import GoSem.Claim
import GoSem.ClaimJoined
import GoSem.ClaimMapViews
import Derived.JoinedTies
import Derived.KernelRfl
namespace Go.Proofs.YtohffiehmmcgbaaGreatDoor
/- THE CELL 'sum', in the pinned program and in every row, IS THE sha256 OF THE DUMP (.gsa) THAT YtohffiehmmcgbaaGreatDoorProg.lean LOADS. Nothing in Lean hashes anything: it is a label: what it is worth is what the hold of that sum in a sandbox is worth. -/
noncomputable def Tryz.pinned : Pinned := { name := "ytohffiehmmcgbaagreatdoor", sum := "5ac49e1ba3406d5c7c95eedb0e1b55b3d1859d6801cbfb1c587cb0bd993a87d5", checked := Tryz.checked }
namespace Rows
def none {H : Type} : Left H := { results := [], args := [] }

/- WHAT THE LISTED PACKAGE-LEVEL VARIABLES READ AS WHEN THE CALL BEGINS. Each datum BY PROGRAM (the guide's laid-datum.mjs) off the statement by which the dump's own 'gosem.cut.vars' lays the variable. In a bare row this is a premise. The card (YtohffiehmmcgbaaGreatDoorCards.lean) ties it to the program's text. -/
def laid_moothill_cmd_parts {H : Type} : DataW H := .agg [.lit (.int .u8 0), .lit (.int .u8 51), .lit (.int .u8 3), .lit (.int .u8 35), .lit (.int .u8 15), .lit (.int .u8 15), .lit (.int .u8 7), .lit (.int .u8 23), .lit (.int .u8 33)]
def laid_math_bits_deBruijn32tab {H : Type} : DataW H := .agg [.lit (.int .u8 0), .lit (.int .u8 1), .lit (.int .u8 28), .lit (.int .u8 2), .lit (.int .u8 29), .lit (.int .u8 14), .lit (.int .u8 24), .lit (.int .u8 3), .lit (.int .u8 30), .lit (.int .u8 22), .lit (.int .u8 20), .lit (.int .u8 15), .lit (.int .u8 25), .lit (.int .u8 17), .lit (.int .u8 4), .lit (.int .u8 8), .lit (.int .u8 31), .lit (.int .u8 27), .lit (.int .u8 13), .lit (.int .u8 23), .lit (.int .u8 21), .lit (.int .u8 19), .lit (.int .u8 16), .lit (.int .u8 7), .lit (.int .u8 26), .lit (.int .u8 12), .lit (.int .u8 18), .lit (.int .u8 6), .lit (.int .u8 11), .lit (.int .u8 5), .lit (.int .u8 10), .lit (.int .u8 9)]
def laid_math_bits_deBruijn64tab {H : Type} : DataW H := .agg [.lit (.int .u8 0), .lit (.int .u8 1), .lit (.int .u8 56), .lit (.int .u8 2), .lit (.int .u8 57), .lit (.int .u8 49), .lit (.int .u8 28), .lit (.int .u8 3), .lit (.int .u8 61), .lit (.int .u8 58), .lit (.int .u8 42), .lit (.int .u8 50), .lit (.int .u8 38), .lit (.int .u8 29), .lit (.int .u8 17), .lit (.int .u8 4), .lit (.int .u8 62), .lit (.int .u8 47), .lit (.int .u8 59), .lit (.int .u8 36), .lit (.int .u8 45), .lit (.int .u8 43), .lit (.int .u8 51), .lit (.int .u8 22), .lit (.int .u8 53), .lit (.int .u8 39), .lit (.int .u8 33), .lit (.int .u8 30), .lit (.int .u8 24), .lit (.int .u8 18), .lit (.int .u8 12), .lit (.int .u8 5), .lit (.int .u8 63), .lit (.int .u8 55), .lit (.int .u8 48), .lit (.int .u8 27), .lit (.int .u8 60), .lit (.int .u8 41), .lit (.int .u8 37), .lit (.int .u8 16), .lit (.int .u8 46), .lit (.int .u8 35), .lit (.int .u8 44), .lit (.int .u8 21), .lit (.int .u8 52), .lit (.int .u8 32), .lit (.int .u8 23), .lit (.int .u8 11), .lit (.int .u8 54), .lit (.int .u8 26), .lit (.int .u8 40), .lit (.int .u8 15), .lit (.int .u8 34), .lit (.int .u8 20), .lit (.int .u8 31), .lit (.int .u8 10), .lit (.int .u8 25), .lit (.int .u8 14), .lit (.int .u8 19), .lit (.int .u8 9), .lit (.int .u8 13), .lit (.int .u8 8), .lit (.int .u8 7), .lit (.int .u8 6)]
def laid_internal_strconv_uint64pow10 {H : Type} : DataW H := .agg [.lit (.int .u64 1), .lit (.int .u64 10), .lit (.int .u64 100), .lit (.int .u64 1000), .lit (.int .u64 10000), .lit (.int .u64 100000), .lit (.int .u64 1000000), .lit (.int .u64 10000000), .lit (.int .u64 100000000), .lit (.int .u64 1000000000), .lit (.int .u64 10000000000), .lit (.int .u64 100000000000), .lit (.int .u64 1000000000000), .lit (.int .u64 10000000000000), .lit (.int .u64 100000000000000), .lit (.int .u64 1000000000000000), .lit (.int .u64 10000000000000000), .lit (.int .u64 100000000000000000), .lit (.int .u64 1000000000000000000), .lit (.int .u64 10000000000000000000)]
def laid_unicode_utf8_acceptRanges {H : Type} : DataW H := .agg [.agg [.lit (.int .u8 128), .lit (.int .u8 191)], .agg [.lit (.int .u8 160), .lit (.int .u8 191)], .agg [.lit (.int .u8 128), .lit (.int .u8 159)], .agg [.lit (.int .u8 144), .lit (.int .u8 191)], .agg [.lit (.int .u8 128), .lit (.int .u8 143)], .agg [.lit (.int .u8 0), .lit (.int .u8 0)], .agg [.lit (.int .u8 0), .lit (.int .u8 0)], .agg [.lit (.int .u8 0), .lit (.int .u8 0)], .agg [.lit (.int .u8 0), .lit (.int .u8 0)], .agg [.lit (.int .u8 0), .lit (.int .u8 0)], .agg [.lit (.int .u8 0), .lit (.int .u8 0)], .agg [.lit (.int .u8 0), .lit (.int .u8 0)], .agg [.lit (.int .u8 0), .lit (.int .u8 0)], .agg [.lit (.int .u8 0), .lit (.int .u8 0)], .agg [.lit (.int .u8 0), .lit (.int .u8 0)], .agg [.lit (.int .u8 0), .lit (.int .u8 0)]]
def laid_strconv_ErrRange {H : Type} : DataW H := .iface "*errors.errorString" (.ptr (.agg [.lit (.string [118, 97, 108, 117, 101, 32, 111, 117, 116, 32, 111, 102, 32, 114, 97, 110, 103, 101])]))
def laid_strconv_ErrSyntax {H : Type} : DataW H := .iface "*errors.errorString" (.ptr (.agg [.lit (.string [105, 110, 118, 97, 108, 105, 100, 32, 115, 121, 110, 116, 97, 120])]))
def laid_moothill_cmd_names {H : Type} : DataW H := .agg [.lit (.string [110, 111, 111, 112]), .lit (.string [111, 112, 101, 110]), .lit (.string [99, 108, 111, 115, 101]), .lit (.string [107, 101, 101, 112]), .lit (.string [97, 99, 113, 117, 105, 114, 101]), .lit (.string [116, 114, 121]), .lit (.string [114, 101, 108, 101, 97, 115, 101]), .lit (.string [99, 104, 101, 99, 107]), .lit (.string [101, 120, 112, 105, 114, 101])]
def laid_moothill_inst_names {H : Type} : DataW H := .agg [.lit (.string [110, 111, 110, 101]), .lit (.string [112, 114, 101]), .lit (.string [97, 99, 99, 101, 112, 116, 101, 100]), .lit (.string [99, 111, 109, 109, 105, 116, 116, 101, 100])]
/-- One of Go's own tables, pinned by name: the form's constant. -/
def laid_unicode_utf8_first : DataW Unit := Go.Pinned.utf8First
def laid_moothill_msg_names {H : Type} : DataW H := .agg [.lit (.string []), .lit (.string [112, 114, 101, 97, 99, 99, 101, 112, 116]), .lit (.string [112, 114, 101, 114, 101, 112, 108, 121]), .lit (.string [97, 99, 99, 101, 112, 116]), .lit (.string [97, 99, 99, 101, 112, 116, 114, 101, 112, 108, 121]), .lit (.string [99, 111, 109, 109, 105, 116]), .lit (.string [112, 114, 101, 112, 97, 114, 101]), .lit (.string [112, 114, 101, 112, 97, 114, 101, 114, 101, 112, 108, 121])]

/-- 'moothilllaw10.InstParses': WHATEVER THE INPUT: true; the input reads as it did. -/
def instParsesSpec : ChangeSpec := { name := "instParses", fn := fun _ => fun
  | [d] => { results := [.lit (.bool true)], args := [d] }
  | _ => none }
def instParsesRow : OpenClaim := { program := "ytohffiehmmcgbaagreatdoor", sum := "5ac49e1ba3406d5c7c95eedb0e1b55b3d1859d6801cbfb1c587cb0bd993a87d5", func := "moothill/moothilllaw10.InstParses", spec := "instParses", inPlace := ["internal/bytealg.IndexByteString", "internal/bytealg.IndexString"], unfollowed := true, recurses := true, named := ["moothill/cmd.parts", "internal/bytealg.MaxLen"], apart := false, laid := [("moothill/cmd.parts", laid_moothill_cmd_parts)] }
def InstParsesSaid : Prop := instParsesRow.holds Tryz.pinned (OpenSpec.ofChange instParsesSpec)

/-- ITS FALSE NEIGHBOUR: 'it returns false'. Refute it at one input. -/
def instParsesWrong : ChangeSpec := { name := "instParses", fn := fun _ => fun
  | [d] => { results := [.lit (.bool false)], args := [d] }
  | _ => none }
def InstParsesWrongFalsely : Prop := instParsesRow.holds Tryz.pinned (OpenSpec.ofChange instParsesWrong)

/-- 'moothilllaw10.InstTexts': WHATEVER THE INPUT: true; the input reads as it did. -/
def instTextsSpec : ChangeSpec := { name := "instTexts", fn := fun _ => fun
  | [d] => { results := [.lit (.bool true)], args := [d] }
  | _ => none }
def instTextsRow : OpenClaim := { program := "ytohffiehmmcgbaagreatdoor", sum := "5ac49e1ba3406d5c7c95eedb0e1b55b3d1859d6801cbfb1c587cb0bd993a87d5", func := "moothill/moothilllaw10.InstTexts", spec := "instTexts", inPlace := ["internal/bytealg.IndexByteString", "internal/bytealg.IndexString", "internal/abi.NoEscape", "internal/bytealg.MakeNoZero", "internal/bytealg.CountString"], unfollowed := true, recurses := true, named := ["moothill/cmd.parts", "internal/bytealg.MaxLen", "moothill/inst.names", "internal/strconv.uint64pow10", "math/bits.deBruijn32tab", "math/bits.deBruijn64tab", "moothill/cmd.names", "unicode/utf8.first", "unicode/utf8.acceptRanges", "strconv.ErrSyntax", "strconv.ErrRange"], apart := false, laid := [("math/bits.deBruijn32tab", laid_math_bits_deBruijn32tab), ("math/bits.deBruijn64tab", laid_math_bits_deBruijn64tab), ("internal/strconv.uint64pow10", laid_internal_strconv_uint64pow10), ("unicode/utf8.acceptRanges", laid_unicode_utf8_acceptRanges), ("strconv.ErrRange", laid_strconv_ErrRange), ("strconv.ErrSyntax", laid_strconv_ErrSyntax), ("moothill/cmd.names", laid_moothill_cmd_names), ("moothill/cmd.parts", laid_moothill_cmd_parts), ("moothill/inst.names", laid_moothill_inst_names), ("unicode/utf8.first", laid_unicode_utf8_first)] }
def InstTextsSaid : Prop := instTextsRow.holds Tryz.pinned (OpenSpec.ofChange instTextsSpec)

/-- ITS FALSE NEIGHBOUR: 'it returns false'. Refute it at one input. -/
def instTextsWrong : ChangeSpec := { name := "instTexts", fn := fun _ => fun
  | [d] => { results := [.lit (.bool false)], args := [d] }
  | _ => none }
def InstTextsWrongFalsely : Prop := instTextsRow.holds Tryz.pinned (OpenSpec.ofChange instTextsWrong)

/-- 'moothilllaw10.InstReads': WHATEVER THE INPUT: true; the input reads as it did. -/
def instReadsSpec : ChangeSpec := { name := "instReads", fn := fun _ => fun
  | [d] => { results := [.lit (.bool true)], args := [d] }
  | _ => none }
def instReadsRow : OpenClaim := { program := "ytohffiehmmcgbaagreatdoor", sum := "5ac49e1ba3406d5c7c95eedb0e1b55b3d1859d6801cbfb1c587cb0bd993a87d5", func := "moothill/moothilllaw10.InstReads", spec := "instReads", inPlace := ["internal/bytealg.IndexByteString", "internal/bytealg.IndexString", "internal/bytealg.CountString", "internal/abi.NoEscape", "internal/bytealg.MakeNoZero"], unfollowed := true, recurses := true, named := ["moothill/cmd.parts", "internal/bytealg.MaxLen", "unicode/utf8.first", "unicode/utf8.acceptRanges", "strconv.ErrSyntax", "strconv.ErrRange", "internal/strconv.uint64pow10", "math/bits.deBruijn32tab", "math/bits.deBruijn64tab", "moothill/inst.names", "moothill/cmd.names"], apart := false, laid := [("math/bits.deBruijn32tab", laid_math_bits_deBruijn32tab), ("math/bits.deBruijn64tab", laid_math_bits_deBruijn64tab), ("internal/strconv.uint64pow10", laid_internal_strconv_uint64pow10), ("unicode/utf8.acceptRanges", laid_unicode_utf8_acceptRanges), ("strconv.ErrRange", laid_strconv_ErrRange), ("strconv.ErrSyntax", laid_strconv_ErrSyntax), ("moothill/cmd.names", laid_moothill_cmd_names), ("moothill/cmd.parts", laid_moothill_cmd_parts), ("moothill/inst.names", laid_moothill_inst_names), ("unicode/utf8.first", laid_unicode_utf8_first)] }
def InstReadsSaid : Prop := instReadsRow.holds Tryz.pinned (OpenSpec.ofChange instReadsSpec)

/-- ITS FALSE NEIGHBOUR: 'it returns false'. Refute it at one input. -/
def instReadsWrong : ChangeSpec := { name := "instReads", fn := fun _ => fun
  | [d] => { results := [.lit (.bool false)], args := [d] }
  | _ => none }
def InstReadsWrongFalsely : Prop := instReadsRow.holds Tryz.pinned (OpenSpec.ofChange instReadsWrong)

/-- 'moothilllaw11.MsgFrames': WHATEVER THE INPUT: true; the input reads as it did. -/
def msgFramesSpec : ChangeSpec := { name := "msgFrames", fn := fun _ => fun
  | [d] => { results := [.lit (.bool true)], args := [d] }
  | _ => none }
def msgFramesRow : OpenClaim := { program := "ytohffiehmmcgbaagreatdoor", sum := "5ac49e1ba3406d5c7c95eedb0e1b55b3d1859d6801cbfb1c587cb0bd993a87d5", func := "moothill/moothilllaw11.MsgFrames", spec := "msgFrames", inPlace := ["internal/bytealg.IndexByteString", "internal/bytealg.IndexString"], unfollowed := true, recurses := true, named := ["moothill/cmd.parts", "internal/bytealg.MaxLen"], apart := false, laid := [("moothill/cmd.parts", laid_moothill_cmd_parts)] }
def MsgFramesSaid : Prop := msgFramesRow.holds Tryz.pinned (OpenSpec.ofChange msgFramesSpec)

/-- ITS FALSE NEIGHBOUR: 'it returns false'. Refute it at one input. -/
def msgFramesWrong : ChangeSpec := { name := "msgFrames", fn := fun _ => fun
  | [d] => { results := [.lit (.bool false)], args := [d] }
  | _ => none }
def MsgFramesWrongFalsely : Prop := msgFramesRow.holds Tryz.pinned (OpenSpec.ofChange msgFramesWrong)

/-- 'moothilllaw11.MsgTurns': WHATEVER THE INPUT: true; the input reads as it did. -/
def msgTurnsSpec : ChangeSpec := { name := "msgTurns", fn := fun _ => fun
  | [d1, d2, d3] => { results := [.lit (.bool true)], args := [d1, d2, d3] }
  | _ => none }
def msgTurnsRow : OpenClaim := { program := "ytohffiehmmcgbaagreatdoor", sum := "5ac49e1ba3406d5c7c95eedb0e1b55b3d1859d6801cbfb1c587cb0bd993a87d5", func := "moothill/moothilllaw11.MsgTurns", spec := "msgTurns", inPlace := ["internal/bytealg.IndexByteString", "internal/bytealg.IndexString"], unfollowed := true, recurses := true, named := ["moothill/cmd.parts", "internal/bytealg.MaxLen"], apart := false, laid := [("moothill/cmd.parts", laid_moothill_cmd_parts)] }
def MsgTurnsSaid : Prop := msgTurnsRow.holds Tryz.pinned (OpenSpec.ofChange msgTurnsSpec)

/-- ITS FALSE NEIGHBOUR: 'it returns false'. Refute it at one input. -/
def msgTurnsWrong : ChangeSpec := { name := "msgTurns", fn := fun _ => fun
  | [d1, d2, d3] => { results := [.lit (.bool false)], args := [d1, d2, d3] }
  | _ => none }
def MsgTurnsWrongFalsely : Prop := msgTurnsRow.holds Tryz.pinned (OpenSpec.ofChange msgTurnsWrong)

/-- 'moothilllaw11.MsgAsks': WHATEVER THE INPUT: true; the input reads as it did. -/
def msgAsksSpec : ChangeSpec := { name := "msgAsks", fn := fun _ => fun
  | [d1, d2, d3, d4, d5, d6, d7] => { results := [.lit (.bool true)], args := [d1, d2, d3, d4, d5, d6, d7] }
  | _ => none }
def msgAsksRow : OpenClaim := { program := "ytohffiehmmcgbaagreatdoor", sum := "5ac49e1ba3406d5c7c95eedb0e1b55b3d1859d6801cbfb1c587cb0bd993a87d5", func := "moothill/moothilllaw11.MsgAsks", spec := "msgAsks", inPlace := ["internal/bytealg.IndexByteString", "internal/bytealg.IndexString"], unfollowed := true, recurses := true, named := ["moothill/cmd.parts", "internal/bytealg.MaxLen"], apart := false, laid := [("moothill/cmd.parts", laid_moothill_cmd_parts)] }
def MsgAsksSaid : Prop := msgAsksRow.holds Tryz.pinned (OpenSpec.ofChange msgAsksSpec)

/-- ITS FALSE NEIGHBOUR: 'it returns false'. Refute it at one input. -/
def msgAsksWrong : ChangeSpec := { name := "msgAsks", fn := fun _ => fun
  | [d1, d2, d3, d4, d5, d6, d7] => { results := [.lit (.bool false)], args := [d1, d2, d3, d4, d5, d6, d7] }
  | _ => none }
def MsgAsksWrongFalsely : Prop := msgAsksRow.holds Tryz.pinned (OpenSpec.ofChange msgAsksWrong)

/-- 'moothilllaw11.MsgTexts': WHATEVER THE INPUT: true; the input reads as it did. -/
def msgTextsSpec : ChangeSpec := { name := "msgTexts", fn := fun _ => fun
  | [d] => { results := [.lit (.bool true)], args := [d] }
  | _ => none }
def msgTextsRow : OpenClaim := { program := "ytohffiehmmcgbaagreatdoor", sum := "5ac49e1ba3406d5c7c95eedb0e1b55b3d1859d6801cbfb1c587cb0bd993a87d5", func := "moothill/moothilllaw11.MsgTexts", spec := "msgTexts", inPlace := ["internal/bytealg.IndexByteString", "internal/bytealg.IndexString", "internal/abi.NoEscape", "internal/bytealg.MakeNoZero", "internal/bytealg.CountString"], unfollowed := true, recurses := true, named := ["moothill/cmd.parts", "internal/bytealg.MaxLen", "moothill/msg.names", "internal/strconv.uint64pow10", "math/bits.deBruijn32tab", "math/bits.deBruijn64tab", "moothill/inst.names", "moothill/cmd.names", "unicode/utf8.first", "unicode/utf8.acceptRanges", "strconv.ErrSyntax", "strconv.ErrRange"], apart := false, laid := [("math/bits.deBruijn32tab", laid_math_bits_deBruijn32tab), ("math/bits.deBruijn64tab", laid_math_bits_deBruijn64tab), ("internal/strconv.uint64pow10", laid_internal_strconv_uint64pow10), ("unicode/utf8.acceptRanges", laid_unicode_utf8_acceptRanges), ("strconv.ErrRange", laid_strconv_ErrRange), ("strconv.ErrSyntax", laid_strconv_ErrSyntax), ("moothill/cmd.names", laid_moothill_cmd_names), ("moothill/cmd.parts", laid_moothill_cmd_parts), ("moothill/inst.names", laid_moothill_inst_names), ("moothill/msg.names", laid_moothill_msg_names), ("unicode/utf8.first", laid_unicode_utf8_first)] }
def MsgTextsSaid : Prop := msgTextsRow.holds Tryz.pinned (OpenSpec.ofChange msgTextsSpec)

/-- ITS FALSE NEIGHBOUR: 'it returns false'. Refute it at one input. -/
def msgTextsWrong : ChangeSpec := { name := "msgTexts", fn := fun _ => fun
  | [d] => { results := [.lit (.bool false)], args := [d] }
  | _ => none }
def MsgTextsWrongFalsely : Prop := msgTextsRow.holds Tryz.pinned (OpenSpec.ofChange msgTextsWrong)

/-- 'moothilllaw11.MsgReads': WHATEVER THE INPUT: true; the input reads as it did. -/
def msgReadsSpec : ChangeSpec := { name := "msgReads", fn := fun _ => fun
  | [d] => { results := [.lit (.bool true)], args := [d] }
  | _ => none }
def msgReadsRow : OpenClaim := { program := "ytohffiehmmcgbaagreatdoor", sum := "5ac49e1ba3406d5c7c95eedb0e1b55b3d1859d6801cbfb1c587cb0bd993a87d5", func := "moothill/moothilllaw11.MsgReads", spec := "msgReads", inPlace := ["internal/bytealg.IndexByteString", "internal/bytealg.IndexString", "internal/bytealg.CountString", "internal/abi.NoEscape", "internal/bytealg.MakeNoZero"], unfollowed := true, recurses := true, named := ["moothill/cmd.parts", "internal/bytealg.MaxLen", "unicode/utf8.first", "unicode/utf8.acceptRanges", "moothill/msg.names", "strconv.ErrSyntax", "strconv.ErrRange", "internal/strconv.uint64pow10", "math/bits.deBruijn32tab", "math/bits.deBruijn64tab", "moothill/inst.names", "moothill/cmd.names"], apart := false, laid := [("math/bits.deBruijn32tab", laid_math_bits_deBruijn32tab), ("math/bits.deBruijn64tab", laid_math_bits_deBruijn64tab), ("internal/strconv.uint64pow10", laid_internal_strconv_uint64pow10), ("unicode/utf8.acceptRanges", laid_unicode_utf8_acceptRanges), ("strconv.ErrRange", laid_strconv_ErrRange), ("strconv.ErrSyntax", laid_strconv_ErrSyntax), ("moothill/cmd.names", laid_moothill_cmd_names), ("moothill/cmd.parts", laid_moothill_cmd_parts), ("moothill/inst.names", laid_moothill_inst_names), ("moothill/msg.names", laid_moothill_msg_names), ("unicode/utf8.first", laid_unicode_utf8_first)] }
def MsgReadsSaid : Prop := msgReadsRow.holds Tryz.pinned (OpenSpec.ofChange msgReadsSpec)

/-- ITS FALSE NEIGHBOUR: 'it returns false'. Refute it at one input. -/
def msgReadsWrong : ChangeSpec := { name := "msgReads", fn := fun _ => fun
  | [d] => { results := [.lit (.bool false)], args := [d] }
  | _ => none }
def MsgReadsWrongFalsely : Prop := msgReadsRow.holds Tryz.pinned (OpenSpec.ofChange msgReadsWrong)

/- THE SECOND FORM. 'bulk': how many values and letters a reading holds, each counted each time it is reached (what is shared counts as often as it is met; a slice's spare places count too). A statement '..UptoSaid' is the law's where the arguments, and the package variables that the reading takes, are together of bulk at most 1048576: NARROWER than '..Said'. Prove '..Said' where nothing that the law and all that it calls make is longer than what came in: it says more and counts as full. Else prove '..UptoSaid'. A law counts once. -/
mutual
def uptoBulk {H : Type} : DataW H → Nat
  | .lit (.string bytes) => bytes.length + 1
  | .lit _ => 1
  | .nil => 1
  | .ptr d => uptoBulk d + 1
  | .slice elems spare => uptoBulkAll elems + uptoBulkAll spare + 1
  | .agg parts => uptoBulkAll parts + 1
  | .iface _ d => uptoBulk d + 1
  | .map entries => uptoBulkEntries entries + 1
  | .held _ => 1
def uptoBulkAll {H : Type} : List (DataW H) → Nat
  | [] => 0
  | d :: r => uptoBulk d + uptoBulkAll r
def uptoBulkEntries {H : Type} : List (Lit × DataW H) → Nat
  | [] => 0
  | x :: r => uptoBulkEntry x + uptoBulkEntries r
def uptoBulkEntry {H : Type} : Lit × DataW H → Nat
  | (.string bytes, d) => bytes.length + uptoBulk d + 1
  | (_, d) => uptoBulk d + 1
 end
def uptoSmall : (H : Type) → List (DataW H) → Bool := fun _ ds => decide (uptoBulkAll ds ≤ 1048576)
def OpenSpec.upto (s : _root_.Go.ChangeSpec) : _root_.Go.OpenSpec := { _root_.Go.OpenSpec.ofChange s with cond := some uptoSmall }

/-- 'moothilllaw10.InstParses', WHERE WHAT IT READS IS OF BULK AT MOST 1048576: true; the input reads as it did. -/
def instParsesUptoRow : OpenClaim := { program := "ytohffiehmmcgbaagreatdoor", sum := "5ac49e1ba3406d5c7c95eedb0e1b55b3d1859d6801cbfb1c587cb0bd993a87d5", func := "moothill/moothilllaw10.InstParses", spec := "instParses", inPlace := ["internal/bytealg.IndexByteString", "internal/bytealg.IndexString"], unfollowed := true, recurses := true, named := ["moothill/cmd.parts", "internal/bytealg.MaxLen"], apart := false, laid := [("moothill/cmd.parts", laid_moothill_cmd_parts)], narrowed := true }
def InstParsesUptoSaid : Prop := instParsesUptoRow.holds Tryz.pinned (OpenSpec.upto instParsesSpec)

/-- 'moothilllaw10.InstTexts', WHERE WHAT IT READS IS OF BULK AT MOST 1048576: true; the input reads as it did. -/
def instTextsUptoRow : OpenClaim := { program := "ytohffiehmmcgbaagreatdoor", sum := "5ac49e1ba3406d5c7c95eedb0e1b55b3d1859d6801cbfb1c587cb0bd993a87d5", func := "moothill/moothilllaw10.InstTexts", spec := "instTexts", inPlace := ["internal/bytealg.IndexByteString", "internal/bytealg.IndexString", "internal/abi.NoEscape", "internal/bytealg.MakeNoZero", "internal/bytealg.CountString"], unfollowed := true, recurses := true, named := ["moothill/cmd.parts", "internal/bytealg.MaxLen", "moothill/inst.names", "internal/strconv.uint64pow10", "math/bits.deBruijn32tab", "math/bits.deBruijn64tab", "moothill/cmd.names", "unicode/utf8.first", "unicode/utf8.acceptRanges", "strconv.ErrSyntax", "strconv.ErrRange"], apart := false, laid := [("math/bits.deBruijn32tab", laid_math_bits_deBruijn32tab), ("math/bits.deBruijn64tab", laid_math_bits_deBruijn64tab), ("internal/strconv.uint64pow10", laid_internal_strconv_uint64pow10), ("unicode/utf8.acceptRanges", laid_unicode_utf8_acceptRanges), ("strconv.ErrRange", laid_strconv_ErrRange), ("strconv.ErrSyntax", laid_strconv_ErrSyntax), ("moothill/cmd.names", laid_moothill_cmd_names), ("moothill/cmd.parts", laid_moothill_cmd_parts), ("moothill/inst.names", laid_moothill_inst_names), ("unicode/utf8.first", laid_unicode_utf8_first)], narrowed := true }
def InstTextsUptoSaid : Prop := instTextsUptoRow.holds Tryz.pinned (OpenSpec.upto instTextsSpec)

/-- 'moothilllaw10.InstReads', WHERE WHAT IT READS IS OF BULK AT MOST 1048576: true; the input reads as it did. -/
def instReadsUptoRow : OpenClaim := { program := "ytohffiehmmcgbaagreatdoor", sum := "5ac49e1ba3406d5c7c95eedb0e1b55b3d1859d6801cbfb1c587cb0bd993a87d5", func := "moothill/moothilllaw10.InstReads", spec := "instReads", inPlace := ["internal/bytealg.IndexByteString", "internal/bytealg.IndexString", "internal/bytealg.CountString", "internal/abi.NoEscape", "internal/bytealg.MakeNoZero"], unfollowed := true, recurses := true, named := ["moothill/cmd.parts", "internal/bytealg.MaxLen", "unicode/utf8.first", "unicode/utf8.acceptRanges", "strconv.ErrSyntax", "strconv.ErrRange", "internal/strconv.uint64pow10", "math/bits.deBruijn32tab", "math/bits.deBruijn64tab", "moothill/inst.names", "moothill/cmd.names"], apart := false, laid := [("math/bits.deBruijn32tab", laid_math_bits_deBruijn32tab), ("math/bits.deBruijn64tab", laid_math_bits_deBruijn64tab), ("internal/strconv.uint64pow10", laid_internal_strconv_uint64pow10), ("unicode/utf8.acceptRanges", laid_unicode_utf8_acceptRanges), ("strconv.ErrRange", laid_strconv_ErrRange), ("strconv.ErrSyntax", laid_strconv_ErrSyntax), ("moothill/cmd.names", laid_moothill_cmd_names), ("moothill/cmd.parts", laid_moothill_cmd_parts), ("moothill/inst.names", laid_moothill_inst_names), ("unicode/utf8.first", laid_unicode_utf8_first)], narrowed := true }
def InstReadsUptoSaid : Prop := instReadsUptoRow.holds Tryz.pinned (OpenSpec.upto instReadsSpec)

/-- 'moothilllaw11.MsgFrames', WHERE WHAT IT READS IS OF BULK AT MOST 1048576: true; the input reads as it did. -/
def msgFramesUptoRow : OpenClaim := { program := "ytohffiehmmcgbaagreatdoor", sum := "5ac49e1ba3406d5c7c95eedb0e1b55b3d1859d6801cbfb1c587cb0bd993a87d5", func := "moothill/moothilllaw11.MsgFrames", spec := "msgFrames", inPlace := ["internal/bytealg.IndexByteString", "internal/bytealg.IndexString"], unfollowed := true, recurses := true, named := ["moothill/cmd.parts", "internal/bytealg.MaxLen"], apart := false, laid := [("moothill/cmd.parts", laid_moothill_cmd_parts)], narrowed := true }
def MsgFramesUptoSaid : Prop := msgFramesUptoRow.holds Tryz.pinned (OpenSpec.upto msgFramesSpec)

/-- 'moothilllaw11.MsgTurns', WHERE WHAT IT READS IS OF BULK AT MOST 1048576: true; the input reads as it did. -/
def msgTurnsUptoRow : OpenClaim := { program := "ytohffiehmmcgbaagreatdoor", sum := "5ac49e1ba3406d5c7c95eedb0e1b55b3d1859d6801cbfb1c587cb0bd993a87d5", func := "moothill/moothilllaw11.MsgTurns", spec := "msgTurns", inPlace := ["internal/bytealg.IndexByteString", "internal/bytealg.IndexString"], unfollowed := true, recurses := true, named := ["moothill/cmd.parts", "internal/bytealg.MaxLen"], apart := false, laid := [("moothill/cmd.parts", laid_moothill_cmd_parts)], narrowed := true }
def MsgTurnsUptoSaid : Prop := msgTurnsUptoRow.holds Tryz.pinned (OpenSpec.upto msgTurnsSpec)

/-- 'moothilllaw11.MsgAsks', WHERE WHAT IT READS IS OF BULK AT MOST 1048576: true; the input reads as it did. -/
def msgAsksUptoRow : OpenClaim := { program := "ytohffiehmmcgbaagreatdoor", sum := "5ac49e1ba3406d5c7c95eedb0e1b55b3d1859d6801cbfb1c587cb0bd993a87d5", func := "moothill/moothilllaw11.MsgAsks", spec := "msgAsks", inPlace := ["internal/bytealg.IndexByteString", "internal/bytealg.IndexString"], unfollowed := true, recurses := true, named := ["moothill/cmd.parts", "internal/bytealg.MaxLen"], apart := false, laid := [("moothill/cmd.parts", laid_moothill_cmd_parts)], narrowed := true }
def MsgAsksUptoSaid : Prop := msgAsksUptoRow.holds Tryz.pinned (OpenSpec.upto msgAsksSpec)

/-- 'moothilllaw11.MsgTexts', WHERE WHAT IT READS IS OF BULK AT MOST 1048576: true; the input reads as it did. -/
def msgTextsUptoRow : OpenClaim := { program := "ytohffiehmmcgbaagreatdoor", sum := "5ac49e1ba3406d5c7c95eedb0e1b55b3d1859d6801cbfb1c587cb0bd993a87d5", func := "moothill/moothilllaw11.MsgTexts", spec := "msgTexts", inPlace := ["internal/bytealg.IndexByteString", "internal/bytealg.IndexString", "internal/abi.NoEscape", "internal/bytealg.MakeNoZero", "internal/bytealg.CountString"], unfollowed := true, recurses := true, named := ["moothill/cmd.parts", "internal/bytealg.MaxLen", "moothill/msg.names", "internal/strconv.uint64pow10", "math/bits.deBruijn32tab", "math/bits.deBruijn64tab", "moothill/inst.names", "moothill/cmd.names", "unicode/utf8.first", "unicode/utf8.acceptRanges", "strconv.ErrSyntax", "strconv.ErrRange"], apart := false, laid := [("math/bits.deBruijn32tab", laid_math_bits_deBruijn32tab), ("math/bits.deBruijn64tab", laid_math_bits_deBruijn64tab), ("internal/strconv.uint64pow10", laid_internal_strconv_uint64pow10), ("unicode/utf8.acceptRanges", laid_unicode_utf8_acceptRanges), ("strconv.ErrRange", laid_strconv_ErrRange), ("strconv.ErrSyntax", laid_strconv_ErrSyntax), ("moothill/cmd.names", laid_moothill_cmd_names), ("moothill/cmd.parts", laid_moothill_cmd_parts), ("moothill/inst.names", laid_moothill_inst_names), ("moothill/msg.names", laid_moothill_msg_names), ("unicode/utf8.first", laid_unicode_utf8_first)], narrowed := true }
def MsgTextsUptoSaid : Prop := msgTextsUptoRow.holds Tryz.pinned (OpenSpec.upto msgTextsSpec)

/-- 'moothilllaw11.MsgReads', WHERE WHAT IT READS IS OF BULK AT MOST 1048576: true; the input reads as it did. -/
def msgReadsUptoRow : OpenClaim := { program := "ytohffiehmmcgbaagreatdoor", sum := "5ac49e1ba3406d5c7c95eedb0e1b55b3d1859d6801cbfb1c587cb0bd993a87d5", func := "moothill/moothilllaw11.MsgReads", spec := "msgReads", inPlace := ["internal/bytealg.IndexByteString", "internal/bytealg.IndexString", "internal/bytealg.CountString", "internal/abi.NoEscape", "internal/bytealg.MakeNoZero"], unfollowed := true, recurses := true, named := ["moothill/cmd.parts", "internal/bytealg.MaxLen", "unicode/utf8.first", "unicode/utf8.acceptRanges", "moothill/msg.names", "strconv.ErrSyntax", "strconv.ErrRange", "internal/strconv.uint64pow10", "math/bits.deBruijn32tab", "math/bits.deBruijn64tab", "moothill/inst.names", "moothill/cmd.names"], apart := false, laid := [("math/bits.deBruijn32tab", laid_math_bits_deBruijn32tab), ("math/bits.deBruijn64tab", laid_math_bits_deBruijn64tab), ("internal/strconv.uint64pow10", laid_internal_strconv_uint64pow10), ("unicode/utf8.acceptRanges", laid_unicode_utf8_acceptRanges), ("strconv.ErrRange", laid_strconv_ErrRange), ("strconv.ErrSyntax", laid_strconv_ErrSyntax), ("moothill/cmd.names", laid_moothill_cmd_names), ("moothill/cmd.parts", laid_moothill_cmd_parts), ("moothill/inst.names", laid_moothill_inst_names), ("moothill/msg.names", laid_moothill_msg_names), ("unicode/utf8.first", laid_unicode_utf8_first)], narrowed := true }
def MsgReadsUptoSaid : Prop := msgReadsUptoRow.holds Tryz.pinned (OpenSpec.upto msgReadsSpec)

end Rows
end Go.Proofs.YtohffiehmmcgbaaGreatDoor
