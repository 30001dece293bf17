/-
  What the listed variables of MsgTexts' and MsgReads' rows give the walks.
-/
import Derived.Test.YtohffiehmmcgbaaGreatDoorXYuKind
import Derived.Test.YtohffiehmmcgbaaGreatDoorXL
namespace Go.Proofs.YtohffiehmmcgbaaGreatDoor
open Go.ChangeShapes Go.WideShapes Go.ChangeAt Go.WideMaps Go.WideElems Go.RowKit Go.Lib
abbrev laid11 : List (String × DataW Unit) := [("math/bits.deBruijn32tab", Rows.laid_math_bits_deBruijn32tab), ("math/bits.deBruijn64tab", Rows.laid_math_bits_deBruijn64tab), ("internal/strconv.uint64pow10", Rows.laid_internal_strconv_uint64pow10), ("unicode/utf8.acceptRanges", Rows.laid_unicode_utf8_acceptRanges), ("strconv.ErrRange", Rows.laid_strconv_ErrRange), ("strconv.ErrSyntax", Rows.laid_strconv_ErrSyntax), ("moothill/cmd.names", Rows.laid_moothill_cmd_names), ("moothill/cmd.parts", Rows.laid_moothill_cmd_parts), ("moothill/inst.names", Rows.laid_moothill_inst_names), ("moothill/msg.names", Rows.laid_moothill_msg_names), ("unicode/utf8.first", Rows.laid_unicode_utf8_first)]
theorem tabMsg11 : (Rows.laid_moothill_msg_names : DataW Unit) = .agg (([msgL 0, msgL 1, msgL 2, msgL 3, msgL 4, msgL 5, msgL 6, msgL 7] : List (List UInt8)).map fun z => .lit (.string z)) := by kernel_rfl
set_option maxRecDepth 100000 in
theorem of_laid11 {W : World} (h : laidMetH Tryz.prog laid11 W) : Laid7 W ∧ StatsIs W ∧ MsgsIs W := by
  rw [MakeChecks.laidMetH_plain _ _ _ (by kernel_rfl)] at h
  obtain ⟨ps, ⟨g0, t0, cs0, f0, p0, q0, hg0, ht0, hv0, hd0, ⟨g1, t1, cs1, f1, p1, q1, hg1, ht1, hv1, hd1, ⟨g2, t2, cs2, f2, p2, q2, hg2, ht2, hv2, hd2, ⟨gA, tA, csA, fA, pA, qA, hgA, htA, hvA, hdA, ⟨g3, t3, cs3, f3, p3, q3, hg3, ht3, hv3, hd3, ⟨g4, t4, cs4, f4, p4, q4, hg4, ht4, hv4, hd4, ⟨g5, t5, cs5, f5, p5, q5, hg5, ht5, hv5, hd5, ⟨g6, t6, cs6, f6, p6, q6, hg6, ht6, hv6, hd6, ⟨g7, t7, cs7, f7, p7, q7, hg7, ht7, hv7, hd7, ⟨g8, t8, c8s, f8, p8, q8, hg8, ht8, hv8, hd8, ⟨gB, tB, csB, fB, pB, qB, hgB, htB, hvB, hdB, _, _⟩, _⟩, _⟩, _⟩, _⟩, _⟩, _⟩, _⟩, _⟩, _⟩, _⟩, _, _⟩ := h
  obtain rfl := Option.some.inj (gPow10.symm.trans hg2)
  obtain rfl := Option.some.inj (tPow10.symm.trans ht2)
  obtain rfl := Option.some.inj (gRan10.symm.trans hg3)
  obtain rfl := Option.some.inj (tRan10.symm.trans ht3)
  obtain rfl := Option.some.inj (gSyn10.symm.trans hg4)
  obtain rfl := Option.some.inj (tSyn10.symm.trans ht4)
  obtain rfl := Option.some.inj (gNam10.symm.trans hg5)
  obtain rfl := Option.some.inj (tNam10.symm.trans ht5)
  obtain rfl := Option.some.inj (gParts.symm.trans hg6)
  obtain rfl := Option.some.inj (tParts.symm.trans ht6)
  obtain rfl := Option.some.inj (gSta10.symm.trans hg7)
  obtain rfl := Option.some.inj (tSta10.symm.trans ht7)
  obtain rfl := Option.some.inj (gMsg11.symm.trans hg8)
  obtain rfl := Option.some.inj (tMsg11.symm.trans ht8)
  rw [tabPow10] at hd2
  rw [tabMsg11] at hd8
  rw [tabNam10] at hd5
  rw [tab_parts] at hd6
  rw [tabSta10] at hd7
  have e2 := cells_of_tab Tryz.underlying231 Tryz.underlying28 (by kernel_rfl) (by kernel_rfl) hd2
  obtain ⟨_, u3, v3, e3, _, _⟩ := iface_of_trod Tryz.underlying150 hd3
  obtain ⟨_, u4, v4, e4, _, _⟩ := iface_of_trod Tryz.underlying150 hd4
  have e5 := cells_of_strs Tryz.underlying106 Tryz.underlying9 (by kernel_rfl) (by kernel_rfl) hd5
  have e6 := cells_of_tab Tryz.underlying154 Tryz.underlying108 (by kernel_rfl) (by kernel_rfl) hd6
  have e7 := cells_of_strs Tryz.underlying99 Tryz.underlying9 (by kernel_rfl) (by kernel_rfl) hd7
  have e8 := cells_of_strs Tryz.underlying123 Tryz.underlying9 (by kernel_rfl) (by kernel_rfl) hd8
  refine ⟨⟨?_, ?_, ?_, ⟨u4, v4, ?_⟩, u3, v3, ?_⟩, ?_, ?_⟩
  · unfold PartsIs
    rw [hv6]
    congr 1
    exact Array.toList_inj.1 e6
  · unfold NamesIs
    rw [hv5]
    congr 1
    exact Array.toList_inj.1 e5
  · unfold PowIs TabIs
    rw [hv2, ← e2]
  · rw [hv4, ← Array.eq_one_of_toList e4]
  · rw [hv3, ← Array.eq_one_of_toList e3]
  · unfold StatsIs
    rw [hv7]
    congr 1
    exact Array.toList_inj.1 e7
  · unfold MsgsIs
    rw [hv8]
    congr 1
    exact Array.toList_inj.1 e8
theorem laid_met11 (os : Os) (args : Array Value) : laidMetH Tryz.prog laid11 ((World.laidAll Tryz.prog os laid11).forCall (fun _ _ => 0) ⟨#[], args, []⟩).memory := by
  rw [MakeChecks.laidMetH_plain _ _ _ (by kernel_rfl)]
  exact laidMet_laidAll _ (by kernel_rfl) (by kernel_rfl)
theorem shaped11 (os : Os) : (World.laidAll Tryz.prog os laid11).Shaped Tryz.prog := World.shaped_of_ZipB (by kernel_rfl) (by kernel_rfl)
end Go.Proofs.YtohffiehmmcgbaaGreatDoor
