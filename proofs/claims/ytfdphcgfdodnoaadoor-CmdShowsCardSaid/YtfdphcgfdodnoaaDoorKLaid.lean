/-
  What the two rows' seven listed variables give the walks; and that the door's own run meets it.
-/
import Derived.Test.YtfdphcgfdodnoaaDoorKOpen
import Derived.Test.YtfdphcgfdodnoaaDoorKFmt
namespace Go.Proofs.YtfdphcgfdodnoaaDoor
open Go.ChangeShapes Go.WideShapes Go.ChangeAt Go.WideMaps Go.WideElems Go.RowKit Go.Lib

/-- A listed array of strings, read off the heap. -/
theorem cells_of_strs {H : Type} {enc : TypeId × Value → H} {P : Program} {w : World} {base : Nat} {sp : Nat → Bool} {held : Bool} {fuel : Nat} {t e : TypeId} {n : Nat} {cs : List Value} {zs : List (List UInt8)} {p : List MemPlace}
    (ht : P.underlying t = some (.array n e)) (he : P.underlying e = some .string) (hce : P.cellsOf e = 1) (hct : P.cellsOf t = n)
    (h : DataW.trod enc P w base sp held fuel t cs = some (.agg (zs.map fun z => .lit (.string z)), p)) : cs = zs.map fun z => Value.string (mk z) := by
  obtain ⟨xs, m, _, hx, hl, hn, hi⟩ := DataW.trod_array ht h
  rw [hct] at hl
  simp only [Prod.mk.injEq, DataW.agg.injEq] at hx
  obtain ⟨hx, _⟩ := hx
  have hzl : zs.length = n := by
    have := congrArg List.length hx
    simp at this
    omega
  apply List.ext_getElem?
  intro i
  by_cases hb : i < n
  · have h0 := hi i hb
    rw [hce, Nat.mul_one] at h0
    obtain ⟨b, hb2⟩ : ∃ b, xs[i]? = some b := ⟨xs[i]'(by omega), by simp [hn, hb]⟩
    rw [hb2] at h0
    obtain ⟨s, hc, rfl, _⟩ := DataW.trod_string he h0
    have h1 : cs[i]? = some (.string s) := by
      have := congrArg (·[0]?) hc
      simpa [List.getElem?_take, List.getElem?_drop] using this
    have h2 : (xs.map (·.1))[i]? = some (DataW.lit (.string s.data.toList) : DataW H) := by simp [hb2]
    rw [← hx] at h2
    simp only [List.getElem?_map, Option.map_eq_some_iff, DataW.lit.injEq, Lit.string.injEq] at h2
    obtain ⟨z', hz', hz2⟩ := h2
    have h3 : mk z' = s := by rw [hz2]; exact mk_L s
    simp [h1, hz', h3]
  · rw [List.getElem?_eq_none (by omega), List.getElem?_eq_none (by simp; omega)]

/-- The list of both rows. -/
abbrev laid7 : List (String × DataW Unit) := [("math/bits.deBruijn32tab", Rows.laid_math_bits_deBruijn32tab), ("math/bits.deBruijn64tab", Rows.laid_math_bits_deBruijn64tab), ("internal/strconv.uint64pow10", Rows.laid_internal_strconv_uint64pow10), ("strconv.ErrRange", Rows.laid_strconv_ErrRange), ("strconv.ErrSyntax", Rows.laid_strconv_ErrSyntax), ("moothill/cmd.names", Rows.laid_moothill_cmd_names), ("moothill/cmd.parts", Rows.laid_moothill_cmd_parts)]

theorem gPow7 : Tryd.prog.globalNamed "internal/strconv.uint64pow10" = some 2 := by kernel_rfl
theorem gSyn7 : Tryd.prog.globalNamed "strconv.ErrSyntax" = some 4 := by kernel_rfl
theorem gRan7 : Tryd.prog.globalNamed "strconv.ErrRange" = some 5 := by kernel_rfl
theorem gNam7 : Tryd.prog.globalNamed "moothill/cmd.names" = some 0 := by kernel_rfl
theorem tPow7 : (Tryd.prog.globals[2]?).map (·.type) = some 130 := by kernel_rfl
theorem tSyn7 : (Tryd.prog.globals[4]?).map (·.type) = some 107 := by kernel_rfl
theorem tRan7 : (Tryd.prog.globals[5]?).map (·.type) = some 107 := by kernel_rfl
theorem tNam7 : (Tryd.prog.globals[0]?).map (·.type) = some 58 := by kernel_rfl
theorem tabPow7 : (Rows.laid_internal_strconv_uint64pow10 : DataW Unit) = tabData .u64 pow10Tab := by kernel_rfl
theorem tabNam7 : (Rows.laid_moothill_cmd_names : DataW Unit) = .agg (([nameL 0, nameL 1, nameL 2, nameL 3, nameL 4, nameL 5, nameL 6, nameL 7, nameL 8] : List (List UInt8)).map fun z => .lit (.string z)) := by kernel_rfl

set_option maxRecDepth 100000 in
theorem of_laid7 {W : World} (h : laidMetH Tryd.prog laid7 W) : Laid7 W := by
  rw [MakeChecks.laidMetH_plain _ _ _ (by kernel_rfl)] at h
  obtain ⟨ps, ⟨g0, t0, cs0, f0, p0, q0, hg0, ht0, hv0, hd0, ⟨g1, t1, cs1, f1, p1, q1, hg1, ht1, hv1, hd1, ⟨g2, t2, cs2, f2, p2, q2, hg2, ht2, hv2, hd2, ⟨g3, t3, cs3, f3, p3, q3, hg3, ht3, hv3, hd3, ⟨g4, t4, cs4, f4, p4, q4, hg4, ht4, hv4, hd4, ⟨g5, t5, cs5, f5, p5, q5, hg5, ht5, hv5, hd5, ⟨g6, t6, cs6, f6, p6, q6, hg6, ht6, hv6, hd6, _, _⟩, _⟩, _⟩, _⟩, _⟩, _⟩, _⟩, _, _⟩ := h
  obtain rfl := Option.some.inj (gPow7.symm.trans hg2)
  obtain rfl := Option.some.inj (tPow7.symm.trans ht2)
  obtain rfl := Option.some.inj (gRan7.symm.trans hg3)
  obtain rfl := Option.some.inj (tRan7.symm.trans ht3)
  obtain rfl := Option.some.inj (gSyn7.symm.trans hg4)
  obtain rfl := Option.some.inj (tSyn7.symm.trans ht4)
  obtain rfl := Option.some.inj (gNam7.symm.trans hg5)
  obtain rfl := Option.some.inj (tNam7.symm.trans ht5)
  obtain rfl := Option.some.inj (gParts.symm.trans hg6)
  obtain rfl := Option.some.inj (tParts.symm.trans ht6)
  rw [tabPow7] at hd2
  rw [tabNam7] at hd5
  rw [tab_parts] at hd6
  have e2 := cells_of_tab Tryd.underlying130 Tryd.underlying22 (by kernel_rfl) (by kernel_rfl) hd2
  obtain ⟨_, u3, v3, e3, _, _⟩ := iface_of_trod Tryd.underlying107 hd3
  obtain ⟨_, u4, v4, e4, _, _⟩ := iface_of_trod Tryd.underlying107 hd4
  have e5 := cells_of_strs Tryd.underlying58 Tryd.underlying9 (by kernel_rfl) (by kernel_rfl) hd5
  have e6 := cells_of_tab Tryd.underlying87 Tryd.underlying60 (by kernel_rfl) (by kernel_rfl) hd6
  refine ⟨?_, ?_, ?_, ⟨u4, v4, ?_⟩, u3, v3, ?_⟩
  · unfold PartsIs
    rw [hv6]
    congr 1
    exact Array.toList_inj.1 e6
  · unfold NamesIs
    rw [hv5]
    congr 1
    exact Array.toList_inj.1 e5
  · unfold PowIs TabIs
    rw [hv2, ← e2]
  · rw [hv4, ← Array.eq_one_of_toList e4]
  · rw [hv3, ← Array.eq_one_of_toList e3]

/-- The door's own heap meets the condition. -/
theorem door_met7 (os : Os) (args : Array Value) : laidMetH Tryd.prog laid7 ((World.doorLaid Tryd.prog 400 os).forCall (fun _ _ => 0) ⟨#[], args, []⟩).memory :=
  laidMetH_of_parts3 (fuel := 8) (laidMet_of_run' 8 (by kernel_rfl) (by kernel_rfl)) (by kernel_rfl) (by kernel_rfl)

end Go.Proofs.YtfdphcgfdodnoaaDoor
