/-
  The law's own digits (package cmd).
-/
import Derived.Test.YtohffiehmmcgbaaGreatDoorUKRead
import Derived.Test.YtohffiehmmcgbaaGreatDoorUE
import Derived.LoopTactic
import Derived.Test.YtohffiehmmcgbaaGreatDoorUH
import Derived.Test.YtohffiehmmcgbaaGreatDoorUK
import Derived.Lay
import Derived.Test.YtohffiehmmcgbaaGreatDoorUN
namespace Go.Proofs.YtohffiehmmcgbaaGreatDoor
open Go.ChangeShapes Go.WideShapes Go.ChangeAt Go.RowKit Go.Lib
set_option linter.unusedSimpArgs false
set_option linter.unusedVariables false
theorem conv10 (y : Int) (w : World) (c : ByteArray) (hc : c = ⟨#[UInt8.ofNat y.toNat]⟩) :
    (convert 22 9 (.slice (some ⟨w.heap.size, 0, none⟩) 1 1)).run Tryz.prog (w.alloc (.cells #[.int .u8 y] 5)) = .ok (.string c) (w.alloc (.cells #[.int .u8 y] 5)) := by
  subst hc
  refine run_convert_bytes_arg _ 22 5 Tryz.underlying22 Tryz.underlying5 w.heap.size 0 1 1 [y] rfl ?_ 9 Tryz.underlying9
  intro i hi
  obtain rfl : i = 0 := by omega
  rw [(Blk.new w 5 #[.int .u8 y]).cell]
  rfl
set_option maxRecDepth 100000 in
set_option maxHeartbeats 1000000 in
theorem digits10 (v : Nat) (w : World) (hv : v < 18446744073709551616) :
    Calls Tryz.prog 59 #[.int .u64 (v : Int)] w (TellsL (decDigits v) w) := by
  have hlen : (decDigits v).length ≤ 20 := by rw [decDigits_length]; exact nDigits_le20 v hv
  go_enter Tryz.func59, Tryz.ntmps59
  go_wp2
  go_loopw [0, 3] (fun n s wr => ∃ (u : Nat) (r : ByteArray), n = .int .u64 (u : Int) ∧ s = .string r ∧ u < 18446744073709551616 ∧ Hid (decDigits v = decDigits u ++ L r) ∧ Hid (Below w.heap.size w wr)) (fun n _ _ => (RowKit.intOf n).toNat)
  case atStart => exact ⟨v, ⟨#[]⟩, rfl, rfl, hv, hid (by simp [L]), hid (Below.refl _ _)⟩
  case round =>
    obtain ⟨u, r, rfl, rfl, hu, H, HB⟩ := hrel
    have hr : r.size ≤ 20 := by
      have h := congrArg List.length H.out
      rw [List.length_append, L_length] at h
      omega
    obtain ⟨q, hq⟩ : ∃ q : Int, (u : Int) / 10 = q := ⟨_, rfl⟩
    obtain ⟨m, hm⟩ : ∃ m : Int, (u : Int) % 10 = m := ⟨_, rfl⟩
    have hm0 : 0 ≤ m := by omega
    have hm1 : m < 10 := by omega
    have hq0 : 0 ≤ q := by omega
    have hq1 : q < 18446744073709551616 := by omega
    obtain ⟨c1, hc1⟩ : ∃ c1 : ByteArray, c1 = ⟨#[UInt8.ofNat (48 + m).toNat]⟩ := ⟨_, rfl⟩
    have hcv := conv10 (48 + m) wr c1 hc1
    have hs1 : c1.size ≤ 1 := by rw [hc1]; exact Nat.le_refl _
    have HC : Hid (L (c1 ++ r) = UInt8.ofNat (48 + u % 10) :: L r) := hid (by
      rw [L_append, hc1, show (48 + m).toNat = 48 + u % 10 by omega]; rfl)
    have HB1 := hid (HB.out.alloc HB.out.size (.cells #[.int .u8 (48 + m)] 5))
    clear hc1
    rcases Decidable.em (q = 0) with h0 | h0
    · subst h0
      have HD : Hid (decDigits v = L (c1 ++ r)) := hid (by rw [H.out, HC.out, dec_small (by omega), show u % 10 = u by omega]; rfl)
      go_wp2
      go_ret
      exact ⟨_, rfl, HD.out.symm, HB1.out⟩
    · have hz : (q == 0) = false := beq_eq_false_iff_ne.2 h0
      have HD : Hid (decDigits v = decDigits (u / 10) ++ L (c1 ++ r)) := hid (by rw [H.out, HC.out, dec_big (by omega)]; simp)
      go_wp2
      go_roundw
      case rel => exact ⟨u / 10, _, by rw [← hq]; congr 1, rfl, by omega, HD, HB1⟩
      case measure => simp only [RowKit.intOf]; omega
theorem digits10_at (v : Nat) (x : Int) (w : World) (hx : x = (v : Int)) (hv : v < 18446744073709551616) :
    Calls Tryz.prog 59 #[.int .u64 x] w (TellsL (decDigits v) w) := by
  subst hx
  exact digits10 v w hv
set_option maxRecDepth 100000 in
theorem ballot10 (v : Nat) (w : World) (hv : v < 4294967296) :
    Calls Tryz.prog 60 #[.int .u32 (v : Int)] w (TellsL (decDigits (v / 8) ++ (46 :: decDigits (v % 8))) w) := by
  go_enter Tryz.func60, Tryz.ntmps60
  go_wp2_with fail
  refine (digits10_at (v / 8) _ _ ?_ (by omega)).mono ?_
  case' refine_2 =>
    rintro e w1 ⟨r1, rfl, h1, hb1⟩
    have hz1 := size_of_L h1 (dec_len7 (v := v / 8) (by omega))
    have H1 := hid h1
    have B1 := hid hb1
    clear h1 hb1
    go_wp2_with fail
    refine (digits10_at (v % 8) _ _ ?_ (by omega)).mono ?_
    case' refine_2 =>
      rintro e w2 ⟨r2, rfl, h2, hb2⟩
      have hz2 := size_of_L h2 (dec_len7 (v := v % 8) (by omega))
      have H2 := hid h2
      have B2 := hid (B1.out.trans (hb2.mono B1.out.size))
      clear h2 hb2
      go_wp2
      go_ret
      exact ⟨_, rfl, by rw [L_append, L_append, H1.out, H2.out]; simp [L], B2.out⟩
  all_goals simp [IntKind.wrap, IntKind.bits, IntKind.signed]
  all_goals omega
end Go.Proofs.YtohffiehmmcgbaaGreatDoor
namespace Go.Proofs.YtohffiehmmcgbaaGreatDoor
open Go.ChangeShapes Go.WideShapes Go.ChangeAt Go.WideMaps Go.WideElems Go.RowKit Go.Lib
theorem cells_of_strs {H : Type} {enc : TypeId × Value → H} {P : Program} {w : World} {base : Nat} {sp : Nat → Bool} {held : Bool} {fuel : Nat} {t e : TypeId} {n : Nat} {cs : List Value} {zs : List (List UInt8)} {p : List MemPlace}
    (ht : P.underlying t = some (.array n e)) (he : P.underlying e = some .string) (hce : P.cellsOf e = 1) (hct : P.cellsOf t = n)
    (h : DataW.trod enc P w base sp held fuel t cs = some (.agg (zs.map fun z => .lit (.string z)), p)) : cs = zs.map fun z => Value.string (mk z) := by
  obtain ⟨xs, m, _, hx, hl, hn, hi⟩ := DataW.trod_array ht h
  rw [hct] at hl
  simp only [Prod.mk.injEq, DataW.agg.injEq] at hx
  obtain ⟨hx, _⟩ := hx
  have hzl : zs.length = n := by
    have := congrArg List.length hx
    simp at this
    omega
  apply List.ext_getElem?
  intro i
  by_cases hb : i < n
  · have h0 := hi i hb
    rw [hce, Nat.mul_one] at h0
    obtain ⟨b, hb2⟩ : ∃ b, xs[i]? = some b := ⟨xs[i]'(by omega), by simp [hn, hb]⟩
    rw [hb2] at h0
    obtain ⟨s, hc, rfl, _⟩ := DataW.trod_string he h0
    have h1 : cs[i]? = some (.string s) := by
      have := congrArg (·[0]?) hc
      simpa [List.getElem?_take, List.getElem?_drop] using this
    have h2 : (xs.map (·.1))[i]? = some (DataW.lit (.string s.data.toList) : DataW H) := by simp [hb2]
    rw [← hx] at h2
    simp only [List.getElem?_map, Option.map_eq_some_iff, DataW.lit.injEq, Lit.string.injEq] at h2
    obtain ⟨z', hz', hz2⟩ := h2
    have h3 : mk z' = s := by rw [hz2]; exact mk_L s
    simp [h1, hz', h3]
  · rw [List.getElem?_eq_none (by omega), List.getElem?_eq_none (by simp; omega)]
def statL : Nat → List UInt8
  | 0 => [110, 111, 110, 101]
  | 1 => [112, 114, 101]
  | 2 => [97, 99, 99, 101, 112, 116, 101, 100]
  | _ => [99, 111, 109, 109, 105, 116, 116, 101, 100]
def StatsIs (w : World) : Prop := w.var? Tryz.prog "moothill/inst.names" = some #[.string (mk (statL 0)), .string (mk (statL 1)), .string (mk (statL 2)), .string (mk (statL 3))]
abbrev laid10 : List (String × DataW Unit) := [("math/bits.deBruijn32tab", Rows.laid_math_bits_deBruijn32tab), ("math/bits.deBruijn64tab", Rows.laid_math_bits_deBruijn64tab), ("internal/strconv.uint64pow10", Rows.laid_internal_strconv_uint64pow10), ("unicode/utf8.acceptRanges", Rows.laid_unicode_utf8_acceptRanges), ("strconv.ErrRange", Rows.laid_strconv_ErrRange), ("strconv.ErrSyntax", Rows.laid_strconv_ErrSyntax), ("moothill/cmd.names", Rows.laid_moothill_cmd_names), ("moothill/cmd.parts", Rows.laid_moothill_cmd_parts), ("moothill/inst.names", Rows.laid_moothill_inst_names), ("unicode/utf8.first", Rows.laid_unicode_utf8_first)]
theorem gPow10 : Tryz.prog.globalNamed "internal/strconv.uint64pow10" = some 5 := by kernel_rfl
theorem gSyn10 : Tryz.prog.globalNamed "strconv.ErrSyntax" = some 6 := by kernel_rfl
theorem gRan10 : Tryz.prog.globalNamed "strconv.ErrRange" = some 7 := by kernel_rfl
theorem gNam10 : Tryz.prog.globalNamed "moothill/cmd.names" = some 1 := by kernel_rfl
theorem gSta10 : Tryz.prog.globalNamed "moothill/inst.names" = some 0 := by kernel_rfl
theorem tPow10 : (Tryz.prog.globals[5]?).map (·.type) = some 231 := by kernel_rfl
theorem tSyn10 : (Tryz.prog.globals[6]?).map (·.type) = some 150 := by kernel_rfl
theorem tRan10 : (Tryz.prog.globals[7]?).map (·.type) = some 150 := by kernel_rfl
theorem tNam10 : (Tryz.prog.globals[1]?).map (·.type) = some 106 := by kernel_rfl
theorem tSta10 : (Tryz.prog.globals[0]?).map (·.type) = some 99 := by kernel_rfl
theorem tabPow10 : (Rows.laid_internal_strconv_uint64pow10 : DataW Unit) = tabData .u64 pow10Tab := by kernel_rfl
theorem tabNam10 : (Rows.laid_moothill_cmd_names : DataW Unit) = .agg (([nameL 0, nameL 1, nameL 2, nameL 3, nameL 4, nameL 5, nameL 6, nameL 7, nameL 8] : List (List UInt8)).map fun z => .lit (.string z)) := by kernel_rfl
theorem tabSta10 : (Rows.laid_moothill_inst_names : DataW Unit) = .agg (([statL 0, statL 1, statL 2, statL 3] : List (List UInt8)).map fun z => .lit (.string z)) := by kernel_rfl
set_option maxRecDepth 100000 in
theorem of_laid10 {W : World} (h : laidMetH Tryz.prog laid10 W) : Laid7 W ∧ StatsIs W := by
  rw [MakeChecks.laidMetH_plain _ _ _ (by kernel_rfl)] at h
  obtain ⟨ps, ⟨g0, t0, cs0, f0, p0, q0, hg0, ht0, hv0, hd0, ⟨g1, t1, cs1, f1, p1, q1, hg1, ht1, hv1, hd1, ⟨g2, t2, cs2, f2, p2, q2, hg2, ht2, hv2, hd2, ⟨gA, tA, csA, fA, pA, qA, hgA, htA, hvA, hdA, ⟨g3, t3, cs3, f3, p3, q3, hg3, ht3, hv3, hd3, ⟨g4, t4, cs4, f4, p4, q4, hg4, ht4, hv4, hd4, ⟨g5, t5, cs5, f5, p5, q5, hg5, ht5, hv5, hd5, ⟨g6, t6, cs6, f6, p6, q6, hg6, ht6, hv6, hd6, ⟨g7, t7, cs7, f7, p7, q7, hg7, ht7, hv7, hd7, ⟨gB, tB, csB, fB, pB, qB, hgB, htB, hvB, hdB, _, _⟩, _⟩, _⟩, _⟩, _⟩, _⟩, _⟩, _⟩, _⟩, _⟩, _, _⟩ := h
  obtain rfl := Option.some.inj (gPow10.symm.trans hg2)
  obtain rfl := Option.some.inj (tPow10.symm.trans ht2)
  obtain rfl := Option.some.inj (gRan10.symm.trans hg3)
  obtain rfl := Option.some.inj (tRan10.symm.trans ht3)
  obtain rfl := Option.some.inj (gSyn10.symm.trans hg4)
  obtain rfl := Option.some.inj (tSyn10.symm.trans ht4)
  obtain rfl := Option.some.inj (gNam10.symm.trans hg5)
  obtain rfl := Option.some.inj (tNam10.symm.trans ht5)
  obtain rfl := Option.some.inj (gParts.symm.trans hg6)
  obtain rfl := Option.some.inj (tParts.symm.trans ht6)
  obtain rfl := Option.some.inj (gSta10.symm.trans hg7)
  obtain rfl := Option.some.inj (tSta10.symm.trans ht7)
  rw [tabPow10] at hd2
  rw [tabNam10] at hd5
  rw [tab_parts] at hd6
  rw [tabSta10] at hd7
  have e2 := cells_of_tab Tryz.underlying231 Tryz.underlying28 (by kernel_rfl) (by kernel_rfl) hd2
  obtain ⟨_, u3, v3, e3, _, _⟩ := iface_of_trod Tryz.underlying150 hd3
  obtain ⟨_, u4, v4, e4, _, _⟩ := iface_of_trod Tryz.underlying150 hd4
  have e5 := cells_of_strs Tryz.underlying106 Tryz.underlying9 (by kernel_rfl) (by kernel_rfl) hd5
  have e6 := cells_of_tab Tryz.underlying154 Tryz.underlying108 (by kernel_rfl) (by kernel_rfl) hd6
  have e7 := cells_of_strs Tryz.underlying99 Tryz.underlying9 (by kernel_rfl) (by kernel_rfl) hd7
  refine ⟨⟨?_, ?_, ?_, ⟨u4, v4, ?_⟩, u3, v3, ?_⟩, ?_⟩
  · unfold PartsIs
    rw [hv6]
    congr 1
    exact Array.toList_inj.1 e6
  · unfold NamesIs
    rw [hv5]
    congr 1
    exact Array.toList_inj.1 e5
  · unfold PowIs TabIs
    rw [hv2, ← e2]
  · rw [hv4, ← Array.eq_one_of_toList e4]
  · rw [hv3, ← Array.eq_one_of_toList e3]
  · unfold StatsIs
    rw [hv7]
    congr 1
    exact Array.toList_inj.1 e7
theorem laid_met10 (os : Os) (args : Array Value) : laidMetH Tryz.prog laid10 ((World.laidAll Tryz.prog os laid10).forCall (fun _ _ => 0) ⟨#[], args, []⟩).memory := by
  rw [MakeChecks.laidMetH_plain _ _ _ (by kernel_rfl)]
  exact laidMet_laidAll _ (by kernel_rfl) (by kernel_rfl)
theorem shaped10 (os : Os) : (World.laidAll Tryz.prog os laid10).Shaped Tryz.prog := World.shaped_of_ZipB (by kernel_rfl) (by kernel_rfl)
end Go.Proofs.YtohffiehmmcgbaaGreatDoor
namespace Go.Proofs.YtohffiehmmcgbaaGreatDoor
open Go.ChangeShapes Go.WideShapes Go.ChangeAt Go.RowKit Go.Lib
set_option linter.unusedVariables false
set_option linter.unusedSimpArgs false
def statOf (l : List UInt8) : Int := if l = statL 0 then 0 else if l = statL 1 then 1 else if l = statL 2 then 2 else if l = statL 3 then 3 else -1
theorem statOf_none {l : List UInt8} (h : ∀ j : Nat, j < 4 → l ≠ statL j) : statOf l = -1 := by
  unfold statOf
  rw [if_neg (h 0 (by omega)), if_neg (h 1 (by omega)), if_neg (h 2 (by omega)), if_neg (h 3 (by omega))]
theorem statOf_at {l : List UInt8} {j : Nat} (h : l = statL j) (hj : j < 4) : statOf l = (j : Int) := by
  subst h
  have : j = 0 ∨ j = 1 ∨ j = 2 ∨ j = 3 := by omega
  rcases this with rfl | rfl | rfl | rfl <;> decide
theorem stats_cell {w : World} (h : StatsIs w) (k : Nat) (hk : k < 4) : w.cell? ⟨0, k, none⟩ = some (.string (mk (statL k))) := by
  have h1 : w.cell? ⟨0, k, none⟩ = (#[.string (mk (statL 0)), .string (mk (statL 1)), .string (mk (statL 2)), .string (mk (statL 3))] : Array Value)[k]? := World.var?_cell gSta10 h k
  rw [h1]
  have : k = 0 ∨ k = 1 ∨ k = 2 ∨ k = 3 := by omega
  rcases this with rfl | rfl | rfl | rfl <;> rfl
set_option maxRecDepth 100000 in
set_option maxHeartbeats 2000000 in
theorem statusof_any (s : ByteArray) (w : World) (hN : StatsIs w) :
    Calls Tryz.prog 119 #[.string s] w fun e w' => e = .returned (.int .i64 (statOf (L s))) ∧ Below w.heap.size w w' := by
  have d0 := stats_cell hN 0 (by omega)
  have d1 := stats_cell hN 1 (by omega)
  have d2 := stats_cell hN 2 (by omega)
  have d3 := stats_cell hN 3 (by omega)
  obtain ⟨n0, e0⟩ : ∃ x, mk (statL 0) = x := ⟨_, rfl⟩
  obtain ⟨n1, e1⟩ : ∃ x, mk (statL 1) = x := ⟨_, rfl⟩
  obtain ⟨n2, e2⟩ : ∃ x, mk (statL 2) = x := ⟨_, rfl⟩
  obtain ⟨n3, e3⟩ : ∃ x, mk (statL 3) = x := ⟨_, rfl⟩
  rw [e0] at d0; rw [e1] at d1; rw [e2] at d2; rw [e3] at d3
  have E0 := hid e0; have E1 := hid e1; have E2 := hid e2; have E3 := hid e3
  clear e0 e1 e2 e3 hN
  go_enter Tryz.func119, Tryz.ntmps119
  go_wp2
  clear d0 d1 d2 d3
  go_loopw [6] (fun nv wr => ∃ i : Nat, nv = .int .i64 (i : Int) ∧ i ≤ 4 ∧ Hid (∀ j : Nat, j < i → L s ≠ statL j) ∧ Hid (Below w.heap.size w wr)) (fun nv _ => 4 - (RowKit.intOf nv).toNat)
  case atStart => exact ⟨0, rfl, by omega, hid (fun j hj => by omega), hid (Below.refl _ _)⟩
  case round =>
    obtain ⟨i, rfl, hi, HN, HB⟩ := hrel
    have : i = 0 ∨ i = 1 ∨ i = 2 ∨ i = 3 ∨ i = 4 := by omega
    rcases this with rfl | rfl | rfl | rfl | rfl
    · have IX : ∀ W, (Instr.index 99 (.agg #[.string n0, .string n1, .string n2, .string n3]) (.int .i64 0)).run Tryz.prog W = .ok (.string n0) W := fun W => by kernel_rfl
      have IY : ∀ W, (Instr.index 99 (.agg #[.string n0, .string n1, .string n2, .string n3]) (.int .i64 ((0 : Nat) : Int))).run Tryz.prog W = .ok (.string n0) W := fun W => by kernel_rfl
      rcases Decidable.em (s = n0) with h | h
      · subst h
        have HK : Hid (statOf (L s) = 0) := hid (by rw [← E0.out]; exact statOf_at (j := 0) (L_mk7 _) (by omega))
        clear HN
        go_wp2
        go_ret
        exact ⟨by rw [HK.out]; rfl, HB.out⟩
      · obtain ⟨h1, h2⟩ := spell_no (Ne.symm h)
        have HN2 : Hid (∀ j : Nat, j < 1 → L s ≠ statL j) := hid (fun j hj e => by
          rcases Nat.lt_or_ge j 0 with hl | hl
          · exact HN.out j hl e
          · obtain rfl : j = 0 := by omega
            exact h (L_inj.1 (by rw [← E0.out, L_mk7]; exact e)))
        clear h HN
        go_wp2
        go_roundw
        case rel => exact ⟨1, by first | rfl | go_num, by omega, HN2, HB⟩
        case measure => simp only [RowKit.intOf]; omega
    · have IX : ∀ W, (Instr.index 99 (.agg #[.string n0, .string n1, .string n2, .string n3]) (.int .i64 1)).run Tryz.prog W = .ok (.string n1) W := fun W => by kernel_rfl
      have IY : ∀ W, (Instr.index 99 (.agg #[.string n0, .string n1, .string n2, .string n3]) (.int .i64 ((1 : Nat) : Int))).run Tryz.prog W = .ok (.string n1) W := fun W => by kernel_rfl
      rcases Decidable.em (s = n1) with h | h
      · subst h
        have HK : Hid (statOf (L s) = 1) := hid (by rw [← E1.out]; exact statOf_at (j := 1) (L_mk7 _) (by omega))
        clear HN
        go_wp2
        go_ret
        exact ⟨by rw [HK.out]; rfl, HB.out⟩
      · obtain ⟨h1, h2⟩ := spell_no (Ne.symm h)
        have HN2 : Hid (∀ j : Nat, j < 2 → L s ≠ statL j) := hid (fun j hj e => by
          rcases Nat.lt_or_ge j 1 with hl | hl
          · exact HN.out j hl e
          · obtain rfl : j = 1 := by omega
            exact h (L_inj.1 (by rw [← E1.out, L_mk7]; exact e)))
        clear h HN
        go_wp2
        go_roundw
        case rel => exact ⟨2, by first | rfl | go_num, by omega, HN2, HB⟩
        case measure => simp only [RowKit.intOf]; omega
    · have IX : ∀ W, (Instr.index 99 (.agg #[.string n0, .string n1, .string n2, .string n3]) (.int .i64 2)).run Tryz.prog W = .ok (.string n2) W := fun W => by kernel_rfl
      have IY : ∀ W, (Instr.index 99 (.agg #[.string n0, .string n1, .string n2, .string n3]) (.int .i64 ((2 : Nat) : Int))).run Tryz.prog W = .ok (.string n2) W := fun W => by kernel_rfl
      rcases Decidable.em (s = n2) with h | h
      · subst h
        have HK : Hid (statOf (L s) = 2) := hid (by rw [← E2.out]; exact statOf_at (j := 2) (L_mk7 _) (by omega))
        clear HN
        go_wp2
        go_ret
        exact ⟨by rw [HK.out]; rfl, HB.out⟩
      · obtain ⟨h1, h2⟩ := spell_no (Ne.symm h)
        have HN2 : Hid (∀ j : Nat, j < 3 → L s ≠ statL j) := hid (fun j hj e => by
          rcases Nat.lt_or_ge j 2 with hl | hl
          · exact HN.out j hl e
          · obtain rfl : j = 2 := by omega
            exact h (L_inj.1 (by rw [← E2.out, L_mk7]; exact e)))
        clear h HN
        go_wp2
        go_roundw
        case rel => exact ⟨3, by first | rfl | go_num, by omega, HN2, HB⟩
        case measure => simp only [RowKit.intOf]; omega
    · have IX : ∀ W, (Instr.index 99 (.agg #[.string n0, .string n1, .string n2, .string n3]) (.int .i64 3)).run Tryz.prog W = .ok (.string n3) W := fun W => by kernel_rfl
      have IY : ∀ W, (Instr.index 99 (.agg #[.string n0, .string n1, .string n2, .string n3]) (.int .i64 ((3 : Nat) : Int))).run Tryz.prog W = .ok (.string n3) W := fun W => by kernel_rfl
      rcases Decidable.em (s = n3) with h | h
      · subst h
        have HK : Hid (statOf (L s) = 3) := hid (by rw [← E3.out]; exact statOf_at (j := 3) (L_mk7 _) (by omega))
        clear HN
        go_wp2
        go_ret
        exact ⟨by rw [HK.out]; rfl, HB.out⟩
      · obtain ⟨h1, h2⟩ := spell_no (Ne.symm h)
        have HN2 : Hid (∀ j : Nat, j < 4 → L s ≠ statL j) := hid (fun j hj e => by
          rcases Nat.lt_or_ge j 3 with hl | hl
          · exact HN.out j hl e
          · obtain rfl : j = 3 := by omega
            exact h (L_inj.1 (by rw [← E3.out, L_mk7]; exact e)))
        clear h HN
        go_wp2
        go_roundw
        case rel => exact ⟨4, by first | rfl | go_num, by omega, HN2, HB⟩
        case measure => simp only [RowKit.intOf]; omega
    · have HK : Hid (statOf (L s) = -1) := hid (statOf_none (fun j hj => HN.out j hj))
      clear HN
      go_wp2
      go_ret
      exact ⟨by rw [HK.out]; rfl, HB.out⟩
end Go.Proofs.YtohffiehmmcgbaaGreatDoor
