/-
  The law's own digits (package cmd).
-/
import Derived.Test.YtohffiehmmcgbaaGreatDoorXKRead
import Derived.Test.YtohffiehmmcgbaaGreatDoorXE
import Derived.LoopTactic
import Derived.Test.YtohffiehmmcgbaaGreatDoorXH
import Derived.Test.YtohffiehmmcgbaaGreatDoorXK
import Derived.Lay
import Derived.Test.YtohffiehmmcgbaaGreatDoorXN
namespace Go.Proofs.YtohffiehmmcgbaaGreatDoor
open Go.ChangeShapes Go.WideShapes Go.ChangeAt Go.RowKit Go.Lib
set_option linter.unusedSimpArgs false
set_option linter.unusedVariables false
theorem conv10 (y : Int) (w : World) (c : ByteArray) (hc : c = ⟨#[UInt8.ofNat y.toNat]⟩) :
    (convert 22 9 (.slice (some ⟨w.heap.size, 0, none⟩) 1 1)).run Tryz.prog (w.alloc (.cells #[.int .u8 y] 5)) = .ok (.string c) (w.alloc (.cells #[.int .u8 y] 5)) := by
  subst hc
  refine run_convert_bytes_arg _ 22 5 Tryz.underlying22 Tryz.underlying5 w.heap.size 0 1 1 [y] rfl ?_ 9 Tryz.underlying9
  intro i hi
  obtain rfl : i = 0 := by omega
  rw [(Blk.new w 5 #[.int .u8 y]).cell]
  rfl
end Go.Proofs.YtohffiehmmcgbaaGreatDoor
namespace Go.Proofs.YtohffiehmmcgbaaGreatDoor
open Go.ChangeShapes Go.WideShapes Go.ChangeAt Go.WideMaps Go.WideElems Go.RowKit Go.Lib
theorem cells_of_strs {H : Type} {enc : TypeId × Value → H} {P : Program} {w : World} {base : Nat} {sp : Nat → Bool} {held : Bool} {fuel : Nat} {t e : TypeId} {n : Nat} {cs : List Value} {zs : List (List UInt8)} {p : List MemPlace}
    (ht : P.underlying t = some (.array n e)) (he : P.underlying e = some .string) (hce : P.cellsOf e = 1) (hct : P.cellsOf t = n)
    (h : DataW.trod enc P w base sp held fuel t cs = some (.agg (zs.map fun z => .lit (.string z)), p)) : cs = zs.map fun z => Value.string (mk z) := by
  obtain ⟨xs, m, _, hx, hl, hn, hi⟩ := DataW.trod_array ht h
  rw [hct] at hl
  simp only [Prod.mk.injEq, DataW.agg.injEq] at hx
  obtain ⟨hx, _⟩ := hx
  have hzl : zs.length = n := by
    have := congrArg List.length hx
    simp at this
    omega
  apply List.ext_getElem?
  intro i
  by_cases hb : i < n
  · have h0 := hi i hb
    rw [hce, Nat.mul_one] at h0
    obtain ⟨b, hb2⟩ : ∃ b, xs[i]? = some b := ⟨xs[i]'(by omega), by simp [hn, hb]⟩
    rw [hb2] at h0
    obtain ⟨s, hc, rfl, _⟩ := DataW.trod_string he h0
    have h1 : cs[i]? = some (.string s) := by
      have := congrArg (·[0]?) hc
      simpa [List.getElem?_take, List.getElem?_drop] using this
    have h2 : (xs.map (·.1))[i]? = some (DataW.lit (.string s.data.toList) : DataW H) := by simp [hb2]
    rw [← hx] at h2
    simp only [List.getElem?_map, Option.map_eq_some_iff, DataW.lit.injEq, Lit.string.injEq] at h2
    obtain ⟨z', hz', hz2⟩ := h2
    have h3 : mk z' = s := by rw [hz2]; exact mk_L s
    simp [h1, hz', h3]
  · rw [List.getElem?_eq_none (by omega), List.getElem?_eq_none (by simp; omega)]
def statL : Nat → List UInt8
  | 0 => [110, 111, 110, 101]
  | 1 => [112, 114, 101]
  | 2 => [97, 99, 99, 101, 112, 116, 101, 100]
  | _ => [99, 111, 109, 109, 105, 116, 116, 101, 100]
def StatsIs (w : World) : Prop := w.var? Tryz.prog "moothill/inst.names" = some #[.string (mk (statL 0)), .string (mk (statL 1)), .string (mk (statL 2)), .string (mk (statL 3))]
theorem gPow10 : Tryz.prog.globalNamed "internal/strconv.uint64pow10" = some 5 := by kernel_rfl
theorem gSyn10 : Tryz.prog.globalNamed "strconv.ErrSyntax" = some 6 := by kernel_rfl
theorem gRan10 : Tryz.prog.globalNamed "strconv.ErrRange" = some 7 := by kernel_rfl
theorem gNam10 : Tryz.prog.globalNamed "moothill/cmd.names" = some 1 := by kernel_rfl
theorem gSta10 : Tryz.prog.globalNamed "moothill/inst.names" = some 0 := by kernel_rfl
theorem tPow10 : (Tryz.prog.globals[5]?).map (·.type) = some 231 := by kernel_rfl
theorem tSyn10 : (Tryz.prog.globals[6]?).map (·.type) = some 150 := by kernel_rfl
theorem tRan10 : (Tryz.prog.globals[7]?).map (·.type) = some 150 := by kernel_rfl
theorem tNam10 : (Tryz.prog.globals[1]?).map (·.type) = some 106 := by kernel_rfl
theorem tSta10 : (Tryz.prog.globals[0]?).map (·.type) = some 99 := by kernel_rfl
theorem tabPow10 : (Rows.laid_internal_strconv_uint64pow10 : DataW Unit) = tabData .u64 pow10Tab := by kernel_rfl
theorem tabNam10 : (Rows.laid_moothill_cmd_names : DataW Unit) = .agg (([nameL 0, nameL 1, nameL 2, nameL 3, nameL 4, nameL 5, nameL 6, nameL 7, nameL 8] : List (List UInt8)).map fun z => .lit (.string z)) := by kernel_rfl
theorem tabSta10 : (Rows.laid_moothill_inst_names : DataW Unit) = .agg (([statL 0, statL 1, statL 2, statL 3] : List (List UInt8)).map fun z => .lit (.string z)) := by kernel_rfl
end Go.Proofs.YtohffiehmmcgbaaGreatDoor
namespace Go.Proofs.YtohffiehmmcgbaaGreatDoor
open Go.ChangeShapes Go.WideShapes Go.ChangeAt Go.RowKit Go.Lib
set_option linter.unusedVariables false
set_option linter.unusedSimpArgs false
def statOf (l : List UInt8) : Int := if l = statL 0 then 0 else if l = statL 1 then 1 else if l = statL 2 then 2 else if l = statL 3 then 3 else -1
theorem statOf_none {l : List UInt8} (h : ∀ j : Nat, j < 4 → l ≠ statL j) : statOf l = -1 := by
  unfold statOf
  rw [if_neg (h 0 (by omega)), if_neg (h 1 (by omega)), if_neg (h 2 (by omega)), if_neg (h 3 (by omega))]
theorem statOf_at {l : List UInt8} {j : Nat} (h : l = statL j) (hj : j < 4) : statOf l = (j : Int) := by
  subst h
  have : j = 0 ∨ j = 1 ∨ j = 2 ∨ j = 3 := by omega
  rcases this with rfl | rfl | rfl | rfl <;> decide
theorem stats_cell {w : World} (h : StatsIs w) (k : Nat) (hk : k < 4) : w.cell? ⟨0, k, none⟩ = some (.string (mk (statL k))) := by
  have h1 : w.cell? ⟨0, k, none⟩ = (#[.string (mk (statL 0)), .string (mk (statL 1)), .string (mk (statL 2)), .string (mk (statL 3))] : Array Value)[k]? := World.var?_cell gSta10 h k
  rw [h1]
  have : k = 0 ∨ k = 1 ∨ k = 2 ∨ k = 3 := by omega
  rcases this with rfl | rfl | rfl | rfl <;> rfl
set_option maxRecDepth 100000 in
set_option maxHeartbeats 2000000 in
theorem statusof_any (s : ByteArray) (w : World) (hN : StatsIs w) :
    Calls Tryz.prog 119 #[.string s] w fun e w' => e = .returned (.int .i64 (statOf (L s))) ∧ Below w.heap.size w w' := by
  have d0 := stats_cell hN 0 (by omega)
  have d1 := stats_cell hN 1 (by omega)
  have d2 := stats_cell hN 2 (by omega)
  have d3 := stats_cell hN 3 (by omega)
  obtain ⟨n0, e0⟩ : ∃ x, mk (statL 0) = x := ⟨_, rfl⟩
  obtain ⟨n1, e1⟩ : ∃ x, mk (statL 1) = x := ⟨_, rfl⟩
  obtain ⟨n2, e2⟩ : ∃ x, mk (statL 2) = x := ⟨_, rfl⟩
  obtain ⟨n3, e3⟩ : ∃ x, mk (statL 3) = x := ⟨_, rfl⟩
  rw [e0] at d0; rw [e1] at d1; rw [e2] at d2; rw [e3] at d3
  have E0 := hid e0; have E1 := hid e1; have E2 := hid e2; have E3 := hid e3
  clear e0 e1 e2 e3 hN
  go_enter Tryz.func119, Tryz.ntmps119
  go_wp2
  clear d0 d1 d2 d3
  go_loopw [6] (fun nv wr => ∃ i : Nat, nv = .int .i64 (i : Int) ∧ i ≤ 4 ∧ Hid (∀ j : Nat, j < i → L s ≠ statL j) ∧ Hid (Below w.heap.size w wr)) (fun nv _ => 4 - (RowKit.intOf nv).toNat)
  case atStart => exact ⟨0, rfl, by omega, hid (fun j hj => by omega), hid (Below.refl _ _)⟩
  case round =>
    obtain ⟨i, rfl, hi, HN, HB⟩ := hrel
    have : i = 0 ∨ i = 1 ∨ i = 2 ∨ i = 3 ∨ i = 4 := by omega
    rcases this with rfl | rfl | rfl | rfl | rfl
    · have IX : ∀ W, (Instr.index 99 (.agg #[.string n0, .string n1, .string n2, .string n3]) (.int .i64 0)).run Tryz.prog W = .ok (.string n0) W := fun W => by kernel_rfl
      have IY : ∀ W, (Instr.index 99 (.agg #[.string n0, .string n1, .string n2, .string n3]) (.int .i64 ((0 : Nat) : Int))).run Tryz.prog W = .ok (.string n0) W := fun W => by kernel_rfl
      rcases Decidable.em (s = n0) with h | h
      · subst h
        have HK : Hid (statOf (L s) = 0) := hid (by rw [← E0.out]; exact statOf_at (j := 0) (L_mk7 _) (by omega))
        clear HN
        go_wp2
        go_ret
        exact ⟨by rw [HK.out]; rfl, HB.out⟩
      · obtain ⟨h1, h2⟩ := spell_no (Ne.symm h)
        have HN2 : Hid (∀ j : Nat, j < 1 → L s ≠ statL j) := hid (fun j hj e => by
          rcases Nat.lt_or_ge j 0 with hl | hl
          · exact HN.out j hl e
          · obtain rfl : j = 0 := by omega
            exact h (L_inj.1 (by rw [← E0.out, L_mk7]; exact e)))
        clear h HN
        go_wp2
        go_roundw
        case rel => exact ⟨1, by first | rfl | go_num, by omega, HN2, HB⟩
        case measure => simp only [RowKit.intOf]; omega
    · have IX : ∀ W, (Instr.index 99 (.agg #[.string n0, .string n1, .string n2, .string n3]) (.int .i64 1)).run Tryz.prog W = .ok (.string n1) W := fun W => by kernel_rfl
      have IY : ∀ W, (Instr.index 99 (.agg #[.string n0, .string n1, .string n2, .string n3]) (.int .i64 ((1 : Nat) : Int))).run Tryz.prog W = .ok (.string n1) W := fun W => by kernel_rfl
      rcases Decidable.em (s = n1) with h | h
      · subst h
        have HK : Hid (statOf (L s) = 1) := hid (by rw [← E1.out]; exact statOf_at (j := 1) (L_mk7 _) (by omega))
        clear HN
        go_wp2
        go_ret
        exact ⟨by rw [HK.out]; rfl, HB.out⟩
      · obtain ⟨h1, h2⟩ := spell_no (Ne.symm h)
        have HN2 : Hid (∀ j : Nat, j < 2 → L s ≠ statL j) := hid (fun j hj e => by
          rcases Nat.lt_or_ge j 1 with hl | hl
          · exact HN.out j hl e
          · obtain rfl : j = 1 := by omega
            exact h (L_inj.1 (by rw [← E1.out, L_mk7]; exact e)))
        clear h HN
        go_wp2
        go_roundw
        case rel => exact ⟨2, by first | rfl | go_num, by omega, HN2, HB⟩
        case measure => simp only [RowKit.intOf]; omega
    · have IX : ∀ W, (Instr.index 99 (.agg #[.string n0, .string n1, .string n2, .string n3]) (.int .i64 2)).run Tryz.prog W = .ok (.string n2) W := fun W => by kernel_rfl
      have IY : ∀ W, (Instr.index 99 (.agg #[.string n0, .string n1, .string n2, .string n3]) (.int .i64 ((2 : Nat) : Int))).run Tryz.prog W = .ok (.string n2) W := fun W => by kernel_rfl
      rcases Decidable.em (s = n2) with h | h
      · subst h
        have HK : Hid (statOf (L s) = 2) := hid (by rw [← E2.out]; exact statOf_at (j := 2) (L_mk7 _) (by omega))
        clear HN
        go_wp2
        go_ret
        exact ⟨by rw [HK.out]; rfl, HB.out⟩
      · obtain ⟨h1, h2⟩ := spell_no (Ne.symm h)
        have HN2 : Hid (∀ j : Nat, j < 3 → L s ≠ statL j) := hid (fun j hj e => by
          rcases Nat.lt_or_ge j 2 with hl | hl
          · exact HN.out j hl e
          · obtain rfl : j = 2 := by omega
            exact h (L_inj.1 (by rw [← E2.out, L_mk7]; exact e)))
        clear h HN
        go_wp2
        go_roundw
        case rel => exact ⟨3, by first | rfl | go_num, by omega, HN2, HB⟩
        case measure => simp only [RowKit.intOf]; omega
    · have IX : ∀ W, (Instr.index 99 (.agg #[.string n0, .string n1, .string n2, .string n3]) (.int .i64 3)).run Tryz.prog W = .ok (.string n3) W := fun W => by kernel_rfl
      have IY : ∀ W, (Instr.index 99 (.agg #[.string n0, .string n1, .string n2, .string n3]) (.int .i64 ((3 : Nat) : Int))).run Tryz.prog W = .ok (.string n3) W := fun W => by kernel_rfl
      rcases Decidable.em (s = n3) with h | h
      · subst h
        have HK : Hid (statOf (L s) = 3) := hid (by rw [← E3.out]; exact statOf_at (j := 3) (L_mk7 _) (by omega))
        clear HN
        go_wp2
        go_ret
        exact ⟨by rw [HK.out]; rfl, HB.out⟩
      · obtain ⟨h1, h2⟩ := spell_no (Ne.symm h)
        have HN2 : Hid (∀ j : Nat, j < 4 → L s ≠ statL j) := hid (fun j hj e => by
          rcases Nat.lt_or_ge j 3 with hl | hl
          · exact HN.out j hl e
          · obtain rfl : j = 3 := by omega
            exact h (L_inj.1 (by rw [← E3.out, L_mk7]; exact e)))
        clear h HN
        go_wp2
        go_roundw
        case rel => exact ⟨4, by first | rfl | go_num, by omega, HN2, HB⟩
        case measure => simp only [RowKit.intOf]; omega
    · have HK : Hid (statOf (L s) = -1) := hid (statOf_none (fun j hj => HN.out j hj))
      clear HN
      go_wp2
      go_ret
      exact ⟨by rw [HK.out]; rfl, HB.out⟩
end Go.Proofs.YtohffiehmmcgbaaGreatDoor
