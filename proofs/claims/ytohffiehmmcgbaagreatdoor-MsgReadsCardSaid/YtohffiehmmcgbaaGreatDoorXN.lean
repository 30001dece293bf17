/-
  Contracts of kindOf and of the closure in guess (package cmd).
-/
import Derived.Test.YtohffiehmmcgbaaGreatDoorXK
import Derived.Test.YtohffiehmmcgbaaGreatDoorXA
import Derived.LoopTactic
import Derived.Test.YtohffiehmmcgbaaGreatDoorXF
namespace Go.Proofs.YtohffiehmmcgbaaGreatDoor
open Go.ChangeShapes Go.WideShapes Go.ChangeAt Go.RowKit Go.Lib
set_option linter.unusedVariables false
set_option linter.unusedSimpArgs false
theorem kind_none {l : List UInt8} (h : ∀ j : Nat, j < 9 → l ≠ nameL (j : Int)) : kindL l = -1 := by
  have a0 : l ≠ nameL 0 := h 0 (by omega)
  have a1 : l ≠ nameL 1 := h 1 (by omega)
  have a2 : l ≠ nameL 2 := h 2 (by omega)
  have a3 : l ≠ nameL 3 := h 3 (by omega)
  have a4 : l ≠ nameL 4 := h 4 (by omega)
  have a5 : l ≠ nameL 5 := h 5 (by omega)
  have a6 : l ≠ nameL 6 := h 6 (by omega)
  have a7 : l ≠ nameL 7 := h 7 (by omega)
  have a8 : l ≠ nameL 8 := h 8 (by omega)
  unfold kindL
  rw [if_neg a0, if_neg a1, if_neg a2, if_neg a3, if_neg a4, if_neg a5, if_neg a6, if_neg a7, if_neg a8]
theorem kind_at {l : List UInt8} {j : Nat} (h : l = nameL (j : Int)) (hj : j ≤ 8) : kindL l = (j : Int) := by
  subst h
  exact kind_name _ (by omega)
theorem spell_no {y z : ByteArray} (h : y ≠ z) : (y.toList == z.toList) = false ∧ ¬ y.toList = z.toList := by
  rw [toList_L, toList_L]
  have h2 : ¬ L y = L z := fun e => h (L_inj.1 e)
  exact ⟨by rw [beq_eq_false_iff_ne]; exact h2, h2⟩
set_option maxRecDepth 100000 in
set_option maxHeartbeats 2000000 in
theorem kindof7 (s : ByteArray) (w : World) (hL : Laid7 w) :
    Calls Tryz.prog 185 #[.string s] w fun e w' => e = .returned (.int .i64 (kindL (L s))) ∧ Below w.heap.size w w' := by
  have hN := hL.2.1
  have d0 := names_cell hN 0 (by omega)
  have d1 := names_cell hN 1 (by omega)
  have d2 := names_cell hN 2 (by omega)
  have d3 := names_cell hN 3 (by omega)
  have d4 := names_cell hN 4 (by omega)
  have d5 := names_cell hN 5 (by omega)
  have d6 := names_cell hN 6 (by omega)
  have d7 := names_cell hN 7 (by omega)
  have d8 := names_cell hN 8 (by omega)
  obtain ⟨n0, e0⟩ : ∃ x, mk (nameL ((0 : Nat) : Int)) = x := ⟨_, rfl⟩
  obtain ⟨n1, e1⟩ : ∃ x, mk (nameL ((1 : Nat) : Int)) = x := ⟨_, rfl⟩
  obtain ⟨n2, e2⟩ : ∃ x, mk (nameL ((2 : Nat) : Int)) = x := ⟨_, rfl⟩
  obtain ⟨n3, e3⟩ : ∃ x, mk (nameL ((3 : Nat) : Int)) = x := ⟨_, rfl⟩
  obtain ⟨n4, e4⟩ : ∃ x, mk (nameL ((4 : Nat) : Int)) = x := ⟨_, rfl⟩
  obtain ⟨n5, e5⟩ : ∃ x, mk (nameL ((5 : Nat) : Int)) = x := ⟨_, rfl⟩
  obtain ⟨n6, e6⟩ : ∃ x, mk (nameL ((6 : Nat) : Int)) = x := ⟨_, rfl⟩
  obtain ⟨n7, e7⟩ : ∃ x, mk (nameL ((7 : Nat) : Int)) = x := ⟨_, rfl⟩
  obtain ⟨n8, e8⟩ : ∃ x, mk (nameL ((8 : Nat) : Int)) = x := ⟨_, rfl⟩
  rw [e0] at d0; rw [e1] at d1; rw [e2] at d2; rw [e3] at d3; rw [e4] at d4; rw [e5] at d5; rw [e6] at d6; rw [e7] at d7; rw [e8] at d8
  have E0 := hid e0; have E1 := hid e1; have E2 := hid e2; have E3 := hid e3; have E4 := hid e4; have E5 := hid e5; have E6 := hid e6; have E7 := hid e7; have E8 := hid e8
  clear e0 e1 e2 e3 e4 e5 e6 e7 e8 hN hL
  go_enter Tryz.func185, Tryz.ntmps185
  go_wp2
  clear d0 d1 d2 d3 d4 d5 d6 d7 d8
  go_loopw [6] (fun nv wr => ∃ i : Nat, nv = .int .i64 (i : Int) ∧ i ≤ 9 ∧ Hid (∀ j : Nat, j < i → L s ≠ nameL (j : Int)) ∧ Hid (Below w.heap.size w wr)) (fun nv _ => 9 - (RowKit.intOf nv).toNat)
  case atStart => exact ⟨0, rfl, by omega, hid (fun j hj => by omega), hid (Below.refl _ _)⟩
  case round =>
    obtain ⟨i, rfl, hi, HN, HB⟩ := hrel
    have : i = 0 ∨ i = 1 ∨ i = 2 ∨ i = 3 ∨ i = 4 ∨ i = 5 ∨ i = 6 ∨ i = 7 ∨ i = 8 ∨ i = 9 := by omega
    rcases this with rfl | rfl | rfl | rfl | rfl | rfl | rfl | rfl | rfl | rfl
    · have IX : ∀ W, (Instr.index 106 (.agg #[.string n0, .string n1, .string n2, .string n3, .string n4, .string n5, .string n6, .string n7, .string n8]) (.int .i64 0)).run Tryz.prog W = .ok (.string n0) W := fun W => by kernel_rfl
      have IY : ∀ W, (Instr.index 106 (.agg #[.string n0, .string n1, .string n2, .string n3, .string n4, .string n5, .string n6, .string n7, .string n8]) (.int .i64 ((0 : Nat) : Int))).run Tryz.prog W = .ok (.string n0) W := fun W => by kernel_rfl
      rcases Decidable.em (s = n0) with h | h
      · subst h
        have HK : Hid (kindL (L s) = 0) := hid (by rw [← E0.out]; exact kind_at (j := 0) (L_mk7 _) (by omega))
        clear HN
        go_wp2
        go_ret
        exact ⟨by rw [HK.out]; rfl, HB.out⟩
      · obtain ⟨h1, h2⟩ := spell_no (Ne.symm h)
        have HN2 : Hid (∀ j : Nat, j < 1 → L s ≠ nameL (j : Int)) := hid (fun j hj e => by
          rcases Nat.lt_or_ge j 0 with hl | hl
          · exact HN.out j hl e
          · obtain rfl : j = 0 := by omega
            exact h (L_inj.1 (by rw [← E0.out, L_mk7]; exact e)))
        clear h HN
        go_wp2
        go_roundw
        case rel => exact ⟨1, by first | rfl | go_num, by omega, HN2, HB⟩
        case measure => simp only [RowKit.intOf]; omega
    · have IX : ∀ W, (Instr.index 106 (.agg #[.string n0, .string n1, .string n2, .string n3, .string n4, .string n5, .string n6, .string n7, .string n8]) (.int .i64 1)).run Tryz.prog W = .ok (.string n1) W := fun W => by kernel_rfl
      have IY : ∀ W, (Instr.index 106 (.agg #[.string n0, .string n1, .string n2, .string n3, .string n4, .string n5, .string n6, .string n7, .string n8]) (.int .i64 ((1 : Nat) : Int))).run Tryz.prog W = .ok (.string n1) W := fun W => by kernel_rfl
      rcases Decidable.em (s = n1) with h | h
      · subst h
        have HK : Hid (kindL (L s) = 1) := hid (by rw [← E1.out]; exact kind_at (j := 1) (L_mk7 _) (by omega))
        clear HN
        go_wp2
        go_ret
        exact ⟨by rw [HK.out]; rfl, HB.out⟩
      · obtain ⟨h1, h2⟩ := spell_no (Ne.symm h)
        have HN2 : Hid (∀ j : Nat, j < 2 → L s ≠ nameL (j : Int)) := hid (fun j hj e => by
          rcases Nat.lt_or_ge j 1 with hl | hl
          · exact HN.out j hl e
          · obtain rfl : j = 1 := by omega
            exact h (L_inj.1 (by rw [← E1.out, L_mk7]; exact e)))
        clear h HN
        go_wp2
        go_roundw
        case rel => exact ⟨2, by first | rfl | go_num, by omega, HN2, HB⟩
        case measure => simp only [RowKit.intOf]; omega
    · have IX : ∀ W, (Instr.index 106 (.agg #[.string n0, .string n1, .string n2, .string n3, .string n4, .string n5, .string n6, .string n7, .string n8]) (.int .i64 2)).run Tryz.prog W = .ok (.string n2) W := fun W => by kernel_rfl
      have IY : ∀ W, (Instr.index 106 (.agg #[.string n0, .string n1, .string n2, .string n3, .string n4, .string n5, .string n6, .string n7, .string n8]) (.int .i64 ((2 : Nat) : Int))).run Tryz.prog W = .ok (.string n2) W := fun W => by kernel_rfl
      rcases Decidable.em (s = n2) with h | h
      · subst h
        have HK : Hid (kindL (L s) = 2) := hid (by rw [← E2.out]; exact kind_at (j := 2) (L_mk7 _) (by omega))
        clear HN
        go_wp2
        go_ret
        exact ⟨by rw [HK.out]; rfl, HB.out⟩
      · obtain ⟨h1, h2⟩ := spell_no (Ne.symm h)
        have HN2 : Hid (∀ j : Nat, j < 3 → L s ≠ nameL (j : Int)) := hid (fun j hj e => by
          rcases Nat.lt_or_ge j 2 with hl | hl
          · exact HN.out j hl e
          · obtain rfl : j = 2 := by omega
            exact h (L_inj.1 (by rw [← E2.out, L_mk7]; exact e)))
        clear h HN
        go_wp2
        go_roundw
        case rel => exact ⟨3, by first | rfl | go_num, by omega, HN2, HB⟩
        case measure => simp only [RowKit.intOf]; omega
    · have IX : ∀ W, (Instr.index 106 (.agg #[.string n0, .string n1, .string n2, .string n3, .string n4, .string n5, .string n6, .string n7, .string n8]) (.int .i64 3)).run Tryz.prog W = .ok (.string n3) W := fun W => by kernel_rfl
      have IY : ∀ W, (Instr.index 106 (.agg #[.string n0, .string n1, .string n2, .string n3, .string n4, .string n5, .string n6, .string n7, .string n8]) (.int .i64 ((3 : Nat) : Int))).run Tryz.prog W = .ok (.string n3) W := fun W => by kernel_rfl
      rcases Decidable.em (s = n3) with h | h
      · subst h
        have HK : Hid (kindL (L s) = 3) := hid (by rw [← E3.out]; exact kind_at (j := 3) (L_mk7 _) (by omega))
        clear HN
        go_wp2
        go_ret
        exact ⟨by rw [HK.out]; rfl, HB.out⟩
      · obtain ⟨h1, h2⟩ := spell_no (Ne.symm h)
        have HN2 : Hid (∀ j : Nat, j < 4 → L s ≠ nameL (j : Int)) := hid (fun j hj e => by
          rcases Nat.lt_or_ge j 3 with hl | hl
          · exact HN.out j hl e
          · obtain rfl : j = 3 := by omega
            exact h (L_inj.1 (by rw [← E3.out, L_mk7]; exact e)))
        clear h HN
        go_wp2
        go_roundw
        case rel => exact ⟨4, by first | rfl | go_num, by omega, HN2, HB⟩
        case measure => simp only [RowKit.intOf]; omega
    · have IX : ∀ W, (Instr.index 106 (.agg #[.string n0, .string n1, .string n2, .string n3, .string n4, .string n5, .string n6, .string n7, .string n8]) (.int .i64 4)).run Tryz.prog W = .ok (.string n4) W := fun W => by kernel_rfl
      have IY : ∀ W, (Instr.index 106 (.agg #[.string n0, .string n1, .string n2, .string n3, .string n4, .string n5, .string n6, .string n7, .string n8]) (.int .i64 ((4 : Nat) : Int))).run Tryz.prog W = .ok (.string n4) W := fun W => by kernel_rfl
      rcases Decidable.em (s = n4) with h | h
      · subst h
        have HK : Hid (kindL (L s) = 4) := hid (by rw [← E4.out]; exact kind_at (j := 4) (L_mk7 _) (by omega))
        clear HN
        go_wp2
        go_ret
        exact ⟨by rw [HK.out]; rfl, HB.out⟩
      · obtain ⟨h1, h2⟩ := spell_no (Ne.symm h)
        have HN2 : Hid (∀ j : Nat, j < 5 → L s ≠ nameL (j : Int)) := hid (fun j hj e => by
          rcases Nat.lt_or_ge j 4 with hl | hl
          · exact HN.out j hl e
          · obtain rfl : j = 4 := by omega
            exact h (L_inj.1 (by rw [← E4.out, L_mk7]; exact e)))
        clear h HN
        go_wp2
        go_roundw
        case rel => exact ⟨5, by first | rfl | go_num, by omega, HN2, HB⟩
        case measure => simp only [RowKit.intOf]; omega
    · have IX : ∀ W, (Instr.index 106 (.agg #[.string n0, .string n1, .string n2, .string n3, .string n4, .string n5, .string n6, .string n7, .string n8]) (.int .i64 5)).run Tryz.prog W = .ok (.string n5) W := fun W => by kernel_rfl
      have IY : ∀ W, (Instr.index 106 (.agg #[.string n0, .string n1, .string n2, .string n3, .string n4, .string n5, .string n6, .string n7, .string n8]) (.int .i64 ((5 : Nat) : Int))).run Tryz.prog W = .ok (.string n5) W := fun W => by kernel_rfl
      rcases Decidable.em (s = n5) with h | h
      · subst h
        have HK : Hid (kindL (L s) = 5) := hid (by rw [← E5.out]; exact kind_at (j := 5) (L_mk7 _) (by omega))
        clear HN
        go_wp2
        go_ret
        exact ⟨by rw [HK.out]; rfl, HB.out⟩
      · obtain ⟨h1, h2⟩ := spell_no (Ne.symm h)
        have HN2 : Hid (∀ j : Nat, j < 6 → L s ≠ nameL (j : Int)) := hid (fun j hj e => by
          rcases Nat.lt_or_ge j 5 with hl | hl
          · exact HN.out j hl e
          · obtain rfl : j = 5 := by omega
            exact h (L_inj.1 (by rw [← E5.out, L_mk7]; exact e)))
        clear h HN
        go_wp2
        go_roundw
        case rel => exact ⟨6, by first | rfl | go_num, by omega, HN2, HB⟩
        case measure => simp only [RowKit.intOf]; omega
    · have IX : ∀ W, (Instr.index 106 (.agg #[.string n0, .string n1, .string n2, .string n3, .string n4, .string n5, .string n6, .string n7, .string n8]) (.int .i64 6)).run Tryz.prog W = .ok (.string n6) W := fun W => by kernel_rfl
      have IY : ∀ W, (Instr.index 106 (.agg #[.string n0, .string n1, .string n2, .string n3, .string n4, .string n5, .string n6, .string n7, .string n8]) (.int .i64 ((6 : Nat) : Int))).run Tryz.prog W = .ok (.string n6) W := fun W => by kernel_rfl
      rcases Decidable.em (s = n6) with h | h
      · subst h
        have HK : Hid (kindL (L s) = 6) := hid (by rw [← E6.out]; exact kind_at (j := 6) (L_mk7 _) (by omega))
        clear HN
        go_wp2
        go_ret
        exact ⟨by rw [HK.out]; rfl, HB.out⟩
      · obtain ⟨h1, h2⟩ := spell_no (Ne.symm h)
        have HN2 : Hid (∀ j : Nat, j < 7 → L s ≠ nameL (j : Int)) := hid (fun j hj e => by
          rcases Nat.lt_or_ge j 6 with hl | hl
          · exact HN.out j hl e
          · obtain rfl : j = 6 := by omega
            exact h (L_inj.1 (by rw [← E6.out, L_mk7]; exact e)))
        clear h HN
        go_wp2
        go_roundw
        case rel => exact ⟨7, by first | rfl | go_num, by omega, HN2, HB⟩
        case measure => simp only [RowKit.intOf]; omega
    · have IX : ∀ W, (Instr.index 106 (.agg #[.string n0, .string n1, .string n2, .string n3, .string n4, .string n5, .string n6, .string n7, .string n8]) (.int .i64 7)).run Tryz.prog W = .ok (.string n7) W := fun W => by kernel_rfl
      have IY : ∀ W, (Instr.index 106 (.agg #[.string n0, .string n1, .string n2, .string n3, .string n4, .string n5, .string n6, .string n7, .string n8]) (.int .i64 ((7 : Nat) : Int))).run Tryz.prog W = .ok (.string n7) W := fun W => by kernel_rfl
      rcases Decidable.em (s = n7) with h | h
      · subst h
        have HK : Hid (kindL (L s) = 7) := hid (by rw [← E7.out]; exact kind_at (j := 7) (L_mk7 _) (by omega))
        clear HN
        go_wp2
        go_ret
        exact ⟨by rw [HK.out]; rfl, HB.out⟩
      · obtain ⟨h1, h2⟩ := spell_no (Ne.symm h)
        have HN2 : Hid (∀ j : Nat, j < 8 → L s ≠ nameL (j : Int)) := hid (fun j hj e => by
          rcases Nat.lt_or_ge j 7 with hl | hl
          · exact HN.out j hl e
          · obtain rfl : j = 7 := by omega
            exact h (L_inj.1 (by rw [← E7.out, L_mk7]; exact e)))
        clear h HN
        go_wp2
        go_roundw
        case rel => exact ⟨8, by first | rfl | go_num, by omega, HN2, HB⟩
        case measure => simp only [RowKit.intOf]; omega
    · have IX : ∀ W, (Instr.index 106 (.agg #[.string n0, .string n1, .string n2, .string n3, .string n4, .string n5, .string n6, .string n7, .string n8]) (.int .i64 8)).run Tryz.prog W = .ok (.string n8) W := fun W => by kernel_rfl
      have IY : ∀ W, (Instr.index 106 (.agg #[.string n0, .string n1, .string n2, .string n3, .string n4, .string n5, .string n6, .string n7, .string n8]) (.int .i64 ((8 : Nat) : Int))).run Tryz.prog W = .ok (.string n8) W := fun W => by kernel_rfl
      rcases Decidable.em (s = n8) with h | h
      · subst h
        have HK : Hid (kindL (L s) = 8) := hid (by rw [← E8.out]; exact kind_at (j := 8) (L_mk7 _) (by omega))
        clear HN
        go_wp2
        go_ret
        exact ⟨by rw [HK.out]; rfl, HB.out⟩
      · obtain ⟨h1, h2⟩ := spell_no (Ne.symm h)
        have HN2 : Hid (∀ j : Nat, j < 9 → L s ≠ nameL (j : Int)) := hid (fun j hj e => by
          rcases Nat.lt_or_ge j 8 with hl | hl
          · exact HN.out j hl e
          · obtain rfl : j = 8 := by omega
            exact h (L_inj.1 (by rw [← E8.out, L_mk7]; exact e)))
        clear h HN
        go_wp2
        go_roundw
        case rel => exact ⟨9, by first | rfl | go_num, by omega, HN2, HB⟩
        case measure => simp only [RowKit.intOf]; omega
    · have HK : Hid (kindL (L s) = -1) := hid (kind_none HN.out)
      clear HN
      go_wp2
      go_ret
      exact ⟨by rw [HK.out]; rfl, HB.out⟩
def NextOut (g : Nat) (r : ByteArray) (w : World) (e : Ending) (w' : World) : Prop :=
  ∃ v r' : ByteArray, e = .returned (.string v) ∧ L v = valL (L r) ∧ L r' = resL (L r) ∧ Blk w' g 9 #[.string r'] ∧ w.grownBy w' (some g)
theorem val_len (l : List UInt8) : (valL l).length ≤ l.length := by
  unfold valL
  exact Nat.le_trans (cutC_len 61 _).2 (cutC_len 32 _).1
theorem res_len (l : List UInt8) : (resL l).length ≤ l.length := (cutC_len 32 _).2
set_option maxRecDepth 100000 in
set_option maxHeartbeats 1000000 in
theorem next7 (g : Nat) (r : ByteArray) (w : World) (hb : Blk w g 9 #[.string r]) (hs : r.size ≤ 1000000) :
    Calls Tryz.prog 184 #[.pointer (some ⟨g, 0, none⟩)] w (NextOut g r w) := by
  have c0 : w.cell? ⟨g, 0, none⟩ = some (.string r) := (hb.cell 0).trans rfl
  have HB := hid hb
  clear hb
  go_enter Tryz.func184, Tryz.ntmps184
  go_wp2_with fail
  refine (cut7 32 r _ (by omega)).mono ?_
  rintro e w1 ⟨a, b, f, rfl, hc, hb⟩
  have ha : L a = (cutC 32 (L r)).1 := by rw [hc]
  have hr' : L b = resL (L r) := by unfold resL; rw [hc]
  have za : a.size ≤ 1000000 := by rw [← L_length, ha]; exact Nat.le_trans (cutC_len 32 _).1 (by rw [L_length]; exact hs)
  have B1 := hid (HB.out.below hb HB.out.lt)
  have c1 : w1.cell? ⟨g, 0, none⟩ = some (.string r) := (B1.out.cell 0).trans rfl
  have f1 := B1.out.frozen 0
  have B2 := hid (B1.out.set_ 0 (.string b))
  have G2 := hid (only_setCell (p := ⟨g, 0, none⟩) (only_of_below hb (some g)) (.inl rfl) (.string b))
  have HA := hid ha
  have HR := hid hr'
  clear hc ha hr' hb c0
  go_wp2_with fail
  refine (cut7 61 a _ (by omega)).mono ?_
  rintro e w2 ⟨a2, v, f2, rfl, hc, hb⟩
  have hv : L v = valL (L r) := by unfold valL; rw [← HA.out, hc]
  have HV := hid hv
  have B3 := hid (Blk.below (show Blk (w1.setCell ⟨g, 0, none⟩ (.string b)) g 9 #[.string b] from B2.out) hb (Blk.lt B2.out))
  have G3 := hid (only_below G2.out hb)
  clear hc hv hb c1 f1
  go_wp2
  go_ret
  exact ⟨v, b, rfl, HV.out, HR.out, B3.out, G3.out⟩
end Go.Proofs.YtohffiehmmcgbaaGreatDoor
namespace Go.Proofs.YtohffiehmmcgbaaGreatDoor
open Go.ChangeShapes Go.WideShapes Go.ChangeAt Go.RowKit Go.Lib
set_option linter.unusedVariables false
abbrev zK : K := ⟨0, 0, ⟨#[]⟩, 0, ⟨#[]⟩, 0, 0, 0⟩
def GAt (w0 w : World) (g b : Nat) (c : K) (r : ByteArray) : Prop :=
  Blk w g 9 #[.string r] ∧ Blk w b 32 (cellsOf c) ∧ Blk w w0.heap.size 32 (cellsOf zK) ∧ w0.heap.size < g ∧ g < b ∧ Below w0.heap.size w0 w ∧ Laid7 w0
theorem GAt.laid {w0 w : World} {g b : Nat} {c : K} {r : ByteArray} (h : GAt w0 w g b c r) : Laid7 w := h.2.2.2.2.2.2.below h.2.2.2.2.2.1
theorem GAt.parts {w0 w : World} {g b : Nat} {c : K} {r : ByteArray} (h : GAt w0 w g b c r) : PartsIs w := h.laid.1
theorem GAt.below {w0 w : World} {g b : Nat} {c : K} {r : ByteArray} (h : GAt w0 w g b c r) : Below w0.heap.size w0 w := h.2.2.2.2.2.1
theorem GAt.blk {w0 w : World} {g b : Nat} {c : K} {r : ByteArray} (h : GAt w0 w g b c r) : Blk w b 32 (cellsOf c) := h.2.1
theorem GAt.box {w0 w : World} {g b : Nat} {c : K} {r : ByteArray} (h : GAt w0 w g b c r) : Blk w g 9 #[.string r] := h.1
theorem GAt.on {w0 w w' : World} {g b : Nat} {c : K} {r : ByteArray} (h : GAt w0 w g b c r) (hb : Below w.heap.size w w') : GAt w0 w' g b c r :=
  ⟨h.1.below hb h.1.lt, h.2.1.below hb h.2.1.lt, h.2.2.1.below hb h.2.2.1.lt, h.2.2.2.1, h.2.2.2.2.1, h.2.2.2.2.2.1.trans (hb.mono h.2.2.2.2.2.1.size), h.2.2.2.2.2.2⟩
theorem GAt.turn {w0 w w' : World} {g b : Nat} {c : K} {r r' : ByteArray} (h : GAt w0 w g b c r) (hk : Blk w' g 9 #[.string r']) (hb : w.grownBy w' (some g)) : GAt w0 w' g b c r' := by
  have h1 := h.2.2.2.1
  have h2 := h.2.2.2.2.1
  have h3 := h.2.2.2.2.2.1.size
  exact ⟨hk, h.2.1.grown hb (by intro e; injection e with e; omega), h.2.2.1.grown hb (by intro e; injection e with e; omega), h1, h2, h.2.2.2.2.2.1.trans (below_only hb (by omega) h3), h.2.2.2.2.2.2⟩
theorem GAt.set_ {w0 w : World} {g b : Nat} {c : K} {r : ByteArray} (h : GAt w0 w g b c r) (i : Nat) (u : Value) (c' : K) (hc : (cellsOf c).setIfInBounds i u = cellsOf c') : GAt w0 (w.setCell ⟨b, i, none⟩ u) g b c' r := by
  have h1 := h.2.2.2.1
  have h2 := h.2.2.2.2.1
  exact ⟨h.1.far (p := ⟨b, i, none⟩) (by show g ≠ b; omega) u, hc ▸ h.2.1.set_ i u, h.2.2.1.far (p := ⟨b, i, none⟩) (by show w0.heap.size ≠ b; omega) u, h1, h2, Below.setCell (p := ⟨b, i, none⟩) h.2.2.2.2.2.1 (by show w0.heap.size ≤ b; omega) u, h.2.2.2.2.2.2⟩
theorem GAt.res {w0 w : World} {g b : Nat} {c : K} {r : ByteArray} (h : GAt w0 w g b c r) : Boxed w0 w w0.heap.size zK := ⟨h.2.2.1, Nat.le_refl _, h.2.2.2.2.2.1, h.2.2.2.2.2.2.1⟩
end Go.Proofs.YtohffiehmmcgbaaGreatDoor
