/-
  The document's own Merge and Within.
-/
import Derived.Test.YtfpmmajgnijboaaARight
import Derived.RegionTactic
namespace Go.Proofs.Ytfpmmajgnijboaa
open Go.ChangeShapes Go.WideShapes Go.ChangeAt Go.RowKit
set_option linter.unusedVariables false

theorem info_refa : (Try.prog.info? 26).map (·.size) = some 8 := by kernel_rfl
theorem len_refa (f : Nat → Int) : (Try.prog.info? 26).map (·.size) = some (rowA f).size := by rw [rowA_size]; exact info_refa

theorem inB_no {f g : Nat → Int} {i : Nat} (hi : i < 8) (h : g i < f i) : inB f g = false := by
  rw [Bool.eq_false_iff]; intro hh; have := inB_iff.1 hh i hi; omega
theorem inB_of {f g : Nat → Int} {j : Nat} (hj : 7 ≤ j) (h : ∀ i, i < j → f (1 + i) ≤ g (1 + i)) : inB f g = decide (f 0 ≤ g 0) := by
  by_cases h0 : f 0 ≤ g 0
  · rw [decide_eq_true h0]
    refine inB_iff.2 fun i hi => ?_
    cases i with
    | zero => exact h0
    | succ i => have := h i (by omega); rwa [Nat.add_comm] at this
  · rw [decide_eq_false h0]
    exact inB_no (i := 0) (by decide) (by omega)

set_option maxRecDepth 100000 in
set_option maxHeartbeats 400000 in
theorem refwithin_any (f g : Nat → Int) (w : World) :
    Calls Try.prog 12 #[.agg (rowA f), .agg (rowA g)] w fun e w' => e = .returned (.bool (inB f g)) ∧ Below w.heap.size w w' := by
  go_enter Try.func12, Try.ntmps12
  go_upto_region 1 with fail
  obtain ⟨W, hW⟩ : ∃ W, (w.alloc (.cells (rowA f) 26)).alloc (.cells (rowA g) 26) = W := ⟨_, rfl⟩
  rw [hW]
  obtain ⟨K0, K1, KB⟩ := two_new hW
  clear hW
  obtain ⟨k, hk⟩ : ∃ k, w.heap.size = k := ⟨_, rfl⟩
  rw [hk] at K0 K1 KB
  rw [hk]
  have HK := hid hk
  clear hk
  go_wp2
  go_loopw [5] (fun iv wr => ∃ j : Nat, j ≤ 7 ∧ iv = .int .i64 j ∧ Hid (∀ i, i < j → f (1 + i) ≤ g (1 + i)) ∧ Hid (∃ n, wr = W.drewN n)) (fun iv _ => 7 - (intOf iv).toNat)
  case atStart => exact ⟨0, by omega, rfl, hid (fun i hi => absurd hi (by omega)), hid ⟨0, rfl⟩⟩
  case round =>
    obtain ⟨j, hj, rfl, H, HW⟩ := hrel
    obtain ⟨n, rfl⟩ := HW.out
    have c0 := K0.out.att (i := 0) (by decide)
    have d0 := K1.out.att (i := 0) (by decide)
    by_cases hlt : j < 7
    · have c1 := K0.out.att (i := 1 + j) (by omega)
      have d1 := K1.out.att (i := 1 + j) (by omega)
      have HF : Hid (g (1 + j) < f (1 + j) → inB f g = false) := hid (fun h => inB_no (by omega) h)
      have HN : Hid (f (1 + j) ≤ g (1 + j) → ∀ i, i < j + 1 → f (1 + i) ≤ g (1 + i)) := hid (fun h i hi => by
        rcases (show i < j ∨ i = j by omega) with h2 | h2
        · exact H.out i h2
        · rw [h2]; exact h)
      generalize f (1 + j) = x at c1 HF HN
      generalize g (1 + j) = y at d1 HF HN
      rcases (show y < x ∨ x ≤ y by omega) with h | h
      · have HV := hid (HF.out h)
        clear c0 d0
        go_wp2_with fail
        go_quiet (fail)
        go_wp2
        go_ret
        exact ⟨ret_bool HV.out.symm, by rw [HK.out]; exact below_drewN (below_drewN KB.out n) _⟩
      · have HV := hid (HN.out h)
        have h2 : ¬ y < x := by omega
        clear c0 d0
        go_wp2_with fail
        go_quiet (fail)
        go_wp2
        go_roundw
        case rel => exact ⟨j + 1, by omega, by go_num, HV, hid ⟨_, rfl⟩⟩
        case measure => simp only [intOf]; omega
    · have HV := hid (inB_of (by omega) H.out)
      generalize f 0 = x at c0 HV
      generalize g 0 = y at d0 HV
      go_wp2
      go_ret
      exact ⟨ret_bool HV.out.symm, by rw [HK.out]; exact below_drewN KB.out n⟩

set_option maxRecDepth 100000 in
set_option maxHeartbeats 400000 in
theorem refmerge_any (f g : Nat → Int) (w : World) :
    Calls Try.prog 10 #[.agg (rowA f), .agg (rowA g)] w fun e w' => e = .returned (.agg (rowA (mx f g))) ∧ Below w.heap.size w w' := by
  go_enter Try.func10, Try.ntmps10
  go_upto_region 1 with fail
  obtain ⟨W, hW⟩ : ∃ W, ((w.alloc (.cells (rowA f) 26)).alloc (.cells (rowA g) 26)).alloc (.cells #[.int .i64 0, .int .i64 0, .int .i64 0, .int .i64 0, .int .i64 0, .int .i64 0, .int .i64 0, .int .i64 0] 26) = W := ⟨_, rfl⟩
  rw [hW]
  obtain ⟨K0, K1, K2, KB⟩ := three_new hW
  rw [zeros_row] at K2
  clear hW
  obtain ⟨k, hk⟩ : ∃ k, w.heap.size = k := ⟨_, rfl⟩
  rw [hk] at K0 K1 K2 KB
  rw [hk]
  have HK := hid hk
  clear hk
  have c0 := K0.out.att (i := 0) (by decide)
  have d0 := K1.out.att (i := 0) (by decide)
  have f0 := K0.out.frozen 0
  have HP : Hid (f 0 < g 0 → Blk (W.setCell ⟨k, 0, none⟩ (.int .i64 (g 0))) k 26 (rowA (mxTo f g 1))) := hid (fun h => by
    rw [← mxTo_put (k := 0) h, mxTo_none]; exact K0.out.attSet 0 _)
  have HQ : Hid (¬ f 0 < g 0 → Blk W k 26 (rowA (mxTo f g 1))) := hid (fun h => by
    rw [← mxTo_skip (k := 0) h, mxTo_none]; exact K0.out)
  generalize f 0 = x at c0 HP HQ
  generalize g 0 = y at d0 HP HQ
  rcases (show x < y ∨ ¬ x < y by omega) with h | h
  case' inl =>
    have M0 := hid (HP.out h)
    go_upto_region 3 with fail
    have M1 : Hid (Blk (W.setCell ⟨k, 0, none⟩ (.int .i64 y)) (k + 1) 26 (rowA g)) := hid (K1.out.far (by simp) _)
    have M2 : Hid (Blk (W.setCell ⟨k, 0, none⟩ (.int .i64 y)) (k + 1 + 1) 26 (rowA fun _ => 0)) := hid (K2.out.far (by simp <;> omega) _)
    have MB : Hid (Below k w (W.setCell ⟨k, 0, none⟩ (.int .i64 y))) := hid (KB.out.setCell (Nat.le_refl _) _)
    generalize W.setCell ⟨k, 0, none⟩ (.int .i64 y) = W1 at M0 M1 M2 MB ⊢
  case' inr =>
    have M0 := hid (HQ.out h)
    have M1 := K1
    have M2 := K2
    have MB := KB
    have hle : y ≤ x := by omega
    go_upto_region 3 with fail
    obtain ⟨W1, hW1⟩ : ∃ W1, W = W1 := ⟨_, rfl⟩
    rw [hW1] at M0 M1 M2 MB ⊢
    clear hW1 hle
  all_goals
    clear h HP HQ K0 K1 K2 KB c0 d0 f0
    go_wp2_with fail
    go_loopw [5] (fun iv wr => ∃ j : Nat, j ≤ 7 ∧ iv = .int .i64 j ∧ Hid (Blk wr k 26 (rowA (mxTo f g (1 + j)))) ∧ Hid (Blk wr (k + 1) 26 (rowA g)) ∧ Hid (Blk wr (k + 1 + 1) 26 (rowA fun _ => 0)) ∧ Hid (Below k w wr)) (fun iv _ => 7 - (intOf iv).toNat)
    case atStart => exact ⟨0, by omega, rfl, M0, M1, M2, MB⟩
    case round =>
      obtain ⟨j, hj, rfl, H0, H1, H2, HB⟩ := hrel
      by_cases hlt : j < 7
      · have c1 := H0.out.att (i := 1 + j) (by omega)
        rw [mxTo_at] at c1
        have d1 := H1.out.att (i := 1 + j) (by omega)
        have c2 : (wr.drewN 1).cell? ⟨k, 1 + j, none⟩ = _ := c1
        have f1 := H0.out.frozen (1 + j)
        have HP : Hid (f (1 + j) < g (1 + j) → Blk (wr.setCell ⟨k, 1 + j, none⟩ (.int .i64 (g (1 + j)))) k 26 (rowA (mxTo f g (1 + j + 1)))) := hid (fun h => by
          rw [← mxTo_put h]; exact H0.out.attSet (1 + j) _)
        have HQ : Hid (¬ f (1 + j) < g (1 + j) → Blk wr k 26 (rowA (mxTo f g (1 + j + 1)))) := hid (fun h => by
          rw [← mxTo_skip h]; exact H0.out)
        generalize f (1 + j) = x at c1 c2 HP HQ
        generalize g (1 + j) = y at d1 HP HQ
        rcases (show x < y ∨ ¬ x < y by omega) with h | h
        · have N0 := hid (HP.out h)
          have N1 := hid (H1.out.far (p := ⟨k, 1 + j, none⟩) (by simp) (.int .i64 y))
          have N2 := hid (H2.out.far (p := ⟨k, 1 + j, none⟩) (by simp <;> omega) (.int .i64 y))
          go_wp2_with fail
          go_quiet (fail)
          go_wp2
          go_roundw
          case rel => exact ⟨j + 1, by omega, by go_num, N0, N1, N2, hid ((below_drewN HB.out _).setCell (p := ⟨k, 1 + j, none⟩) (Nat.le_refl _) (.int .i64 y))⟩
          case measure => simp only [intOf]; omega
        · have N0 := hid (HQ.out h)
          have hle : y ≤ x := by omega
          go_wp2_with fail
          go_quiet (fail)
          go_wp2
          go_roundw
          case rel => exact ⟨j + 1, by omega, by go_num, N0, H1, H2, hid (below_drewN HB.out _)⟩
          case measure => simp only [intOf]; omega
      · have hj7 : 1 + j = 8 := by omega
        rw [hj7, mxTo_all f g (Nat.le_refl _)] at H0
        have L1 := hid (len_refa (mx f g))
        have L2 := hid (size_zero (mx f g))
        have L3 := hid (rowA_one (mx f g))
        clear hj7
        go_wp2_with (first
          | (with_reducible refine wpList_load_row (o := ⟨some 34, _, _, _, _, _⟩) rfl 26 (.tmp 2) rfl k rfl 26 (rowA (mx f g)) (0, 0) _ H0.out.heap Try.underlying26 rfl L1.out ?_)
          | (with_reducible refine wpList_store_row (o := ⟨none, _, _, _, _, _⟩) rfl 26 (.tmp 4) (.tmp 34) rfl (k + 1 + 1) (rowA (mx f g)) rfl rfl 26 _ H2.out.heap L1.out L2.out L3.out ?_))
        exact bodyPost_ret (v := .agg (rowA (mx f g))) (results_cell_row (p := 4) (ty := 26) (by kernel_rfl) _ _ (k + 1 + 1) 26 (rowA (mx f g)) (0, 0) _ rfl (setRow_heap wr (k + 1 + 1) _ (rowA (mx f g)) _ _ H2.out.heap) Try.underlying26 rfl L1.out) rfl ⟨rfl, by rw [HK.out]; exact below_setRow_ HB.out (by omega)⟩

end Go.Proofs.Ytfpmmajgnijboaa
