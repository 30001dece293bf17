/-
  Contracts of attributes (package attr, and the document's own): Right.
-/
import Derived.Test.YtapmchkikafpmaaDoorABase
import Derived.BigQuiet
namespace Go.Proofs.YtapmchkikafpmaaDoor
open Go.ChangeShapes Go.WideShapes Go.ChangeAt Go.RowKit
set_option linter.unusedVariables false

/-- One box that is made. -/
theorem one_new {w W : World} {T : TypeId} {a : Array Value} (h : w.alloc (.cells a T) = W) : Hid (Blk W w.heap.size T a) ∧ Hid (Below w.heap.size w W) := by
  subst h
  exact ⟨hid (Blk.new w T a), hid ((Below.refl _ w).alloc (Nat.le_refl _) _)⟩
/-- Two boxes that are made. -/
theorem two_new {w W : World} {T U : TypeId} {a b : Array Value} (h : (w.alloc (.cells a T)).alloc (.cells b U) = W) :
    Hid (Blk W w.heap.size T a) ∧ Hid (Blk W (w.heap.size + 1) U b) ∧ Hid (Below w.heap.size w W) := by
  subst h
  have h2 := Blk.new (w.alloc (.cells a T)) U b
  rw [show (w.alloc (.cells a T)).heap.size = w.heap.size + 1 by simp] at h2
  exact ⟨hid ((Blk.new w T a).alloc _), hid h2, hid (((Below.refl _ w).alloc (Nat.le_refl _) _).alloc (by simp) _)⟩

theorem okB_seq {f : Nat → Int} (h : ¬ (0 ≤ f 0 ∧ f 0 ≤ 1073741824)) : okB f = false := by
  rw [Bool.eq_false_iff]; intro hh; exact h (okB_iff.1 hh).1
theorem okB_dep {f : Nat → Int} {j : Nat} (hj : j < 7) (h : ¬ (0 ≤ f (1 + j) ∧ f (1 + j) ≤ 1024)) : okB f = false := by
  rw [Bool.eq_false_iff]; intro hh; rw [Nat.add_comm] at h; exact h ((okB_iff.1 hh).2 j hj)
theorem okB_all {f : Nat → Int} {j : Nat} (hj : 7 ≤ j) (h0 : 0 ≤ f 0 ∧ f 0 ≤ 1073741824) (h : ∀ i, i < j → 0 ≤ f (1 + i) ∧ f (1 + i) ≤ 1024) : okB f = true :=
  okB_iff.2 ⟨h0, fun i hi => by have := h i (by omega); rwa [Nat.add_comm] at this⟩
theorem okB_of {f : Nat → Int} {j : Nat} (hj : 7 ≤ j) (h : ∀ i, i < j → 0 ≤ f (1 + i) ∧ f (1 + i) ≤ 1024) : okB f = decide (0 ≤ f 0 ∧ f 0 ≤ 1073741824) := by
  by_cases h0 : 0 ≤ f 0 ∧ f 0 ≤ 1073741824
  · rw [okB_all hj h0 h, decide_eq_true h0]
  · rw [okB_seq h0, decide_eq_false h0]

set_option maxRecDepth 100000 in
set_option maxHeartbeats 400000 in
theorem aright_any (f : Nat → Int) (w : World) :
    Calls Tryd.prog 64 #[.agg (rowA f)] w fun e w' => e = .returned (.bool (okB f)) ∧ Below w.heap.size w w' := by
  go_enter Tryd.func64, Tryd.ntmps64
  go_upto_region 1 with fail
  obtain ⟨W, hW⟩ : ∃ W, w.alloc (.cells (rowA f) 33) = W := ⟨_, rfl⟩
  rw [hW]
  obtain ⟨K0, KB⟩ := one_new hW
  clear hW
  obtain ⟨k, hk⟩ : ∃ k, w.heap.size = k := ⟨_, rfl⟩
  rw [hk] at K0 KB
  rw [hk]
  have HK := hid hk
  clear hk
  have c0 := K0.out.att (i := 0) (by decide)
  by_cases hs : 0 ≤ f 0 ∧ f 0 ≤ 1073741824
  · have HS := hid hs
    obtain ⟨h1, h2⟩ := hs
    have H7 := hid (len_seven f)
    have MR := hid K0.out.range
    go_wp2_with (with_reducible refine wpList_load_mid (op := ⟨some 14, _, _, _, _, _⟩) rfl 31 (.tmp 13) rfl k 1 rfl (lsD f) _ MR.out Tryd.underlying31 rfl H7.out ?_)
    have HI : Hid (∀ j : Nat, j < 7 → (lsD f)[j]? = some (.int .i64 (f (1 + j)))) := hid (fun j hj => by rw [lsD_get f hj, Nat.add_comm])
    obtain ⟨ds, hds⟩ : ∃ ds, lsD f = ds := ⟨_, rfl⟩
    rw [hds] at HI
    rw [hds]
    clear hds MR H7 c0
    go_loop [15] (fun iv => ∃ j : Nat, j ≤ 7 ∧ iv = .int .i64 j ∧ Hid (∀ i, i < j → 0 ≤ f (1 + i) ∧ f (1 + i) ≤ 1024)) (fun iv => 7 - (intOf iv).toNat)
    case atStart => exact ⟨0, by omega, rfl, hid (fun i hi => absurd hi (by omega))⟩
    case round =>
      obtain ⟨j, hj, rfl, H⟩ := hrel
      by_cases hlt : j < 7
      · have hx := run_index_seven ds.toArray j _ hlt ((List.getElem?_toArray ..).trans (HI.out j hlt))
        have HF := hid (fun h => okB_dep (f := f) hlt h)
        have HN : Hid (0 ≤ f (1 + j) ∧ f (1 + j) ≤ 1024 → ∀ i, i < j + 1 → 0 ≤ f (1 + i) ∧ f (1 + i) ≤ 1024) := hid (fun h i hi => by
          rcases (show i < j ∨ i = j by omega) with h2 | h2
          · exact H.out i h2
          · rw [h2]; exact h)
        generalize f (1 + j) = x at hx HF HN
        rcases (show x < 0 ∨ 1024 < x ∨ (0 ≤ x ∧ x ≤ 1024) by omega) with h | h | h
        · have HV := hid (HF.out (by omega))
          go_wp2
          go_ret
          exact ⟨ret_bool HV.out.symm, by rw [HK.out]; exact KB.out⟩
        · have HV := hid (HF.out (by omega))
          go_wp2
          go_ret
          exact ⟨ret_bool HV.out.symm, by rw [HK.out]; exact KB.out⟩
        · have HV := hid (HN.out h)
          obtain ⟨h3, h4⟩ := h
          go_wp2
          go_round
          case rel => exact ⟨j + 1, by omega, by go_num, HV⟩
          case measure => simp only [intOf]; omega
      · have HV := hid (okB_all (f := f) (by omega) HS.out H.out)
        go_wp2
        go_ret
        exact ⟨ret_bool HV.out.symm, by rw [HK.out]; exact KB.out⟩
  · have HV := hid (okB_seq hs)
    rcases (show f 0 < 0 ∨ 1073741824 < f 0 by omega) with h | h
    all_goals
      clear hs
      go_wp2
      go_ret
      exact ⟨ret_bool HV.out.symm, by rw [HK.out]; exact KB.out⟩

set_option maxRecDepth 100000 in
set_option maxHeartbeats 400000 in
theorem refaright_any (f : Nat → Int) (w : World) :
    Calls Tryd.prog 21 #[.agg (rowA f)] w fun e w' => e = .returned (.bool (okB f)) ∧ Below w.heap.size w w' := by
  go_enter Tryd.func21, Tryd.ntmps21
  go_upto_region 1 with fail
  obtain ⟨W, hW⟩ : ∃ W, w.alloc (.cells (rowA f) 43) = W := ⟨_, rfl⟩
  rw [hW]
  obtain ⟨K0, KB⟩ := one_new hW
  clear hW
  obtain ⟨k, hk⟩ : ∃ k, w.heap.size = k := ⟨_, rfl⟩
  rw [hk] at K0 KB
  rw [hk]
  have HK := hid hk
  clear hk
  go_wp2
  go_loop [3] (fun iv => ∃ j : Nat, j ≤ 7 ∧ iv = .int .i64 j ∧ Hid (∀ i, i < j → 0 ≤ f (1 + i) ∧ f (1 + i) ≤ 1024)) (fun iv => 7 - (intOf iv).toNat)
  case atStart => exact ⟨0, by omega, rfl, hid (fun i hi => absurd hi (by omega))⟩
  case round =>
    obtain ⟨j, hj, rfl, H⟩ := hrel
    by_cases hlt : j < 7
    · have c1 := K0.out.att (i := 1 + j) (by omega)
      have HF := hid (fun h => okB_dep (f := f) hlt h)
      have HN : Hid (0 ≤ f (1 + j) ∧ f (1 + j) ≤ 1024 → ∀ i, i < j + 1 → 0 ≤ f (1 + i) ∧ f (1 + i) ≤ 1024) := hid (fun h i hi => by
        rcases (show i < j ∨ i = j by omega) with h2 | h2
        · exact H.out i h2
        · rw [h2]; exact h)
      generalize f (1 + j) = x at c1 HF HN
      rcases (show x < 0 ∨ 1024 < x ∨ (0 ≤ x ∧ x ≤ 1024) by omega) with h | h | h
      · have HV := hid (HF.out (by omega))
        go_wp2
        go_ret
        exact ⟨ret_bool HV.out.symm, by rw [HK.out]; exact KB.out⟩
      · have HV := hid (HF.out (by omega))
        go_wp2
        go_ret
        exact ⟨ret_bool HV.out.symm, by rw [HK.out]; exact KB.out⟩
      · have HV := hid (HN.out h)
        obtain ⟨h3, h4⟩ := h
        go_wp2
        go_round
        case rel => exact ⟨j + 1, by omega, by go_num, HV⟩
        case measure => simp only [intOf]; omega
    · have HV := hid (okB_of (f := f) (by omega) H.out)
      have c0 := K0.out.att (i := 0) (by decide)
      generalize f 0 = x at c0 HV
      rcases (show x < 0 ∨ 1073741824 < x ∨ (0 ≤ x ∧ x ≤ 1073741824) by omega) with h | h | ⟨h, h2⟩
      all_goals
        go_wp2
        go_ret
        exact ⟨ret_bool (by rw [HV.out]; rw [Bool.eq_iff_iff]; simp; try omega), by rw [HK.out]; exact KB.out⟩

end Go.Proofs.YtapmchkikafpmaaDoor
