/-
  Contracts of attributes (package attr, and the document's own): Merge.
-/
import Derived.Test.YtfpmmajgnijboaaRows
import Derived.Test.YtfpmmajgnijboaaAMath
import Derived.Test.YtfpmmajgnijboaaMBallot
import Derived.Deep.RegionHeld3
import Derived.ChangeKeysEq
import Derived.Deep.Cut
namespace Go.Proofs.Ytfpmmajgnijboaa
open Go.ChangeShapes Go.WideShapes Go.ChangeAt Go.RowKit
set_option linter.unusedVariables false

theorem below_setRow_ {B : Nat} {a w : World} {g : Nat} {cs : Array Value} (h : Below B a w) (hg : B ≤ g) : Below B a (w.setRow g cs) :=
  h.trans ⟨rfl, rfl, rfl, by simp, fun k hk => setRow_other w g k cs (by omega)⟩
theorem info_attr : (Try.prog.info? 24).map (·.size) = some 8 := by kernel_rfl
theorem info_seven : (Try.prog.info? 22).map (·.size) = some 7 := by kernel_rfl
theorem zeros_row : (#[.int .i64 0, .int .i64 0, .int .i64 0, .int .i64 0, .int .i64 0, .int .i64 0, .int .i64 0, .int .i64 0] : Array Value) = rowA fun _ => 0 := rfl

/-- Three boxes that are made. -/
theorem three_new {w W : World} {T U V : TypeId} {a b c : Array Value} (h : ((w.alloc (.cells a T)).alloc (.cells b U)).alloc (.cells c V) = W) :
    Hid (Blk W w.heap.size T a) ∧ Hid (Blk W (w.heap.size + 1) U b) ∧ Hid (Blk W (w.heap.size + 1 + 1) V c) ∧ Hid (Below w.heap.size w W) := by
  subst h
  have h1 := Blk.new w T a
  have h2 := Blk.new (w.alloc (.cells a T)) U b
  have h3 := Blk.new ((w.alloc (.cells a T)).alloc (.cells b U)) V c
  rw [show (w.alloc (.cells a T)).heap.size = w.heap.size + 1 by simp] at h2
  rw [show ((w.alloc (.cells a T)).alloc (.cells b U)).heap.size = w.heap.size + 1 + 1 by simp] at h3
  exact ⟨hid ((h1.alloc _).alloc _), hid (h2.alloc _), hid h3, hid ((((Below.refl _ w).alloc (Nat.le_refl _) _).alloc (by simp) _).alloc (by simp <;> omega) _)⟩

theorem len_seven (f : Nat → Int) : (Try.prog.info? 22).map (·.size) = some (lsD f).length := by rw [lsD_len]; exact info_seven
theorem len_attr (f : Nat → Int) : (Try.prog.info? 24).map (·.size) = some (rowA f).size := by rw [rowA_size]; exact info_attr
theorem size_zero (f : Nat → Int) : (rowA fun _ => 0).size = (rowA f).size := by rw [rowA_size, rowA_size]

theorem run_index_seven (cs : Array Value) (j : Nat) (v : Value) (hj : j < 7) (hv : cs[j]? = some v) (w : World) : (Instr.index 22 (.agg cs) (.int .i64 (j : Int))).run Try.prog w = .ok v w := by
  obtain ⟨i, hi⟩ : ∃ i, Try.prog.info? 3 = some i := Option.isSome_iff_exists.1 (show (Try.prog.info? 3).isSome = true by kernel_rfl)
  have hs := run_sizeOf (P := Try.prog) w hi
  rw [show Try.prog.cellsOf 3 = 1 by kernel_rfl] at hs
  have hp := run_part_plain (P := Try.prog) (w := w) (e := 3) (by kernel_rfl) hv
  have h1 : (0 : Int) ≤ (j : Int) ∧ (j : Int) < ((7 : Nat) : Int) := by omega
  simp only [Instr.index, asIntOf, Sem.run_bind, Sem.run_pure, run_underlying Try.underlying22, Result.andThen_ok, Sem.run_ite, if_pos h1, hs, Int.toNat_natCast, Nat.mul_one, hp]

theorem run_maxi (P : Program) (a b m : Int) (h : (if a < b then b else a) = m) (w : World) (ts : Array TypeId) (t : TypeId) : (Builtin.max_ ts t #[.int .i64 a, .int .i64 b]).run P w = .ok (.int .i64 m) w := by
  subst h
  by_cases h : a < b <;> simp [Builtin.max_, Builtin.max2, h]
theorem run_mini (P : Program) (a b m : Int) (h : min a b = m) (w : World) (ts : Array TypeId) (t : TypeId) : (Builtin.min_ ts t #[.int .i64 a, .int .i64 b]).run P w = .ok (.int .i64 m) w := by
  subst h
  rcases (show b < a ∨ a ≤ b by omega) with h | h
  · have : min a b = b := by omega
    rw [this]
    simp [Builtin.min_, Builtin.min2, h]
  · have : min a b = a := by omega
    rw [this]
    have h2 : ¬ b < a := by omega
    simp [Builtin.min_, Builtin.min2, h2]

set_option maxRecDepth 100000 in
set_option maxHeartbeats 400000 in
theorem merge_any (f g : Nat → Int) (w : World) :
    Calls Try.prog 9 #[.agg (rowA f), .agg (rowA g)] w fun e w' => e = .returned (.agg (rowA (mx f g))) ∧ Below w.heap.size w w' := by
  go_enter Try.func9, Try.ntmps9
  go_upto_region 1 with fail
  obtain ⟨W, hW⟩ : ∃ W, ((w.alloc (.cells (rowA f) 24)).alloc (.cells (rowA g) 24)).alloc (.cells #[.int .i64 0, .int .i64 0, .int .i64 0, .int .i64 0, .int .i64 0, .int .i64 0, .int .i64 0, .int .i64 0] 24) = W := ⟨_, rfl⟩
  rw [hW]
  obtain ⟨K0, K1, K2, KB⟩ := three_new hW
  rw [zeros_row] at K2
  clear hW
  obtain ⟨k, hk⟩ : ∃ k, w.heap.size = k := ⟨_, rfl⟩
  rw [hk] at K0 K1 K2 KB
  rw [hk]
  have c0 := K0.out.att (i := 0) (by decide)
  have d0 := K1.out.att (i := 0) (by decide)
  have f0 := K0.out.frozen 0
  have H7 := hid (len_seven g)
  go_upto_region 2 with fail
  obtain ⟨W1, hW1⟩ : ∃ W1, W.setCell ⟨k, 0, none⟩ (.int .i64 (if f 0 < g 0 then g 0 else f 0)) = W1 := ⟨_, rfl⟩
  rw [hW1]
  have M0 : Hid (Blk W1 k 24 (rowA (mxTo f g 1))) := hid (by rw [← hW1, ← mxTo_next f g 0, mxTo_none]; exact K0.out.attSet 0 _)
  have M1 : Hid (Blk W1 (k + 1) 24 (rowA g)) := hid (by rw [← hW1]; exact K1.out.far (by simp) _)
  have M2 : Hid (Blk W1 (k + 1 + 1) 24 (rowA fun _ => 0)) := hid (by rw [← hW1]; exact K2.out.far (by simp <;> omega) _)
  have MB : Hid (Below k w W1) := hid (by rw [← hW1]; exact KB.out.setCell (Nat.le_refl _) _)
  have MR := hid M1.out.range
  clear hW1 K0 K1 K2 KB c0 d0 f0
  generalize (if f 0 < g 0 then g 0 else f 0) = m0
  go_wp2_with (with_reducible refine wpList_load_mid (op := ⟨some 14, _, _, _, _, _⟩) rfl 22 (.tmp 13) rfl (k + 1) 1 rfl (lsD g) _ MR.out Try.underlying22 rfl H7.out ?_)
  have HI : Hid (∀ j : Nat, j < 7 → (lsD g)[j]? = some (.int .i64 (g (1 + j)))) := hid (fun j hj => by rw [lsD_get g hj, Nat.add_comm])
  have HN := hid (lsD_len g)
  obtain ⟨ds, hds⟩ : ∃ ds, lsD g = ds := ⟨_, rfl⟩
  rw [hds] at HI HN
  rw [hds]
  clear hds MR H7
  go_loopw [15] (fun iv wr => ∃ j : Nat, j ≤ 7 ∧ iv = .int .i64 j ∧ Hid (Blk wr k 24 (rowA (mxTo f g (1 + j)))) ∧ Hid (Blk wr (k + 1 + 1) 24 (rowA fun _ => 0)) ∧ Hid (Below k w wr)) (fun iv _ => 7 - (intOf iv).toNat)
  case atStart => exact ⟨0, by omega, rfl, M0, M2, MB⟩
  case round =>
    obtain ⟨j, hj, rfl, H0, H2, HB⟩ := hrel
    by_cases hlt : j < 7
    · have hx := run_index_seven ds.toArray j _ hlt ((List.getElem?_toArray ..).trans (HI.out j hlt))
      have c1 := H0.out.att (i := 1 + j) (by omega)
      rw [mxTo_at] at c1
      have f1 := H0.out.frozen (1 + j)
      have HS := H0.out.attSet (1 + j) (if f (1 + j) < g (1 + j) then g (1 + j) else f (1 + j))
      rw [mxTo_next] at HS
      have HS := hid HS
      have HB2 := hid (HB.out.setCell (p := ⟨k, 1 + j, none⟩) (Nat.le_refl _) (.int .i64 (if f (1 + j) < g (1 + j) then g (1 + j) else f (1 + j))))
      have H3 := hid (H2.out.far (p := ⟨k, 1 + j, none⟩) (by simp <;> omega) (.int .i64 (if f (1 + j) < g (1 + j) then g (1 + j) else f (1 + j))))
      go_wp2
      go_roundw
      case rel => exact ⟨j + 1, by omega, by go_num, HS, H3, HB2⟩
      case measure => simp only [intOf]; omega
    · have hj7 : 1 + j = 8 := by omega
      rw [hj7, mxTo_all f g (Nat.le_refl _)] at H0
      have L1 := hid (len_attr (mx f g))
      have L2 := hid (size_zero (mx f g))
      have L3 := hid (rowA_one (mx f g))
      clear hj7
      go_wp2_with (first
        | (with_reducible refine wpList_load_row (o := ⟨some 29, _, _, _, _, _⟩) rfl 24 (.tmp 2) rfl k rfl 24 (rowA (mx f g)) (0, 0) _ H0.out.heap Try.underlying24 rfl L1.out ?_)
        | (with_reducible refine wpList_store_row (o := ⟨none, _, _, _, _, _⟩) rfl 24 (.tmp 4) (.tmp 29) rfl (k + 1 + 1) (rowA (mx f g)) rfl rfl 24 _ H2.out.heap L1.out L2.out L3.out ?_))
      exact bodyPost_ret (v := .agg (rowA (mx f g))) (results_cell_row (p := 4) (ty := 24) (by kernel_rfl) _ _ (k + 1 + 1) 24 (rowA (mx f g)) (0, 0) _ rfl (setRow_heap wr (k + 1 + 1) _ (rowA (mx f g)) _ _ H2.out.heap) Try.underlying24 rfl L1.out) rfl ⟨rfl, by rw [hk]; exact below_setRow_ HB.out (by omega)⟩

end Go.Proofs.Ytfpmmajgnijboaa
