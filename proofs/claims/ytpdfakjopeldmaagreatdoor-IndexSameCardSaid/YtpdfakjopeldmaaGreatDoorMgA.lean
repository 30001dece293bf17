/-
  Attributes as functions: the number at each of eight places (0: the sequence number; q + 1: what is covered of the replica q). No program in it.
-/
import Derived.Test.YtpdfakjopeldmaaGreatDoorHeld
import Derived.Deep.MidRow
import Derived.Test.YtpdfakjopeldmaaGreatDoorRows
import Derived.Test.YtpdfakjopeldmaaGreatDoorMgM
import Derived.Deep.RegionHeld3
import Derived.ChangeKeysEq
import Derived.Deep.Cut
import Derived.BigQuiet
import Derived.RegionTactic
import Derived.Laws.StructEq
namespace Go.Proofs.YtpdfakjopeldmaaGreatDoor
open Go.ChangeShapes Go.WideShapes Go.ChangeAt Go.RowKit

def lsA (f : Nat → Int) : List Value := (List.range 8).map fun i => Value.int .i64 (f i)
def lsD (f : Nat → Int) : List Value := (List.range 7).map fun i => Value.int .i64 (f (i + 1))
def rowA (f : Nat → Int) : Array Value := (lsA f).toArray
def upd (f : Nat → Int) (k : Nat) (x : Int) : Nat → Int := fun i => if i = k then x else f i

theorem rowA_size (f : Nat → Int) : (rowA f).size = 8 := by simp [rowA, lsA]
theorem lsD_len (f : Nat → Int) : (lsD f).length = 7 := by simp [lsD]
theorem rowA_get (f : Nat → Int) {i : Nat} (h : i < 8) : (rowA f)[i]? = some (.int .i64 (f i)) := by
  simp [rowA, lsA, List.getElem?_range h]
theorem lsD_get (f : Nat → Int) {i : Nat} (h : i < 7) : (lsD f)[i]? = some (.int .i64 (f (i + 1))) := by
  simp [lsD, List.getElem?_range h]
theorem rowA_congr {f g : Nat → Int} (h : ∀ i, i < 8 → f i = g i) : rowA f = rowA g := by
  unfold rowA lsA
  congr 1
  refine List.map_congr_left fun i hi => ?_
  rw [h i (List.mem_range.1 hi)]
theorem lsD_congr {f g : Nat → Int} (h : ∀ i, i < 7 → f (i + 1) = g (i + 1)) : lsD f = lsD g := by
  unfold lsD
  refine List.map_congr_left fun i hi => ?_
  rw [h i (List.mem_range.1 hi)]
theorem rowA_inj {f g : Nat → Int} (h : rowA f = rowA g) {i : Nat} (hi : i < 8) : f i = g i := by
  have h1 := rowA_get f hi
  rw [h, rowA_get g hi] at h1
  injection h1 with h1
  injection h1 with _ h1
  exact h1.symm
theorem rowA_set (f : Nat → Int) (k : Nat) (x : Int) : (rowA f).setIfInBounds k (.int .i64 x) = rowA (upd f k x) := by
  apply Array.ext
  · simp [rowA_size]
  · intro i h1 h2
    have hi : i < 8 := by rw [rowA_size] at h2; exact h2
    have e1 := rowA_get f hi
    have e2 := rowA_get (upd f k x) hi
    rw [Array.getElem_setIfInBounds (by rw [rowA_size]; exact hi)]
    have e3 := (Array.getElem?_eq_some_iff.1 e2).2
    rw [e3]
    have e4 := (Array.getElem?_eq_some_iff.1 e1).2
    unfold upd
    by_cases e : k = i
    · subst e; simp
    · rw [if_neg e, if_neg (Ne.symm e)]; exact e4
theorem rowA_one (f : Nat → Int) : (rowA f).all (·.oneCell') = true := by
  simp [rowA, lsA, Value.oneCell']
theorem upd_same (f : Nat → Int) (k : Nat) : upd f k (f k) = f := by
  funext i; unfold upd; split
  · next h => rw [h]
  · rfl

/-- The two numbers' greater one, at each place. -/
def mx (f g : Nat → Int) : Nat → Int := fun i => if f i < g i then g i else f i
/-- The greater ones at the first k places, the first one's at the others. -/
def mxTo (f g : Nat → Int) (k : Nat) : Nat → Int := fun i => if i < k then (if f i < g i then g i else f i) else f i
theorem mxTo_next (f g : Nat → Int) (k : Nat) : rowA (upd (mxTo f g k) k (if f k < g k then g k else f k)) = rowA (mxTo f g (k + 1)) := rowA_congr fun i _ => by
  unfold upd mxTo
  by_cases h : i = k
  · subst h; simp
  · rw [if_neg h]
    by_cases h2 : i < k
    · simp only [if_pos h2, if_pos (show i < k + 1 by omega)]
    · simp only [if_neg h2, if_neg (show ¬ i < k + 1 by omega)]
theorem mxTo_at (f g : Nat → Int) (k : Nat) : mxTo f g k k = f k := by unfold mxTo; rw [if_neg (by omega)]
theorem mxTo_none (f g : Nat → Int) : mxTo f g 0 = f := by funext i; unfold mxTo; rw [if_neg (by omega)]
theorem mxTo_all (f g : Nat → Int) {k : Nat} (h : 8 ≤ k) : rowA (mxTo f g k) = rowA (mx f g) := rowA_congr fun i hi => by
  unfold mxTo mx; simp only [if_pos (show i < k by omega)]

theorem mxTo_skip {f g : Nat → Int} {k : Nat} (h : ¬ f k < g k) : rowA (mxTo f g k) = rowA (mxTo f g (k + 1)) := by
  rw [← mxTo_next, if_neg h, ← mxTo_at f g k, upd_same]
theorem mxTo_put {f g : Nat → Int} {k : Nat} (h : f k < g k) : rowA (upd (mxTo f g k) k (g k)) = rowA (mxTo f g (k + 1)) := by
  rw [← mxTo_next, if_pos h]

/-- Is none of the eight greater? -/
def inB (f g : Nat → Int) : Bool := (List.range 8).all fun i => decide (f i ≤ g i)
theorem inB_iff {f g : Nat → Int} : inB f g = true ↔ ∀ i, i < 8 → f i ≤ g i := by simp [inB, List.all_eq_true]
/-- May they be? -/
def okB (f : Nat → Int) : Bool := decide (0 ≤ f 0 ∧ f 0 ≤ 1073741824) && (List.range 7).all fun i => decide (0 ≤ f (i + 1) ∧ f (i + 1) ≤ 1024)
theorem okB_iff {f : Nat → Int} : okB f = true ↔ (0 ≤ f 0 ∧ f 0 ≤ 1073741824) ∧ ∀ i, i < 7 → 0 ≤ f (i + 1) ∧ f (i + 1) ≤ 1024 := by simp [okB, List.all_eq_true]

/-- What a block with attributes gives. -/
theorem Blk.att {w : World} {g : Nat} {T : TypeId} {f : Nat → Int} (h : Blk w g T (rowA f)) {i : Nat} (hi : i < 8) : w.cell? ⟨g, i, none⟩ = some (.int .i64 (f i)) := (h.cell i).trans (rowA_get f hi)
theorem Blk.attSet {w : World} {g : Nat} {T : TypeId} {f : Nat → Int} (h : Blk w g T (rowA f)) (i : Nat) (x : Int) : Blk (w.setCell ⟨g, i, none⟩ (.int .i64 x)) g T (rowA (upd f i x)) := by
  have := h.set_ i (.int .i64 x)
  rwa [rowA_set] at this
theorem Blk.range {w : World} {g : Nat} {T : TypeId} {f : Nat → Int} (h : Blk w g T (rowA f)) : w.rangeAt g 1 (lsD f) := by
  intro j v hv
  have hj : j < 7 := by rw [← lsD_len f]; exact (List.getElem?_eq_some_iff.1 hv).1
  rw [lsD_get f hj] at hv
  rw [h.att (by omega), ← hv, Nat.add_comm 1 j]
theorem Blk.as {w : World} {g : Nat} {T : TypeId} {cs ds : Array Value} (h : Blk w g T cs) (e : cs = ds) : Blk w g T ds := e ▸ h

end Go.Proofs.YtpdfakjopeldmaaGreatDoor

/-
  Contracts of attributes (package attr, and the document's own): Merge.
-/
namespace Go.Proofs.YtpdfakjopeldmaaGreatDoor
open Go.ChangeShapes Go.WideShapes Go.ChangeAt Go.RowKit
set_option linter.unusedVariables false

theorem below_setRow_ {B : Nat} {a w : World} {g : Nat} {cs : Array Value} (h : Below B a w) (hg : B ≤ g) : Below B a (w.setRow g cs) :=
  h.trans ⟨rfl, rfl, rfl, by simp, fun k hk => setRow_other w g k cs (by omega)⟩
theorem info_attr : (Tryz.prog.info? 39).map (·.size) = some 8 := by kernel_rfl
theorem info_seven : (Tryz.prog.info? 37).map (·.size) = some 7 := by kernel_rfl
theorem zeros_row : (#[.int .i64 0, .int .i64 0, .int .i64 0, .int .i64 0, .int .i64 0, .int .i64 0, .int .i64 0, .int .i64 0] : Array Value) = rowA fun _ => 0 := rfl

/-- Three boxes that are made. -/
theorem three_new {w W : World} {T U V : TypeId} {a b c : Array Value} (h : ((w.alloc (.cells a T)).alloc (.cells b U)).alloc (.cells c V) = W) :
    Hid (Blk W w.heap.size T a) ∧ Hid (Blk W (w.heap.size + 1) U b) ∧ Hid (Blk W (w.heap.size + 1 + 1) V c) ∧ Hid (Below w.heap.size w W) := by
  subst h
  have h1 := Blk.new w T a
  have h2 := Blk.new (w.alloc (.cells a T)) U b
  have h3 := Blk.new ((w.alloc (.cells a T)).alloc (.cells b U)) V c
  rw [show (w.alloc (.cells a T)).heap.size = w.heap.size + 1 by simp] at h2
  rw [show ((w.alloc (.cells a T)).alloc (.cells b U)).heap.size = w.heap.size + 1 + 1 by simp] at h3
  exact ⟨hid ((h1.alloc _).alloc _), hid (h2.alloc _), hid h3, hid ((((Below.refl _ w).alloc (Nat.le_refl _) _).alloc (by simp) _).alloc (by simp <;> omega) _)⟩

theorem len_seven (f : Nat → Int) : (Tryz.prog.info? 37).map (·.size) = some (lsD f).length := by rw [lsD_len]; exact info_seven
theorem len_attr (f : Nat → Int) : (Tryz.prog.info? 39).map (·.size) = some (rowA f).size := by rw [rowA_size]; exact info_attr
theorem size_zero (f : Nat → Int) : (rowA fun _ => 0).size = (rowA f).size := by rw [rowA_size, rowA_size]

theorem run_index_seven (cs : Array Value) (j : Nat) (v : Value) (hj : j < 7) (hv : cs[j]? = some v) (w : World) : (Instr.index 37 (.agg cs) (.int .i64 (j : Int))).run Tryz.prog w = .ok v w := by
  obtain ⟨i, hi⟩ : ∃ i, Tryz.prog.info? 3 = some i := Option.isSome_iff_exists.1 (show (Tryz.prog.info? 3).isSome = true by kernel_rfl)
  have hs := run_sizeOf (P := Tryz.prog) w hi
  rw [show Tryz.prog.cellsOf 3 = 1 by kernel_rfl] at hs
  have hp := run_part_plain (P := Tryz.prog) (w := w) (e := 3) (by kernel_rfl) hv
  have h1 : (0 : Int) ≤ (j : Int) ∧ (j : Int) < ((7 : Nat) : Int) := by omega
  simp only [Instr.index, asIntOf, Sem.run_bind, Sem.run_pure, run_underlying Tryz.underlying37, Result.andThen_ok, Sem.run_ite, if_pos h1, hs, Int.toNat_natCast, Nat.mul_one, hp]

theorem run_maxi (P : Program) (a b m : Int) (h : (if a < b then b else a) = m) (w : World) (ts : Array TypeId) (t : TypeId) : (Builtin.max_ ts t #[.int .i64 a, .int .i64 b]).run P w = .ok (.int .i64 m) w := by
  subst h
  by_cases h : a < b <;> simp [Builtin.max_, Builtin.max2, h]
theorem run_mini (P : Program) (a b m : Int) (h : min a b = m) (w : World) (ts : Array TypeId) (t : TypeId) : (Builtin.min_ ts t #[.int .i64 a, .int .i64 b]).run P w = .ok (.int .i64 m) w := by
  subst h
  rcases (show b < a ∨ a ≤ b by omega) with h | h
  · have : min a b = b := by omega
    rw [this]
    simp [Builtin.min_, Builtin.min2, h]
  · have : min a b = a := by omega
    rw [this]
    have h2 : ¬ b < a := by omega
    simp [Builtin.min_, Builtin.min2, h2]

set_option maxRecDepth 100000 in
set_option maxHeartbeats 400000 in
theorem merge_any (f g : Nat → Int) (w : World) :
    Calls Tryz.prog 58 #[.agg (rowA f), .agg (rowA g)] w fun e w' => e = .returned (.agg (rowA (mx f g))) ∧ Below w.heap.size w w' := by
  go_enter Tryz.func58, Tryz.ntmps58
  go_upto_region 1 with fail
  obtain ⟨W, hW⟩ : ∃ W, ((w.alloc (.cells (rowA f) 39)).alloc (.cells (rowA g) 39)).alloc (.cells #[.int .i64 0, .int .i64 0, .int .i64 0, .int .i64 0, .int .i64 0, .int .i64 0, .int .i64 0, .int .i64 0] 39) = W := ⟨_, rfl⟩
  rw [hW]
  obtain ⟨K0, K1, K2, KB⟩ := three_new hW
  rw [zeros_row] at K2
  clear hW
  obtain ⟨k, hk⟩ : ∃ k, w.heap.size = k := ⟨_, rfl⟩
  rw [hk] at K0 K1 K2 KB
  rw [hk]
  have c0 := K0.out.att (i := 0) (by decide)
  have d0 := K1.out.att (i := 0) (by decide)
  have f0 := K0.out.frozen 0
  have H7 := hid (len_seven g)
  go_upto_region 2 with fail
  obtain ⟨W1, hW1⟩ : ∃ W1, W.setCell ⟨k, 0, none⟩ (.int .i64 (if f 0 < g 0 then g 0 else f 0)) = W1 := ⟨_, rfl⟩
  rw [hW1]
  have M0 : Hid (Blk W1 k 39 (rowA (mxTo f g 1))) := hid (by rw [← hW1, ← mxTo_next f g 0, mxTo_none]; exact K0.out.attSet 0 _)
  have M1 : Hid (Blk W1 (k + 1) 39 (rowA g)) := hid (by rw [← hW1]; exact K1.out.far (by simp) _)
  have M2 : Hid (Blk W1 (k + 1 + 1) 39 (rowA fun _ => 0)) := hid (by rw [← hW1]; exact K2.out.far (by simp <;> omega) _)
  have MB : Hid (Below k w W1) := hid (by rw [← hW1]; exact KB.out.setCell (Nat.le_refl _) _)
  have MR := hid M1.out.range
  clear hW1 K0 K1 K2 KB c0 d0 f0
  generalize (if f 0 < g 0 then g 0 else f 0) = m0
  go_wp2_with (with_reducible refine wpList_load_mid (op := ⟨some 14, _, _, _, _, _⟩) rfl 37 (.tmp 13) rfl (k + 1) 1 rfl (lsD g) _ MR.out Tryz.underlying37 rfl H7.out ?_)
  have HI : Hid (∀ j : Nat, j < 7 → (lsD g)[j]? = some (.int .i64 (g (1 + j)))) := hid (fun j hj => by rw [lsD_get g hj, Nat.add_comm])
  have HN := hid (lsD_len g)
  obtain ⟨ds, hds⟩ : ∃ ds, lsD g = ds := ⟨_, rfl⟩
  rw [hds] at HI HN
  rw [hds]
  clear hds MR H7
  go_loopw [15] (fun iv wr => ∃ j : Nat, j ≤ 7 ∧ iv = .int .i64 j ∧ Hid (Blk wr k 39 (rowA (mxTo f g (1 + j)))) ∧ Hid (Blk wr (k + 1 + 1) 39 (rowA fun _ => 0)) ∧ Hid (Below k w wr)) (fun iv _ => 7 - (intOf iv).toNat)
  case atStart => exact ⟨0, by omega, rfl, M0, M2, MB⟩
  case round =>
    obtain ⟨j, hj, rfl, H0, H2, HB⟩ := hrel
    by_cases hlt : j < 7
    · have hx := run_index_seven ds.toArray j _ hlt ((List.getElem?_toArray ..).trans (HI.out j hlt))
      have c1 := H0.out.att (i := 1 + j) (by omega)
      rw [mxTo_at] at c1
      have f1 := H0.out.frozen (1 + j)
      have HS := H0.out.attSet (1 + j) (if f (1 + j) < g (1 + j) then g (1 + j) else f (1 + j))
      rw [mxTo_next] at HS
      have HS := hid HS
      have HB2 := hid (HB.out.setCell (p := ⟨k, 1 + j, none⟩) (Nat.le_refl _) (.int .i64 (if f (1 + j) < g (1 + j) then g (1 + j) else f (1 + j))))
      have H3 := hid (H2.out.far (p := ⟨k, 1 + j, none⟩) (by simp <;> omega) (.int .i64 (if f (1 + j) < g (1 + j) then g (1 + j) else f (1 + j))))
      go_wp2
      go_roundw
      case rel => exact ⟨j + 1, by omega, by go_num, HS, H3, HB2⟩
      case measure => simp only [intOf]; omega
    · have hj7 : 1 + j = 8 := by omega
      rw [hj7, mxTo_all f g (Nat.le_refl _)] at H0
      have L1 := hid (len_attr (mx f g))
      have L2 := hid (size_zero (mx f g))
      have L3 := hid (rowA_one (mx f g))
      clear hj7
      go_wp2_with (first
        | (with_reducible refine wpList_load_row (o := ⟨some 29, _, _, _, _, _⟩) rfl 39 (.tmp 2) rfl k rfl 39 (rowA (mx f g)) (0, 0) _ H0.out.heap Tryz.underlying39 rfl L1.out ?_)
        | (with_reducible refine wpList_store_row (o := ⟨none, _, _, _, _, _⟩) rfl 39 (.tmp 4) (.tmp 29) rfl (k + 1 + 1) (rowA (mx f g)) rfl rfl 39 _ H2.out.heap L1.out L2.out L3.out ?_))
      exact bodyPost_ret (v := .agg (rowA (mx f g))) (results_cell_row (p := 4) (ty := 39) (by kernel_rfl) _ _ (k + 1 + 1) 39 (rowA (mx f g)) (0, 0) _ rfl (setRow_heap wr (k + 1 + 1) _ (rowA (mx f g)) _ _ H2.out.heap) Tryz.underlying39 rfl L1.out) rfl ⟨rfl, by rw [hk]; exact below_setRow_ HB.out (by omega)⟩

end Go.Proofs.YtpdfakjopeldmaaGreatDoor

/-
  Contracts of attributes (package attr, and the document's own): Right.
-/
namespace Go.Proofs.YtpdfakjopeldmaaGreatDoor
open Go.ChangeShapes Go.WideShapes Go.ChangeAt Go.RowKit
set_option linter.unusedVariables false

/-- One box that is made. -/
theorem one_new {w W : World} {T : TypeId} {a : Array Value} (h : w.alloc (.cells a T) = W) : Hid (Blk W w.heap.size T a) ∧ Hid (Below w.heap.size w W) := by
  subst h
  exact ⟨hid (Blk.new w T a), hid ((Below.refl _ w).alloc (Nat.le_refl _) _)⟩
/-- Two boxes that are made. -/
theorem two_new {w W : World} {T U : TypeId} {a b : Array Value} (h : (w.alloc (.cells a T)).alloc (.cells b U) = W) :
    Hid (Blk W w.heap.size T a) ∧ Hid (Blk W (w.heap.size + 1) U b) ∧ Hid (Below w.heap.size w W) := by
  subst h
  have h2 := Blk.new (w.alloc (.cells a T)) U b
  rw [show (w.alloc (.cells a T)).heap.size = w.heap.size + 1 by simp] at h2
  exact ⟨hid ((Blk.new w T a).alloc _), hid h2, hid (((Below.refl _ w).alloc (Nat.le_refl _) _).alloc (by simp) _)⟩

theorem okB_seq {f : Nat → Int} (h : ¬ (0 ≤ f 0 ∧ f 0 ≤ 1073741824)) : okB f = false := by
  rw [Bool.eq_false_iff]; intro hh; exact h (okB_iff.1 hh).1
theorem okB_dep {f : Nat → Int} {j : Nat} (hj : j < 7) (h : ¬ (0 ≤ f (1 + j) ∧ f (1 + j) ≤ 1024)) : okB f = false := by
  rw [Bool.eq_false_iff]; intro hh; rw [Nat.add_comm] at h; exact h ((okB_iff.1 hh).2 j hj)
theorem okB_all {f : Nat → Int} {j : Nat} (hj : 7 ≤ j) (h0 : 0 ≤ f 0 ∧ f 0 ≤ 1073741824) (h : ∀ i, i < j → 0 ≤ f (1 + i) ∧ f (1 + i) ≤ 1024) : okB f = true :=
  okB_iff.2 ⟨h0, fun i hi => by have := h i (by omega); rwa [Nat.add_comm] at this⟩
theorem okB_of {f : Nat → Int} {j : Nat} (hj : 7 ≤ j) (h : ∀ i, i < j → 0 ≤ f (1 + i) ∧ f (1 + i) ≤ 1024) : okB f = decide (0 ≤ f 0 ∧ f 0 ≤ 1073741824) := by
  by_cases h0 : 0 ≤ f 0 ∧ f 0 ≤ 1073741824
  · rw [okB_all hj h0 h, decide_eq_true h0]
  · rw [okB_seq h0, decide_eq_false h0]

set_option maxRecDepth 100000 in
set_option maxHeartbeats 400000 in
theorem aright_any (f : Nat → Int) (w : World) :
    Calls Tryz.prog 31 #[.agg (rowA f)] w fun e w' => e = .returned (.bool (okB f)) ∧ Below w.heap.size w w' := by
  go_enter Tryz.func31, Tryz.ntmps31
  go_upto_region 1 with fail
  obtain ⟨W, hW⟩ : ∃ W, w.alloc (.cells (rowA f) 39) = W := ⟨_, rfl⟩
  rw [hW]
  obtain ⟨K0, KB⟩ := one_new hW
  clear hW
  obtain ⟨k, hk⟩ : ∃ k, w.heap.size = k := ⟨_, rfl⟩
  rw [hk] at K0 KB
  rw [hk]
  have HK := hid hk
  clear hk
  have c0 := K0.out.att (i := 0) (by decide)
  by_cases hs : 0 ≤ f 0 ∧ f 0 ≤ 1073741824
  · have HS := hid hs
    obtain ⟨h1, h2⟩ := hs
    have H7 := hid (len_seven f)
    have MR := hid K0.out.range
    go_wp2_with (with_reducible refine wpList_load_mid (op := ⟨some 14, _, _, _, _, _⟩) rfl 37 (.tmp 13) rfl k 1 rfl (lsD f) _ MR.out Tryz.underlying37 rfl H7.out ?_)
    have HI : Hid (∀ j : Nat, j < 7 → (lsD f)[j]? = some (.int .i64 (f (1 + j)))) := hid (fun j hj => by rw [lsD_get f hj, Nat.add_comm])
    obtain ⟨ds, hds⟩ : ∃ ds, lsD f = ds := ⟨_, rfl⟩
    rw [hds] at HI
    rw [hds]
    clear hds MR H7 c0
    go_loop [15] (fun iv => ∃ j : Nat, j ≤ 7 ∧ iv = .int .i64 j ∧ Hid (∀ i, i < j → 0 ≤ f (1 + i) ∧ f (1 + i) ≤ 1024)) (fun iv => 7 - (intOf iv).toNat)
    case atStart => exact ⟨0, by omega, rfl, hid (fun i hi => absurd hi (by omega))⟩
    case round =>
      obtain ⟨j, hj, rfl, H⟩ := hrel
      by_cases hlt : j < 7
      · have hx := run_index_seven ds.toArray j _ hlt ((List.getElem?_toArray ..).trans (HI.out j hlt))
        have HF := hid (fun h => okB_dep (f := f) hlt h)
        have HN : Hid (0 ≤ f (1 + j) ∧ f (1 + j) ≤ 1024 → ∀ i, i < j + 1 → 0 ≤ f (1 + i) ∧ f (1 + i) ≤ 1024) := hid (fun h i hi => by
          rcases (show i < j ∨ i = j by omega) with h2 | h2
          · exact H.out i h2
          · rw [h2]; exact h)
        generalize f (1 + j) = x at hx HF HN
        rcases (show x < 0 ∨ 1024 < x ∨ (0 ≤ x ∧ x ≤ 1024) by omega) with h | h | h
        · have HV := hid (HF.out (by omega))
          go_wp2
          go_ret
          exact ⟨ret_bool HV.out.symm, by rw [HK.out]; exact KB.out⟩
        · have HV := hid (HF.out (by omega))
          go_wp2
          go_ret
          exact ⟨ret_bool HV.out.symm, by rw [HK.out]; exact KB.out⟩
        · have HV := hid (HN.out h)
          obtain ⟨h3, h4⟩ := h
          go_wp2
          go_round
          case rel => exact ⟨j + 1, by omega, by go_num, HV⟩
          case measure => simp only [intOf]; omega
      · have HV := hid (okB_all (f := f) (by omega) HS.out H.out)
        go_wp2
        go_ret
        exact ⟨ret_bool HV.out.symm, by rw [HK.out]; exact KB.out⟩
  · have HV := hid (okB_seq hs)
    rcases (show f 0 < 0 ∨ 1073741824 < f 0 by omega) with h | h
    all_goals
      clear hs
      go_wp2
      go_ret
      exact ⟨ret_bool HV.out.symm, by rw [HK.out]; exact KB.out⟩

set_option maxRecDepth 100000 in
set_option maxHeartbeats 400000 in
theorem refaright_any (f : Nat → Int) (w : World) :
    Calls Tryz.prog 21 #[.agg (rowA f)] w fun e w' => e = .returned (.bool (okB f)) ∧ Below w.heap.size w w' := by
  go_enter Tryz.func21, Tryz.ntmps21
  go_upto_region 1 with fail
  obtain ⟨W, hW⟩ : ∃ W, w.alloc (.cells (rowA f) 72) = W := ⟨_, rfl⟩
  rw [hW]
  obtain ⟨K0, KB⟩ := one_new hW
  clear hW
  obtain ⟨k, hk⟩ : ∃ k, w.heap.size = k := ⟨_, rfl⟩
  rw [hk] at K0 KB
  rw [hk]
  have HK := hid hk
  clear hk
  go_wp2
  go_loop [3] (fun iv => ∃ j : Nat, j ≤ 7 ∧ iv = .int .i64 j ∧ Hid (∀ i, i < j → 0 ≤ f (1 + i) ∧ f (1 + i) ≤ 1024)) (fun iv => 7 - (intOf iv).toNat)
  case atStart => exact ⟨0, by omega, rfl, hid (fun i hi => absurd hi (by omega))⟩
  case round =>
    obtain ⟨j, hj, rfl, H⟩ := hrel
    by_cases hlt : j < 7
    · have c1 := K0.out.att (i := 1 + j) (by omega)
      have HF := hid (fun h => okB_dep (f := f) hlt h)
      have HN : Hid (0 ≤ f (1 + j) ∧ f (1 + j) ≤ 1024 → ∀ i, i < j + 1 → 0 ≤ f (1 + i) ∧ f (1 + i) ≤ 1024) := hid (fun h i hi => by
        rcases (show i < j ∨ i = j by omega) with h2 | h2
        · exact H.out i h2
        · rw [h2]; exact h)
      generalize f (1 + j) = x at c1 HF HN
      rcases (show x < 0 ∨ 1024 < x ∨ (0 ≤ x ∧ x ≤ 1024) by omega) with h | h | h
      · have HV := hid (HF.out (by omega))
        go_wp2
        go_ret
        exact ⟨ret_bool HV.out.symm, by rw [HK.out]; exact KB.out⟩
      · have HV := hid (HF.out (by omega))
        go_wp2
        go_ret
        exact ⟨ret_bool HV.out.symm, by rw [HK.out]; exact KB.out⟩
      · have HV := hid (HN.out h)
        obtain ⟨h3, h4⟩ := h
        go_wp2
        go_round
        case rel => exact ⟨j + 1, by omega, by go_num, HV⟩
        case measure => simp only [intOf]; omega
    · have HV := hid (okB_of (f := f) (by omega) H.out)
      have c0 := K0.out.att (i := 0) (by decide)
      generalize f 0 = x at c0 HV
      rcases (show x < 0 ∨ 1073741824 < x ∨ (0 ≤ x ∧ x ≤ 1073741824) by omega) with h | h | ⟨h, h2⟩
      all_goals
        go_wp2
        go_ret
        exact ⟨ret_bool (by rw [HV.out]; rw [Bool.eq_iff_iff]; simp; try omega), by rw [HK.out]; exact KB.out⟩

end Go.Proofs.YtpdfakjopeldmaaGreatDoor

/-
  The document's own Merge and Within.
-/
namespace Go.Proofs.YtpdfakjopeldmaaGreatDoor
open Go.ChangeShapes Go.WideShapes Go.ChangeAt Go.RowKit
set_option linter.unusedVariables false

theorem info_refa : (Tryz.prog.info? 72).map (·.size) = some 8 := by kernel_rfl
theorem len_refa (f : Nat → Int) : (Tryz.prog.info? 72).map (·.size) = some (rowA f).size := by rw [rowA_size]; exact info_refa

theorem inB_no {f g : Nat → Int} {i : Nat} (hi : i < 8) (h : g i < f i) : inB f g = false := by
  rw [Bool.eq_false_iff]; intro hh; have := inB_iff.1 hh i hi; omega
theorem inB_of {f g : Nat → Int} {j : Nat} (hj : 7 ≤ j) (h : ∀ i, i < j → f (1 + i) ≤ g (1 + i)) : inB f g = decide (f 0 ≤ g 0) := by
  by_cases h0 : f 0 ≤ g 0
  · rw [decide_eq_true h0]
    refine inB_iff.2 fun i hi => ?_
    cases i with
    | zero => exact h0
    | succ i => have := h i (by omega); rwa [Nat.add_comm] at this
  · rw [decide_eq_false h0]
    exact inB_no (i := 0) (by decide) (by omega)

end Go.Proofs.YtpdfakjopeldmaaGreatDoor

/-
  Attributes, compared: run equations of '==' at both kinds, and at the seven numbers alone.
-/
namespace Go.Proofs.YtpdfakjopeldmaaGreatDoor
open Go.ChangeShapes Go.WideShapes Go.ChangeAt Go.RowKit
set_option linter.unusedVariables false
set_option linter.unusedSimpArgs false

/-- Attributes by value, cell by cell; and the seven of them. -/
abbrev cs8 (f : Nat → Int) : Array Value := #[.int .i64 (f 0), .int .i64 (f 1), .int .i64 (f 2), .int .i64 (f 3), .int .i64 (f 4), .int .i64 (f 5), .int .i64 (f 6), .int .i64 (f 7)]
abbrev cs7 (f : Nat → Int) : Array Value := #[.int .i64 (f 1), .int .i64 (f 2), .int .i64 (f 3), .int .i64 (f 4), .int .i64 (f 5), .int .i64 (f 6), .int .i64 (f 7)]
abbrev va (f : Nat → Int) : Value := .agg (cs8 f)
theorem rowA_cs (f : Nat → Int) : rowA f = cs8 f := rfl
theorem cs7_get (f : Nat → Int) {i : Nat} (h : i < 7) : (cs7 f)[i]? = some (.int .i64 (f (i + 1))) := by
  have e : cs7 f = (lsD f).toArray := rfl
  rw [e, List.getElem?_toArray]; exact lsD_get f h

/-- Are they the same? The seven alone; all eight. -/
def eqD (f g : Nat → Int) : Bool := (List.range 7).all fun i => f (i + 1) == g (i + 1)
def eqA (f g : Nat → Int) : Bool := f 0 == g 0 && eqD f g
theorem eqD_iff {f g : Nat → Int} : eqD f g = true ↔ ∀ i, i < 7 → f (i + 1) = g (i + 1) := by simp [eqD, List.all_eq_true]
theorem eqA_iff {f g : Nat → Int} : eqA f g = true ↔ ∀ i, i < 8 → f i = g i := by
  unfold eqA
  rw [Bool.and_eq_true, beq_iff_eq, eqD_iff]
  constructor
  · rintro ⟨h0, h⟩ i hi
    cases i with
    | zero => exact h0
    | succ i => exact h i (by omega)
  · intro h
    exact ⟨h 0 (by decide), fun i hi => h (i + 1) (by omega)⟩
theorem eqA_self (f : Nat → Int) : eqA f f = true := eqA_iff.2 fun _ _ => rfl

theorem items_seven (f g : Nat → Int) (d : Nat) (w : World) : ∀ is : List Nat, (∀ i ∈ is, i < 7) → (Op.eqItems (d + 1) 3 1 (cs7 f) (cs7 g) is).run Tryz.prog w = .ok (is.all fun i => f (i + 1) == g (i + 1)) w
  | [], _ => by simp [Op.eqItems]
  | i :: is, h => by
    have hi : (cs7 f)[i * 1]? = some (.int .i64 (f (i + 1))) := by rw [Nat.mul_one]; exact cs7_get f (h i (by simp))
    have hj : (cs7 g)[i * 1]? = some (.int .i64 (g (i + 1))) := by rw [Nat.mul_one]; exact cs7_get g (h i (by simp))
    have hp := run_part_plain (P := Tryz.prog) (w := w) (e := 3) (by kernel_rfl) hi
    have hq := run_part_plain (P := Tryz.prog) (w := w) (e := 3) (by kernel_rfl) hj
    have he := run_equalIn_int (P := Tryz.prog) w d 3 .i64 .i64 (f (i + 1)) (g (i + 1)) Tryz.underlying3
    have ih := items_seven f g d w is (fun j hj => h j (by simp [hj]))
    obtain ⟨x, hx⟩ : ∃ x, (f (i + 1) == g (i + 1)) = x := ⟨_, rfl⟩
    rw [hx] at he
    simp only [Op.eqItems, Sem.run_bind, hp, hq, Result.andThen_ok, he, List.all_cons, hx]
    cases x
    · simp
    · simpa using ih
theorem eq_seven (f g : Nat → Int) (d : Nat) (w : World) : (Op.equalIn (d + 2) 37 (.agg (cs7 f)) (.agg (cs7 g))).run Tryz.prog w = .ok (eqD f g) w := by
  obtain ⟨i, hi⟩ : ∃ i, Tryz.prog.info? 3 = some i := Option.isSome_iff_exists.1 (show (Tryz.prog.info? 3).isSome = true by kernel_rfl)
  rw [run_equalIn_array w (d + 1) _ _ Tryz.underlying37 hi]
  have hc : Tryz.prog.cellsOf 3 = 1 := by kernel_rfl
  rw [hc]
  exact items_seven f g d w _ (fun i hi => List.mem_range.1 hi)
theorem eq_dep (f g : Nat → Int) (b : Bool) (hb : eqD f g = b) (w : World) : (Op.equalIn 10000 37 (.agg #[.int .i64 (f 1), .int .i64 (f 2), .int .i64 (f 3), .int .i64 (f 4), .int .i64 (f 5), .int .i64 (f 6), .int .i64 (f 7)]) (.agg #[.int .i64 (g 1), .int .i64 (g 2), .int .i64 (g 3), .int .i64 (g 4), .int .i64 (g 5), .int .i64 (g 6), .int .i64 (g 7)])).run Tryz.prog w = .ok b w := by
  subst hb
  exact eq_seven f g 9998 w

theorem part_deps (f : Nat → Int) (w : World) : (part 37 (cs8 f) 1).run Tryz.prog w = .ok (.agg (cs7 f)) w := by
  simp [go_sem, part]

theorem eq_attr (f g : Nat → Int) (b : Bool) (hb : eqA f g = b) (w : World) : (Op.equalIn 10000 39 (.agg #[.int .i64 (f 0), .int .i64 (f 1), .int .i64 (f 2), .int .i64 (f 3), .int .i64 (f 4), .int .i64 (f 5), .int .i64 (f 6), .int .i64 (f 7)]) (.agg #[.int .i64 (g 0), .int .i64 (g 1), .int .i64 (g 2), .int .i64 (g 3), .int .i64 (g 4), .int .i64 (g 5), .int .i64 (g 6), .int .i64 (g 7)])).run Tryz.prog w = .ok b w := by
  have ht : Tryz.prog.underlying 39 = some (.struct (Tryz.prog.fieldsOf 39)) := by kernel_rfl
  have hp : Tryz.prog.stoodInHeld 39 = false := by kernel_rfl
  rw [run_equalIn_struct w 9999 _ _ _ ht hp]
  have p0 := run_part_plain (P := Tryz.prog) (w := w) (e := 3) (by kernel_rfl) (xs := cs8 f) (off := 0) rfl
  have q0 := run_part_plain (P := Tryz.prog) (w := w) (e := 3) (by kernel_rfl) (xs := cs8 g) (off := 0) rfl
  have p1 := part_deps f w
  have q1 := part_deps g w
  have e0 := run_equalIn_int (P := Tryz.prog) w 9998 3 .i64 .i64 (f 0) (g 0) Tryz.underlying3
  have e1 := eq_seven f g 9997 w
  subst hb
  unfold eqA
  obtain ⟨x, hx⟩ : ∃ x, (f 0 == g 0) = x := ⟨_, rfl⟩
  rw [hx] at e0 ⊢
  obtain ⟨y, hy⟩ : ∃ y, eqD f g = y := ⟨_, rfl⟩
  rw [hy] at e1 ⊢
  cases x <;> cases y <;> simp [Program.fieldsOf, Tryz.underlying39, Op.eqFields, p0, p1, q0, q1, e0, e1, Sem.run_bind, Sem.run_ite, Result.andThen_ok]
theorem eq_refa (f g : Nat → Int) (b : Bool) (hb : eqA f g = b) (w : World) : (Op.equalIn 10000 72 (.agg #[.int .i64 (f 0), .int .i64 (f 1), .int .i64 (f 2), .int .i64 (f 3), .int .i64 (f 4), .int .i64 (f 5), .int .i64 (f 6), .int .i64 (f 7)]) (.agg #[.int .i64 (g 0), .int .i64 (g 1), .int .i64 (g 2), .int .i64 (g 3), .int .i64 (g 4), .int .i64 (g 5), .int .i64 (g 6), .int .i64 (g 7)])).run Tryz.prog w = .ok b w := by
  have ht : Tryz.prog.underlying 72 = some (.struct (Tryz.prog.fieldsOf 72)) := by kernel_rfl
  have hp : Tryz.prog.stoodInHeld 72 = false := by kernel_rfl
  rw [run_equalIn_struct w 9999 _ _ _ ht hp]
  have p0 := run_part_plain (P := Tryz.prog) (w := w) (e := 3) (by kernel_rfl) (xs := cs8 f) (off := 0) rfl
  have q0 := run_part_plain (P := Tryz.prog) (w := w) (e := 3) (by kernel_rfl) (xs := cs8 g) (off := 0) rfl
  have p1 := part_deps f w
  have q1 := part_deps g w
  have e0 := run_equalIn_int (P := Tryz.prog) w 9998 3 .i64 .i64 (f 0) (g 0) Tryz.underlying3
  have e1 := eq_seven f g 9997 w
  subst hb
  unfold eqA
  obtain ⟨x, hx⟩ : ∃ x, (f 0 == g 0) = x := ⟨_, rfl⟩
  rw [hx] at e0 ⊢
  obtain ⟨y, hy⟩ : ∃ y, eqD f g = y := ⟨_, rfl⟩
  rw [hy] at e1 ⊢
  cases x <;> cases y <;> simp [Program.fieldsOf, Tryz.underlying72, Op.eqFields, p0, p1, q0, q1, e0, e1, Sem.run_bind, Sem.run_ite, Result.andThen_ok]
theorem attr_guard : Tryz.prog.eqGuardType Tryz.prog.depth 39 = false := by kernel_rfl
theorem refa_guard : Tryz.prog.eqGuardType Tryz.prog.depth 72 = false := by kernel_rfl
theorem dep_guard : Tryz.prog.eqGuardType Tryz.prog.depth 37 = false := by kernel_rfl

theorem field_deps (f : Nat → Int) (w : World) : (Instr.field 39 (.agg #[.int .i64 (f 0), .int .i64 (f 1), .int .i64 (f 2), .int .i64 (f 3), .int .i64 (f 4), .int .i64 (f 5), .int .i64 (f 6), .int .i64 (f 7)]) 1).run Tryz.prog w = .ok (.agg #[.int .i64 (f 1), .int .i64 (f 2), .int .i64 (f 3), .int .i64 (f 4), .int .i64 (f 5), .int .i64 (f 6), .int .i64 (f 7)]) w := by kernel_rfl

/-- The contracts by cells. -/
theorem merge8 (f g : Nat → Int) (w : World) : Calls Tryz.prog 58 #[.agg #[.int .i64 (f 0), .int .i64 (f 1), .int .i64 (f 2), .int .i64 (f 3), .int .i64 (f 4), .int .i64 (f 5), .int .i64 (f 6), .int .i64 (f 7)], .agg #[.int .i64 (g 0), .int .i64 (g 1), .int .i64 (g 2), .int .i64 (g 3), .int .i64 (g 4), .int .i64 (g 5), .int .i64 (g 6), .int .i64 (g 7)]] w fun e w' => e = .returned (.agg #[.int .i64 (mx f g 0), .int .i64 (mx f g 1), .int .i64 (mx f g 2), .int .i64 (mx f g 3), .int .i64 (mx f g 4), .int .i64 (mx f g 5), .int .i64 (mx f g 6), .int .i64 (mx f g 7)]) ∧ Below w.heap.size w w' := merge_any f g w
theorem aright8 (f : Nat → Int) (w : World) : Calls Tryz.prog 31 #[.agg #[.int .i64 (f 0), .int .i64 (f 1), .int .i64 (f 2), .int .i64 (f 3), .int .i64 (f 4), .int .i64 (f 5), .int .i64 (f 6), .int .i64 (f 7)]] w fun e w' => e = .returned (.bool (okB f)) ∧ Below w.heap.size w w' := aright_any f w
theorem refaright8 (f : Nat → Int) (w : World) : Calls Tryz.prog 21 #[.agg #[.int .i64 (f 0), .int .i64 (f 1), .int .i64 (f 2), .int .i64 (f 3), .int .i64 (f 4), .int .i64 (f 5), .int .i64 (f 6), .int .i64 (f 7)]] w fun e w' => e = .returned (.bool (okB f)) ∧ Below w.heap.size w w' := refaright_any f w

/-- The eight cells of a box. -/
def Eight (w : World) (g : Nat) (f : Nat → Int) : Prop :=
  w.cell? ⟨g, 0, none⟩ = some (.int .i64 (f 0)) ∧ w.cell? ⟨g, 1, none⟩ = some (.int .i64 (f 1)) ∧ w.cell? ⟨g, 2, none⟩ = some (.int .i64 (f 2)) ∧ w.cell? ⟨g, 3, none⟩ = some (.int .i64 (f 3)) ∧
    w.cell? ⟨g, 4, none⟩ = some (.int .i64 (f 4)) ∧ w.cell? ⟨g, 5, none⟩ = some (.int .i64 (f 5)) ∧ w.cell? ⟨g, 6, none⟩ = some (.int .i64 (f 6)) ∧ w.cell? ⟨g, 7, none⟩ = some (.int .i64 (f 7))
theorem Blk.eight {w : World} {g : Nat} {T : TypeId} {f : Nat → Int} (h : Blk w g T (rowA f)) : Eight w g f :=
  ⟨h.att (by decide), h.att (by decide), h.att (by decide), h.att (by decide), h.att (by decide), h.att (by decide), h.att (by decide), h.att (by decide)⟩

end Go.Proofs.YtpdfakjopeldmaaGreatDoor

/-
  Contracts of attributes (package attr): Within.
-/
namespace Go.Proofs.YtpdfakjopeldmaaGreatDoor
open Go.ChangeShapes Go.WideShapes Go.ChangeAt Go.RowKit
set_option linter.unusedVariables false

/-- Within is: the number isn't greater, and the merge's slots are the other's. -/
theorem inB_eq (f g : Nat → Int) : inB f g = (decide (f 0 ≤ g 0) && eqD (mx f g) g) := by
  rw [Bool.eq_iff_iff, inB_iff, Bool.and_eq_true, decide_eq_true_eq, eqD_iff]
  constructor
  · intro h
    refine ⟨h 0 (by decide), fun i hi => ?_⟩
    have := h (i + 1) (by omega)
    unfold mx; split <;> omega
  · rintro ⟨h0, h⟩ i hi
    cases i with
    | zero => exact h0
    | succ i => have := h i (by omega); unfold mx at this; split at this <;> omega

end Go.Proofs.YtpdfakjopeldmaaGreatDoor

/-
  Contracts of attributes (package attr): Covers, Owns, Own, Past, and the laws' anchor.
-/
namespace Go.Proofs.YtpdfakjopeldmaaGreatDoor
open Go.ChangeShapes Go.WideShapes Go.ChangeAt Go.RowKit
set_option linter.unusedVariables false
set_option linter.unusedSimpArgs false

/-- Do attributes cover a name? Are they a name's? -/
def covB (f : Nat → Int) (r s : Int) : Bool := nameB r s && decide (s < f (1 + r.toNat))
def ownB (f : Nat → Int) (r s : Int) : Bool := okB f && nameB r s && decide (f (1 + r.toNat) = s)
/-- A name's own; with a greater number. -/
def ownF (f : Nat → Int) (r s : Int) : Nat → Int := if nameB r s then upd f (1 + r.toNat) s else f
def pastF (f : Nat → Int) (q : Int) : Nat → Int := if 0 ≤ q then upd f 0 (if f 0 < min q 1073741823 + 1 then min q 1073741823 + 1 else f 0) else f

/-- A box of attributes and one of a name. -/
theorem att_name {w W : World} {f : Nat → Int} {r s : Int} (h : (w.alloc (.cells (#[.int .i64 (f 0), .int .i64 (f 1), .int .i64 (f 2), .int .i64 (f 3), .int .i64 (f 4), .int .i64 (f 5), .int .i64 (f 6), .int .i64 (f 7)]) 39)).alloc (.cells #[.int .i64 r, .int .i64 s] 29) = W) :
    Hid (Blk W w.heap.size 39 (rowA f)) ∧ Hid (Blk W (w.heap.size + 1) 29 #[.int .i64 r, .int .i64 s]) ∧ Hid (Below w.heap.size w W) := by
  obtain ⟨h1, h2, h3⟩ := two_new h
  exact ⟨h1, h2, h3⟩

end Go.Proofs.YtpdfakjopeldmaaGreatDoor

/-
  Contracts of attributes (package attr): Own, Past; and the laws' anchor.
-/
namespace Go.Proofs.YtpdfakjopeldmaaGreatDoor
open Go.ChangeShapes Go.WideShapes Go.ChangeAt Go.RowKit
set_option linter.unusedVariables false
set_option linter.unusedSimpArgs false

/-- Three boxes: attributes, a name, and the result's. -/
theorem att_name_new {w W : World} {f : Nat → Int} {r s : Int} (h : ((w.alloc (.cells (#[.int .i64 (f 0), .int .i64 (f 1), .int .i64 (f 2), .int .i64 (f 3), .int .i64 (f 4), .int .i64 (f 5), .int .i64 (f 6), .int .i64 (f 7)]) 39)).alloc (.cells #[.int .i64 r, .int .i64 s] 29)).alloc (.cells #[.int .i64 0, .int .i64 0, .int .i64 0, .int .i64 0, .int .i64 0, .int .i64 0, .int .i64 0, .int .i64 0] 39) = W) :
    Hid (Blk W w.heap.size 39 (rowA f)) ∧ Hid (Blk W (w.heap.size + 1) 29 #[.int .i64 r, .int .i64 s]) ∧ Hid (Blk W (w.heap.size + 1 + 1) 39 (rowA fun _ => 0)) ∧ Hid (Below w.heap.size w W) := by
  obtain ⟨h1, h2, h3, h4⟩ := three_new h
  exact ⟨h1, h2, h3, h4⟩
theorem att_new {w W : World} {f : Nat → Int} (h : (w.alloc (.cells (#[.int .i64 (f 0), .int .i64 (f 1), .int .i64 (f 2), .int .i64 (f 3), .int .i64 (f 4), .int .i64 (f 5), .int .i64 (f 6), .int .i64 (f 7)]) 39)).alloc (.cells #[.int .i64 0, .int .i64 0, .int .i64 0, .int .i64 0, .int .i64 0, .int .i64 0, .int .i64 0, .int .i64 0] 39) = W) :
    Hid (Blk W w.heap.size 39 (rowA f)) ∧ Hid (Blk W (w.heap.size + 1) 39 (rowA fun _ => 0)) ∧ Hid (Below w.heap.size w W) := by
  obtain ⟨h1, h2, h4⟩ := two_new h
  exact ⟨h1, h2, h4⟩

set_option maxRecDepth 100000 in
set_option maxHeartbeats 1000000 in
theorem own8 (f : Nat → Int) (r s : Int) (w : World) :
    Calls Tryz.prog 42 #[.agg #[.int .i64 (f 0), .int .i64 (f 1), .int .i64 (f 2), .int .i64 (f 3), .int .i64 (f 4), .int .i64 (f 5), .int .i64 (f 6), .int .i64 (f 7)], nm r s] w fun e w' => e = .returned (.agg (rowA (ownF f r s))) ∧ Below w.heap.size w w' := by
  obtain ⟨x, hx⟩ : ∃ x, nameB r s = x := ⟨_, rfl⟩
  have HX := hid hx
  have HV : Hid (ownF f r s = if x = true then upd f (1 + r.toNat) s else f) := hid (by unfold ownF; rw [hx])
  have HN : Hid (x = true → ∃ a b : Nat, r = a ∧ s = b ∧ a < 7 ∧ b < 1024) := hid (fun h => by
    subst h; obtain ⟨a, b, h1, h2, h3, h4, _⟩ := name_in hx; exact ⟨a, b, h1, h2, h3, h4⟩)
  clear hx
  go_enter Tryz.func42, Tryz.ntmps42
  go_upto_region 1 with fail
  obtain ⟨W, hW⟩ : ∃ W, ((w.alloc (.cells #[.int .i64 (f 0), .int .i64 (f 1), .int .i64 (f 2), .int .i64 (f 3), .int .i64 (f 4), .int .i64 (f 5), .int .i64 (f 6), .int .i64 (f 7)] 39)).alloc (.cells #[.int .i64 r, .int .i64 s] 29)).alloc (.cells #[.int .i64 0, .int .i64 0, .int .i64 0, .int .i64 0, .int .i64 0, .int .i64 0, .int .i64 0, .int .i64 0] 39) = W := ⟨_, rfl⟩
  rw [hW]
  obtain ⟨K0, K1, K2, KB⟩ := att_name_new hW
  clear hW
  obtain ⟨k, hk⟩ : ∃ k, w.heap.size = k := ⟨_, rfl⟩
  rw [hk] at K0 K1 K2 KB
  rw [hk]
  have HK := hid hk
  clear hk
  obtain ⟨⟨c0, c1⟩, _, _⟩ := blkn K1.out
  go_wp2_with fail
  with_reducible refine (nright_any r s _).mono ?_
  rw [HX.out]
  rintro e w1 ⟨rfl, hb1⟩
  clear c0 c1
  have D0 := hid (K0.out.below hb1 K0.out.lt)
  have D1 := hid (K1.out.below hb1 K1.out.lt)
  have D2 := hid (K2.out.below hb1 K2.out.lt)
  have DB := hid (KB.out.trans (hb1.mono (by have := K0.out.lt; omega)))
  clear hb1 K0 K1 K2 KB HX
  cases x
  · have HV2 : Hid (ownF f r s = f) := hid (by rw [HV.out]; simp)
    have L1 := hid (len_attr f)
    have L2 := hid (size_zero f)
    have L3 := hid (rowA_one f)
    go_wp2_with (first
      | (with_reducible refine wpList_load_row (o := ⟨some 13, _, _, _, _, _⟩) rfl 39 (.tmp 2) rfl k rfl 39 (rowA f) (0, 0) _ D0.out.heap Tryz.underlying39 rfl L1.out ?_)
      | (with_reducible refine wpList_store_row (o := ⟨none, _, _, _, _, _⟩) rfl 39 (.tmp 4) (.tmp 13) rfl (k + 1 + 1) (rowA f) rfl rfl 39 _ D2.out.heap L1.out L2.out L3.out ?_))
    exact bodyPost_ret (v := .agg (rowA f)) (results_cell_row (p := 4) (ty := 39) (by kernel_rfl) _ _ (k + 1 + 1) 39 (rowA f) (0, 0) _ rfl (setRow_heap w1 (k + 1 + 1) _ (rowA f) _ _ D2.out.heap) Tryz.underlying39 rfl L1.out) rfl ⟨by rw [HV2.out], by rw [HK.out]; exact below_setRow_ DB.out (by omega)⟩
  · obtain ⟨a, b, rfl, rfl, ha, hb⟩ := HN.out rfl
    have HV2 : Hid (ownF f a b = upd f (1 + a) b) := hid (by rw [HV.out]; simp)
    have ha' : (a : Int) < 7 := by omega
    obtain ⟨⟨c0, c1⟩, _, _⟩ := blkn D1.out
    have g0 := D0.out.att (i := 1 + a) (by omega)
    have f0 := D0.out.frozen (1 + a)
    go_upto_region 3 with fail
    obtain ⟨W2, hW2⟩ : ∃ W2, w1.setCell ⟨k, 1 + a, none⟩ (.int .i64 (b : Int)) = W2 := ⟨_, rfl⟩
    rw [hW2]
    have E0 : Hid (Blk W2 k 39 (rowA (upd f (1 + a) b))) := hid (by rw [← hW2]; exact D0.out.attSet _ _)
    have E2 : Hid (Blk W2 (k + 1 + 1) 39 (rowA fun _ => 0)) := hid (by rw [← hW2]; exact D2.out.far (by simp <;> omega) _)
    have EB : Hid (Below k w W2) := hid (by rw [← hW2]; exact DB.out.setCell (Nat.le_refl _) _)
    clear hW2 c0 c1 g0 f0 D0 D1 D2 DB
    have L1 := hid (len_attr (upd f (1 + a) b))
    have L2 := hid (size_zero (upd f (1 + a) b))
    have L3 := hid (rowA_one (upd f (1 + a) b))
    go_wp2_with (first
      | (with_reducible refine wpList_load_row (o := ⟨some 13, _, _, _, _, _⟩) rfl 39 (.tmp 2) rfl k rfl 39 (rowA (upd f (1 + a) b)) (0, 0) _ E0.out.heap Tryz.underlying39 rfl L1.out ?_)
      | (with_reducible refine wpList_store_row (o := ⟨none, _, _, _, _, _⟩) rfl 39 (.tmp 4) (.tmp 13) rfl (k + 1 + 1) (rowA (upd f (1 + a) b)) rfl rfl 39 _ E2.out.heap L1.out L2.out L3.out ?_))
    exact bodyPost_ret (v := .agg (rowA (upd f (1 + a) b))) (results_cell_row (p := 4) (ty := 39) (by kernel_rfl) _ _ (k + 1 + 1) 39 (rowA (upd f (1 + a) b)) (0, 0) _ rfl (setRow_heap W2 (k + 1 + 1) _ (rowA (upd f (1 + a) b)) _ _ E2.out.heap) Tryz.underlying39 rfl L1.out) rfl ⟨by rw [HV2.out], by rw [HK.out]; exact below_setRow_ EB.out (by omega)⟩

set_option maxRecDepth 100000 in
set_option maxHeartbeats 1000000 in
theorem past8 (f : Nat → Int) (q : Int) (w : World) :
    Calls Tryz.prog 65 #[.agg #[.int .i64 (f 0), .int .i64 (f 1), .int .i64 (f 2), .int .i64 (f 3), .int .i64 (f 4), .int .i64 (f 5), .int .i64 (f 6), .int .i64 (f 7)], .int .i64 q] w fun e w' => e = .returned (.agg (rowA (pastF f q))) ∧ Below w.heap.size w w' := by
  go_enter Tryz.func65, Tryz.ntmps65
  go_upto_region 1 with fail
  obtain ⟨W, hW⟩ : ∃ W, (w.alloc (.cells #[.int .i64 (f 0), .int .i64 (f 1), .int .i64 (f 2), .int .i64 (f 3), .int .i64 (f 4), .int .i64 (f 5), .int .i64 (f 6), .int .i64 (f 7)] 39)).alloc (.cells #[.int .i64 0, .int .i64 0, .int .i64 0, .int .i64 0, .int .i64 0, .int .i64 0, .int .i64 0, .int .i64 0] 39) = W := ⟨_, rfl⟩
  rw [hW]
  obtain ⟨K0, K1, KB⟩ := att_new hW
  clear hW
  obtain ⟨k, hk⟩ : ∃ k, w.heap.size = k := ⟨_, rfl⟩
  rw [hk] at K0 K1 KB
  rw [hk]
  have HK := hid hk
  clear hk
  rcases (show 0 ≤ q ∨ q < 0 by omega) with h | h
  · obtain ⟨n, hn⟩ : ∃ n, min q 1073741823 = n := ⟨_, rfl⟩
    have HV2 : Hid (pastF f q = upd f 0 (if f 0 < n + 1 then n + 1 else f 0)) := hid (by unfold pastF; rw [if_pos h, hn])
    have hm := fun (w : World) (ts : Array TypeId) (t : TypeId) => run_mini Tryz.prog q 1073741823 n hn w ts t
    have hn0 : 0 ≤ n := by omega
    have hn1 : n ≤ 1073741823 := by omega
    clear hn
    obtain ⟨m, hm2⟩ : ∃ m, (if f 0 < n + 1 then n + 1 else f 0) = m := ⟨_, rfl⟩
    have hx := fun (w : World) (ts : Array TypeId) (t : TypeId) => run_maxi Tryz.prog (f 0) (n + 1) m hm2 w ts t
    rw [hm2] at HV2
    clear hm2
    have c0 := K0.out.att (i := 0) (by decide)
    have f0 := K0.out.frozen 0
    generalize f 0 = z at c0 hx
    go_upto_region 3 with fail
    obtain ⟨W2, hW2⟩ : ∃ W2, W.setCell ⟨k, 0, none⟩ (.int .i64 m) = W2 := ⟨_, rfl⟩
    rw [hW2]
    have E0 : Hid (Blk W2 k 39 (rowA (upd f 0 m))) := hid (by rw [← hW2]; exact K0.out.attSet _ _)
    have E2 : Hid (Blk W2 (k + 1) 39 (rowA fun _ => 0)) := hid (by rw [← hW2]; exact K1.out.far (by simp) _)
    have EB : Hid (Below k w W2) := hid (by rw [← hW2]; exact KB.out.setCell (Nat.le_refl _) _)
    clear hW2 c0 f0 K0 K1 KB hm hx
    have L1 := hid (len_attr (upd f 0 m))
    have L2 := hid (size_zero (upd f 0 m))
    have L3 := hid (rowA_one (upd f 0 m))
    go_wp2_with (first
      | (with_reducible refine wpList_load_row (o := ⟨some 14, _, _, _, _, _⟩) rfl 39 (.tmp 2) rfl k rfl 39 (rowA (upd f 0 m)) (0, 0) _ E0.out.heap Tryz.underlying39 rfl L1.out ?_)
      | (with_reducible refine wpList_store_row (o := ⟨none, _, _, _, _, _⟩) rfl 39 (.tmp 4) (.tmp 14) rfl (k + 1) (rowA (upd f 0 m)) rfl rfl 39 _ E2.out.heap L1.out L2.out L3.out ?_))
    exact bodyPost_ret (v := .agg (rowA (upd f 0 m))) (results_cell_row (p := 4) (ty := 39) (by kernel_rfl) _ _ (k + 1) 39 (rowA (upd f 0 m)) (0, 0) _ rfl (setRow_heap W2 (k + 1) _ (rowA (upd f 0 m)) _ _ E2.out.heap) Tryz.underlying39 rfl L1.out) rfl ⟨by rw [HV2.out], by rw [HK.out]; exact below_setRow_ EB.out (by omega)⟩
  · have HV2 : Hid (pastF f q = f) := hid (by unfold pastF; rw [if_neg (by omega)])
    have L1 := hid (len_attr f)
    have L2 := hid (size_zero f)
    have L3 := hid (rowA_one f)
    go_wp2_with (first
      | (with_reducible refine wpList_load_row (o := ⟨some 14, _, _, _, _, _⟩) rfl 39 (.tmp 2) rfl k rfl 39 (rowA f) (0, 0) _ K0.out.heap Tryz.underlying39 rfl L1.out ?_)
      | (with_reducible refine wpList_store_row (o := ⟨none, _, _, _, _, _⟩) rfl 39 (.tmp 4) (.tmp 14) rfl (k + 1) (rowA f) rfl rfl 39 _ K1.out.heap L1.out L2.out L3.out ?_))
    exact bodyPost_ret (v := .agg (rowA f)) (results_cell_row (p := 4) (ty := 39) (by kernel_rfl) _ _ (k + 1) 39 (rowA f) (0, 0) _ rfl (setRow_heap W (k + 1) _ (rowA f) _ _ K1.out.heap) Tryz.underlying39 rfl L1.out) rfl ⟨by rw [HV2.out], by rw [HK.out]; exact below_setRow_ KB.out (by omega)⟩

/-- The example's attributes. -/
def exA : Nat → Int := fun i => if i = 3 then 3 else 0
theorem exA_row : (#[.int .i64 0, .int .i64 0, .int .i64 0, .int .i64 3, .int .i64 0, .int .i64 0, .int .i64 0, .int .i64 0] : Array Value) = rowA exA := rfl
theorem eight_ex {w : World} {g : Nat} (h : Eight w g exA) : w.cell? ⟨g, 0, none⟩ = some (.int .i64 0) ∧ w.cell? ⟨g, 1, none⟩ = some (.int .i64 0) ∧ w.cell? ⟨g, 2, none⟩ = some (.int .i64 0) ∧ w.cell? ⟨g, 3, none⟩ = some (.int .i64 3) ∧ w.cell? ⟨g, 4, none⟩ = some (.int .i64 0) ∧ w.cell? ⟨g, 5, none⟩ = some (.int .i64 0) ∧ w.cell? ⟨g, 6, none⟩ = some (.int .i64 0) ∧ w.cell? ⟨g, 7, none⟩ = some (.int .i64 0) := h

end Go.Proofs.YtpdfakjopeldmaaGreatDoor

/-
  Three boxes of attributes, and others beside them, as the laws hold them.
-/
namespace Go.Proofs.YtpdfakjopeldmaaGreatDoor
open Go.ChangeShapes Go.WideShapes Go.ChangeAt Go.RowKit
set_option linter.unusedVariables false

theorem mx_comm (f g : Nat → Int) : eqA (mx f g) (mx g f) = true := eqA_iff.2 fun i _ => by unfold mx; split <;> split <;> omega
theorem mx_self (f : Nat → Int) : eqA (mx f f) f = true := eqA_iff.2 fun i _ => by unfold mx; split <;> omega
theorem mx_assoc (f g h : Nat → Int) : eqA (mx (mx f g) h) (mx f (mx g h)) = true := eqA_iff.2 fun i _ => by
  unfold mx
  split <;> split <;> (try split) <;> (try split) <;> omega
theorem inB_left (f g : Nat → Int) : inB f (mx f g) = true := inB_iff.2 fun i _ => by unfold mx; split <;> omega
theorem inB_right (f g : Nat → Int) : inB g (mx f g) = true := inB_iff.2 fun i _ => by unfold mx; split <;> omega
theorem inB_least {f g h : Nat → Int} (h1 : inB f h = true) (h2 : inB g h = true) : inB (mx f g) h = true := inB_iff.2 fun i hi => by
  have := inB_iff.1 h1 i hi
  have := inB_iff.1 h2 i hi
  unfold mx; split <;> omega

/-- Three boxes of attributes one behind the other. -/
def Three (W : World) (k : Nat) (f g h : Nat → Int) : Prop := Blk W k 39 (rowA f) ∧ Blk W (k + 1) 39 (rowA g) ∧ Blk W (k + 1 + 1) 39 (rowA h)
theorem Three.on {W W' : World} {k : Nat} {f g h : Nat → Int} (H : Three W k f g h) (hb : Below W.heap.size W W') : Three W' k f g h := ⟨H.1.below hb H.1.lt, H.2.1.below hb H.2.1.lt, H.2.2.below hb H.2.2.lt⟩
theorem Three.drew {W : World} {k : Nat} {f g h : Nat → Int} (H : Three W k f g h) : Three W.drew k f g h := H
theorem Three.eights {W : World} {k : Nat} {f g h : Nat → Int} (H : Three W k f g h) : Eight W k f ∧ Eight W (k + 1) g ∧ Eight W (k + 1 + 1) h := ⟨H.1.eight, H.2.1.eight, H.2.2.eight⟩
theorem three_at {w W : World} {f g h : Nat → Int} (hW : ((w.alloc (.cells #[.int .i64 (f 0), .int .i64 (f 1), .int .i64 (f 2), .int .i64 (f 3), .int .i64 (f 4), .int .i64 (f 5), .int .i64 (f 6), .int .i64 (f 7)] 39)).alloc (.cells #[.int .i64 (g 0), .int .i64 (g 1), .int .i64 (g 2), .int .i64 (g 3), .int .i64 (g 4), .int .i64 (g 5), .int .i64 (g 6), .int .i64 (g 7)] 39)).alloc (.cells #[.int .i64 (h 0), .int .i64 (h 1), .int .i64 (h 2), .int .i64 (h 3), .int .i64 (h 4), .int .i64 (h 5), .int .i64 (h 6), .int .i64 (h 7)] 39) = W) :
    Hid (Three W w.heap.size f g h) ∧ Hid (Below w.heap.size w W) := by
  obtain ⟨h1, h2, h3, h4⟩ := three_new hW
  exact ⟨hid ⟨h1.out, h2.out, h3.out⟩, h4⟩

end Go.Proofs.YtpdfakjopeldmaaGreatDoor
