/-
  Contracts of attributes (package attr, and the document's own): Merge.
-/
import Derived.Test.YtapmchkikafpmaaDoorRows
import Derived.Test.YtapmchkikafpmaaDoorAMath
import Derived.Test.YtapmchkikafpmaaDoorMBallot
import Derived.Deep.RegionHeld3
import Derived.ChangeKeysEq
import Derived.Deep.Cut
namespace Go.Proofs.YtapmchkikafpmaaDoor
open Go.ChangeShapes Go.WideShapes Go.ChangeAt Go.RowKit
set_option linter.unusedVariables false

theorem below_setRow_ {B : Nat} {a w : World} {g : Nat} {cs : Array Value} (h : Below B a w) (hg : B ≤ g) : Below B a (w.setRow g cs) :=
  h.trans ⟨rfl, rfl, rfl, by simp, fun k hk => setRow_other w g k cs (by omega)⟩
theorem info_attr : (Tryd.prog.info? 33).map (·.size) = some 8 := by kernel_rfl
theorem info_seven : (Tryd.prog.info? 31).map (·.size) = some 7 := by kernel_rfl
theorem zeros_row : (#[.int .i64 0, .int .i64 0, .int .i64 0, .int .i64 0, .int .i64 0, .int .i64 0, .int .i64 0, .int .i64 0] : Array Value) = rowA fun _ => 0 := rfl

/-- Three boxes that are made. -/
theorem three_new {w W : World} {T U V : TypeId} {a b c : Array Value} (h : ((w.alloc (.cells a T)).alloc (.cells b U)).alloc (.cells c V) = W) :
    Hid (Blk W w.heap.size T a) ∧ Hid (Blk W (w.heap.size + 1) U b) ∧ Hid (Blk W (w.heap.size + 1 + 1) V c) ∧ Hid (Below w.heap.size w W) := by
  subst h
  have h1 := Blk.new w T a
  have h2 := Blk.new (w.alloc (.cells a T)) U b
  have h3 := Blk.new ((w.alloc (.cells a T)).alloc (.cells b U)) V c
  rw [show (w.alloc (.cells a T)).heap.size = w.heap.size + 1 by simp] at h2
  rw [show ((w.alloc (.cells a T)).alloc (.cells b U)).heap.size = w.heap.size + 1 + 1 by simp] at h3
  exact ⟨hid ((h1.alloc _).alloc _), hid (h2.alloc _), hid h3, hid ((((Below.refl _ w).alloc (Nat.le_refl _) _).alloc (by simp) _).alloc (by simp <;> omega) _)⟩

theorem len_seven (f : Nat → Int) : (Tryd.prog.info? 31).map (·.size) = some (lsD f).length := by rw [lsD_len]; exact info_seven
theorem len_attr (f : Nat → Int) : (Tryd.prog.info? 33).map (·.size) = some (rowA f).size := by rw [rowA_size]; exact info_attr
theorem size_zero (f : Nat → Int) : (rowA fun _ => 0).size = (rowA f).size := by rw [rowA_size, rowA_size]

theorem run_index_seven (cs : Array Value) (j : Nat) (v : Value) (hj : j < 7) (hv : cs[j]? = some v) (w : World) : (Instr.index 31 (.agg cs) (.int .i64 (j : Int))).run Tryd.prog w = .ok v w := by
  obtain ⟨i, hi⟩ : ∃ i, Tryd.prog.info? 3 = some i := Option.isSome_iff_exists.1 (show (Tryd.prog.info? 3).isSome = true by kernel_rfl)
  have hs := run_sizeOf (P := Tryd.prog) w hi
  rw [show Tryd.prog.cellsOf 3 = 1 by kernel_rfl] at hs
  have hp := run_part_plain (P := Tryd.prog) (w := w) (e := 3) (by kernel_rfl) hv
  have h1 : (0 : Int) ≤ (j : Int) ∧ (j : Int) < ((7 : Nat) : Int) := by omega
  simp only [Instr.index, asIntOf, Sem.run_bind, Sem.run_pure, run_underlying Tryd.underlying31, Result.andThen_ok, Sem.run_ite, if_pos h1, hs, Int.toNat_natCast, Nat.mul_one, hp]

theorem run_maxi (P : Program) (a b m : Int) (h : (if a < b then b else a) = m) (w : World) (ts : Array TypeId) (t : TypeId) : (Builtin.max_ ts t #[.int .i64 a, .int .i64 b]).run P w = .ok (.int .i64 m) w := by
  subst h
  by_cases h : a < b <;> simp [Builtin.max_, Builtin.max2, h]
theorem run_mini (P : Program) (a b m : Int) (h : min a b = m) (w : World) (ts : Array TypeId) (t : TypeId) : (Builtin.min_ ts t #[.int .i64 a, .int .i64 b]).run P w = .ok (.int .i64 m) w := by
  subst h
  rcases (show b < a ∨ a ≤ b by omega) with h | h
  · have : min a b = b := by omega
    rw [this]
    simp [Builtin.min_, Builtin.min2, h]
  · have : min a b = a := by omega
    rw [this]
    have h2 : ¬ b < a := by omega
    simp [Builtin.min_, Builtin.min2, h2]

end Go.Proofs.YtapmchkikafpmaaDoor
