/-
  Contracts of ballots (package mark) that touch no memory.
-/
import Derived.Test.YtfpmmajgnijboaaDoorRows
import Derived.Test.YtfpmmajgnijboaaDoorMMath
import Derived.IntWalk
import Derived.Laws.BitsAllLaws
namespace Go.Proofs.YtfpmmajgnijboaaDoor
open Go.ChangeShapes Go.WideShapes Go.ChangeAt Go.RowKit

set_option maxHeartbeats 400000 in
theorem isreplica_any (r : Int) (w : World) :
    Calls Tryd.prog 23 #[.int .i64 r] w fun e w' => e = .returned (.bool (repB r)) ∧ w = w' := by
  go_enter Tryd.func23, Tryd.ntmps23
  go_wp2
  all_goals go_ret
  all_goals exact ⟨ret_bool (by unfold repB; rw [Bool.eq_iff_iff]; simp; try omega), rfl⟩

theorem join_bits (n k : Nat) (hn : n ≤ 16777215) (hk : k < 8) : bits BinOp.or IntKind.u32 ((n : Int) * 8) (k : Int) = ((n * 8 + k : Nat) : Int) := by
  have h := Nat.two_pow_add_eq_or_of_lt (i := 3) (b := k) (by omega) n
  rw [show 2 ^ 3 * n = n * 8 by omega] at h
  rw [h, ← u32_or_nat (n * 8) k (by omega) (by omega)]
  rfl

theorem repB_ok {k : Nat} (h : k < 7) : repB (k : Int) = true := by unfold repB; rw [decide_eq_true_eq]; omega
theorem repB_no {r : Int} (h : repB r = false) : r < 0 ∨ 6 < r := by unfold repB at h; simp only [decide_eq_false_iff_not] at h; omega

theorem u32_in {n : Int} (h : (Lit.int .u32 n).wf = true) : ∃ k : Nat, n = k ∧ k < 4294967296 := by
  have h1 : IntKind.u32.min = 0 := rfl
  have h2 : IntKind.u32.max = 4294967295 := rfl
  simp only [Lit.wf, Bool.and_eq_true, decide_eq_true_eq] at h
  exact ⟨n.toNat, by omega, by omega⟩

theorem nextN_02 : nextN 0 2 = (10, 0) := by decide
theorem nextN_100 : nextN 10 0 = (16, 0) := by decide

end Go.Proofs.YtfpmmajgnijboaaDoor
