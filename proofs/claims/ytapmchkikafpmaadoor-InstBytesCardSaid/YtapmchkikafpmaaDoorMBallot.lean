/-
  Contracts of ballots (package mark) that touch no memory.
-/
import Derived.Test.YtapmchkikafpmaaDoorRows
import Derived.Test.YtapmchkikafpmaaDoorMMath
import Derived.IntWalk
import Derived.Laws.BitsAllLaws
namespace Go.Proofs.YtapmchkikafpmaaDoor
open Go.ChangeShapes Go.WideShapes Go.ChangeAt Go.RowKit

set_option maxHeartbeats 400000 in
theorem isreplica_any (r : Int) (w : World) :
    Calls Tryd.prog 47 #[.int .i64 r] w fun e w' => e = .returned (.bool (repB r)) ∧ w = w' := by
  go_enter Tryd.func47, Tryd.ntmps47
  go_wp2
  all_goals go_ret
  all_goals exact ⟨ret_bool (by unfold repB; rw [Bool.eq_iff_iff]; simp; try omega), rfl⟩

set_option maxHeartbeats 400000 in
theorem round_any (b : Nat) (w : World) (hb : b < 4294967296) :
    Calls Tryd.prog 54 #[.int .u32 (b : Int)] w fun e w' => e = .returned (.int .i64 ((b / 8 : Nat) : Int)) ∧ w = w' := by
  go_enter Tryd.func54, Tryd.ntmps54
  go_wp2
  go_ret
  exact ⟨ret_num (by go_num), rfl⟩

set_option maxHeartbeats 400000 in
theorem replica_any (b : Nat) (w : World) (hb : b < 4294967296) :
    Calls Tryd.prog 55 #[.int .u32 (b : Int)] w fun e w' => e = .returned (.int .i64 ((b % 8 : Nat) : Int)) ∧ w = w' := by
  go_enter Tryd.func55, Tryd.ntmps55
  go_wp2
  go_ret
  exact ⟨ret_num (by go_num), rfl⟩

set_option maxHeartbeats 400000 in
theorem areparts_any (n r : Int) (w : World) :
    Calls Tryd.prog 53 #[.int .i64 n, .int .i64 r] w fun e w' => e = .returned (.bool (partsB n r)) ∧ w = w' := by
  go_enter Tryd.func53, Tryd.ntmps53
  go_wp2_with (go_at_call 47; refine (isreplica_any _ _).mono ?_; rintro e w' ⟨rfl, rfl⟩)
  all_goals go_ret
  all_goals refine ⟨ret_bool ?_, rfl⟩
  all_goals (unfold partsB; try unfold repB)
  all_goals (rw [Bool.eq_iff_iff]; simp only [beq_iff_eq, beq_eq_false_iff_ne, ne_eq, decide_eq_true_eq, Bool.false_eq_true, false_iff] at *)
  all_goals omega

set_option maxHeartbeats 400000 in
theorem ballotright_any (b : Nat) (w : World) (hb : b < 4294967296) :
    Calls Tryd.prog 36 #[.int .u32 (b : Int)] w fun e w' => e = .returned (.bool (ballotB b)) ∧ w = w' := by
  have HP := hid (parts_ballot b)
  go_enter Tryd.func36, Tryd.ntmps36
  go_wp2_with (first
    | (go_at_call 54; refine (round_any _ _ hb).mono ?_; rintro e w' ⟨rfl, rfl⟩)
    | (go_at_call 55; refine (replica_any _ _ hb).mono ?_; rintro e w' ⟨rfl, rfl⟩)
    | (go_at_call 53; refine (areparts_any _ _ _).mono ?_; rintro e w' ⟨rfl, rfl⟩))
  go_ret
  exact ⟨ret_bool HP.out, rfl⟩

theorem join_bits (n k : Nat) (hn : n ≤ 16777215) (hk : k < 8) : bits BinOp.or IntKind.u32 ((n : Int) * 8) (k : Int) = ((n * 8 + k : Nat) : Int) := by
  have h := Nat.two_pow_add_eq_or_of_lt (i := 3) (b := k) (by omega) n
  rw [show 2 ^ 3 * n = n * 8 by omega] at h
  rw [h, ← u32_or_nat (n * 8) k (by omega) (by omega)]
  rfl

set_option maxHeartbeats 400000 in
theorem refballot_any (b : Nat) (w : World) (hb : b < 4294967296) :
    Calls Tryd.prog 19 #[.int .u32 (b : Int)] w fun e w' => e = .returned (.bool (ballotB b)) ∧ w = w' := by
  obtain ⟨q, hq⟩ : ∃ q : Int, (b : Int) / 8 = q := ⟨_, rfl⟩
  obtain ⟨r, hr⟩ : ∃ r : Int, (b : Int) % 8 = r := ⟨_, rfl⟩
  have HB : Hid (ballotB b = decide (b = 0 ∨ (0 < q ∧ q ≤ 16777215 ∧ r < 7))) := hid (by unfold ballotB; rw [decide_eq_decide]; omega)
  have HQ : Hid (q = 0 → (b : Int) = r) := hid (by omega)
  have HP := hid (show 0 ≤ q by omega)
  go_enter Tryd.func19, Tryd.ntmps19
  rcases Decidable.em (q = 0) with h0 | h0
  · have HR := hid (HQ.out h0)
    subst h0
    go_wp2
    all_goals go_ret
    all_goals exact ⟨ret_bool (by rw [HB.out]; rw [Bool.eq_iff_iff]; simp), rfl⟩
  · have hz : ((q : Int) == 0) = false := beq_eq_false_iff_ne.2 h0
    rcases Int.lt_or_le q 16777216 with h1 | h1
    · go_wp2
      all_goals go_ret
      all_goals exact ⟨ret_bool (by have := HP.out; rw [HB.out]; rw [Bool.eq_iff_iff]; simp; omega), rfl⟩
    · go_wp2
      all_goals go_ret
      all_goals exact ⟨ret_bool (by have := HP.out; rw [HB.out]; rw [Bool.eq_iff_iff]; simp; omega), rfl⟩

theorem repB_ok {k : Nat} (h : k < 7) : repB (k : Int) = true := by unfold repB; rw [decide_eq_true_eq]; omega
theorem repB_no {r : Int} (h : repB r = false) : r < 0 ∨ 6 < r := by unfold repB at h; simp only [decide_eq_false_iff_not] at h; omega

theorem u32_in {n : Int} (h : (Lit.int .u32 n).wf = true) : ∃ k : Nat, n = k ∧ k < 4294967296 := by
  have h1 : IntKind.u32.min = 0 := rfl
  have h2 : IntKind.u32.max = 4294967295 := rfl
  simp only [Lit.wf, Bool.and_eq_true, decide_eq_true_eq] at h
  exact ⟨n.toNat, by omega, by omega⟩

theorem nextN_02 : nextN 0 2 = (10, 0) := by decide
theorem nextN_100 : nextN 10 0 = (16, 0) := by decide

end Go.Proofs.YtapmchkikafpmaaDoor
