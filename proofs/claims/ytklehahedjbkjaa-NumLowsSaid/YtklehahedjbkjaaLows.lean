/-
  NumLows: for every number and every count of bits, Low and Fits answer as the document says (by division), whatever the input. No condition.
-/
import Derived.Test.YtklehahedjbkjaaNum
import Derived.ProofKit
import Derived.OpenShut
namespace Go.Proofs.Ytklehahedjbkjaa.numLows
open Go.ChangeShapes Go.WideShapes Go.ChangeAt Go.RowKit
set_option linter.unusedVariables false

theorem own : ownKnob Try.prog.godebug = none := by kernel_rfl
theorem laidOut : laidOutB Try.prog = true := by kernel_rfl

theorem beq_swap (a b : Int) : ((a == b) == (b == a)) = true := by simp [Bool.beq_comm]

def powN (n : Nat) : Nat := 2 ^ n
theorem powN_succ (n : Nat) : powN (n + 1) = powN n + powN n := by unfold powN; omega
theorem powN_le (n : Nat) (h : n < 64) : powN n ≤ 9223372036854775808 := pow_le63 h
theorem powN_pos (n : Nat) : 0 < powN n := pow_pos' n

set_option maxHeartbeats 400000 in
theorem pow_any (n : Nat) (w : World) (hn : n < 64) :
    Calls Try.prog 22 #[.int .i64 n] w fun e w' => e = .returned (.int .u64 (powN n)) ∧ w = w' := by
  go_enter Try.func22, Try.ntmps22
  go_wp2
  go_loop [3, 4] (fun p i => ∃ k : Nat, k ≤ n ∧ i = .int .i64 k ∧ p = .int .u64 (powN k)) (fun _ i => n - (intOf i).toNat)
  case atStart => exact ⟨0, Nat.zero_le _, rfl, rfl⟩
  case round =>
    obtain ⟨k, hk, rfl, rfl⟩ := hrel
    have hp := powN_pos k
    by_cases hlt : k < n
    · have hq := powN_le (k + 1) (by omega)
      rw [powN_succ] at hq
      have HS := hid (powN_succ k)
      go_wp2
      go_round
      case rel => exact ⟨k + 1, by omega, by go_num, by rw [HS.out]; go_num⟩
      case measure => simp [intOf]; omega
    · go_wp2
      go_ret
      have e : k = n := by omega
      exact ⟨ret_num (by rw [e]), rfl⟩


set_option maxHeartbeats 400000 in
theorem fits_as (v b q : Int) (w : World) (h0 : 0 ≤ v) (h1 : v ≤ 18446744073709551615) (hq : lowOf v b = q) :
    Calls Try.prog 23 #[.int .u64 v, .int .i64 b] w fun e w' => e = .returned (.bool (q == v)) ∧ w = w' := by
  have HQ := hid hq
  clear hq
  go_enter Try.func23, Try.ntmps23
  go_wp2_with (go_at_call 15; refine (low_as _ _ q _ (by omega) (by omega) HQ.out).mono ?_; rintro e w' ⟨rfl, rfl⟩)
  go_ret
  exact ⟨rfl, rfl⟩

set_option maxRecDepth 100000 in
set_option maxHeartbeats 400000 in
theorem walk_lo (v b : Int) (h0 : 0 ≤ v) (h1 : v ≤ 18446744073709551615) (hb : b ≤ 0) (w : World) :
    Calls Try.prog 7 #[.int .u64 v, .int .i64 b] w fun e w' => e = .returned (.bool true) ∧ Below w.heap.size w w' := by
  have HL := hid (show lowOf v b = 0 by unfold lowOf; rw [if_pos hb])
  go_enter Try.func7, Try.ntmps7
  go_wp2_with (first
    | (go_at_call 10; refine (anchor_any _).mono ?_; rintro e w1 ⟨rfl, hw1⟩)
    | (go_at_call 15; refine (low_as _ _ (0) _ (by omega) (by omega) HL.out).mono ?_; rintro e w' ⟨rfl, rfl⟩)
    | (go_at_call 23; refine (fits_as _ _ (0) _ (by omega) (by omega) HL.out).mono ?_; rintro e w' ⟨rfl, rfl⟩))
  go_ret
  exact ⟨ret_bool (by first | rfl | exact beq_swap _ _), hw1⟩

set_option maxRecDepth 100000 in
set_option maxHeartbeats 400000 in
theorem walk_hi (v b : Int) (h0 : 0 ≤ v) (h1 : v ≤ 18446744073709551615) (hb : 64 ≤ b) (w : World) :
    Calls Try.prog 7 #[.int .u64 v, .int .i64 b] w fun e w' => e = .returned (.bool true) ∧ Below w.heap.size w w' := by
  have HL := hid (show lowOf v b = v by unfold lowOf; rw [if_neg (by omega), if_neg (by omega)])
  go_enter Try.func7, Try.ntmps7
  go_wp2_with (first
    | (go_at_call 10; refine (anchor_any _).mono ?_; rintro e w1 ⟨rfl, hw1⟩)
    | (go_at_call 15; refine (low_as _ _ (v) _ (by omega) (by omega) HL.out).mono ?_; rintro e w' ⟨rfl, rfl⟩)
    | (go_at_call 23; refine (fits_as _ _ (v) _ (by omega) (by omega) HL.out).mono ?_; rintro e w' ⟨rfl, rfl⟩))
  go_ret
  exact ⟨ret_bool (by first | rfl | exact beq_swap _ _), hw1⟩


set_option maxRecDepth 100000 in
set_option maxHeartbeats 400000 in
theorem walk_mid (v : Int) (n : Nat) (h0 : 0 ≤ v) (h1 : v ≤ 18446744073709551615) (hb0 : 0 < n) (hb : n < 64) (w : World) :
    Calls Try.prog 7 #[.int .u64 v, .int .i64 n] w fun e w' => e = .returned (.bool true) ∧ Below w.heap.size w w' := by
  have HL := hid (show lowOf v n = v % (powN n : Nat) by unfold lowOf powN; rw [if_neg (by omega), if_pos (by omega)]; simp)
  have hp := powN_pos n
  have hq := powN_le n hb
  go_enter Try.func7, Try.ntmps7
  go_wp2_with (first
    | (go_at_call 10; refine (anchor_any _).mono ?_; rintro e w1 ⟨rfl, hw1⟩)
    | (go_at_call 22; refine (pow_any n _ hb).mono ?_; rintro e w' ⟨rfl, rfl⟩)
    | (go_at_call 15; refine (low_as _ _ (v % (powN n : Nat)) _ (by omega) (by omega) HL.out).mono ?_; rintro e w' ⟨rfl, rfl⟩)
    | (go_at_call 23; refine (fits_as _ _ (v % (powN n : Nat)) _ (by omega) (by omega) HL.out).mono ?_; rintro e w' ⟨rfl, rfl⟩))
  go_ret
  exact ⟨ret_bool (by first | rfl | exact beq_swap _ _), hw1⟩

/-- The Go text returns true. -/
theorem walk (v b : Int) (wv : (Lit.int .u64 v).wf = true) (wb : (Lit.int .i64 b).wf = true) (w : World) :
    Calls Try.prog 7 #[.int .u64 v, .int .i64 b] w fun e w' => e = .returned (.bool true) ∧ Below w.heap.size w w' := by
  have h0 := u64_pos v wv
  have h1 := u64_lt v wv
  by_cases hb : b ≤ 0
  · exact walk_lo v b h0 h1 hb w
  · by_cases hb2 : 64 ≤ b
    · exact walk_hi v b h0 h1 hb2 w
    · obtain ⟨n, rfl⟩ := Int.eq_ofNat_of_zero_le (show 0 ≤ b by omega)
      exact walk_mid v n h0 h1 (by omega) (by omega) w

set_option maxRecDepth 100000 in
theorem lifted (os : Os) (started : os.Started) (H : Type) (enc : TypeId × Value → H) :
    ReturnsInHanded {} Try.checked os 7 .any (Rows.numLowsSpec.pre6 enc Try.prog Try.f7 Rows.numLowsRow.domain false) (Rows.numLowsSpec.post enc Try.prog Try.f7 false true false false) := by
  refine returnsInHanded_of_change (C := Try.checked) own started (by kernel_rfl) Try.func7
    (ChangeSpec.witness6 (enc := enc) (C := Try.checked) false ⟨#[], #[.int .u64 0, .int .i64 0], []⟩ 8 (by kernel_rfl) (by kernel_rfl) (by kernel_rfl) (by kernel_rfl)) ?_
  intro W base args ds gs before hval0 hW hcnd _
  have hval : ∀ (j : Nat) t v, Try.f7.params[j]? = some t → args[j]? = some v → Value.okWide Try.prog W .any base t v := hval0
  have hW' := hW
  obtain ⟨p, q, hA0, hV, rfl, hfz, hnd⟩ := hW
  have hA : DataW.TrodAll enc Try.prog W 0 (fun _ => true) true Try.f7.params.toList args.toList ds p := hA0
  rw [Try.params7] at hA hval
  obtain ⟨v0, v1, d0, d1, p0, p1, rfl, rfl, rfl, g0, g1⟩ := trodAll_two hA
  obtain ⟨rfl, rfl⟩ := trodVars_none hV
  obtain ⟨a0, rfl, rfl, rfl, w0⟩ := open_int Try.underlying22 (hval 0 22 v0 rfl rfl) g0
  obtain ⟨a1, rfl, rfl, rfl, w1⟩ := open_int Try.underlying3 (hval 1 3 v1 rfl rfl) g1
  refine (walk a0 a1 w0 w1 W).mono fun e W' ⟨he, hg⟩ => ?_
  subst he
  exact ⟨_, rfl, law_post laidOut hW' (by kernel_rfl) rfl rfl Try.underlying4 rfl hg⟩

theorem proved : Rows.NumLowsSaid :=
  OpenClaim.holds_of_wide 7 Try.f7 rfl rfl rfl rfl rfl rfl rfl ⟨rfl, rfl, rfl, rfl, rfl⟩ rfl rfl rfl rfl rfl (by kernel_rfl) Try.func7 (by kernel_rfl)
    (of_decide_eq_true (by kernel_rfl)) (by unfold Func.isWrapper; first | (rw [if_pos (by decide +kernel)]; kernel_rfl) | (rw [if_neg (by decide +kernel)]; exact ⟨rfl, rfl⟩))
    (fun os started H enc _ => lifted os started H enc)
#print axioms proved
end Go.Proofs.Ytklehahedjbkjaa.numLows
