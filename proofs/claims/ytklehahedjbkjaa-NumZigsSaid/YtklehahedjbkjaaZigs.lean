/-
  NumZigs: for every signed and every unsigned number of 64 bits, zigzag and back are the document's. No condition.
-/
import Derived.Test.YtklehahedjbkjaaNum
import Derived.ProofKit
import Derived.OpenShut
namespace Go.Proofs.Ytklehahedjbkjaa.numZigs
open Go.ChangeShapes Go.WideShapes Go.ChangeAt Go.RowKit
set_option linter.unusedVariables false

theorem own : ownKnob Try.prog.godebug = none := by kernel_rfl
theorem laidOut : laidOutB Try.prog = true := by kernel_rfl

theorem zig_as (i q : Int) (w : World) (h0 : -9223372036854775808 ≤ i) (h1 : i ≤ 9223372036854775807) (hq : zigOf i = q) :
    Calls Try.prog 20 #[.int .i64 i] w fun e w' => e = .returned (.int .u64 q) ∧ w = w' := by
  subst hq; exact zig_any i w h0 h1
theorem zag_as (v q : Int) (w : World) (h0 : 0 ≤ v) (h1 : v ≤ 18446744073709551615) (hq : zagOf v = q) :
    Calls Try.prog 21 #[.int .u64 v] w fun e w' => e = .returned (.int .i64 q) ∧ w = w' := by
  subst hq; exact zag_any v w h0 h1

set_option maxRecDepth 100000 in
set_option maxHeartbeats 400000 in
theorem walk_pos (i v : Int) (i0 : 0 ≤ i) (i1 : i ≤ 9223372036854775807) (v0 : 0 ≤ v) (v1 : v ≤ 18446744073709551615) (w : World) :
    Calls Try.prog 6 #[.int .i64 i, .int .u64 v] w fun e w' => e = .returned (.bool true) ∧ Below w.heap.size w w' := by
  have HZ := hid (show zigOf i = i * 2 by unfold zigOf; rw [if_pos i0]; omega)
  have HB := hid (show zagOf (i * 2) = i by have := zag_zig i; unfold zigOf at this; rw [if_pos i0] at this; rw [Int.mul_comm]; exact this)
  obtain ⟨zb1, zb2⟩ := zag_bounds v v0 v1
  have HV := hid (zig_zag v v0)
  go_enter Try.func6, Try.ntmps6
  go_wp2_with (first
    | (go_at_call 10; refine (anchor_any _).mono ?_; rintro e w1 ⟨rfl, hw1⟩)
    | (go_at_call 20; ((with_reducible refine (zig_as i _ _ (by omega) (by omega) HZ.out).mono ?_); rintro e w' ⟨rfl, rfl⟩))
    | (go_at_call 21; ((with_reducible refine (zag_as (i * 2) _ _ (by omega) (by omega) HB.out).mono ?_); rintro e w' ⟨rfl, rfl⟩))
    | (go_at_call 21; ((with_reducible refine (zag_any v _ (by omega) (by omega)).mono ?_); rintro e w' ⟨rfl, rfl⟩))
    | (go_at_call 20; ((with_reducible refine (zig_as (zagOf v) _ _ zb1 zb2 HV.out).mono ?_); rintro e w' ⟨rfl, rfl⟩)))
  go_ret
  exact ⟨rfl, hw1⟩

set_option maxRecDepth 100000 in
set_option maxHeartbeats 400000 in
theorem walk_neg (i v : Int) (i0 : i < 0) (i1 : -9223372036854775808 ≤ i) (v0 : 0 ≤ v) (v1 : v ≤ 18446744073709551615) (w : World) :
    Calls Try.prog 6 #[.int .i64 i, .int .u64 v] w fun e w' => e = .returned (.bool true) ∧ Below w.heap.size w w' := by
  have HZ := hid (show zigOf i = -(i + 1) * 2 + 1 by unfold zigOf; rw [if_neg (by omega)]; omega)
  have HB := hid (show zagOf (-(i + 1) * 2 + 1) = i by have := zag_zig i; unfold zigOf at this; rw [if_neg (by omega)] at this; rw [← this]; congr 1; omega)
  obtain ⟨zb1, zb2⟩ := zag_bounds v v0 v1
  have HV := hid (zig_zag v v0)
  go_enter Try.func6, Try.ntmps6
  go_wp2_with (first
    | (go_at_call 10; refine (anchor_any _).mono ?_; rintro e w1 ⟨rfl, hw1⟩)
    | (go_at_call 20; ((with_reducible refine (zig_as i _ _ (by omega) (by omega) HZ.out).mono ?_); rintro e w' ⟨rfl, rfl⟩))
    | (go_at_call 21; ((with_reducible refine (zag_as (-(i + 1) * 2 + 1) _ _ (by omega) (by omega) HB.out).mono ?_); rintro e w' ⟨rfl, rfl⟩))
    | (go_at_call 21; ((with_reducible refine (zag_any v _ (by omega) (by omega)).mono ?_); rintro e w' ⟨rfl, rfl⟩))
    | (go_at_call 20; ((with_reducible refine (zig_as (zagOf v) _ _ zb1 zb2 HV.out).mono ?_); rintro e w' ⟨rfl, rfl⟩)))
  go_ret
  exact ⟨rfl, hw1⟩

/-- The Go text returns true. -/
theorem walk (i v : Int) (wi : (Lit.int .i64 i).wf = true) (wv : (Lit.int .u64 v).wf = true) (w : World) :
    Calls Try.prog 6 #[.int .i64 i, .int .u64 v] w fun e w' => e = .returned (.bool true) ∧ Below w.heap.size w w' := by
  by_cases h : 0 ≤ i
  · exact walk_pos i v h (i64_le i wi) (u64_pos v wv) (u64_lt v wv) w
  · exact walk_neg i v (by omega) (i64_ge i wi) (u64_pos v wv) (u64_lt v wv) w

set_option maxRecDepth 100000 in
theorem lifted (os : Os) (started : os.Started) (H : Type) (enc : TypeId × Value → H) :
    ReturnsInHanded {} Try.checked os 6 .any (Rows.numZigsSpec.pre6 enc Try.prog Try.f6 Rows.numZigsRow.domain false) (Rows.numZigsSpec.post enc Try.prog Try.f6 false true false false) := by
  refine returnsInHanded_of_change (C := Try.checked) own started (by kernel_rfl) Try.func6
    (ChangeSpec.witness6 (enc := enc) (C := Try.checked) false ⟨#[], #[.int .i64 0, .int .u64 0], []⟩ 8 (by kernel_rfl) (by kernel_rfl) (by kernel_rfl) (by kernel_rfl)) ?_
  intro W base args ds gs before hval0 hW hcnd _
  have hval : ∀ (j : Nat) t v, Try.f6.params[j]? = some t → args[j]? = some v → Value.okWide Try.prog W .any base t v := hval0
  have hW' := hW
  obtain ⟨p, q, hA0, hV, rfl, hfz, hnd⟩ := hW
  have hA : DataW.TrodAll enc Try.prog W 0 (fun _ => true) true Try.f6.params.toList args.toList ds p := hA0
  rw [Try.params6] at hA hval
  obtain ⟨v0, v1, d0, d1, p0, p1, rfl, rfl, rfl, g0, g1⟩ := trodAll_two hA
  obtain ⟨rfl, rfl⟩ := trodVars_none hV
  obtain ⟨a0, rfl, rfl, rfl, w0⟩ := open_int Try.underlying2 (hval 0 2 v0 rfl rfl) g0
  obtain ⟨a1, rfl, rfl, rfl, w1⟩ := open_int Try.underlying22 (hval 1 22 v1 rfl rfl) g1
  refine (walk a0 a1 w0 w1 W).mono fun e W' ⟨he, hg⟩ => ?_
  subst he
  exact ⟨_, rfl, law_post laidOut hW' (by kernel_rfl) rfl rfl Try.underlying4 rfl hg⟩

theorem proved : Rows.NumZigsSaid :=
  OpenClaim.holds_of_wide 6 Try.f6 rfl rfl rfl rfl rfl rfl rfl ⟨rfl, rfl, rfl, rfl, rfl⟩ rfl rfl rfl rfl rfl (by kernel_rfl) Try.func6 (by kernel_rfl)
    (of_decide_eq_true (by kernel_rfl)) (by unfold Func.isWrapper; first | (rw [if_pos (by decide +kernel)]; kernel_rfl) | (rw [if_neg (by decide +kernel)]; exact ⟨rfl, rfl⟩))
    (fun os started H enc _ => lifted os started H enc)
#print axioms proved
end Go.Proofs.Ytklehahedjbkjaa.numZigs
