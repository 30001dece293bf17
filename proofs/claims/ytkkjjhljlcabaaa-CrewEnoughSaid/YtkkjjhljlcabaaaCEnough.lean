/-
  CrewEnough: for every number, any two sets and any replica the law's call returns true: two majorities meet, and a majority has enough of a fast quorum. No condition.
-/
import Derived.Test.YtkkjjhljlcabaaaCAnchor
import Derived.ProofKit
import Derived.OpenShut
namespace Go.Proofs.Ytkkjjhljlcabaaa.crewEnough
open Go.ChangeShapes Go.WideShapes Go.ChangeAt Go.RowKit
set_option linter.unusedVariables false

theorem own : ownKnob Try.prog.godebug = none := by kernel_rfl
theorem laidOut : laidOutB Try.prog = true := by kernel_rfl

set_option maxRecDepth 100000 in
set_option maxHeartbeats 1000000 in
theorem walk_no (n : Int) (a b : Nat) (r : Int) (hn : rightN n = false) (w : World) :
    Calls Try.prog 5 #[.int .i64 n, .int .u8 (a : Int), .int .u8 (b : Int), .int .i64 r] w fun e w' => e = .returned (.bool true) ∧ Below w.heap.size w w' := by
  have H0 := hid hn
  have H1 := hid (not_right hn)
  have H2 : Hid (majN n = 0) := hid (by unfold majN; rw [hn]; rfl)
  have h3 : (n == 3) = false := by unfold rightN at hn; simp at hn; exact beq_eq_false_iff_ne.2 hn.1.1
  have h5 : (n == 5) = false := by unfold rightN at hn; simp at hn; exact beq_eq_false_iff_ne.2 hn.1.2
  have h7 : (n == 7) = false := by unfold rightN at hn; simp at hn; exact beq_eq_false_iff_ne.2 hn.2
  have h3' : (n != 3) = true := by rw [bne, h3]; rfl
  have h5' : (n != 5) = true := by rw [bne, h5]; rfl
  have h7' : (n != 7) = true := by rw [bne, h7]; rfl
  clear hn
  go_enter Try.func5, Try.ntmps5
  go_wp2_with (first
    | (go_at_call 6; refine (anchor_any _).mono ?_; rintro e w1 ⟨rfl, hw1⟩)
    | (go_at_call 18; refine (right_any _ _).mono ?_; rintro e w' ⟨rfl, rfl⟩; rw [H0.out])
    | (go_at_call 19; refine (f_any _ _).mono ?_; rintro e w' ⟨rfl, rfl⟩; rw [H1.out])
    | (go_at_call 20; refine (majority_any _ _).mono ?_; rintro e w' ⟨rfl, rfl⟩; rw [H2.out])
    | (go_at_call 21; refine (fast_any _ _).mono ?_; rintro e w' ⟨rfl, rfl⟩; rw [H1.out]))
  go_ret
  exact ⟨rfl, hw1⟩

theorem high_none (s : Nat) {n i : Nat} (h : n ≤ i) : (meetN s (firstN n)).testBit i = false := by
  rw [meet_bit, first_bit, decide_eq_false (by omega)]; simp

/-- What of any two sets of a crew is known. -/
theorem facts (a b : Nat) (n : Nat) (hn : n ≤ 7) (r : Int) : ∃ A B : Nat, meetN a (firstN n) = A ∧ meetN b (firstN n) = B ∧ A < 128 ∧ B < 128 ∧ cnt A + cnt B ≤ cnt (meetN A B) + n ∧ meetN A B < 128 ∧ lessN B r < 256 ∧ meetN A (lessN B r) < 128 ∧ (hasB A r = false → cnt (meetN A (lessN B r)) = cnt (meetN A B)) :=
  ⟨_, _, rfl, rfl, meet_lt _ _, meet_lt _ _, meet_many _ _ hn (fun i h => high_none a h) (fun i h => high_none b h), meet_lt _ _, less_lt (by have := meet_lt b (firstN n); omega) r, meet_lt _ _, fun h => meet_less _ _ h⟩

set_option maxRecDepth 100000 in
set_option maxHeartbeats 4000000 in
theorem walk_3 (a b : Nat) (r : Int) (ha : a < 256) (hb : b < 256) (w : World) :
    Calls Try.prog 5 #[.int .i64 3, .int .u8 (a : Int), .int .u8 (b : Int), .int .i64 r] w fun e w' => e = .returned (.bool true) ∧ Below w.heap.size w w' := by
  obtain ⟨A, B, hA, hB, hA1, hB1, hAB, hM, hL, hL2, hR⟩ := facts a b (cutN 3) (cut_le _) r
  have HA := hid hA
  have HB := hid hB
  have hq := first_lt (cut_le 3)
  have hc : cnt A + cnt B ≤ cnt (meetN A B) + 3 := hAB
  have H0 : Hid (rightN 3 = true) := hid rfl
  have H1 : Hid (fN 3 = 1) := hid rfl
  have H2 : Hid (majN 3 = 2) := hid rfl
  have H3 : Hid (2 * fN 3 = 2) := hid rfl
  have hcA := cnt_le A
  have hcB := cnt_le B
  have hcM := cnt_le (meetN A B)
  have hcL := cnt_le (meetN A (lessN B r))
  have HR := hid hR
  clear hA hB hAB hR
  cases hh : hasB A r
  case' false =>
    have hge : cnt (meetN A B) ≤ cnt (meetN A (lessN B r)) := by rw [HR.out hh]; exact Nat.le_refl _
  all_goals
    have HH := hid hh
    clear hh
    go_enter Try.func5, Try.ntmps5
    go_wp2_with (first
      | (go_at_call 6; refine (anchor_any _).mono ?_; rintro e w1 ⟨rfl, hw1⟩)
      | (go_at_call 18; refine (right_any _ _).mono ?_; rintro e w' ⟨rfl, rfl⟩; rw [H0.out])
      | (go_at_call 19; refine (f_any _ _).mono ?_; rintro e w' ⟨rfl, rfl⟩; rw [H1.out])
      | (go_at_call 20; refine (majority_any _ _).mono ?_; rintro e w' ⟨rfl, rfl⟩; rw [H2.out])
      | (go_at_call 21; refine (fast_any _ _).mono ?_; rintro e w' ⟨rfl, rfl⟩; rw [H3.out])
      | (go_at_call 17; refine (allset_any _ _).mono ?_; rintro e w' ⟨rfl, rfl⟩)
      | (go_at_call 12; refine (meet_any _ _ _ (by omega) (by omega)).mono ?_; rintro e w' ⟨rfl, rfl⟩; (first | rw [HA.out] | rw [HB.out] | skip))
      | (go_at_call 9; refine (count_any _ _ (by omega)).mono ?_; rintro e w' ⟨rfl, rfl⟩)
      | (go_at_call 15; refine (without_any _ _ _ (by omega)).mono ?_; rintro e w' ⟨rfl, rfl⟩)
      | (go_at_call 8; refine (has_any _ _ _ (by omega)).mono ?_; rintro e w' ⟨rfl, rfl⟩; (first | rw [HH.out] | skip)))
    all_goals go_ret
    all_goals exact ⟨ret_bool (by first | rfl | (simp; omega) | omega), hw1⟩

set_option maxRecDepth 100000 in
set_option maxHeartbeats 4000000 in
theorem walk_5 (a b : Nat) (r : Int) (ha : a < 256) (hb : b < 256) (w : World) :
    Calls Try.prog 5 #[.int .i64 5, .int .u8 (a : Int), .int .u8 (b : Int), .int .i64 r] w fun e w' => e = .returned (.bool true) ∧ Below w.heap.size w w' := by
  obtain ⟨A, B, hA, hB, hA1, hB1, hAB, hM, hL, hL2, hR⟩ := facts a b (cutN 5) (cut_le _) r
  have HA := hid hA
  have HB := hid hB
  have hq := first_lt (cut_le 5)
  have hc : cnt A + cnt B ≤ cnt (meetN A B) + 5 := hAB
  have H0 : Hid (rightN 5 = true) := hid rfl
  have H1 : Hid (fN 5 = 2) := hid rfl
  have H2 : Hid (majN 5 = 3) := hid rfl
  have H3 : Hid (2 * fN 5 = 4) := hid rfl
  have hcA := cnt_le A
  have hcB := cnt_le B
  have hcM := cnt_le (meetN A B)
  have hcL := cnt_le (meetN A (lessN B r))
  have HR := hid hR
  clear hA hB hAB hR
  cases hh : hasB A r
  case' false =>
    have hge : cnt (meetN A B) ≤ cnt (meetN A (lessN B r)) := by rw [HR.out hh]; exact Nat.le_refl _
  all_goals
    have HH := hid hh
    clear hh
    go_enter Try.func5, Try.ntmps5
    go_wp2_with (first
      | (go_at_call 6; refine (anchor_any _).mono ?_; rintro e w1 ⟨rfl, hw1⟩)
      | (go_at_call 18; refine (right_any _ _).mono ?_; rintro e w' ⟨rfl, rfl⟩; rw [H0.out])
      | (go_at_call 19; refine (f_any _ _).mono ?_; rintro e w' ⟨rfl, rfl⟩; rw [H1.out])
      | (go_at_call 20; refine (majority_any _ _).mono ?_; rintro e w' ⟨rfl, rfl⟩; rw [H2.out])
      | (go_at_call 21; refine (fast_any _ _).mono ?_; rintro e w' ⟨rfl, rfl⟩; rw [H3.out])
      | (go_at_call 17; refine (allset_any _ _).mono ?_; rintro e w' ⟨rfl, rfl⟩)
      | (go_at_call 12; refine (meet_any _ _ _ (by omega) (by omega)).mono ?_; rintro e w' ⟨rfl, rfl⟩; (first | rw [HA.out] | rw [HB.out] | skip))
      | (go_at_call 9; refine (count_any _ _ (by omega)).mono ?_; rintro e w' ⟨rfl, rfl⟩)
      | (go_at_call 15; refine (without_any _ _ _ (by omega)).mono ?_; rintro e w' ⟨rfl, rfl⟩)
      | (go_at_call 8; refine (has_any _ _ _ (by omega)).mono ?_; rintro e w' ⟨rfl, rfl⟩; (first | rw [HH.out] | skip)))
    all_goals go_ret
    all_goals exact ⟨ret_bool (by first | rfl | (simp; omega) | omega), hw1⟩

set_option maxRecDepth 100000 in
set_option maxHeartbeats 4000000 in
theorem walk_7 (a b : Nat) (r : Int) (ha : a < 256) (hb : b < 256) (w : World) :
    Calls Try.prog 5 #[.int .i64 7, .int .u8 (a : Int), .int .u8 (b : Int), .int .i64 r] w fun e w' => e = .returned (.bool true) ∧ Below w.heap.size w w' := by
  obtain ⟨A, B, hA, hB, hA1, hB1, hAB, hM, hL, hL2, hR⟩ := facts a b (cutN 7) (cut_le _) r
  have HA := hid hA
  have HB := hid hB
  have hq := first_lt (cut_le 7)
  have hc : cnt A + cnt B ≤ cnt (meetN A B) + 7 := hAB
  have H0 : Hid (rightN 7 = true) := hid rfl
  have H1 : Hid (fN 7 = 3) := hid rfl
  have H2 : Hid (majN 7 = 4) := hid rfl
  have H3 : Hid (2 * fN 7 = 6) := hid rfl
  have hcA := cnt_le A
  have hcB := cnt_le B
  have hcM := cnt_le (meetN A B)
  have hcL := cnt_le (meetN A (lessN B r))
  have HR := hid hR
  clear hA hB hAB hR
  cases hh : hasB A r
  case' false =>
    have hge : cnt (meetN A B) ≤ cnt (meetN A (lessN B r)) := by rw [HR.out hh]; exact Nat.le_refl _
  all_goals
    have HH := hid hh
    clear hh
    go_enter Try.func5, Try.ntmps5
    go_wp2_with (first
      | (go_at_call 6; refine (anchor_any _).mono ?_; rintro e w1 ⟨rfl, hw1⟩)
      | (go_at_call 18; refine (right_any _ _).mono ?_; rintro e w' ⟨rfl, rfl⟩; rw [H0.out])
      | (go_at_call 19; refine (f_any _ _).mono ?_; rintro e w' ⟨rfl, rfl⟩; rw [H1.out])
      | (go_at_call 20; refine (majority_any _ _).mono ?_; rintro e w' ⟨rfl, rfl⟩; rw [H2.out])
      | (go_at_call 21; refine (fast_any _ _).mono ?_; rintro e w' ⟨rfl, rfl⟩; rw [H3.out])
      | (go_at_call 17; refine (allset_any _ _).mono ?_; rintro e w' ⟨rfl, rfl⟩)
      | (go_at_call 12; refine (meet_any _ _ _ (by omega) (by omega)).mono ?_; rintro e w' ⟨rfl, rfl⟩; (first | rw [HA.out] | rw [HB.out] | skip))
      | (go_at_call 9; refine (count_any _ _ (by omega)).mono ?_; rintro e w' ⟨rfl, rfl⟩)
      | (go_at_call 15; refine (without_any _ _ _ (by omega)).mono ?_; rintro e w' ⟨rfl, rfl⟩)
      | (go_at_call 8; refine (has_any _ _ _ (by omega)).mono ?_; rintro e w' ⟨rfl, rfl⟩; (first | rw [HH.out] | skip)))
    all_goals go_ret
    all_goals exact ⟨ret_bool (by first | rfl | (simp; omega) | omega), hw1⟩

/-- The Go text returns true. -/
theorem walk (n a b r : Int) (wn : (Lit.int .i64 n).wf = true) (wa : (Lit.int .u8 a).wf = true) (wb : (Lit.int .u8 b).wf = true) (wr : (Lit.int .i64 r).wf = true) (w : World) :
    Calls Try.prog 5 #[.int .i64 n, .int .u8 a, .int .u8 b, .int .i64 r] w fun e w' => e = .returned (.bool true) ∧ Below w.heap.size w w' := by
  have ha := u8_lt a wa
  have hb := u8_lt b wb
  obtain ⟨a, rfl⟩ := Int.eq_ofNat_of_zero_le (u8_pos a wa)
  obtain ⟨b, rfl⟩ := Int.eq_ofNat_of_zero_le (u8_pos b wb)
  cases hn : rightN n with
  | false => exact walk_no n a b r hn w
  | true =>
    rcases right_of hn with rfl | rfl | rfl
    · exact walk_3 a b r (by omega) (by omega) w
    · exact walk_5 a b r (by omega) (by omega) w
    · exact walk_7 a b r (by omega) (by omega) w

set_option maxRecDepth 100000 in
theorem lifted (os : Os) (started : os.Started) (H : Type) (enc : TypeId × Value → H) :
    ReturnsInHanded {} Try.checked os 5 .any (Rows.crewEnoughSpec.pre6 enc Try.prog Try.f5 Rows.crewEnoughRow.domain false) (Rows.crewEnoughSpec.post enc Try.prog Try.f5 false true false false) := by
  refine returnsInHanded_of_change (C := Try.checked) own started (by kernel_rfl) Try.func5
    (ChangeSpec.witness6 (enc := enc) (C := Try.checked) false ⟨#[], #[.int .i64 0, .int .u8 0, .int .u8 0, .int .i64 0], []⟩ 8 (by kernel_rfl) (by kernel_rfl) (by kernel_rfl) (by kernel_rfl)) ?_
  intro W base args ds gs before hval0 hW _ _
  have hval : ∀ (j : Nat) t v, Try.f5.params[j]? = some t → args[j]? = some v → Value.okWide Try.prog W .any base t v := hval0
  have hW' := hW
  obtain ⟨p, q, hA0, hV, rfl, _, _⟩ := hW
  have hA : DataW.TrodAll enc Try.prog W 0 (fun _ => true) true Try.f5.params.toList args.toList ds p := hA0
  rw [Try.params5] at hA hval
  have hlt : ∀ x ∈ p, x.block < W.heap.size := fun x hx => by simpa using hW'.lt x (List.mem_append_left _ hx)
  obtain ⟨v0, vs0, d0, ds0, p0, q0, hargs, rfl, rfl, g0, r0⟩ := trodAll_cons hA
  obtain ⟨v1, vs1, d1, ds1, p1, q1, rfl, rfl, rfl, g1, r1⟩ := trodAll_cons r0
  obtain ⟨v2, vs2, d2, ds2, p2, q2, rfl, rfl, rfl, g2, r2⟩ := trodAll_cons r1
  obtain ⟨v3, vs3, d3, ds3, p3, q3, rfl, rfl, rfl, g3, r3⟩ := trodAll_cons r2
  obtain ⟨rfl, rfl, rfl⟩ := trodAll_nil r3
  obtain rfl : args = #[v0, v1, v2, v3] := by cases args; simp_all
  obtain ⟨rfl, rfl⟩ := trodVars_none hV
  obtain ⟨a0, rfl, rfl, rfl, w0⟩ := open_int Try.underlying3 (hval 0 3 v0 rfl rfl) g0
  obtain ⟨a1, rfl, rfl, rfl, w1⟩ := open_int Try.underlying22 (hval 1 22 v1 rfl rfl) g1
  obtain ⟨a2, rfl, rfl, rfl, w2⟩ := open_int Try.underlying22 (hval 2 22 v2 rfl rfl) g2
  obtain ⟨a3, rfl, rfl, rfl, w3⟩ := open_int Try.underlying3 (hval 3 3 v3 rfl rfl) g3
  refine (walk a0 a1 a2 a3 w0 w1 w2 w3 W).mono fun e W' ⟨he, hg⟩ => ?_
  subst he
  exact ⟨_, rfl, law_post laidOut hW' (by kernel_rfl) rfl rfl Try.underlying4 rfl hg⟩

theorem proved : Rows.CrewEnoughSaid :=
  OpenClaim.holds_of_wide 5 Try.f5 rfl rfl rfl rfl rfl rfl rfl ⟨rfl, rfl, rfl, rfl, rfl⟩ rfl rfl rfl rfl rfl (by kernel_rfl) Try.func5 (by kernel_rfl)
    (of_decide_eq_true (by kernel_rfl)) (by unfold Func.isWrapper; first | (rw [if_pos (by decide +kernel)]; kernel_rfl) | (rw [if_neg (by decide +kernel)]; exact ⟨rfl, rfl⟩))
    (fun os started H enc _ => lifted os started H enc)
#print axioms proved
end Go.Proofs.Ytkkjjhljlcabaaa.crewEnough
