/-
  Contracts of attributes (package attr): Within.
-/
import Derived.Test.YtfpmmajgnijboaaAEq
namespace Go.Proofs.Ytfpmmajgnijboaa
open Go.ChangeShapes Go.WideShapes Go.ChangeAt Go.RowKit
set_option linter.unusedVariables false

/-- Within is: the number isn't greater, and the merge's slots are the other's. -/
theorem inB_eq (f g : Nat → Int) : inB f g = (decide (f 0 ≤ g 0) && eqD (mx f g) g) := by
  rw [Bool.eq_iff_iff, inB_iff, Bool.and_eq_true, decide_eq_true_eq, eqD_iff]
  constructor
  · intro h
    refine ⟨h 0 (by decide), fun i hi => ?_⟩
    have := h (i + 1) (by omega)
    unfold mx; split <;> omega
  · rintro ⟨h0, h⟩ i hi
    cases i with
    | zero => exact h0
    | succ i => have := h i (by omega); unfold mx at this; split at this <;> omega

set_option maxRecDepth 100000 in
set_option maxHeartbeats 1000000 in
theorem within8 (f g : Nat → Int) (w : World) :
    Calls Try.prog 11 #[.agg #[.int .i64 (f 0), .int .i64 (f 1), .int .i64 (f 2), .int .i64 (f 3), .int .i64 (f 4), .int .i64 (f 5), .int .i64 (f 6), .int .i64 (f 7)], .agg #[.int .i64 (g 0), .int .i64 (g 1), .int .i64 (g 2), .int .i64 (g 3), .int .i64 (g 4), .int .i64 (g 5), .int .i64 (g 6), .int .i64 (g 7)]] w fun e w' => e = .returned (.bool (inB f g)) ∧ Below w.heap.size w w' := by
  obtain ⟨b, hb⟩ : ∃ b, eqD (mx f g) g = b := ⟨_, rfl⟩
  have EQ := eq_dep (mx f g) g b hb
  have EG := dep_guard
  have FD := field_deps (mx f g)
  have HV : Hid (inB f g = (decide (f 0 ≤ g 0) && b)) := hid (by rw [inB_eq, hb])
  clear hb
  go_enter Try.func11, Try.ntmps11
  go_upto_region 1 with fail
  obtain ⟨W, hW⟩ : ∃ W, (w.alloc (.cells #[.int .i64 (f 0), .int .i64 (f 1), .int .i64 (f 2), .int .i64 (f 3), .int .i64 (f 4), .int .i64 (f 5), .int .i64 (f 6), .int .i64 (f 7)] 24)).alloc (.cells #[.int .i64 (g 0), .int .i64 (g 1), .int .i64 (g 2), .int .i64 (g 3), .int .i64 (g 4), .int .i64 (g 5), .int .i64 (g 6), .int .i64 (g 7)] 24) = W := ⟨_, rfl⟩
  rw [hW]
  obtain ⟨K0, K1, KB⟩ := two_new hW
  rw [show #[.int .i64 (f 0), .int .i64 (f 1), .int .i64 (f 2), .int .i64 (f 3), .int .i64 (f 4), .int .i64 (f 5), .int .i64 (f 6), .int .i64 (f 7)] = rowA f from rfl] at K0
  rw [show #[.int .i64 (g 0), .int .i64 (g 1), .int .i64 (g 2), .int .i64 (g 3), .int .i64 (g 4), .int .i64 (g 5), .int .i64 (g 6), .int .i64 (g 7)] = rowA g from rfl] at K1
  clear hW
  obtain ⟨k, hk⟩ : ∃ k, w.heap.size = k := ⟨_, rfl⟩
  rw [hk] at K0 K1 KB
  rw [hk]
  have HK := hid hk
  clear hk
  by_cases h : f 0 ≤ g 0
  · have hd : decide (f 0 ≤ g 0) = true := decide_eq_true h
    have HV2 : Hid (inB f g = b) := hid (by rw [HV.out, hd]; rfl)
    clear hd
    go_region_held3 (fun w' => (w'.cell? ⟨k, 0, none⟩ = some (.int .i64 (f 0)) ∧ w'.cell? ⟨k, 1, none⟩ = some (.int .i64 (f 1)) ∧ w'.cell? ⟨k, 2, none⟩ = some (.int .i64 (f 2)) ∧ w'.cell? ⟨k, 3, none⟩ = some (.int .i64 (f 3)) ∧ w'.cell? ⟨k, 4, none⟩ = some (.int .i64 (f 4)) ∧ w'.cell? ⟨k, 5, none⟩ = some (.int .i64 (f 5)) ∧ w'.cell? ⟨k, 6, none⟩ = some (.int .i64 (f 6)) ∧ w'.cell? ⟨k, 7, none⟩ = some (.int .i64 (f 7))) ∧ (w'.cell? ⟨k + 1, 0, none⟩ = some (.int .i64 (g 0)) ∧ w'.cell? ⟨k + 1, 1, none⟩ = some (.int .i64 (g 1)) ∧ w'.cell? ⟨k + 1, 2, none⟩ = some (.int .i64 (g 2)) ∧ w'.cell? ⟨k + 1, 3, none⟩ = some (.int .i64 (g 3)) ∧ w'.cell? ⟨k + 1, 4, none⟩ = some (.int .i64 (g 4)) ∧ w'.cell? ⟨k + 1, 5, none⟩ = some (.int .i64 (g 5)) ∧ w'.cell? ⟨k + 1, 6, none⟩ = some (.int .i64 (g 6)) ∧ w'.cell? ⟨k + 1, 7, none⟩ = some (.int .i64 (g 7))))
      (first | exact ⟨K0.out.eight, K1.out.eight⟩ | exact ⟨K0.out.drew.eight, K1.out.drew.eight⟩ | exact ⟨D0.out.eight, D1.out.eight⟩)
      (first
        | (go_at_call 9; (with_reducible refine (merge8 f g _).mono ?_); rintro e w1 ⟨rfl, hb1⟩; have D0 := hid (K0.out.drew.below hb1 K0.out.drew.lt); have D1 := hid (K1.out.drew.below hb1 K1.out.drew.lt)))
    rename_i hHeld
    clear hHeld
    have HE := hid ((below_drew KB.out).trans (hb1.mono (show k ≤ W.heap.size by have := K0.out.lt; omega)))
    clear hb1
    go_wp2
    go_ret
    exact ⟨ret_bool HV2.out.symm, by rw [HK.out]; exact HE.out⟩
  · have hd : decide (f 0 ≤ g 0) = false := decide_eq_false h
    have HV2 : Hid (inB f g = false) := hid (by rw [HV.out, hd]; rfl)
    have c0 := K0.out.att (i := 0) (by decide)
    have d0 := K1.out.att (i := 0) (by decide)
    go_wp2_with fail
    go_quiet (fail)
    go_wp2
    go_ret
    exact ⟨ret_bool HV2.out.symm, by rw [HK.out]; exact below_drewN KB.out _⟩

end Go.Proofs.Ytfpmmajgnijboaa
