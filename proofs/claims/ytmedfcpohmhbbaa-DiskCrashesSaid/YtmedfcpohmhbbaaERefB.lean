/-
  The document's disk (moothillref13), by value: Sync with and without a trim.
-/
import Derived.Test.YtmedfcpohmhbbaaERef
namespace Go.Proofs.Ytmedfcpohmhbbaa
open Go.ChangeShapes Go.WideShapes Go.ChangeAt Go.RowKit
set_option linter.unusedVariables false
set_option linter.unusedSimpArgs false

/-- A unit is taken: the numbers behind it. -/
def TakesU (u : Int) (n : Bool) (u2 : Int) (n2 y : Bool) : Prop := (u = 0 ∧ u2 = 0 ∧ n2 = true ∧ y = true) ∨ (0 < u ∧ u2 = u - 1 ∧ n2 = n ∧ y = false) ∨ (u < 0 ∧ u2 = u ∧ n2 = n ∧ y = false)
theorem unit_tk (sz : Int) (A : Option Addr) (l c : Nat) (B : Option Addr) (m e : Nat) (s t u u2 : Int) (n n2 y : Bool) (w : World) (hu : -9223372036854775808 < u) (h : TakesU u n u2 n2 y) (hu1 : u ≤ 9223372036854775807) :
    Calls Try.prog 32 #[.agg (rS sz A l c B m e s t u n)] w fun e' w' => e' = .returned (.tuple #[.agg (rS sz A l c B m e s t u2 n2), .bool (!y)]) ∧ (w.alloc (.cells (rS sz A l c B m e s t u2 n2) 34)).alloc (.cells (rS sz A l c B m e s t u2 n2) 34) = w' := unit_raw sz A l c B m e s t u u2 n n2 y w hu h hu1

theorem below_four {w : World} (a b c d : Obj) : Below w.heap.size w ((((w.alloc a).alloc b).alloc c).alloc d) := ((((Below.refl _ _).alloc (Nat.le_refl _) _).alloc (by simp) _).alloc (by simp <;> omega) _).alloc (by simp <;> omega) _
theorem below_three {w : World} (a b c : Obj) : Below w.heap.size w (((w.alloc a).alloc b).alloc c) := (((Below.refl _ _).alloc (Nat.le_refl _) _).alloc (by simp) _).alloc (by simp <;> omega) _
theorem below_five {w : World} (a b c d e : Obj) : Below w.heap.size w (((((w.alloc a).alloc b).alloc c).alloc d).alloc e) := (((((Below.refl _ _).alloc (Nat.le_refl _) _).alloc (by simp) _).alloc (by simp <;> omega) _).alloc (by simp <;> omega) _).alloc (by simp <;> omega) _

set_option maxRecDepth 100000 in
set_option maxHeartbeats 2000000 in
theorem refsync_err (sz : Int) (A : Option Addr) (l c : Nat) (B : Option Addr) (m e : Nat) (s t u : Int) (y : Bool) (f n q : Int) (b : Bool) (w : World) (hq : q = if hasD f then (if y then 40 else 0) else 12) (h0 : q ≠ 0) :
    Calls Try.prog 27 #[.agg (rS sz A l c B m e s t u y), .int .i64 f, .int .i64 n, .bool b] w fun e' w' => e' = .returned (.tuple #[.agg (rS sz A l c B m e s t u y), .int .i64 q]) ∧ Below w.heap.size w w' := by
  have HM := hid (fun w => may_raw sz (.slice A l c) (.slice B m e) s t u y f q w hq)
  have h1 : (q != 0) = true := by rw [bne_iff_ne]; exact h0
  clear hq
  go_enter Try.func27, Try.ntmps27
  go_wp2_with fail
  with_reducible refine (HM.out _).mono ?_
  rintro e' w1 ⟨rfl, rfl⟩
  go_wp2_with fail
  go_region_with (go_at_call 31; (with_reducible refine (HM.out _).mono ?_); rintro e' w1 ⟨rfl, rfl⟩)
  all_goals go_wp2
  all_goals refine bodyPost_ret (v := .tuple #[.agg (rS sz A l c B m e s t u y), .int .i64 q]) (by simp [results, Try.results27, go_sem]) rfl ⟨rfl, ?_⟩
  all_goals exact below_drewN (below_four _ _ _ _) 1

set_option maxRecDepth 100000 in
set_option maxHeartbeats 2000000 in
theorem refsync_at0 (sz : Int) (A : Option Addr) (l c : Nat) (B : Option Addr) (m e : Nat) (s t : Nat) (u u2 : Int) (n2 y : Bool) (w : World) (hu : -9223372036854775808 < u) (h : TakesU u false u2 n2 y) (hu1 : u ≤ 9223372036854775807) :
    Calls Try.prog 27 #[.agg (rS sz A l c B m e s t u false), .int .i64 0, .int .i64 0, .bool false] w fun e' w' => e' = .returned (.tuple #[.agg (if y then rS sz A l c B m e s t u2 n2 else rS sz A l c B m e l t u2 n2), .int .i64 (if y then 40 else 0)]) ∧ Below w.heap.size w w' := by
  have HM := hid (fun w => may_raw sz (.slice A l c) (.slice B m e) s t u false 0 0 w rfl)
  have HU := hid (fun w => unit_tk sz A l c B m e s t u u2 false n2 y w hu h hu1)
  clear hu h hu1
  cases y
  · go_enter Try.func27, Try.ntmps27
    go_wp2_with fail
    with_reducible refine (HM.out _).mono ?_
    rintro e' w1 ⟨rfl, rfl⟩
    go_wp2_with fail
    with_reducible refine (HU.out _).mono ?_
    rintro e' w1 ⟨rfl, rfl⟩
    go_wp2
    refine bodyPost_ret (v := .tuple #[.agg (rS sz A l c B m e l t u2 n2), .int .i64 0]) (by simp [results, Try.results27, go_sem]) rfl ⟨rfl, ?_⟩
    exact below_five _ _ _ _ _
  · go_enter Try.func27, Try.ntmps27
    go_wp2_with fail
    with_reducible refine (HM.out _).mono ?_
    rintro e' w1 ⟨rfl, rfl⟩
    go_wp2_with fail
    with_reducible refine (HU.out _).mono ?_
    rintro e' w1 ⟨rfl, rfl⟩
    go_wp2
    refine bodyPost_ret (v := .tuple #[.agg (rS sz A l c B m e s t u2 n2), .int .i64 40]) (by simp [results, Try.results27, go_sem]) rfl ⟨rfl, ?_⟩
    exact below_five _ _ _ _ _

set_option maxRecDepth 100000 in
set_option maxHeartbeats 2000000 in
theorem reftrim_at0 (sz : Int) (A : Option Addr) (l c : Nat) (B : Option Addr) (m e : Nat) (s t : Nat) (u u2 : Int) (n2 y : Bool) (a : Nat) (w : World) (hu : -9223372036854775808 < u) (h : TakesU u false u2 n2 y) (hu1 : u ≤ 9223372036854775807) (ha : a ≤ l) (hc : l ≤ c) :
    Calls Try.prog 27 #[.agg (rS sz A l c B m e s t u false), .int .i64 0, .int .i64 (a : Int), .bool true] w fun e' w' => e' = .returned (.tuple #[.agg (if y then rS sz A l c B m e s t u2 n2 else rS sz A a c B m e (min s a : Nat) t u2 n2), .int .i64 (if y then 40 else 0)]) ∧ Below w.heap.size w w' := by
  have HM := hid (fun w => may_raw sz (.slice A l c) (.slice B m e) s t u false 0 0 w rfl)
  have HU := hid (fun w => unit_tk sz A l c B m e s t u u2 false n2 y w hu h hu1)
  clear hu h hu1
  obtain ⟨i0, hi, _⟩ := info_parts info_u8
  have hcut := fun w => cut_head (P := Try.prog) 28 5 i0 Try.underlying28 hi A ha hc w
  clear hi hc
  cases y
  · rcases (show a < s ∨ s ≤ a by omega) with hs | hs
    · have hmin : min s a = a := by omega
      rw [hmin]
      clear hmin
      go_enter Try.func27, Try.ntmps27
      go_wp2_with fail
      with_reducible refine (HM.out _).mono ?_
      rintro e' w1 ⟨rfl, rfl⟩
      go_wp2_with fail
      with_reducible refine (HU.out _).mono ?_
      rintro e' w1 ⟨rfl, rfl⟩
      go_wp2
      refine bodyPost_ret (v := .tuple #[.agg (rS sz A a c B m e (a : Int) t u2 n2), .int .i64 0]) (by simp [results, Try.results27, go_sem]) rfl ⟨rfl, ?_⟩
      exact below_five _ _ _ _ _
    · have hmin : min s a = s := by omega
      rw [hmin]
      clear hmin
      go_enter Try.func27, Try.ntmps27
      go_wp2_with fail
      with_reducible refine (HM.out _).mono ?_
      rintro e' w1 ⟨rfl, rfl⟩
      go_wp2_with fail
      with_reducible refine (HU.out _).mono ?_
      rintro e' w1 ⟨rfl, rfl⟩
      go_wp2
      refine bodyPost_ret (v := .tuple #[.agg (rS sz A a c B m e (s : Int) t u2 n2), .int .i64 0]) (by simp [results, Try.results27, go_sem]) rfl ⟨rfl, ?_⟩
      exact below_five _ _ _ _ _
  · go_enter Try.func27, Try.ntmps27
    go_wp2_with fail
    with_reducible refine (HM.out _).mono ?_
    rintro e' w1 ⟨rfl, rfl⟩
    go_wp2_with fail
    with_reducible refine (HU.out _).mono ?_
    rintro e' w1 ⟨rfl, rfl⟩
    go_wp2
    refine bodyPost_ret (v := .tuple #[.agg (rS sz A l c B m e s t u2 n2), .int .i64 40]) (by simp [results, Try.results27, go_sem]) rfl ⟨rfl, ?_⟩
    exact below_five _ _ _ _ _

set_option maxRecDepth 100000 in
set_option maxHeartbeats 2000000 in
theorem reftrim_not0 (sz : Int) (A : Option Addr) (l c : Nat) (B : Option Addr) (m e : Nat) (s t : Nat) (u : Int) (a : Int) (w : World) (ha : a < 0 ∨ (l : Int) < a) :
    Calls Try.prog 27 #[.agg (rS sz A l c B m e s t u false), .int .i64 0, .int .i64 a, .bool true] w fun e' w' => e' = .returned (.tuple #[.agg (rS sz A l c B m e s t u false), .int .i64 12]) ∧ Below w.heap.size w w' := by
  have HM := hid (fun w => may_raw sz (.slice A l c) (.slice B m e) s t u false 0 0 w rfl)
  rcases ha with ha | ha
  · go_enter Try.func27, Try.ntmps27
    go_wp2_with fail
    with_reducible refine (HM.out _).mono ?_
    rintro e' w1 ⟨rfl, rfl⟩
    go_wp2
    refine bodyPost_ret (v := .tuple #[.agg (rS sz A l c B m e s t u false), .int .i64 12]) (by simp [results, Try.results27, go_sem]) rfl ⟨rfl, ?_⟩
    exact below_three _ _ _
  · have h0 : 0 ≤ a := by omega
    go_enter Try.func27, Try.ntmps27
    go_wp2_with fail
    with_reducible refine (HM.out _).mono ?_
    rintro e' w1 ⟨rfl, rfl⟩
    go_wp2
    refine bodyPost_ret (v := .tuple #[.agg (rS sz A l c B m e s t u false), .int .i64 12]) (by simp [results, Try.results27, go_sem]) rfl ⟨rfl, ?_⟩
    exact below_three _ _ _

set_option maxRecDepth 100000 in
set_option maxHeartbeats 2000000 in
theorem refsync_at1 (sz : Int) (A : Option Addr) (l c : Nat) (B : Option Addr) (m e : Nat) (s t : Nat) (u u2 : Int) (n2 y : Bool) (w : World) (hu : -9223372036854775808 < u) (h : TakesU u false u2 n2 y) (hu1 : u ≤ 9223372036854775807) :
    Calls Try.prog 27 #[.agg (rS sz A l c B m e s t u false), .int .i64 1, .int .i64 0, .bool false] w fun e' w' => e' = .returned (.tuple #[.agg (if y then rS sz A l c B m e s t u2 n2 else rS sz A l c B m e s m u2 n2), .int .i64 (if y then 40 else 0)]) ∧ Below w.heap.size w w' := by
  have HM := hid (fun w => may_raw sz (.slice A l c) (.slice B m e) s t u false 1 0 w rfl)
  have HU := hid (fun w => unit_tk sz A l c B m e s t u u2 false n2 y w hu h hu1)
  clear hu h hu1
  cases y
  · go_enter Try.func27, Try.ntmps27
    go_wp2_with fail
    with_reducible refine (HM.out _).mono ?_
    rintro e' w1 ⟨rfl, rfl⟩
    go_wp2_with fail
    with_reducible refine (HU.out _).mono ?_
    rintro e' w1 ⟨rfl, rfl⟩
    go_wp2
    refine bodyPost_ret (v := .tuple #[.agg (rS sz A l c B m e s m u2 n2), .int .i64 0]) (by simp [results, Try.results27, go_sem]) rfl ⟨rfl, ?_⟩
    exact below_five _ _ _ _ _
  · go_enter Try.func27, Try.ntmps27
    go_wp2_with fail
    with_reducible refine (HM.out _).mono ?_
    rintro e' w1 ⟨rfl, rfl⟩
    go_wp2_with fail
    with_reducible refine (HU.out _).mono ?_
    rintro e' w1 ⟨rfl, rfl⟩
    go_wp2
    refine bodyPost_ret (v := .tuple #[.agg (rS sz A l c B m e s t u2 n2), .int .i64 40]) (by simp [results, Try.results27, go_sem]) rfl ⟨rfl, ?_⟩
    exact below_five _ _ _ _ _

set_option maxRecDepth 100000 in
set_option maxHeartbeats 2000000 in
theorem reftrim_at1 (sz : Int) (A : Option Addr) (l c : Nat) (B : Option Addr) (m e : Nat) (s t : Nat) (u u2 : Int) (n2 y : Bool) (a : Nat) (w : World) (hu : -9223372036854775808 < u) (h : TakesU u false u2 n2 y) (hu1 : u ≤ 9223372036854775807) (ha : a ≤ m) (hc : m ≤ e) :
    Calls Try.prog 27 #[.agg (rS sz A l c B m e s t u false), .int .i64 1, .int .i64 (a : Int), .bool true] w fun e' w' => e' = .returned (.tuple #[.agg (if y then rS sz A l c B m e s t u2 n2 else rS sz A l c B a e s (min t a : Nat) u2 n2), .int .i64 (if y then 40 else 0)]) ∧ Below w.heap.size w w' := by
  have HM := hid (fun w => may_raw sz (.slice A l c) (.slice B m e) s t u false 1 0 w rfl)
  have HU := hid (fun w => unit_tk sz A l c B m e s t u u2 false n2 y w hu h hu1)
  clear hu h hu1
  obtain ⟨i0, hi, _⟩ := info_parts info_u8
  have hcut := fun w => cut_head (P := Try.prog) 28 5 i0 Try.underlying28 hi B ha hc w
  clear hi hc
  cases y
  · rcases (show a < t ∨ t ≤ a by omega) with hs | hs
    · have hmin : min t a = a := by omega
      rw [hmin]
      clear hmin
      go_enter Try.func27, Try.ntmps27
      go_wp2_with fail
      with_reducible refine (HM.out _).mono ?_
      rintro e' w1 ⟨rfl, rfl⟩
      go_wp2_with fail
      with_reducible refine (HU.out _).mono ?_
      rintro e' w1 ⟨rfl, rfl⟩
      go_wp2
      refine bodyPost_ret (v := .tuple #[.agg (rS sz A l c B a e s (a : Int) u2 n2), .int .i64 0]) (by simp [results, Try.results27, go_sem]) rfl ⟨rfl, ?_⟩
      exact below_five _ _ _ _ _
    · have hmin : min t a = t := by omega
      rw [hmin]
      clear hmin
      go_enter Try.func27, Try.ntmps27
      go_wp2_with fail
      with_reducible refine (HM.out _).mono ?_
      rintro e' w1 ⟨rfl, rfl⟩
      go_wp2_with fail
      with_reducible refine (HU.out _).mono ?_
      rintro e' w1 ⟨rfl, rfl⟩
      go_wp2
      refine bodyPost_ret (v := .tuple #[.agg (rS sz A l c B a e s (t : Int) u2 n2), .int .i64 0]) (by simp [results, Try.results27, go_sem]) rfl ⟨rfl, ?_⟩
      exact below_five _ _ _ _ _
  · go_enter Try.func27, Try.ntmps27
    go_wp2_with fail
    with_reducible refine (HM.out _).mono ?_
    rintro e' w1 ⟨rfl, rfl⟩
    go_wp2_with fail
    with_reducible refine (HU.out _).mono ?_
    rintro e' w1 ⟨rfl, rfl⟩
    go_wp2
    refine bodyPost_ret (v := .tuple #[.agg (rS sz A l c B m e s t u2 n2), .int .i64 40]) (by simp [results, Try.results27, go_sem]) rfl ⟨rfl, ?_⟩
    exact below_five _ _ _ _ _

set_option maxRecDepth 100000 in
set_option maxHeartbeats 2000000 in
theorem reftrim_not1 (sz : Int) (A : Option Addr) (l c : Nat) (B : Option Addr) (m e : Nat) (s t : Nat) (u : Int) (a : Int) (w : World) (ha : a < 0 ∨ (m : Int) < a) :
    Calls Try.prog 27 #[.agg (rS sz A l c B m e s t u false), .int .i64 1, .int .i64 a, .bool true] w fun e' w' => e' = .returned (.tuple #[.agg (rS sz A l c B m e s t u false), .int .i64 12]) ∧ Below w.heap.size w w' := by
  have HM := hid (fun w => may_raw sz (.slice A l c) (.slice B m e) s t u false 1 0 w rfl)
  rcases ha with ha | ha
  · go_enter Try.func27, Try.ntmps27
    go_wp2_with fail
    with_reducible refine (HM.out _).mono ?_
    rintro e' w1 ⟨rfl, rfl⟩
    go_wp2
    refine bodyPost_ret (v := .tuple #[.agg (rS sz A l c B m e s t u false), .int .i64 12]) (by simp [results, Try.results27, go_sem]) rfl ⟨rfl, ?_⟩
    exact below_three _ _ _
  · have h0 : 0 ≤ a := by omega
    go_enter Try.func27, Try.ntmps27
    go_wp2_with fail
    with_reducible refine (HM.out _).mono ?_
    rintro e' w1 ⟨rfl, rfl⟩
    go_wp2
    refine bodyPost_ret (v := .tuple #[.agg (rS sz A l c B m e s t u false), .int .i64 12]) (by simp [results, Try.results27, go_sem]) rfl ⟨rfl, ?_⟩
    exact below_three _ _ _

end Go.Proofs.Ytmedfcpohmhbbaa
