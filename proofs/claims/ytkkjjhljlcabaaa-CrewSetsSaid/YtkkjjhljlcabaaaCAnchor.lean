/-
  The contract of the laws' anchor.
-/
import Derived.Test.YtkkjjhljlcabaaaCRef
namespace Go.Proofs.Ytkkjjhljlcabaaa
open Go.ChangeShapes Go.WideShapes Go.ChangeAt Go.RowKit

theorem two_ints (W : World) (x y : Int) (t : TypeId) : Vals (W.alloc (.cells #[.int .i64 x, .int .i64 y] t)) (some ⟨W.heap.size, 0, none⟩) (ints [x, y]) := by
  intro j u hj
  match j, hj with
  | 0, hj =>
    simp [ints] at hj
    subst hj
    exact ⟨W.heap.size, 0, rfl, by simp, by simp⟩
  | 1, hj =>
    simp [ints] at hj
    subst hj
    exact ⟨W.heap.size, 0, rfl, by simp, by simp⟩

set_option maxRecDepth 100000 in
set_option maxHeartbeats 400000 in
theorem anchor_any (w : World) :
    Calls Try.prog 6 #[] w fun e w' => e = .returned (.bool true) ∧ Below w.heap.size w w' := by
  have H1 : Hid (fN 5 = 2) := hid rfl
  have H2 : Hid (majN 5 = 3) := hid rfl
  have H3 : Hid (2 * fN 5 = 4) := hid rfl
  have H4 : Hid ((ofN [0, 2] : Int) = 5) := hid (by decide)
  go_enter Try.func6, Try.ntmps6
  go_wp2_with (first
    | (go_at_call 19; refine (f_any _ _).mono ?_; rintro e w' ⟨rfl, rfl⟩; rw [H1.out])
    | (go_at_call 20; refine (majority_any _ _).mono ?_; rintro e w' ⟨rfl, rfl⟩; rw [H2.out])
    | (go_at_call 21; refine (fast_any _ _).mono ?_; rintro e w' ⟨rfl, rfl⟩; rw [H3.out])
    | (go_at_call 16; refine (ofset_any _ [0, 2] 2 2 _ rfl (by omega) (two_ints _ _ _ _)).mono ?_; rintro e w' ⟨rfl, rfl⟩; rw [H4.out]))
  go_ret
  exact ⟨rfl, (Below.refl _ _).alloc (Nat.le_refl _) _⟩

end Go.Proofs.Ytkkjjhljlcabaaa
