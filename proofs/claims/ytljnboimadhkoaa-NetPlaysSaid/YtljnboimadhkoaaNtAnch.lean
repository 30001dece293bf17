/-
  The law's anchor: the document's example.
-/
import Derived.Test.YtljnboimadhkoaaNtTake
import Derived.Test.YtljnboimadhkoaaNtRef
namespace Go.Proofs.Ytljnboimadhkoaa
open Go.ChangeShapes Go.WideShapes Go.ChangeAt Go.RowKit
set_option linter.unusedVariables false
set_option linter.unusedSimpArgs false

/-- A net that the call made, and nothing older is turned. -/
structure MineN (w W : World) (g : Nat) (lim : Int) (v : Value) (l : List FrV) : Prop where
  net : NetAt W w.heap.size g lim v l
  below : Below w.heap.size w W
theorem MineN.on {w W W' : World} {g : Nat} {lim : Int} {v : Value} {l : List FrV} (h : MineN w W g lim v l) (k : Below W.heap.size W W') : MineN w W' g lim v l := ⟨h.net.on k, h.below.trans (k.mono h.below.size)⟩
theorem MineN.turned {w W W' : World} {g : Nat} {lim : Int} {v v' : Value} {l l' : List FrV} (h : MineN w W g lim v l) (n : NetAt W' w.heap.size g lim v' l') (t : TurnsD (RowN g v) W W') : MineN w W' g lim v' l' :=
  ⟨n, h.below.trans (t.below h.below.size (fun i hi o => by have := (h.net.own (.inl o)).1; omega))⟩
set_option maxRecDepth 100000 in
set_option maxHeartbeats 4000000 in
theorem anchor19 (w : World) : Calls Try.prog 5 #[] w fun e w' => e = .returned (.bool true) ∧ Below w.heap.size w w' := by
  have HN := hid (fun w => ntnew_any 9 w (by decide) (by decide))
  have HN0 := hid (fun w => ntnew_no 0 w (.inl (by decide)))
  have HS1 := hid (fun W g v (h : MineN w W g 9 v []) => ntsend_ok w.heap.size g 9 v [] ⟨1, 0, []⟩ none 0 0 W h.net (by simp) rfl (by decide) (fun _ => rfl) (Sees.nil _ _ _) (by decide) (by decide))
  have HS2 := hid (fun W g v p (h : MineN w W g 9 v [p]) => ntsend_ok w.heap.size g 9 v [p] ⟨2, 0, []⟩ none 0 0 W h.net (by simp) rfl (by decide) (fun _ => rfl) (Sees.nil _ _ _) (by decide) (by decide))
  have HTw := hid (fun W g v p q (h : MineN w W g 9 v [p, q]) => nttwice_ok w.heap.size g 9 v [p, q] 0 p 0 rfl W h.net (by simp) rfl)
  have HTk := hid (fun W g v p q r (h : MineN w W g 9 v [p, q, r]) => nttake_ok w.heap.size g 9 v [p, q, r] 1 q 1 rfl W h.net rfl)
  have HCo := hid (fun W g v p r (h : MineN w W g 9 v [p, r]) => ntcount_any w.heap.size g 9 v [p, r] W h.net)
  go_enter Try.func5, Try.ntmps5
  go_wp2_with fail
  with_reducible refine (HN.out _).mono ?_
  rintro e w1 ⟨rfl, D, B⟩
  have M1 : Hid (MineN w w1 w.heap.size 9 (.slice none 0 0) []) := hid ⟨D, B⟩
  clear D B
  go_wp2_with fail
  with_reducible refine (HS1.out _ _ _ M1.out).mono ?_
  rintro e w2 ⟨v2, u2, rfl, D, T, _, _⟩
  have M2 : Hid (MineN w w2 w.heap.size 9 v2 [(⟨1, 0, []⟩, u2)]) := hid (M1.out.turned D T)
  clear D T M1
  go_wp2_with fail
  with_reducible refine (HS2.out _ _ _ _ M2.out).mono ?_
  rintro e w3 ⟨v3, u3, rfl, D, T, _, _⟩
  have M3 : Hid (MineN w w3 w.heap.size 9 v3 [(⟨1, 0, []⟩, u2), (⟨2, 0, []⟩, u3)]) := hid (M2.out.turned D T)
  clear D T M2
  go_wp2_with fail
  with_reducible refine (HTw.out _ _ _ _ _ M3.out).mono ?_
  rintro e w4 ⟨v4, u4, rfl, D, T, _, _⟩
  have M4 : Hid (MineN w w4 w.heap.size 9 v4 [(⟨1, 0, []⟩, u2), (⟨2, 0, []⟩, u3), (⟨1, 0, []⟩, u4)]) := hid (M3.out.turned D T)
  clear D T M3
  obtain ⟨A3, c3, e3⟩ := own_shapeN (M4.out.net.dat (⟨2, 0, []⟩, u3) (by simp))
  simp only at e3
  subst e3
  go_wp2_with fail
  with_reducible refine (HTk.out _ _ _ _ _ _ M4.out).mono ?_
  rintro e w5 ⟨v5, rfl, T⟩
  have M5 : Hid (MineN w w5 w.heap.size 9 v5 [(⟨1, 0, []⟩, u2), (⟨1, 0, []⟩, u4)]) := hid (M4.out.turned T.net T.turns)
  clear T M4
  go_upto_region 8 with fail
  obtain ⟨W, hW⟩ : ∃ W, w5.alloc (.cells #[.int .i64 2, .int .i64 0, .slice A3 ([] : List Nat).length c3] 32) = W := ⟨_, rfl⟩
  have hW2 : w5.alloc (.cells #[.int .i64 2, .int .i64 0, .slice A3 0 c3] 32) = W := hW
  rw [hW2]
  obtain ⟨K0, KB⟩ := lone_new hW2
  have M6 := hid (M5.out.on KB.out)
  obtain ⟨k, hk⟩ : ∃ k, w5.heap.size = k := ⟨_, rfl⟩
  rw [hk] at K0 ⊢
  clear hW hW2 KB M5 hk
  obtain ⟨c0, _, _⟩ := lcells3N K0.out
  go_wp2_with (first
    | (go_at_call 6; (with_reducible refine (HN0.out _).mono ?_); rintro e w7 ⟨rfl, rfl⟩)
    | (go_at_call 9; (with_reducible refine (HCo.out _ _ _ _ _ M6.out).mono ?_); rintro e w7 ⟨rfl, rfl⟩))
  go_ret
  exact ⟨rfl, M6.out.below⟩
end Go.Proofs.Ytljnboimadhkoaa
