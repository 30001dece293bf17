/-
  Contracts of attributes (package attr): Covers, Owns, Own, Past, and the laws' anchor.
-/
import Derived.Test.YtapmchkikafpmaaDoorAWithin
import Derived.Test.YtapmchkikafpmaaDoorMWord
namespace Go.Proofs.YtapmchkikafpmaaDoor
open Go.ChangeShapes Go.WideShapes Go.ChangeAt Go.RowKit
set_option linter.unusedVariables false
set_option linter.unusedSimpArgs false

/-- Do attributes cover a name? Are they a name's? -/
def covB (f : Nat → Int) (r s : Int) : Bool := nameB r s && decide (s < f (1 + r.toNat))
def ownB (f : Nat → Int) (r s : Int) : Bool := okB f && nameB r s && decide (f (1 + r.toNat) = s)
/-- A name's own; with a greater number. -/
def ownF (f : Nat → Int) (r s : Int) : Nat → Int := if nameB r s then upd f (1 + r.toNat) s else f
def pastF (f : Nat → Int) (q : Int) : Nat → Int := if 0 ≤ q then upd f 0 (if f 0 < min q 1073741823 + 1 then min q 1073741823 + 1 else f 0) else f

/-- A box of attributes and one of a name. -/
theorem att_name {w W : World} {f : Nat → Int} {r s : Int} (h : (w.alloc (.cells (#[.int .i64 (f 0), .int .i64 (f 1), .int .i64 (f 2), .int .i64 (f 3), .int .i64 (f 4), .int .i64 (f 5), .int .i64 (f 6), .int .i64 (f 7)]) 33)).alloc (.cells #[.int .i64 r, .int .i64 s] 23) = W) :
    Hid (Blk W w.heap.size 33 (rowA f)) ∧ Hid (Blk W (w.heap.size + 1) 23 #[.int .i64 r, .int .i64 s]) ∧ Hid (Below w.heap.size w W) := by
  obtain ⟨h1, h2, h3⟩ := two_new h
  exact ⟨h1, h2, h3⟩

set_option maxRecDepth 100000 in
set_option maxHeartbeats 1000000 in
theorem owns_bad (f : Nat → Int) (r s : Int) (h : okB f = false) (w : World) :
    Calls Tryd.prog 57 #[.agg #[.int .i64 (f 0), .int .i64 (f 1), .int .i64 (f 2), .int .i64 (f 3), .int .i64 (f 4), .int .i64 (f 5), .int .i64 (f 6), .int .i64 (f 7)], nm r s] w fun e w' => e = .returned (.bool false) ∧ Below w.heap.size w w' := by
  have HO := hid h
  clear h
  go_enter Tryd.func57, Tryd.ntmps57
  go_upto_region 1 with fail
  obtain ⟨W, hW⟩ : ∃ W, (w.alloc (.cells #[.int .i64 (f 0), .int .i64 (f 1), .int .i64 (f 2), .int .i64 (f 3), .int .i64 (f 4), .int .i64 (f 5), .int .i64 (f 6), .int .i64 (f 7)] 33)).alloc (.cells #[.int .i64 r, .int .i64 s] 23) = W := ⟨_, rfl⟩
  rw [hW]
  obtain ⟨K0, K1, KB⟩ := att_name hW
  clear hW
  obtain ⟨k, hk⟩ : ∃ k, w.heap.size = k := ⟨_, rfl⟩
  rw [hk] at K0 K1 KB
  rw [hk]
  have HK := hid hk
  clear hk
  refine wp_region_held_drew (S := (fun w' => (w'.cell? ⟨k, 0, none⟩ = some (.int .i64 (f 0)) ∧ w'.cell? ⟨k, 1, none⟩ = some (.int .i64 (f 1)) ∧ w'.cell? ⟨k, 2, none⟩ = some (.int .i64 (f 2)) ∧ w'.cell? ⟨k, 3, none⟩ = some (.int .i64 (f 3)) ∧ w'.cell? ⟨k, 4, none⟩ = some (.int .i64 (f 4)) ∧ w'.cell? ⟨k, 5, none⟩ = some (.int .i64 (f 5)) ∧ w'.cell? ⟨k, 6, none⟩ = some (.int .i64 (f 6)) ∧ w'.cell? ⟨k, 7, none⟩ = some (.int .i64 (f 7))) ∧ w'.cell? ⟨k + 1, 0, none⟩ = some (.int .i64 r) ∧ w'.cell? ⟨k + 1, 1, none⟩ = some (.int .i64 s))) (by kernel_rfl) (by exact ⟨K0.out.drew.eight, (blkn K1.out.drew).1⟩) (fun hHeld => ?_)
  refine wpAnyH_take (i := 0) (oi := _) (v := ?_) rfl (by kernel_rfl) (by kernel_rfl) (by kernel_rfl) (fun _ _ _ h => h) (Or.inl ⟨by kernel_rfl, ?_⟩) hHeld ?_
  rotate_left 1
  focus (intro w' hSw; (try dsimp only at hSw); go_simp; try with_reducible rfl)
  try simp only [Act.put, List.getElem_toArray, List.getElem_cons_zero, List.getElem_cons_succ, List.setIfInBounds_toArray, List.set_cons_zero, List.set_cons_succ]
  refine wpAnyH_ready (rs := [1]) (by kernel_rfl) (by simp) ?_
  refine AllReadyH.cons (o := _) rfl (fun K hK => ?_) AllReadyH.nil
  go_simp
  go_at_call 64
  with_reducible refine (aright8 f _).mono ?_
  rw [HO.out]
  rintro e w1 ⟨rfl, hb1⟩
  have D0 := hid (K0.out.drew.below hb1 K0.out.drew.lt)
  have D1 := hid (K1.out.drew.below hb1 K1.out.drew.lt)
  refine hK.out _ _ (by exact ⟨D0.out.eight, (blkn D1.out).1⟩) (fun hHeld => ?_)
  clear hK K
  try simp only [Act.put, List.getElem_toArray, List.getElem_cons_zero, List.getElem_cons_succ, List.setIfInBounds_toArray, List.set_cons_zero, List.set_cons_succ]
  refine wpAnyH_take (i := 2) (oi := _) (v := ?_) rfl (by kernel_rfl) (by kernel_rfl) (by kernel_rfl) (fun _ _ _ h => h) (Or.inl ⟨by kernel_rfl, ?_⟩) hHeld ?_
  rotate_left 1
  focus (intro w' hSw; (try dsimp only at hSw); go_simp; try with_reducible rfl)
  try simp only [Act.put, List.getElem_toArray, List.getElem_cons_zero, List.getElem_cons_succ, List.setIfInBounds_toArray, List.set_cons_zero, List.set_cons_succ]
  refine wpAnyH_take (i := 3) (oi := _) (v := undef) rfl (by kernel_rfl) (by kernel_rfl) (by kernel_rfl) (fun _ _ _ h => h) (Or.inr ⟨by kernel_rfl, rfl⟩) hHeld ?_
  try simp only [Act.put, List.getElem_toArray, List.getElem_cons_zero, List.getElem_cons_succ, List.setIfInBounds_toArray, List.set_cons_zero, List.set_cons_succ]
  refine wpAnyH_take (i := 4) (oi := _) (v := undef) rfl (by kernel_rfl) (by kernel_rfl) (by kernel_rfl) (fun _ _ _ h => h) (Or.inr ⟨by kernel_rfl, rfl⟩) hHeld ?_
  try simp only [Act.put, List.getElem_toArray, List.getElem_cons_zero, List.getElem_cons_succ, List.setIfInBounds_toArray, List.set_cons_zero, List.set_cons_succ]
  refine wpAnyH_take (i := 5) (oi := _) (v := ?_) rfl (by kernel_rfl) (by kernel_rfl) (by kernel_rfl) (fun _ _ _ h => h) (Or.inl ⟨by kernel_rfl, ?_⟩) hHeld ?_
  rotate_left 1
  focus (intro w' hSw; (try dsimp only at hSw); go_simp; try with_reducible rfl)
  try simp only [Act.put, List.getElem_toArray, List.getElem_cons_zero, List.getElem_cons_succ, List.setIfInBounds_toArray, List.set_cons_zero, List.set_cons_succ]
  refine wpAnyH_take (i := 6) (oi := _) (v := ?_) rfl (by kernel_rfl) (by kernel_rfl) (by kernel_rfl) (fun _ _ _ h => h) (Or.inl ⟨by kernel_rfl, ?_⟩) hHeld ?_
  rotate_left 1
  focus (intro w' hSw; (try dsimp only at hSw); go_simp; try with_reducible rfl)
  try simp only [Act.put, List.getElem_toArray, List.getElem_cons_zero, List.getElem_cons_succ, List.setIfInBounds_toArray, List.set_cons_zero, List.set_cons_succ]
  refine wpAnyH_take (i := 7) (oi := _) (v := undef) rfl (by kernel_rfl) (by kernel_rfl) (by kernel_rfl) (fun _ _ _ h => h) (Or.inr ⟨by kernel_rfl, rfl⟩) hHeld ?_
  try simp only [Act.put, List.getElem_toArray, List.getElem_cons_zero, List.getElem_cons_succ, List.setIfInBounds_toArray, List.set_cons_zero, List.set_cons_succ]
  refine wpAnyH_take (i := 8) (oi := _) (v := undef) rfl (by kernel_rfl) (by kernel_rfl) (by kernel_rfl) (fun _ _ _ h => h) (Or.inr ⟨by kernel_rfl, rfl⟩) hHeld ?_
  try simp only [Act.put, List.getElem_toArray, List.getElem_cons_zero, List.getElem_cons_succ, List.setIfInBounds_toArray, List.set_cons_zero, List.set_cons_succ]
  refine wpAnyH_take (i := 9) (oi := _) (v := undef) rfl (by kernel_rfl) (by kernel_rfl) (by kernel_rfl) (fun _ _ _ h => h) (Or.inr ⟨by kernel_rfl, rfl⟩) hHeld ?_
  try simp only [Act.put, List.getElem_toArray, List.getElem_cons_zero, List.getElem_cons_succ, List.setIfInBounds_toArray, List.set_cons_zero, List.set_cons_succ]
  refine wpAnyH_take (i := 10) (oi := _) (v := undef) rfl (by kernel_rfl) (by kernel_rfl) (by kernel_rfl) (fun _ _ _ h => h) (Or.inr ⟨by kernel_rfl, rfl⟩) hHeld ?_
  try simp only [Act.put, List.getElem_toArray, List.getElem_cons_zero, List.getElem_cons_succ, List.setIfInBounds_toArray, List.set_cons_zero, List.set_cons_succ]
  refine wpAnyH_take (i := 11) (oi := _) (v := undef) rfl (by kernel_rfl) (by kernel_rfl) (by kernel_rfl) (fun _ _ _ h => h) (Or.inr ⟨by kernel_rfl, rfl⟩) hHeld ?_
  try simp only [Act.put, List.getElem_toArray, List.getElem_cons_zero, List.getElem_cons_succ, List.setIfInBounds_toArray, List.set_cons_zero, List.set_cons_succ]
  refine wpAnyH_take (i := 12) (oi := _) (v := undef) rfl (by kernel_rfl) (by kernel_rfl) (by kernel_rfl) (fun _ _ _ h => h) (Or.inr ⟨by kernel_rfl, rfl⟩) hHeld ?_
  try simp only [Act.put, List.getElem_toArray, List.getElem_cons_zero, List.getElem_cons_succ, List.setIfInBounds_toArray, List.set_cons_zero, List.set_cons_succ]
  refine wpAnyH_take (i := 13) (oi := _) (v := undef) rfl (by kernel_rfl) (by kernel_rfl) (by kernel_rfl) (fun _ _ _ h => h) (Or.inr ⟨by kernel_rfl, rfl⟩) hHeld ?_
  try simp only [Act.put, List.getElem_toArray, List.getElem_cons_zero, List.getElem_cons_succ, List.setIfInBounds_toArray, List.set_cons_zero, List.set_cons_succ]
  refine wpAnyH_take (i := 14) (oi := _) (v := undef) rfl (by kernel_rfl) (by kernel_rfl) (by kernel_rfl) (fun _ _ _ h => h) (Or.inr ⟨by kernel_rfl, rfl⟩) hHeld ?_
  try simp only [Act.put, List.getElem_toArray, List.getElem_cons_zero, List.getElem_cons_succ, List.setIfInBounds_toArray, List.set_cons_zero, List.set_cons_succ]
  refine wpAnyH_take (i := 15) (oi := _) (v := ?_) rfl (by kernel_rfl) (by kernel_rfl) (by kernel_rfl) (fun _ _ _ h => h) (Or.inl ⟨by kernel_rfl, ?_⟩) hHeld ?_
  rotate_left 1
  focus (intro w' hSw; (try dsimp only at hSw); go_simp; try with_reducible rfl)
  try simp only [Act.put, List.getElem_toArray, List.getElem_cons_zero, List.getElem_cons_succ, List.setIfInBounds_toArray, List.set_cons_zero, List.set_cons_succ]
  refine wpAnyH_take (i := 16) (oi := _) (v := ?_) rfl (by kernel_rfl) (by kernel_rfl) (by kernel_rfl) (fun _ _ _ h => h) (Or.inl ⟨by kernel_rfl, ?_⟩) hHeld ?_
  rotate_left 1
  focus (intro w' hSw; (try dsimp only at hSw); go_simp; try with_reducible rfl)
  try simp only [Act.put, List.getElem_toArray, List.getElem_cons_zero, List.getElem_cons_succ, List.setIfInBounds_toArray, List.set_cons_zero, List.set_cons_succ]
  refine wpAnyH_done (by kernel_rfl) ?_ _
  go_wp2
  go_ret
  exact ⟨rfl, by rw [HK.out]; exact (below_drew KB.out).trans (hb1.mono (show k ≤ W.heap.size by have := K0.out.lt; omega))⟩

set_option maxRecDepth 100000 in
set_option maxHeartbeats 1000000 in
theorem owns_no (f : Nat → Int) (r s : Int) (h : okB f = true) (h2 : nameB r s = false) (w : World) :
    Calls Tryd.prog 57 #[.agg #[.int .i64 (f 0), .int .i64 (f 1), .int .i64 (f 2), .int .i64 (f 3), .int .i64 (f 4), .int .i64 (f 5), .int .i64 (f 6), .int .i64 (f 7)], nm r s] w fun e w' => e = .returned (.bool false) ∧ Below w.heap.size w w' := by
  have HO := hid h
  have HX := hid h2
  clear h h2
  go_enter Tryd.func57, Tryd.ntmps57
  go_upto_region 1 with fail
  obtain ⟨W, hW⟩ : ∃ W, (w.alloc (.cells #[.int .i64 (f 0), .int .i64 (f 1), .int .i64 (f 2), .int .i64 (f 3), .int .i64 (f 4), .int .i64 (f 5), .int .i64 (f 6), .int .i64 (f 7)] 33)).alloc (.cells #[.int .i64 r, .int .i64 s] 23) = W := ⟨_, rfl⟩
  rw [hW]
  obtain ⟨K0, K1, KB⟩ := att_name hW
  clear hW
  obtain ⟨k, hk⟩ : ∃ k, w.heap.size = k := ⟨_, rfl⟩
  rw [hk] at K0 K1 KB
  rw [hk]
  have HK := hid hk
  clear hk
  refine wp_region_held_drew (S := (fun w' => (w'.cell? ⟨k, 0, none⟩ = some (.int .i64 (f 0)) ∧ w'.cell? ⟨k, 1, none⟩ = some (.int .i64 (f 1)) ∧ w'.cell? ⟨k, 2, none⟩ = some (.int .i64 (f 2)) ∧ w'.cell? ⟨k, 3, none⟩ = some (.int .i64 (f 3)) ∧ w'.cell? ⟨k, 4, none⟩ = some (.int .i64 (f 4)) ∧ w'.cell? ⟨k, 5, none⟩ = some (.int .i64 (f 5)) ∧ w'.cell? ⟨k, 6, none⟩ = some (.int .i64 (f 6)) ∧ w'.cell? ⟨k, 7, none⟩ = some (.int .i64 (f 7))) ∧ w'.cell? ⟨k + 1, 0, none⟩ = some (.int .i64 r) ∧ w'.cell? ⟨k + 1, 1, none⟩ = some (.int .i64 s))) (by kernel_rfl) (by exact ⟨K0.out.drew.eight, (blkn K1.out.drew).1⟩) (fun hHeld => ?_)
  refine wpAnyH_take (i := 0) (oi := _) (v := ?_) rfl (by kernel_rfl) (by kernel_rfl) (by kernel_rfl) (fun _ _ _ h => h) (Or.inl ⟨by kernel_rfl, ?_⟩) hHeld ?_
  rotate_left 1
  focus (intro w' hSw; (try dsimp only at hSw); go_simp; try with_reducible rfl)
  try simp only [Act.put, List.getElem_toArray, List.getElem_cons_zero, List.getElem_cons_succ, List.setIfInBounds_toArray, List.set_cons_zero, List.set_cons_succ]
  refine wpAnyH_ready (rs := [1]) (by kernel_rfl) (by simp) ?_
  refine AllReadyH.cons (o := _) rfl (fun K hK => ?_) AllReadyH.nil
  go_simp
  go_at_call 64
  with_reducible refine (aright8 f _).mono ?_
  rw [HO.out]
  rintro e w1 ⟨rfl, hb1⟩
  have D0 := hid (K0.out.drew.below hb1 K0.out.drew.lt)
  have D1 := hid (K1.out.drew.below hb1 K1.out.drew.lt)
  refine hK.out _ _ (by exact ⟨D0.out.eight, (blkn D1.out).1⟩) (fun hHeld => ?_)
  clear hK K
  try simp only [Act.put, List.getElem_toArray, List.getElem_cons_zero, List.getElem_cons_succ, List.setIfInBounds_toArray, List.set_cons_zero, List.set_cons_succ]
  refine wpAnyH_take (i := 2) (oi := _) (v := ?_) rfl (by kernel_rfl) (by kernel_rfl) (by kernel_rfl) (fun _ _ _ h => h) (Or.inl ⟨by kernel_rfl, ?_⟩) hHeld ?_
  rotate_left 1
  focus (intro w' hSw; (try dsimp only at hSw); go_simp; try with_reducible rfl)
  try simp only [Act.put, List.getElem_toArray, List.getElem_cons_zero, List.getElem_cons_succ, List.setIfInBounds_toArray, List.set_cons_zero, List.set_cons_succ]
  refine wpAnyH_take (i := 3) (oi := _) (v := ?_) rfl (by kernel_rfl) (by kernel_rfl) (by kernel_rfl) (fun _ _ _ h => h) (Or.inl ⟨by kernel_rfl, ?_⟩) hHeld ?_
  rotate_left 1
  focus (intro w' hSw; (try dsimp only at hSw); go_simp; try with_reducible rfl)
  try simp only [Act.put, List.getElem_toArray, List.getElem_cons_zero, List.getElem_cons_succ, List.setIfInBounds_toArray, List.set_cons_zero, List.set_cons_succ]
  refine wpAnyH_ready (rs := [4]) (by kernel_rfl) (by simp) ?_
  refine AllReadyH.cons (o := _) rfl (fun K hK => ?_) AllReadyH.nil
  go_simp
  go_at_call 35
  with_reducible refine (nright_any r s _).mono ?_
  rw [HX.out]
  rintro e w2 ⟨rfl, hb2⟩
  have E0 := hid (D0.out.below hb2 D0.out.lt)
  have E1 := hid (D1.out.below hb2 D1.out.lt)
  refine hK.out _ _ (by exact ⟨E0.out.eight, (blkn E1.out).1⟩) (fun hHeld => ?_)
  clear hK K
  try simp only [Act.put, List.getElem_toArray, List.getElem_cons_zero, List.getElem_cons_succ, List.setIfInBounds_toArray, List.set_cons_zero, List.set_cons_succ]
  refine wpAnyH_take (i := 5) (oi := _) (v := ?_) rfl (by kernel_rfl) (by kernel_rfl) (by kernel_rfl) (fun _ _ _ h => h) (Or.inl ⟨by kernel_rfl, ?_⟩) hHeld ?_
  rotate_left 1
  focus (intro w' hSw; (try dsimp only at hSw); go_simp; try with_reducible rfl)
  try simp only [Act.put, List.getElem_toArray, List.getElem_cons_zero, List.getElem_cons_succ, List.setIfInBounds_toArray, List.set_cons_zero, List.set_cons_succ]
  refine wpAnyH_take (i := 6) (oi := _) (v := ?_) rfl (by kernel_rfl) (by kernel_rfl) (by kernel_rfl) (fun _ _ _ h => h) (Or.inl ⟨by kernel_rfl, ?_⟩) hHeld ?_
  rotate_left 1
  focus (intro w' hSw; (try dsimp only at hSw); go_simp; try with_reducible rfl)
  try simp only [Act.put, List.getElem_toArray, List.getElem_cons_zero, List.getElem_cons_succ, List.setIfInBounds_toArray, List.set_cons_zero, List.set_cons_succ]
  refine wpAnyH_take (i := 7) (oi := _) (v := undef) rfl (by kernel_rfl) (by kernel_rfl) (by kernel_rfl) (fun _ _ _ h => h) (Or.inr ⟨by kernel_rfl, rfl⟩) hHeld ?_
  try simp only [Act.put, List.getElem_toArray, List.getElem_cons_zero, List.getElem_cons_succ, List.setIfInBounds_toArray, List.set_cons_zero, List.set_cons_succ]
  refine wpAnyH_take (i := 8) (oi := _) (v := undef) rfl (by kernel_rfl) (by kernel_rfl) (by kernel_rfl) (fun _ _ _ h => h) (Or.inr ⟨by kernel_rfl, rfl⟩) hHeld ?_
  try simp only [Act.put, List.getElem_toArray, List.getElem_cons_zero, List.getElem_cons_succ, List.setIfInBounds_toArray, List.set_cons_zero, List.set_cons_succ]
  refine wpAnyH_take (i := 9) (oi := _) (v := undef) rfl (by kernel_rfl) (by kernel_rfl) (by kernel_rfl) (fun _ _ _ h => h) (Or.inr ⟨by kernel_rfl, rfl⟩) hHeld ?_
  try simp only [Act.put, List.getElem_toArray, List.getElem_cons_zero, List.getElem_cons_succ, List.setIfInBounds_toArray, List.set_cons_zero, List.set_cons_succ]
  refine wpAnyH_take (i := 10) (oi := _) (v := undef) rfl (by kernel_rfl) (by kernel_rfl) (by kernel_rfl) (fun _ _ _ h => h) (Or.inr ⟨by kernel_rfl, rfl⟩) hHeld ?_
  try simp only [Act.put, List.getElem_toArray, List.getElem_cons_zero, List.getElem_cons_succ, List.setIfInBounds_toArray, List.set_cons_zero, List.set_cons_succ]
  refine wpAnyH_take (i := 11) (oi := _) (v := undef) rfl (by kernel_rfl) (by kernel_rfl) (by kernel_rfl) (fun _ _ _ h => h) (Or.inr ⟨by kernel_rfl, rfl⟩) hHeld ?_
  try simp only [Act.put, List.getElem_toArray, List.getElem_cons_zero, List.getElem_cons_succ, List.setIfInBounds_toArray, List.set_cons_zero, List.set_cons_succ]
  refine wpAnyH_take (i := 12) (oi := _) (v := undef) rfl (by kernel_rfl) (by kernel_rfl) (by kernel_rfl) (fun _ _ _ h => h) (Or.inr ⟨by kernel_rfl, rfl⟩) hHeld ?_
  try simp only [Act.put, List.getElem_toArray, List.getElem_cons_zero, List.getElem_cons_succ, List.setIfInBounds_toArray, List.set_cons_zero, List.set_cons_succ]
  refine wpAnyH_take (i := 13) (oi := _) (v := undef) rfl (by kernel_rfl) (by kernel_rfl) (by kernel_rfl) (fun _ _ _ h => h) (Or.inr ⟨by kernel_rfl, rfl⟩) hHeld ?_
  try simp only [Act.put, List.getElem_toArray, List.getElem_cons_zero, List.getElem_cons_succ, List.setIfInBounds_toArray, List.set_cons_zero, List.set_cons_succ]
  refine wpAnyH_take (i := 14) (oi := _) (v := undef) rfl (by kernel_rfl) (by kernel_rfl) (by kernel_rfl) (fun _ _ _ h => h) (Or.inr ⟨by kernel_rfl, rfl⟩) hHeld ?_
  try simp only [Act.put, List.getElem_toArray, List.getElem_cons_zero, List.getElem_cons_succ, List.setIfInBounds_toArray, List.set_cons_zero, List.set_cons_succ]
  refine wpAnyH_take (i := 15) (oi := _) (v := ?_) rfl (by kernel_rfl) (by kernel_rfl) (by kernel_rfl) (fun _ _ _ h => h) (Or.inl ⟨by kernel_rfl, ?_⟩) hHeld ?_
  rotate_left 1
  focus (intro w' hSw; (try dsimp only at hSw); go_simp; try with_reducible rfl)
  try simp only [Act.put, List.getElem_toArray, List.getElem_cons_zero, List.getElem_cons_succ, List.setIfInBounds_toArray, List.set_cons_zero, List.set_cons_succ]
  refine wpAnyH_take (i := 16) (oi := _) (v := ?_) rfl (by kernel_rfl) (by kernel_rfl) (by kernel_rfl) (fun _ _ _ h => h) (Or.inl ⟨by kernel_rfl, ?_⟩) hHeld ?_
  rotate_left 1
  focus (intro w' hSw; (try dsimp only at hSw); go_simp; try with_reducible rfl)
  try simp only [Act.put, List.getElem_toArray, List.getElem_cons_zero, List.getElem_cons_succ, List.setIfInBounds_toArray, List.set_cons_zero, List.set_cons_succ]
  refine wpAnyH_done (by kernel_rfl) ?_ _
  go_wp2
  go_ret
  exact ⟨rfl, by rw [HK.out]; exact ((below_drew KB.out).trans (hb1.mono (show k ≤ W.heap.size by have := K0.out.lt; omega))).trans (hb2.mono (by have := D0.out.lt; omega))⟩

set_option maxRecDepth 100000 in
set_option maxHeartbeats 1000000 in
theorem owns_yes (f : Nat → Int) (a b : Nat) (ha : a < 7) (hb : b < 1024) (h : okB f = true) (h2 : nameB a b = true) (w : World) :
    Calls Tryd.prog 57 #[.agg #[.int .i64 (f 0), .int .i64 (f 1), .int .i64 (f 2), .int .i64 (f 3), .int .i64 (f 4), .int .i64 (f 5), .int .i64 (f 6), .int .i64 (f 7)], nm a b] w fun e w' => e = .returned (.bool (decide (f (1 + a) = (b : Int)))) ∧ Below w.heap.size w w' := by
  have HO := hid h
  have HX := hid h2
  clear h h2
  go_enter Tryd.func57, Tryd.ntmps57
  go_upto_region 1 with fail
  obtain ⟨W, hW⟩ : ∃ W, (w.alloc (.cells #[.int .i64 (f 0), .int .i64 (f 1), .int .i64 (f 2), .int .i64 (f 3), .int .i64 (f 4), .int .i64 (f 5), .int .i64 (f 6), .int .i64 (f 7)] 33)).alloc (.cells #[.int .i64 (a : Int), .int .i64 (b : Int)] 23) = W := ⟨_, rfl⟩
  rw [hW]
  obtain ⟨K0, K1, KB⟩ := att_name hW
  clear hW
  obtain ⟨k, hk⟩ : ∃ k, w.heap.size = k := ⟨_, rfl⟩
  rw [hk] at K0 K1 KB
  rw [hk]
  have HK := hid hk
  clear hk
  have HI : Hid (∀ w' : World, Blk w' k 33 (rowA f) → w'.cell? ⟨k, 1 + a, none⟩ = some (.int .i64 (f (1 + a)))) := hid (fun w' h => h.att (by omega))
  obtain ⟨x, hx⟩ : ∃ x, f (1 + a) = x := ⟨_, rfl⟩
  rw [hx] at HI
  have HQ := hid hx
  clear hx
  have ha' : (a : Int) < 7 := by omega
  go_region_held3 (fun w' => (w'.cell? ⟨k, 0, none⟩ = some (.int .i64 (f 0)) ∧ w'.cell? ⟨k, 1, none⟩ = some (.int .i64 (f 1)) ∧ w'.cell? ⟨k, 2, none⟩ = some (.int .i64 (f 2)) ∧ w'.cell? ⟨k, 3, none⟩ = some (.int .i64 (f 3)) ∧ w'.cell? ⟨k, 4, none⟩ = some (.int .i64 (f 4)) ∧ w'.cell? ⟨k, 5, none⟩ = some (.int .i64 (f 5)) ∧ w'.cell? ⟨k, 6, none⟩ = some (.int .i64 (f 6)) ∧ w'.cell? ⟨k, 7, none⟩ = some (.int .i64 (f 7))) ∧ w'.cell? ⟨k + 1, 0, none⟩ = some (.int .i64 (a : Int)) ∧ w'.cell? ⟨k + 1, 1, none⟩ = some (.int .i64 (b : Int)) ∧ w'.cell? ⟨k, 1 + a, none⟩ = some (.int .i64 x))
    (first | exact ⟨K0.out.eight, (blkn K1.out).1.1, (blkn K1.out).1.2, HI.out _ K0.out⟩ | exact ⟨K0.out.drew.eight, (blkn K1.out.drew).1.1, (blkn K1.out.drew).1.2, HI.out _ K0.out.drew⟩ | exact ⟨D0.out.eight, (blkn D1.out).1.1, (blkn D1.out).1.2, HI.out _ D0.out⟩ | exact ⟨E0.out.eight, (blkn E1.out).1.1, (blkn E1.out).1.2, HI.out _ E0.out⟩)
    (first
      | (go_at_call 64; (with_reducible refine (aright8 f _).mono ?_); rw [HO.out]; rintro e w1 ⟨rfl, hb1⟩; have D0 := hid (K0.out.drew.below hb1 K0.out.drew.lt); have D1 := hid (K1.out.drew.below hb1 K1.out.drew.lt))
      | (go_at_call 35; (with_reducible refine (nright_any a b _).mono ?_); rw [HX.out]; rintro e w2 ⟨rfl, hb2⟩; have E0 := hid (D0.out.below hb2 D0.out.lt); have E1 := hid (D1.out.below hb2 D1.out.lt)))
  rename_i hHeld
  clear hHeld
  have HE := hid (((below_drew KB.out).trans (hb1.mono (show k ≤ W.heap.size by have := K0.out.lt; omega))).trans (hb2.mono (by have := D0.out.lt; omega)))
  clear hb1 hb2 HI
  go_wp2
  go_ret
  exact ⟨ret_bool (by rw [HQ.out, Bool.eq_iff_iff]; simp), by rw [HK.out]; exact HE.out⟩

theorem owns8 (f : Nat → Int) (r s : Int) (w : World) :
    Calls Tryd.prog 57 #[.agg #[.int .i64 (f 0), .int .i64 (f 1), .int .i64 (f 2), .int .i64 (f 3), .int .i64 (f 4), .int .i64 (f 5), .int .i64 (f 6), .int .i64 (f 7)], nm r s] w fun e w' => e = .returned (.bool (ownB f r s)) ∧ Below w.heap.size w w' := by
  cases h0 : okB f
  · have e : ownB f r s = false := by unfold ownB; rw [h0]; rfl
    rw [e]; exact owns_bad f r s h0 w
  · cases h : nameB r s
    · have e : ownB f r s = false := by unfold ownB; rw [h, h0]; rfl
      rw [e]; exact owns_no f r s h0 h w
    · obtain ⟨a, b, rfl, rfl, ha, hb, _⟩ := name_in h
      have e : ownB f a b = decide (f (1 + a) = (b : Int)) := by unfold ownB; rw [h, h0]; simp
      rw [e]; exact owns_yes f a b ha hb h0 h w

end Go.Proofs.YtapmchkikafpmaaDoor
