/-
  AttrCovers: for any attributes and any name the law's call returns true: attributes cover just the slots that they say, and are an instance's just if of its replica they cover those ahead of it. No condition.
-/
import Derived.Test.YtfpmmajgnijboaaAKit
namespace Go.Proofs.Ytfpmmajgnijboaa.attrCovers
open Go.ChangeShapes Go.WideShapes Go.ChangeAt Go.RowKit
set_option linter.unusedVariables false
set_option linter.unusedSimpArgs false

theorem own8' (f : Nat → Int) (r s : Int) (U : Nat → Int) (hU : ownF f r s = U) (w : World) :
    Calls Try.prog 18 #[.agg #[.int .i64 (f 0), .int .i64 (f 1), .int .i64 (f 2), .int .i64 (f 3), .int .i64 (f 4), .int .i64 (f 5), .int .i64 (f 6), .int .i64 (f 7)], nm r s] w fun e w' => e = .returned (.agg #[.int .i64 (U 0), .int .i64 (U 1), .int .i64 (U 2), .int .i64 (U 3), .int .i64 (U 4), .int .i64 (U 5), .int .i64 (U 6), .int .i64 (U 7)]) ∧ Below w.heap.size w w' := by
  subst hU; exact own8 f r s w
theorem own_none {f : Nat → Int} {r s : Int} (h : nameB r s = false) : ownF f r s = f := by unfold ownF; rw [h]; rfl
theorem cov_none {f : Nat → Int} {r s : Int} (h : nameB r s = false) : covB f r s = false := by unfold covB; rw [h]; rfl
theorem owns_none {f : Nat → Int} {r s : Int} (h : nameB r s = false) : ownB f r s = false := by unfold ownB; rw [h]; simp
theorem own_back (f : Nat → Int) (a : Nat) (s : Int) : eqA (upd (upd f (1 + a) s) (1 + a) (f (1 + a))) f = true := eqA_iff.2 fun i _ => by
  unfold upd; split
  · next h => rw [h]
  · rfl
theorem upd_at (f : Nat → Int) (a : Nat) (s : Int) : upd f (1 + a) s (1 + a) = s := by simp [upd]

/-- The box of attributes and the name's. -/
def Pair (W : World) (k : Nat) (f : Nat → Int) (r s : Int) : Prop := Blk W k 24 (rowA f) ∧ Blk W (k + 1) 33 #[.int .i64 r, .int .i64 s]
theorem Pair.on {W W' : World} {k : Nat} {f : Nat → Int} {r s : Int} (H : Pair W k f r s) (hb : Below W.heap.size W W') : Pair W' k f r s := ⟨H.1.below hb H.1.lt, H.2.below hb H.2.lt⟩
theorem Pair.drew {W : World} {k : Nat} {f : Nat → Int} {r s : Int} (H : Pair W k f r s) : Pair W.drew k f r s := H
theorem Pair.open {W : World} {k : Nat} {f : Nat → Int} {r s : Int} (H : Pair W k f r s) : Eight W k f ∧ W.cell? ⟨k + 1, 0, none⟩ = some (.int .i64 r) ∧ W.cell? ⟨k + 1, 1, none⟩ = some (.int .i64 s) := ⟨H.1.eight, (blkn H.2).1⟩

set_option maxRecDepth 100000 in
set_option maxHeartbeats 4000000 in
theorem walk_no (f : Nat → Int) (r s : Int) (hx : nameB r s = false) (w : World) :
    Calls Try.prog 4 #[.agg #[.int .i64 (f 0), .int .i64 (f 1), .int .i64 (f 2), .int .i64 (f 3), .int .i64 (f 4), .int .i64 (f 5), .int .i64 (f 6), .int .i64 (f 7)], nm r s] w fun e w' => e = .returned (.bool true) ∧ Below w.heap.size w w' := by
  have HX := hid hx
  have HU := hid (own_none (f := f) hx)
  have HC := hid (cov_none (f := f) hx)
  have HO := hid (owns_none (f := f) hx)
  have EQ := eq_attr f f true (eqA_self f)
  have EG := attr_guard
  clear hx
  go_enter Try.func4, Try.ntmps4
  go_upto_region 1 with fail
  obtain ⟨W, hW⟩ : ∃ W, (w.alloc (.cells #[.int .i64 (f 0), .int .i64 (f 1), .int .i64 (f 2), .int .i64 (f 3), .int .i64 (f 4), .int .i64 (f 5), .int .i64 (f 6), .int .i64 (f 7)] 24)).alloc (.cells #[.int .i64 r, .int .i64 s] 33) = W := ⟨_, rfl⟩
  rw [hW]
  obtain ⟨K0, K1, B0⟩ := att_name hW
  have D0 := hid (show Pair W w.heap.size f r s from ⟨K0.out, K1.out⟩)
  clear hW K0 K1
  obtain ⟨k, hk⟩ : ∃ k, w.heap.size = k := ⟨_, rfl⟩
  rw [hk] at D0 B0
  rw [hk]
  have HK := hid hk
  clear hk
  go_wp2_with fail
  with_reducible refine (anchor9 _).mono ?_
  rintro e w1 ⟨rfl, hb⟩
  have D1 := hid (D0.out.on hb)
  have B1 := hid (B0.out.trans (hb.mono (by have := D0.out.1.lt; omega)))
  clear hb D0 B0
  obtain ⟨_, i0, i1⟩ := D1.out.open
  go_wp2_with fail
  with_reducible refine (right_any r s _).mono ?_
  rw [HX.out]
  rintro e w2 ⟨rfl, hb⟩
  clear i0 i1
  have D2 := hid (D1.out.on hb)
  have B2 := hid (B1.out.trans (hb.mono (by have := D1.out.1.lt; omega)))
  clear hb D1 B1
  go_wp2_with fail
  go_region_held3 (fun w' => (w'.cell? ⟨k, 0, none⟩ = some (.int .i64 (f 0)) ∧ w'.cell? ⟨k, 1, none⟩ = some (.int .i64 (f 1)) ∧ w'.cell? ⟨k, 2, none⟩ = some (.int .i64 (f 2)) ∧ w'.cell? ⟨k, 3, none⟩ = some (.int .i64 (f 3)) ∧ w'.cell? ⟨k, 4, none⟩ = some (.int .i64 (f 4)) ∧ w'.cell? ⟨k, 5, none⟩ = some (.int .i64 (f 5)) ∧ w'.cell? ⟨k, 6, none⟩ = some (.int .i64 (f 6)) ∧ w'.cell? ⟨k, 7, none⟩ = some (.int .i64 (f 7))) ∧ w'.cell? ⟨k + 1, 0, none⟩ = some (.int .i64 r) ∧ w'.cell? ⟨k + 1, 1, none⟩ = some (.int .i64 s))
    (first | exact D2.out.open | exact D2.out.drew.open | exact D3.out.open | exact D4.out.open | exact D5.out.open)
    (first
      | (go_at_call 16; (with_reducible refine (covers8 f r s _).mono ?_); rw [HC.out]; rintro e w3 ⟨rfl, g3⟩; have D3 := hid (D2.out.drew.on g3))
      | (go_at_call 17; (with_reducible refine (owns8 f r s _).mono ?_); rw [HO.out]; rintro e w4 ⟨rfl, g4⟩; have D4 := hid (D3.out.on g4))
      | (go_at_call 18; (with_reducible refine (own8' f r s f HU.out _).mono ?_); rintro e w5 ⟨rfl, g5⟩; have D5 := hid (D4.out.on g5)))
  have B5 := hid ((((below_drew B2.out).trans (g3.mono (show k ≤ w2.heap.size by have := D2.out.1.lt; omega))).trans (g4.mono (by have := D3.out.1.lt; omega))).trans (g5.mono (by have := D4.out.1.lt; omega)))
  rename_i hHeld
  clear hHeld g3 g4 g5
  go_wp2
  go_ret
  exact ⟨rfl, by rw [HK.out]; exact B5.out⟩

/-- The two boxes, and the one with the name's own. -/
def Trio (W : World) (k m : Nat) (f g : Nat → Int) (r s : Int) : Prop := Pair W k f r s ∧ Blk W m 24 (rowA g)
theorem Trio.on {W W' : World} {k m : Nat} {f g : Nat → Int} {r s : Int} (H : Trio W k m f g r s) (hb : Below W.heap.size W W') : Trio W' k m f g r s := ⟨H.1.on hb, H.2.below hb H.2.lt⟩
theorem Trio.drew {W : World} {k m : Nat} {f g : Nat → Int} {r s : Int} (H : Trio W k m f g r s) : Trio W.drew k m f g r s := H
theorem Trio.open {W : World} {k m a : Nat} {f g : Nat → Int} {r s : Int} (ha : a < 7) (H : Trio W k m f g r s) : Eight W k f ∧ (W.cell? ⟨k + 1, 0, none⟩ = some (.int .i64 r) ∧ W.cell? ⟨k + 1, 1, none⟩ = some (.int .i64 s)) ∧ Eight W m g ∧ W.cell? ⟨m, 1 + a, none⟩ = some (.int .i64 (g (1 + a))) := ⟨H.1.1.eight, (blkn H.1.2).1, H.2.eight, H.2.att (by omega)⟩

set_option maxRecDepth 100000 in
set_option maxHeartbeats 4000000 in
theorem walk_yes (f : Nat → Int) (a b : Nat) (hx : nameB a b = true) (ha : a < 7) (hb0 : b < 1024) (w : World) :
    Calls Try.prog 4 #[.agg #[.int .i64 (f 0), .int .i64 (f 1), .int .i64 (f 2), .int .i64 (f 3), .int .i64 (f 4), .int .i64 (f 5), .int .i64 (f 6), .int .i64 (f 7)], nm a b] w fun e w' => e = .returned (.bool true) ∧ Below w.heap.size w w' := by
  have HX := hid hx
  obtain ⟨U, hU⟩ : ∃ U, ownF f a b = U := ⟨_, rfl⟩
  have hU2 : upd f (1 + a) b = U := by rw [← hU]; unfold ownF; rw [hx]; simp
  obtain ⟨x, hq⟩ : ∃ x, f (1 + a) = x := ⟨_, rfl⟩
  have HU := hid hU
  have HUB : Hid (U (1 + a) = (b : Int)) := hid (by rw [← hU2]; exact upd_at f a b)
  have HUE : Hid (eqA (upd U (1 + a) x) f = true) := hid (by rw [← hU2, ← hq]; exact own_back f a b)
  have HQ := hid hq
  obtain ⟨o, ho⟩ : ∃ o, okB f = o := ⟨_, rfl⟩
  have HO := hid ho
  have HC : Hid (covB f a b = decide ((b : Int) < x)) := hid (by unfold covB; rw [hx]; simp [hq])
  have HC2 : Hid (covB U a b = false) := hid (by unfold covB; rw [hx]; simp [HUB.out])
  have HW : Hid (ownB f a b = (o && (x == (b : Int)))) := hid (by unfold ownB; rw [hx, ho]; simp [hq]; cases o <;> simp; rw [Bool.eq_iff_iff]; simp)
  have ha' : (a : Int) < 7 := by omega
  clear hx hU hU2 hq ho
  go_enter Try.func4, Try.ntmps4
  go_upto_region 1 with fail
  obtain ⟨W, hW⟩ : ∃ W, (w.alloc (.cells #[.int .i64 (f 0), .int .i64 (f 1), .int .i64 (f 2), .int .i64 (f 3), .int .i64 (f 4), .int .i64 (f 5), .int .i64 (f 6), .int .i64 (f 7)] 24)).alloc (.cells #[.int .i64 (a : Int), .int .i64 (b : Int)] 33) = W := ⟨_, rfl⟩
  rw [hW]
  obtain ⟨K0, K1, B0⟩ := att_name hW
  have D0 := hid (show Pair W w.heap.size f (a : Int) (b : Int) from ⟨K0.out, K1.out⟩)
  clear hW K0 K1
  obtain ⟨k, hk⟩ : ∃ k, w.heap.size = k := ⟨_, rfl⟩
  rw [hk] at D0 B0
  rw [hk]
  have HK := hid hk
  clear hk
  go_wp2_with fail
  with_reducible refine (anchor9 _).mono ?_
  rintro e w1 ⟨rfl, hb⟩
  have D1 := hid (D0.out.on hb)
  have B1 := hid (B0.out.trans (hb.mono (by have := D0.out.1.lt; omega)))
  clear hb D0 B0
  obtain ⟨_, i0, i1⟩ := D1.out.open
  go_wp2_with fail
  with_reducible refine (right_any a b _).mono ?_
  rw [HX.out]
  rintro e w2 ⟨rfl, hb⟩
  clear i0 i1
  have D2 := hid (D1.out.on hb)
  have B2 := hid (B1.out.trans (hb.mono (by have := D1.out.1.lt; omega)))
  clear hb D1 B1
  obtain ⟨⟨c0, c1, c2, c3, c4, c5, c6, c7⟩, i0, i1⟩ := D2.out.open
  have q0 := D2.out.1.att (i := 1 + a) (by omega)
  rw [HQ.out] at q0
  go_wp2_with fail
  with_reducible refine (own8' f a b U HU.out _).mono ?_
  rintro e w3 ⟨rfl, hb⟩
  clear c0 c1 c2 c3 c4 c5 c6 c7 i0 i1 q0
  have D3 := hid (D2.out.on hb)
  have B3 := hid (B2.out.trans (hb.mono (by have := D2.out.1.lt; omega)))
  clear hb D2 B2
  go_upto_region 7 with fail
  obtain ⟨W4, hW4⟩ : ∃ W4, w3.alloc (.cells #[.int .i64 (U 0), .int .i64 (U 1), .int .i64 (U 2), .int .i64 (U 3), .int .i64 (U 4), .int .i64 (U 5), .int .i64 (U 6), .int .i64 (U 7)] 24) = W4 := ⟨_, rfl⟩
  rw [hW4]
  obtain ⟨M4, hb4⟩ := one_new hW4
  have D4 := hid (show Trio W4 k w3.heap.size f U a b from ⟨D3.out.on hb4.out, M4.out⟩)
  have B4 := hid (B3.out.trans (hb4.out.mono (by have := D3.out.1.lt; omega)))
  have hkm : k + 1 < w3.heap.size := D3.out.2.lt
  obtain ⟨m, hm⟩ : ∃ m, w3.heap.size = m := ⟨_, rfl⟩
  rw [hm] at D4 hkm ⊢
  clear hW4 hm hb4 M4 D3 B3
  have HOp : Hid (∀ W, Trio W k m f U a b → Eight W k f ∧ (W.cell? ⟨k + 1, 0, none⟩ = some (.int .i64 (a : Int)) ∧ W.cell? ⟨k + 1, 1, none⟩ = some (.int .i64 (b : Int))) ∧ Eight W m U ∧ W.cell? ⟨m, 1 + a, none⟩ = some (.int .i64 (b : Int))) := hid (fun W H => by
    have h := H.open ha
    rw [HUB.out] at h
    exact h)
  cases o
  · have X := trivial
    refine wp_region_held_drew (S := (fun w' => (w'.cell? ⟨k, 0, none⟩ = some (.int .i64 (f 0)) ∧ w'.cell? ⟨k, 1, none⟩ = some (.int .i64 (f 1)) ∧ w'.cell? ⟨k, 2, none⟩ = some (.int .i64 (f 2)) ∧ w'.cell? ⟨k, 3, none⟩ = some (.int .i64 (f 3)) ∧ w'.cell? ⟨k, 4, none⟩ = some (.int .i64 (f 4)) ∧ w'.cell? ⟨k, 5, none⟩ = some (.int .i64 (f 5)) ∧ w'.cell? ⟨k, 6, none⟩ = some (.int .i64 (f 6)) ∧ w'.cell? ⟨k, 7, none⟩ = some (.int .i64 (f 7))) ∧ (w'.cell? ⟨k + 1, 0, none⟩ = some (.int .i64 (a : Int)) ∧ w'.cell? ⟨k + 1, 1, none⟩ = some (.int .i64 (b : Int))) ∧ (w'.cell? ⟨m, 0, none⟩ = some (.int .i64 (U 0)) ∧ w'.cell? ⟨m, 1, none⟩ = some (.int .i64 (U 1)) ∧ w'.cell? ⟨m, 2, none⟩ = some (.int .i64 (U 2)) ∧ w'.cell? ⟨m, 3, none⟩ = some (.int .i64 (U 3)) ∧ w'.cell? ⟨m, 4, none⟩ = some (.int .i64 (U 4)) ∧ w'.cell? ⟨m, 5, none⟩ = some (.int .i64 (U 5)) ∧ w'.cell? ⟨m, 6, none⟩ = some (.int .i64 (U 6)) ∧ w'.cell? ⟨m, 7, none⟩ = some (.int .i64 (U 7))) ∧ w'.cell? ⟨m, 1 + a, none⟩ = some (.int .i64 (b : Int)))) (by kernel_rfl) (by exact HOp.out _ D4.out.drew) (fun hHeld => ?_)
    refine wpAnyH_take (i := 0) (oi := _) (v := ?_) rfl (by kernel_rfl) (by kernel_rfl) (by kernel_rfl) (fun _ _ _ h => h) (Or.inl ⟨by kernel_rfl, ?_⟩) hHeld ?_
    rotate_left 1
    focus (intro w' hSw; (try dsimp only at hSw); go_simp; try with_reducible rfl)
    try simp only [Act.put, List.getElem_toArray, List.getElem_cons_zero, List.getElem_cons_succ, List.setIfInBounds_toArray, List.set_cons_zero, List.set_cons_succ]
    refine wpAnyH_take (i := 1) (oi := _) (v := ?_) rfl (by kernel_rfl) (by kernel_rfl) (by kernel_rfl) (fun _ _ _ h => h) (Or.inl ⟨by kernel_rfl, ?_⟩) hHeld ?_
    rotate_left 1
    focus (intro w' hSw; (try dsimp only at hSw); go_simp; try with_reducible rfl)
    try simp only [Act.put, List.getElem_toArray, List.getElem_cons_zero, List.getElem_cons_succ, List.setIfInBounds_toArray, List.set_cons_zero, List.set_cons_succ]
    refine wpAnyH_take (i := 3) (oi := _) (v := ?_) rfl (by kernel_rfl) (by kernel_rfl) (by kernel_rfl) (fun _ _ _ h => h) (Or.inl ⟨by kernel_rfl, ?_⟩) hHeld ?_
    rotate_left 1
    focus (intro w' hSw; (try dsimp only at hSw); go_simp; try with_reducible rfl)
    try simp only [Act.put, List.getElem_toArray, List.getElem_cons_zero, List.getElem_cons_succ, List.setIfInBounds_toArray, List.set_cons_zero, List.set_cons_succ]
    refine wpAnyH_take (i := 4) (oi := _) (v := ?_) rfl (by kernel_rfl) (by kernel_rfl) (by kernel_rfl) (fun _ _ _ h => h) (Or.inl ⟨by kernel_rfl, ?_⟩) hHeld ?_
    rotate_left 1
    focus (intro w' hSw; (try dsimp only at hSw); go_simp; try with_reducible rfl)
    try simp only [Act.put, List.getElem_toArray, List.getElem_cons_zero, List.getElem_cons_succ, List.setIfInBounds_toArray, List.set_cons_zero, List.set_cons_succ]
    refine wpAnyH_take (i := 5) (oi := _) (v := ?_) rfl (by kernel_rfl) (by kernel_rfl) (by kernel_rfl) (fun _ _ _ h => h) (Or.inl ⟨by kernel_rfl, ?_⟩) hHeld ?_
    rotate_left 1
    focus (intro w' hSw; (try dsimp only at hSw); go_simp; try with_reducible rfl)
    try simp only [Act.put, List.getElem_toArray, List.getElem_cons_zero, List.getElem_cons_succ, List.setIfInBounds_toArray, List.set_cons_zero, List.set_cons_succ]
    refine wpAnyH_take (i := 6) (oi := _) (v := ?_) rfl (by kernel_rfl) (by kernel_rfl) (by kernel_rfl) (fun _ _ _ h => h) (Or.inl ⟨by kernel_rfl, ?_⟩) hHeld ?_
    rotate_left 1
    focus (intro w' hSw; (try dsimp only at hSw); go_simp; try with_reducible rfl)
    try simp only [Act.put, List.getElem_toArray, List.getElem_cons_zero, List.getElem_cons_succ, List.setIfInBounds_toArray, List.set_cons_zero, List.set_cons_succ]
    refine wpAnyH_ready (rs := [2]) (by kernel_rfl) (by simp) ?_
    refine AllReadyH.cons (o := _) rfl (fun K hK => ?_) AllReadyH.nil
    go_simp
    go_at_call 16
    with_reducible refine (covers8 f a b _).mono ?_
    rw [HC.out]
    rintro e w5 ⟨rfl, g5⟩
    have D5 := hid (D4.out.drew.on g5)
    refine hK.out _ _ (by exact HOp.out _ D5.out) (fun hHeld => ?_)
    clear hK K
    try simp only [Act.put, List.getElem_toArray, List.getElem_cons_zero, List.getElem_cons_succ, List.setIfInBounds_toArray, List.set_cons_zero, List.set_cons_succ]
    refine wpAnyH_take (i := 7) (oi := _) (v := ?_) rfl (by kernel_rfl) (by kernel_rfl) (by kernel_rfl) (fun _ _ _ h => h) (Or.inl ⟨by kernel_rfl, ?_⟩) hHeld ?_
    rotate_left 1
    focus (intro w' hSw; (try dsimp only at hSw); go_simp; try with_reducible rfl)
    try simp only [Act.put, List.getElem_toArray, List.getElem_cons_zero, List.getElem_cons_succ, List.setIfInBounds_toArray, List.set_cons_zero, List.set_cons_succ]
    refine wpAnyH_take (i := 8) (oi := _) (v := ?_) rfl (by kernel_rfl) (by kernel_rfl) (by kernel_rfl) (fun _ _ _ h => h) (Or.inl ⟨by kernel_rfl, ?_⟩) hHeld ?_
    rotate_left 1
    focus (intro w' hSw; (try dsimp only at hSw); go_simp; try with_reducible rfl)
    try simp only [Act.put, List.getElem_toArray, List.getElem_cons_zero, List.getElem_cons_succ, List.setIfInBounds_toArray, List.set_cons_zero, List.set_cons_succ]
    refine wpAnyH_take (i := 9) (oi := _) (v := ?_) rfl (by kernel_rfl) (by kernel_rfl) (by kernel_rfl) (fun _ _ _ h => h) (Or.inl ⟨by kernel_rfl, ?_⟩) hHeld ?_
    rotate_left 1
    focus (intro w' hSw; (try dsimp only at hSw); go_simp; try with_reducible rfl)
    try simp only [Act.put, List.getElem_toArray, List.getElem_cons_zero, List.getElem_cons_succ, List.setIfInBounds_toArray, List.set_cons_zero, List.set_cons_succ]
    refine wpAnyH_take (i := 10) (oi := _) (v := ?_) rfl (by kernel_rfl) (by kernel_rfl) (by kernel_rfl) (fun _ _ _ h => h) (Or.inl ⟨by kernel_rfl, ?_⟩) hHeld ?_
    rotate_left 1
    focus (intro w' hSw; (try dsimp only at hSw); go_simp; try with_reducible rfl)
    try simp only [Act.put, List.getElem_toArray, List.getElem_cons_zero, List.getElem_cons_succ, List.setIfInBounds_toArray, List.set_cons_zero, List.set_cons_succ]
    refine wpAnyH_take (i := 12) (oi := _) (v := ?_) rfl (by kernel_rfl) (by kernel_rfl) (by kernel_rfl) (fun _ _ _ h => h) (Or.inl ⟨by kernel_rfl, ?_⟩) hHeld ?_
    rotate_left 1
    focus (intro w' hSw; (try dsimp only at hSw); go_simp; try with_reducible rfl)
    try simp only [Act.put, List.getElem_toArray, List.getElem_cons_zero, List.getElem_cons_succ, List.setIfInBounds_toArray, List.set_cons_zero, List.set_cons_succ]
    refine wpAnyH_ready (rs := [11]) (by kernel_rfl) (by simp) ?_
    refine AllReadyH.cons (o := _) rfl (fun K hK => ?_) AllReadyH.nil
    go_simp
    go_at_call 17
    with_reducible refine (owns8 f a b _).mono ?_
    rw [show ownB f a b = false by rw [HW.out]; rfl]
    rintro e w6 ⟨rfl, g6⟩
    have D6 := hid (D5.out.on g6)
    refine hK.out _ _ (by exact HOp.out _ D6.out) (fun hHeld => ?_)
    clear hK K
    try simp only [Act.put, List.getElem_toArray, List.getElem_cons_zero, List.getElem_cons_succ, List.setIfInBounds_toArray, List.set_cons_zero, List.set_cons_succ]
    refine wpAnyH_ready (rs := [13]) (by kernel_rfl) (by simp) ?_
    refine AllReadyH.cons (o := _) rfl (fun K hK => ?_) AllReadyH.nil
    go_simp
    go_at_call 13
    with_reducible refine (aright8 f _).mono ?_
    rw [HO.out]
    rintro e w7 ⟨rfl, g7⟩
    have D7 := hid (D6.out.on g7)
    refine hK.out _ _ (by exact HOp.out _ D7.out) (fun hHeld => ?_)
    clear hK K
    try simp only [Act.put, List.getElem_toArray, List.getElem_cons_zero, List.getElem_cons_succ, List.setIfInBounds_toArray, List.set_cons_zero, List.set_cons_succ]
    refine wpAnyH_take (i := 14) (oi := _) (v := ?_) rfl (by kernel_rfl) (by kernel_rfl) (by kernel_rfl) (fun _ _ _ h => h) (Or.inl ⟨by kernel_rfl, ?_⟩) hHeld ?_
    rotate_left 1
    focus (intro w' hSw; (try dsimp only at hSw); go_simp; try with_reducible rfl)
    try simp only [Act.put, List.getElem_toArray, List.getElem_cons_zero, List.getElem_cons_succ, List.setIfInBounds_toArray, List.set_cons_zero, List.set_cons_succ]
    refine wpAnyH_take (i := 15) (oi := _) (v := undef) rfl (by kernel_rfl) (by kernel_rfl) (by kernel_rfl) (fun _ _ _ h => h) (Or.inr ⟨by kernel_rfl, rfl⟩) hHeld ?_
    try simp only [Act.put, List.getElem_toArray, List.getElem_cons_zero, List.getElem_cons_succ, List.setIfInBounds_toArray, List.set_cons_zero, List.set_cons_succ]
    refine wpAnyH_take (i := 16) (oi := _) (v := undef) rfl (by kernel_rfl) (by kernel_rfl) (by kernel_rfl) (fun _ _ _ h => h) (Or.inr ⟨by kernel_rfl, rfl⟩) hHeld ?_
    try simp only [Act.put, List.getElem_toArray, List.getElem_cons_zero, List.getElem_cons_succ, List.setIfInBounds_toArray, List.set_cons_zero, List.set_cons_succ]
    refine wpAnyH_take (i := 17) (oi := _) (v := undef) rfl (by kernel_rfl) (by kernel_rfl) (by kernel_rfl) (fun _ _ _ h => h) (Or.inr ⟨by kernel_rfl, rfl⟩) hHeld ?_
    try simp only [Act.put, List.getElem_toArray, List.getElem_cons_zero, List.getElem_cons_succ, List.setIfInBounds_toArray, List.set_cons_zero, List.set_cons_succ]
    refine wpAnyH_take (i := 18) (oi := _) (v := undef) rfl (by kernel_rfl) (by kernel_rfl) (by kernel_rfl) (fun _ _ _ h => h) (Or.inr ⟨by kernel_rfl, rfl⟩) hHeld ?_
    try simp only [Act.put, List.getElem_toArray, List.getElem_cons_zero, List.getElem_cons_succ, List.setIfInBounds_toArray, List.set_cons_zero, List.set_cons_succ]
    refine wpAnyH_take (i := 19) (oi := _) (v := ?_) rfl (by kernel_rfl) (by kernel_rfl) (by kernel_rfl) (fun _ _ _ h => h) (Or.inl ⟨by kernel_rfl, ?_⟩) hHeld ?_
    rotate_left 1
    focus (intro w' hSw; (try dsimp only at hSw); go_simp; try with_reducible rfl)
    try simp only [Act.put, List.getElem_toArray, List.getElem_cons_zero, List.getElem_cons_succ, List.setIfInBounds_toArray, List.set_cons_zero, List.set_cons_succ]
    refine wpAnyH_take (i := 20) (oi := _) (v := ?_) rfl (by kernel_rfl) (by kernel_rfl) (by kernel_rfl) (fun _ _ _ h => h) (Or.inl ⟨by kernel_rfl, ?_⟩) hHeld ?_
    rotate_left 1
    focus (intro w' hSw; (try dsimp only at hSw); go_simp; try with_reducible rfl)
    try simp only [Act.put, List.getElem_toArray, List.getElem_cons_zero, List.getElem_cons_succ, List.setIfInBounds_toArray, List.set_cons_zero, List.set_cons_succ]
    refine wpAnyH_take (i := 21) (oi := _) (v := ?_) rfl (by kernel_rfl) (by kernel_rfl) (by kernel_rfl) (fun _ _ _ h => h) (Or.inl ⟨by kernel_rfl, ?_⟩) hHeld ?_
    rotate_left 1
    focus (intro w' hSw; (try dsimp only at hSw); go_simp; try with_reducible rfl)
    try simp only [Act.put, List.getElem_toArray, List.getElem_cons_zero, List.getElem_cons_succ, List.setIfInBounds_toArray, List.set_cons_zero, List.set_cons_succ]
    refine wpAnyH_take (i := 22) (oi := _) (v := ?_) rfl (by kernel_rfl) (by kernel_rfl) (by kernel_rfl) (fun _ _ _ h => h) (Or.inl ⟨by kernel_rfl, ?_⟩) hHeld ?_
    rotate_left 1
    focus (intro w' hSw; (try dsimp only at hSw); go_simp; try with_reducible rfl)
    try simp only [Act.put, List.getElem_toArray, List.getElem_cons_zero, List.getElem_cons_succ, List.setIfInBounds_toArray, List.set_cons_zero, List.set_cons_succ]
    refine wpAnyH_take (i := 23) (oi := _) (v := ?_) rfl (by kernel_rfl) (by kernel_rfl) (by kernel_rfl) (fun _ _ _ h => h) (Or.inl ⟨by kernel_rfl, ?_⟩) hHeld ?_
    rotate_left 1
    focus (intro w' hSw; (try dsimp only at hSw); go_simp; try with_reducible rfl)
    try simp only [Act.put, List.getElem_toArray, List.getElem_cons_zero, List.getElem_cons_succ, List.setIfInBounds_toArray, List.set_cons_zero, List.set_cons_succ]
    refine wpAnyH_take (i := 24) (oi := _) (v := ?_) rfl (by kernel_rfl) (by kernel_rfl) (by kernel_rfl) (fun _ _ _ h => h) (Or.inl ⟨by kernel_rfl, ?_⟩) hHeld ?_
    rotate_left 1
    focus (intro w' hSw; (try dsimp only at hSw); go_simp; try with_reducible rfl)
    try simp only [Act.put, List.getElem_toArray, List.getElem_cons_zero, List.getElem_cons_succ, List.setIfInBounds_toArray, List.set_cons_zero, List.set_cons_succ]
    refine wpAnyH_take (i := 25) (oi := _) (v := ?_) rfl (by kernel_rfl) (by kernel_rfl) (by kernel_rfl) (fun _ _ _ h => h) (Or.inl ⟨by kernel_rfl, ?_⟩) hHeld ?_
    rotate_left 1
    focus (intro w' hSw; (try dsimp only at hSw); go_simp; try with_reducible rfl)
    try simp only [Act.put, List.getElem_toArray, List.getElem_cons_zero, List.getElem_cons_succ, List.setIfInBounds_toArray, List.set_cons_zero, List.set_cons_succ]
    refine wpAnyH_take (i := 26) (oi := _) (v := ?_) rfl (by kernel_rfl) (by kernel_rfl) (by kernel_rfl) (fun _ _ _ h => h) (Or.inl ⟨by kernel_rfl, ?_⟩) hHeld ?_
    rotate_left 1
    focus (intro w' hSw; (try dsimp only at hSw); go_simp; try with_reducible rfl)
    try simp only [Act.put, List.getElem_toArray, List.getElem_cons_zero, List.getElem_cons_succ, List.setIfInBounds_toArray, List.set_cons_zero, List.set_cons_succ]
    refine wpAnyH_take (i := 27) (oi := _) (v := ?_) rfl (by kernel_rfl) (by kernel_rfl) (by kernel_rfl) (fun _ _ _ h => h) (Or.inl ⟨by kernel_rfl, ?_⟩) hHeld ?_
    rotate_left 1
    focus (intro w' hSw; (try dsimp only at hSw); go_simp; try with_reducible rfl)
    try simp only [Act.put, List.getElem_toArray, List.getElem_cons_zero, List.getElem_cons_succ, List.setIfInBounds_toArray, List.set_cons_zero, List.set_cons_succ]
    refine wpAnyH_take (i := 28) (oi := _) (v := ?_) rfl (by kernel_rfl) (by kernel_rfl) (by kernel_rfl) (fun _ _ _ h => h) (Or.inl ⟨by kernel_rfl, ?_⟩) hHeld ?_
    rotate_left 1
    focus (intro w' hSw; (try dsimp only at hSw); go_simp; try with_reducible rfl)
    try simp only [Act.put, List.getElem_toArray, List.getElem_cons_zero, List.getElem_cons_succ, List.setIfInBounds_toArray, List.set_cons_zero, List.set_cons_succ]
    refine wpAnyH_take (i := 29) (oi := _) (v := ?_) rfl (by kernel_rfl) (by kernel_rfl) (by kernel_rfl) (fun _ _ _ h => h) (Or.inl ⟨by kernel_rfl, ?_⟩) hHeld ?_
    rotate_left 1
    focus (intro w' hSw; (try dsimp only at hSw); go_simp; try with_reducible rfl)
    try simp only [Act.put, List.getElem_toArray, List.getElem_cons_zero, List.getElem_cons_succ, List.setIfInBounds_toArray, List.set_cons_zero, List.set_cons_succ]
    refine wpAnyH_take (i := 30) (oi := _) (v := ?_) rfl (by kernel_rfl) (by kernel_rfl) (by kernel_rfl) (fun _ _ _ h => h) (Or.inl ⟨by kernel_rfl, ?_⟩) hHeld ?_
    rotate_left 1
    focus (intro w' hSw; (try dsimp only at hSw); go_simp; try with_reducible rfl)
    try simp only [Act.put, List.getElem_toArray, List.getElem_cons_zero, List.getElem_cons_succ, List.setIfInBounds_toArray, List.set_cons_zero, List.set_cons_succ]
    refine wpAnyH_take (i := 31) (oi := _) (v := ?_) rfl (by kernel_rfl) (by kernel_rfl) (by kernel_rfl) (fun _ _ _ h => h) (Or.inl ⟨by kernel_rfl, ?_⟩) hHeld ?_
    rotate_left 1
    focus (intro w' hSw; (try dsimp only at hSw); go_simp; try with_reducible rfl)
    try simp only [Act.put, List.getElem_toArray, List.getElem_cons_zero, List.getElem_cons_succ, List.setIfInBounds_toArray, List.set_cons_zero, List.set_cons_succ]
    refine wpAnyH_take (i := 32) (oi := _) (v := ?_) rfl (by kernel_rfl) (by kernel_rfl) (by kernel_rfl) (fun _ _ _ h => h) (Or.inl ⟨by kernel_rfl, ?_⟩) hHeld ?_
    rotate_left 1
    focus (intro w' hSw; (try dsimp only at hSw); go_simp; try with_reducible rfl)
    try simp only [Act.put, List.getElem_toArray, List.getElem_cons_zero, List.getElem_cons_succ, List.setIfInBounds_toArray, List.set_cons_zero, List.set_cons_succ]
    refine wpAnyH_take (i := 33) (oi := _) (v := ?_) rfl (by kernel_rfl) (by kernel_rfl) (by kernel_rfl) (fun _ _ _ h => h) (Or.inl ⟨by kernel_rfl, ?_⟩) hHeld ?_
    rotate_left 1
    focus (intro w' hSw; (try dsimp only at hSw); go_simp; try with_reducible rfl)
    try simp only [Act.put, List.getElem_toArray, List.getElem_cons_zero, List.getElem_cons_succ, List.setIfInBounds_toArray, List.set_cons_zero, List.set_cons_succ]
    refine wpAnyH_take (i := 34) (oi := _) (v := ?_) rfl (by kernel_rfl) (by kernel_rfl) (by kernel_rfl) (fun _ _ _ h => h) (Or.inl ⟨by kernel_rfl, ?_⟩) hHeld ?_
    rotate_left 1
    focus (intro w' hSw; (try dsimp only at hSw); go_simp; try with_reducible rfl)
    try simp only [Act.put, List.getElem_toArray, List.getElem_cons_zero, List.getElem_cons_succ, List.setIfInBounds_toArray, List.set_cons_zero, List.set_cons_succ]
    refine wpAnyH_ready (rs := [35]) (by kernel_rfl) (by simp) ?_
    refine AllReadyH.cons (o := _) rfl (fun K hK => ?_) AllReadyH.nil
    go_simp
    go_at_call 16
    with_reducible refine (covers8 U a b _).mono ?_
    rw [HC2.out]
    rintro e w8 ⟨rfl, g8⟩
    have D8 := hid (D7.out.on g8)
    refine hK.out _ _ (by exact HOp.out _ D8.out) (fun hHeld => ?_)
    clear hK K
    try simp only [Act.put, List.getElem_toArray, List.getElem_cons_zero, List.getElem_cons_succ, List.setIfInBounds_toArray, List.set_cons_zero, List.set_cons_succ]
    refine wpAnyH_take (i := 36) (oi := _) (v := ?_) rfl (by kernel_rfl) (by kernel_rfl) (by kernel_rfl) (fun _ _ _ h => h) (Or.inl ⟨by kernel_rfl, ?_⟩) hHeld ?_
    rotate_left 1
    focus (intro w' hSw; (try dsimp only at hSw); go_simp; try with_reducible rfl)
    try simp only [Act.put, List.getElem_toArray, List.getElem_cons_zero, List.getElem_cons_succ, List.setIfInBounds_toArray, List.set_cons_zero, List.set_cons_succ]
    refine wpAnyH_done (by kernel_rfl) ?_ _
    have B8 := hid (((((below_drew B4.out).trans (g5.mono (show k ≤ W4.heap.size by have := D4.out.1.1.lt; omega))).trans (g6.mono (by have := D5.out.1.1.lt; omega))).trans (g7.mono (by have := D6.out.1.1.lt; omega))).trans (g8.mono (by have := D7.out.1.1.lt; omega)))
    clear hHeld g5 g6 g7 g8 D4 D5 D6 D7 B4
    have q0 := D8.out.2.att (i := 1 + a) (by omega)
    have q1 := D8.out.2.frozen (1 + a)
    obtain ⟨_, ⟨i0, i1⟩, _, _⟩ := HOp.out _ D8.out
    go_upto_region 10 with fail
    obtain ⟨W9, hW9⟩ : ∃ W9, w8.setCell ⟨m, 1 + a, none⟩ (.int .i64 x) = W9 := ⟨_, rfl⟩
    rw [hW9]
    have D9 : Hid (Trio W9 k m f (upd U (1 + a) x) a b) := hid (by rw [← hW9]; exact ⟨⟨D8.out.1.1.far (by simp <;> omega) _, D8.out.1.2.far (by simp <;> omega) _⟩, D8.out.2.attSet _ _⟩)
    have B9 : Hid (Below k w W9) := hid (by rw [← hW9]; exact B8.out.setCell (by simp <;> omega) _)
    clear hW9 D8 B8 q0 q1 i0 i1 HOp
    have EQ := eq_attr (upd U (1 + a) x) f true HUE.out
    have EG := attr_guard
    obtain ⟨⟨c0, c1, c2, c3, c4, c5, c6, c7⟩, _, ⟨d0, d1, d2, d3, d4, d5, d6, d7⟩, _⟩ := D9.out.open ha
    go_wp2
    go_ret
    exact ⟨rfl, by rw [HK.out]; exact B9.out⟩
  · have X := trivial
    go_region_held3 (fun w' => (w'.cell? ⟨k, 0, none⟩ = some (.int .i64 (f 0)) ∧ w'.cell? ⟨k, 1, none⟩ = some (.int .i64 (f 1)) ∧ w'.cell? ⟨k, 2, none⟩ = some (.int .i64 (f 2)) ∧ w'.cell? ⟨k, 3, none⟩ = some (.int .i64 (f 3)) ∧ w'.cell? ⟨k, 4, none⟩ = some (.int .i64 (f 4)) ∧ w'.cell? ⟨k, 5, none⟩ = some (.int .i64 (f 5)) ∧ w'.cell? ⟨k, 6, none⟩ = some (.int .i64 (f 6)) ∧ w'.cell? ⟨k, 7, none⟩ = some (.int .i64 (f 7))) ∧ (w'.cell? ⟨k + 1, 0, none⟩ = some (.int .i64 (a : Int)) ∧ w'.cell? ⟨k + 1, 1, none⟩ = some (.int .i64 (b : Int))) ∧ (w'.cell? ⟨m, 0, none⟩ = some (.int .i64 (U 0)) ∧ w'.cell? ⟨m, 1, none⟩ = some (.int .i64 (U 1)) ∧ w'.cell? ⟨m, 2, none⟩ = some (.int .i64 (U 2)) ∧ w'.cell? ⟨m, 3, none⟩ = some (.int .i64 (U 3)) ∧ w'.cell? ⟨m, 4, none⟩ = some (.int .i64 (U 4)) ∧ w'.cell? ⟨m, 5, none⟩ = some (.int .i64 (U 5)) ∧ w'.cell? ⟨m, 6, none⟩ = some (.int .i64 (U 6)) ∧ w'.cell? ⟨m, 7, none⟩ = some (.int .i64 (U 7))) ∧ w'.cell? ⟨m, 1 + a, none⟩ = some (.int .i64 (b : Int)))
      (first | exact HOp.out _ D4.out | exact HOp.out _ D4.out.drew | exact HOp.out _ D5.out | exact HOp.out _ D6.out | exact HOp.out _ D7.out | exact HOp.out _ D8.out)
      (first
        | (go_at_call 16; (with_reducible refine (covers8 f a b _).mono ?_); rw [HC.out]; rintro e w5 ⟨rfl, g5⟩; have D5 := hid (D4.out.drew.on g5))
        | (go_at_call 17; (with_reducible refine (owns8 f a b _).mono ?_); rw [show ownB f a b = (x == (b : Int)) by rw [HW.out]; rfl]; rintro e w6 ⟨rfl, g6⟩; have D6 := hid (D5.out.on g6))
        | (go_at_call 13; (with_reducible refine (aright8 f _).mono ?_); rw [HO.out]; rintro e w7 ⟨rfl, g7⟩; have D7 := hid (D6.out.on g7))
        | (go_at_call 16; (with_reducible refine (covers8 U a b _).mono ?_); rw [HC2.out]; rintro e w8 ⟨rfl, g8⟩; have D8 := hid (D7.out.on g8)))
    rename_i hHeld
    have B8 := hid (((((below_drew B4.out).trans (g5.mono (show k ≤ W4.heap.size by have := D4.out.1.1.lt; omega))).trans (g6.mono (by have := D5.out.1.1.lt; omega))).trans (g7.mono (by have := D6.out.1.1.lt; omega))).trans (g8.mono (by have := D7.out.1.1.lt; omega)))
    clear hHeld g5 g6 g7 g8 D4 D5 D6 D7 B4
    have q0 := D8.out.2.att (i := 1 + a) (by omega)
    have q1 := D8.out.2.frozen (1 + a)
    obtain ⟨_, ⟨i0, i1⟩, _, _⟩ := HOp.out _ D8.out
    go_upto_region 10 with fail
    obtain ⟨W9, hW9⟩ : ∃ W9, w8.setCell ⟨m, 1 + a, none⟩ (.int .i64 x) = W9 := ⟨_, rfl⟩
    rw [hW9]
    have D9 : Hid (Trio W9 k m f (upd U (1 + a) x) a b) := hid (by rw [← hW9]; exact ⟨⟨D8.out.1.1.far (by simp <;> omega) _, D8.out.1.2.far (by simp <;> omega) _⟩, D8.out.2.attSet _ _⟩)
    have B9 : Hid (Below k w W9) := hid (by rw [← hW9]; exact B8.out.setCell (by simp <;> omega) _)
    clear hW9 D8 B8 q0 q1 i0 i1 HOp
    have EQ := eq_attr (upd U (1 + a) x) f true HUE.out
    have EG := attr_guard
    obtain ⟨⟨c0, c1, c2, c3, c4, c5, c6, c7⟩, _, ⟨d0, d1, d2, d3, d4, d5, d6, d7⟩, _⟩ := D9.out.open ha
    go_wp2
    go_ret
    exact ⟨rfl, by rw [HK.out]; exact B9.out⟩

theorem walk (f : Nat → Int) (r s : Int) (w : World) :
    Calls Try.prog 4 #[.agg #[.int .i64 (f 0), .int .i64 (f 1), .int .i64 (f 2), .int .i64 (f 3), .int .i64 (f 4), .int .i64 (f 5), .int .i64 (f 6), .int .i64 (f 7)], nm r s] w fun e w' => e = .returned (.bool true) ∧ Below w.heap.size w w' := by
  cases h : nameB r s
  · exact walk_no f r s h w
  · obtain ⟨a, b, rfl, rfl, ha, hb, _⟩ := name_in h
    exact walk_yes f a b h ha hb w

end Go.Proofs.Ytfpmmajgnijboaa.attrCovers
