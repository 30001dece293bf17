/-
  Contracts of attributes (package attr): Own, Past; and the laws' anchor.
-/
import Derived.Test.YtfpmmajgnijboaaACovers
namespace Go.Proofs.Ytfpmmajgnijboaa
open Go.ChangeShapes Go.WideShapes Go.ChangeAt Go.RowKit
set_option linter.unusedVariables false
set_option linter.unusedSimpArgs false

/-- Three boxes: attributes, a name, and the result's. -/
theorem att_name_new {w W : World} {f : Nat → Int} {r s : Int} (h : ((w.alloc (.cells (#[.int .i64 (f 0), .int .i64 (f 1), .int .i64 (f 2), .int .i64 (f 3), .int .i64 (f 4), .int .i64 (f 5), .int .i64 (f 6), .int .i64 (f 7)]) 24)).alloc (.cells #[.int .i64 r, .int .i64 s] 33)).alloc (.cells #[.int .i64 0, .int .i64 0, .int .i64 0, .int .i64 0, .int .i64 0, .int .i64 0, .int .i64 0, .int .i64 0] 24) = W) :
    Hid (Blk W w.heap.size 24 (rowA f)) ∧ Hid (Blk W (w.heap.size + 1) 33 #[.int .i64 r, .int .i64 s]) ∧ Hid (Blk W (w.heap.size + 1 + 1) 24 (rowA fun _ => 0)) ∧ Hid (Below w.heap.size w W) := by
  obtain ⟨h1, h2, h3, h4⟩ := three_new h
  exact ⟨h1, h2, h3, h4⟩
theorem att_new {w W : World} {f : Nat → Int} (h : (w.alloc (.cells (#[.int .i64 (f 0), .int .i64 (f 1), .int .i64 (f 2), .int .i64 (f 3), .int .i64 (f 4), .int .i64 (f 5), .int .i64 (f 6), .int .i64 (f 7)]) 24)).alloc (.cells #[.int .i64 0, .int .i64 0, .int .i64 0, .int .i64 0, .int .i64 0, .int .i64 0, .int .i64 0, .int .i64 0] 24) = W) :
    Hid (Blk W w.heap.size 24 (rowA f)) ∧ Hid (Blk W (w.heap.size + 1) 24 (rowA fun _ => 0)) ∧ Hid (Below w.heap.size w W) := by
  obtain ⟨h1, h2, h4⟩ := two_new h
  exact ⟨h1, h2, h4⟩

set_option maxRecDepth 100000 in
set_option maxHeartbeats 1000000 in
theorem own8 (f : Nat → Int) (r s : Int) (w : World) :
    Calls Try.prog 18 #[.agg #[.int .i64 (f 0), .int .i64 (f 1), .int .i64 (f 2), .int .i64 (f 3), .int .i64 (f 4), .int .i64 (f 5), .int .i64 (f 6), .int .i64 (f 7)], nm r s] w fun e w' => e = .returned (.agg (rowA (ownF f r s))) ∧ Below w.heap.size w w' := by
  obtain ⟨x, hx⟩ : ∃ x, nameB r s = x := ⟨_, rfl⟩
  have HX := hid hx
  have HV : Hid (ownF f r s = if x = true then upd f (1 + r.toNat) s else f) := hid (by unfold ownF; rw [hx])
  have HN : Hid (x = true → ∃ a b : Nat, r = a ∧ s = b ∧ a < 7 ∧ b < 1024) := hid (fun h => by
    subst h; obtain ⟨a, b, h1, h2, h3, h4, _⟩ := name_in hx; exact ⟨a, b, h1, h2, h3, h4⟩)
  clear hx
  go_enter Try.func18, Try.ntmps18
  go_upto_region 1 with fail
  obtain ⟨W, hW⟩ : ∃ W, ((w.alloc (.cells #[.int .i64 (f 0), .int .i64 (f 1), .int .i64 (f 2), .int .i64 (f 3), .int .i64 (f 4), .int .i64 (f 5), .int .i64 (f 6), .int .i64 (f 7)] 24)).alloc (.cells #[.int .i64 r, .int .i64 s] 33)).alloc (.cells #[.int .i64 0, .int .i64 0, .int .i64 0, .int .i64 0, .int .i64 0, .int .i64 0, .int .i64 0, .int .i64 0] 24) = W := ⟨_, rfl⟩
  rw [hW]
  obtain ⟨K0, K1, K2, KB⟩ := att_name_new hW
  clear hW
  obtain ⟨k, hk⟩ : ∃ k, w.heap.size = k := ⟨_, rfl⟩
  rw [hk] at K0 K1 K2 KB
  rw [hk]
  have HK := hid hk
  clear hk
  obtain ⟨⟨c0, c1⟩, _, _⟩ := blkn K1.out
  go_wp2_with fail
  with_reducible refine (right_any r s _).mono ?_
  rw [HX.out]
  rintro e w1 ⟨rfl, hb1⟩
  clear c0 c1
  have D0 := hid (K0.out.below hb1 K0.out.lt)
  have D1 := hid (K1.out.below hb1 K1.out.lt)
  have D2 := hid (K2.out.below hb1 K2.out.lt)
  have DB := hid (KB.out.trans (hb1.mono (by have := K0.out.lt; omega)))
  clear hb1 K0 K1 K2 KB HX
  cases x
  · have HV2 : Hid (ownF f r s = f) := hid (by rw [HV.out]; simp)
    have L1 := hid (len_attr f)
    have L2 := hid (size_zero f)
    have L3 := hid (rowA_one f)
    go_wp2_with (first
      | (with_reducible refine wpList_load_row (o := ⟨some 13, _, _, _, _, _⟩) rfl 24 (.tmp 2) rfl k rfl 24 (rowA f) (0, 0) _ D0.out.heap Try.underlying24 rfl L1.out ?_)
      | (with_reducible refine wpList_store_row (o := ⟨none, _, _, _, _, _⟩) rfl 24 (.tmp 4) (.tmp 13) rfl (k + 1 + 1) (rowA f) rfl rfl 24 _ D2.out.heap L1.out L2.out L3.out ?_))
    exact bodyPost_ret (v := .agg (rowA f)) (results_cell_row (p := 4) (ty := 24) (by kernel_rfl) _ _ (k + 1 + 1) 24 (rowA f) (0, 0) _ rfl (setRow_heap w1 (k + 1 + 1) _ (rowA f) _ _ D2.out.heap) Try.underlying24 rfl L1.out) rfl ⟨by rw [HV2.out], by rw [HK.out]; exact below_setRow_ DB.out (by omega)⟩
  · obtain ⟨a, b, rfl, rfl, ha, hb⟩ := HN.out rfl
    have HV2 : Hid (ownF f a b = upd f (1 + a) b) := hid (by rw [HV.out]; simp)
    have ha' : (a : Int) < 7 := by omega
    obtain ⟨⟨c0, c1⟩, _, _⟩ := blkn D1.out
    have g0 := D0.out.att (i := 1 + a) (by omega)
    have f0 := D0.out.frozen (1 + a)
    go_upto_region 3 with fail
    obtain ⟨W2, hW2⟩ : ∃ W2, w1.setCell ⟨k, 1 + a, none⟩ (.int .i64 (b : Int)) = W2 := ⟨_, rfl⟩
    rw [hW2]
    have E0 : Hid (Blk W2 k 24 (rowA (upd f (1 + a) b))) := hid (by rw [← hW2]; exact D0.out.attSet _ _)
    have E2 : Hid (Blk W2 (k + 1 + 1) 24 (rowA fun _ => 0)) := hid (by rw [← hW2]; exact D2.out.far (by simp <;> omega) _)
    have EB : Hid (Below k w W2) := hid (by rw [← hW2]; exact DB.out.setCell (Nat.le_refl _) _)
    clear hW2 c0 c1 g0 f0 D0 D1 D2 DB
    have L1 := hid (len_attr (upd f (1 + a) b))
    have L2 := hid (size_zero (upd f (1 + a) b))
    have L3 := hid (rowA_one (upd f (1 + a) b))
    go_wp2_with (first
      | (with_reducible refine wpList_load_row (o := ⟨some 13, _, _, _, _, _⟩) rfl 24 (.tmp 2) rfl k rfl 24 (rowA (upd f (1 + a) b)) (0, 0) _ E0.out.heap Try.underlying24 rfl L1.out ?_)
      | (with_reducible refine wpList_store_row (o := ⟨none, _, _, _, _, _⟩) rfl 24 (.tmp 4) (.tmp 13) rfl (k + 1 + 1) (rowA (upd f (1 + a) b)) rfl rfl 24 _ E2.out.heap L1.out L2.out L3.out ?_))
    exact bodyPost_ret (v := .agg (rowA (upd f (1 + a) b))) (results_cell_row (p := 4) (ty := 24) (by kernel_rfl) _ _ (k + 1 + 1) 24 (rowA (upd f (1 + a) b)) (0, 0) _ rfl (setRow_heap W2 (k + 1 + 1) _ (rowA (upd f (1 + a) b)) _ _ E2.out.heap) Try.underlying24 rfl L1.out) rfl ⟨by rw [HV2.out], by rw [HK.out]; exact below_setRow_ EB.out (by omega)⟩

set_option maxRecDepth 100000 in
set_option maxHeartbeats 1000000 in
theorem past8 (f : Nat → Int) (q : Int) (w : World) :
    Calls Try.prog 19 #[.agg #[.int .i64 (f 0), .int .i64 (f 1), .int .i64 (f 2), .int .i64 (f 3), .int .i64 (f 4), .int .i64 (f 5), .int .i64 (f 6), .int .i64 (f 7)], .int .i64 q] w fun e w' => e = .returned (.agg (rowA (pastF f q))) ∧ Below w.heap.size w w' := by
  go_enter Try.func19, Try.ntmps19
  go_upto_region 1 with fail
  obtain ⟨W, hW⟩ : ∃ W, (w.alloc (.cells #[.int .i64 (f 0), .int .i64 (f 1), .int .i64 (f 2), .int .i64 (f 3), .int .i64 (f 4), .int .i64 (f 5), .int .i64 (f 6), .int .i64 (f 7)] 24)).alloc (.cells #[.int .i64 0, .int .i64 0, .int .i64 0, .int .i64 0, .int .i64 0, .int .i64 0, .int .i64 0, .int .i64 0] 24) = W := ⟨_, rfl⟩
  rw [hW]
  obtain ⟨K0, K1, KB⟩ := att_new hW
  clear hW
  obtain ⟨k, hk⟩ : ∃ k, w.heap.size = k := ⟨_, rfl⟩
  rw [hk] at K0 K1 KB
  rw [hk]
  have HK := hid hk
  clear hk
  rcases (show 0 ≤ q ∨ q < 0 by omega) with h | h
  · obtain ⟨n, hn⟩ : ∃ n, min q 1073741823 = n := ⟨_, rfl⟩
    have HV2 : Hid (pastF f q = upd f 0 (if f 0 < n + 1 then n + 1 else f 0)) := hid (by unfold pastF; rw [if_pos h, hn])
    have hm := fun (w : World) (ts : Array TypeId) (t : TypeId) => run_mini Try.prog q 1073741823 n hn w ts t
    have hn0 : 0 ≤ n := by omega
    have hn1 : n ≤ 1073741823 := by omega
    clear hn
    obtain ⟨m, hm2⟩ : ∃ m, (if f 0 < n + 1 then n + 1 else f 0) = m := ⟨_, rfl⟩
    have hx := fun (w : World) (ts : Array TypeId) (t : TypeId) => run_maxi Try.prog (f 0) (n + 1) m hm2 w ts t
    rw [hm2] at HV2
    clear hm2
    have c0 := K0.out.att (i := 0) (by decide)
    have f0 := K0.out.frozen 0
    generalize f 0 = z at c0 hx
    go_upto_region 3 with fail
    obtain ⟨W2, hW2⟩ : ∃ W2, W.setCell ⟨k, 0, none⟩ (.int .i64 m) = W2 := ⟨_, rfl⟩
    rw [hW2]
    have E0 : Hid (Blk W2 k 24 (rowA (upd f 0 m))) := hid (by rw [← hW2]; exact K0.out.attSet _ _)
    have E2 : Hid (Blk W2 (k + 1) 24 (rowA fun _ => 0)) := hid (by rw [← hW2]; exact K1.out.far (by simp) _)
    have EB : Hid (Below k w W2) := hid (by rw [← hW2]; exact KB.out.setCell (Nat.le_refl _) _)
    clear hW2 c0 f0 K0 K1 KB hm hx
    have L1 := hid (len_attr (upd f 0 m))
    have L2 := hid (size_zero (upd f 0 m))
    have L3 := hid (rowA_one (upd f 0 m))
    go_wp2_with (first
      | (with_reducible refine wpList_load_row (o := ⟨some 14, _, _, _, _, _⟩) rfl 24 (.tmp 2) rfl k rfl 24 (rowA (upd f 0 m)) (0, 0) _ E0.out.heap Try.underlying24 rfl L1.out ?_)
      | (with_reducible refine wpList_store_row (o := ⟨none, _, _, _, _, _⟩) rfl 24 (.tmp 4) (.tmp 14) rfl (k + 1) (rowA (upd f 0 m)) rfl rfl 24 _ E2.out.heap L1.out L2.out L3.out ?_))
    exact bodyPost_ret (v := .agg (rowA (upd f 0 m))) (results_cell_row (p := 4) (ty := 24) (by kernel_rfl) _ _ (k + 1) 24 (rowA (upd f 0 m)) (0, 0) _ rfl (setRow_heap W2 (k + 1) _ (rowA (upd f 0 m)) _ _ E2.out.heap) Try.underlying24 rfl L1.out) rfl ⟨by rw [HV2.out], by rw [HK.out]; exact below_setRow_ EB.out (by omega)⟩
  · have HV2 : Hid (pastF f q = f) := hid (by unfold pastF; rw [if_neg (by omega)])
    have L1 := hid (len_attr f)
    have L2 := hid (size_zero f)
    have L3 := hid (rowA_one f)
    go_wp2_with (first
      | (with_reducible refine wpList_load_row (o := ⟨some 14, _, _, _, _, _⟩) rfl 24 (.tmp 2) rfl k rfl 24 (rowA f) (0, 0) _ K0.out.heap Try.underlying24 rfl L1.out ?_)
      | (with_reducible refine wpList_store_row (o := ⟨none, _, _, _, _, _⟩) rfl 24 (.tmp 4) (.tmp 14) rfl (k + 1) (rowA f) rfl rfl 24 _ K1.out.heap L1.out L2.out L3.out ?_))
    exact bodyPost_ret (v := .agg (rowA f)) (results_cell_row (p := 4) (ty := 24) (by kernel_rfl) _ _ (k + 1) 24 (rowA f) (0, 0) _ rfl (setRow_heap W (k + 1) _ (rowA f) _ _ K1.out.heap) Try.underlying24 rfl L1.out) rfl ⟨by rw [HV2.out], by rw [HK.out]; exact below_setRow_ KB.out (by omega)⟩

/-- The example's attributes. -/
def exA : Nat → Int := fun i => if i = 3 then 3 else 0
theorem ex_cov (w : World) : Calls Try.prog 16 #[.agg #[.int .i64 0, .int .i64 0, .int .i64 0, .int .i64 3, .int .i64 0, .int .i64 0, .int .i64 0, .int .i64 0], .agg #[.int .i64 2, .int .i64 2]] w fun e w' => e = .returned (.bool true) ∧ Below w.heap.size w w' :=
  covers8 exA 2 2 w
theorem ex_not (w : World) : Calls Try.prog 16 #[.agg #[.int .i64 0, .int .i64 0, .int .i64 0, .int .i64 3, .int .i64 0, .int .i64 0, .int .i64 0, .int .i64 0], .agg #[.int .i64 2, .int .i64 3]] w fun e w' => e = .returned (.bool false) ∧ Below w.heap.size w w' :=
  covers8 exA 2 3 w
theorem ex_own (w : World) : Calls Try.prog 17 #[.agg #[.int .i64 0, .int .i64 0, .int .i64 0, .int .i64 3, .int .i64 0, .int .i64 0, .int .i64 0, .int .i64 0], .agg #[.int .i64 2, .int .i64 3]] w fun e w' => e = .returned (.bool true) ∧ Below w.heap.size w w' :=
  owns8 exA 2 3 w

theorem exA_row : (#[.int .i64 0, .int .i64 0, .int .i64 0, .int .i64 3, .int .i64 0, .int .i64 0, .int .i64 0, .int .i64 0] : Array Value) = rowA exA := rfl
theorem eight_ex {w : World} {g : Nat} (h : Eight w g exA) : w.cell? ⟨g, 0, none⟩ = some (.int .i64 0) ∧ w.cell? ⟨g, 1, none⟩ = some (.int .i64 0) ∧ w.cell? ⟨g, 2, none⟩ = some (.int .i64 0) ∧ w.cell? ⟨g, 3, none⟩ = some (.int .i64 3) ∧ w.cell? ⟨g, 4, none⟩ = some (.int .i64 0) ∧ w.cell? ⟨g, 5, none⟩ = some (.int .i64 0) ∧ w.cell? ⟨g, 6, none⟩ = some (.int .i64 0) ∧ w.cell? ⟨g, 7, none⟩ = some (.int .i64 0) := h

set_option maxRecDepth 100000 in
set_option maxHeartbeats 1000000 in
theorem anchor9 (w : World) : Calls Try.prog 8 #[] w fun e w' => e = .returned (.bool true) ∧ Below w.heap.size w w' := by
  go_enter Try.func8, Try.ntmps8
  go_wp2_with fail
  obtain ⟨W, hW⟩ : ∃ W, w.alloc (.cells #[.int .i64 0, .int .i64 0, .int .i64 0, .int .i64 3, .int .i64 0, .int .i64 0, .int .i64 0, .int .i64 0] 24) = W := ⟨_, rfl⟩
  rw [hW]
  obtain ⟨K0, KB⟩ := one_new hW
  rw [exA_row] at K0
  clear hW
  obtain ⟨k, hk⟩ : ∃ k, w.heap.size = k := ⟨_, rfl⟩
  rw [hk] at K0 KB
  rw [hk]
  have HK := hid hk
  clear hk
  with_reducible refine (ex_cov _).mono ?_
  rintro e w1 ⟨rfl, hb1⟩
  have D0 := hid (K0.out.below hb1 K0.out.lt)
  have DB := hid (KB.out.trans (hb1.mono (by have := K0.out.lt; omega)))
  clear hb1 K0 KB
  obtain ⟨c0, c1, c2, c3, c4, c5, c6, c7⟩ := eight_ex D0.out.eight
  go_wp2_with fail
  clear c0 c1 c2 c3 c4 c5 c6 c7
  with_reducible refine (ex_not _).mono ?_
  rintro e w2 ⟨rfl, hb2⟩
  have E0 := hid (D0.out.below hb2 D0.out.lt)
  have EB := hid (DB.out.trans (hb2.mono (by have := D0.out.lt; omega)))
  clear hb2 D0 DB
  obtain ⟨c0, c1, c2, c3, c4, c5, c6, c7⟩ := eight_ex E0.out.eight
  go_wp2_with fail
  clear c0 c1 c2 c3 c4 c5 c6 c7
  with_reducible refine (ex_own _).mono ?_
  rintro e w3 ⟨rfl, hb3⟩
  have FB := hid (EB.out.trans (hb3.mono (by have := E0.out.lt; omega)))
  clear hb3 E0 EB
  go_wp2
  go_ret
  exact ⟨rfl, by rw [HK.out]; exact FB.out⟩

end Go.Proofs.Ytfpmmajgnijboaa
