/-
  Off a right message's bytes: the contracts of take and Open (package msg).
-/
import Derived.Test.YtohffiehmmcgbaaGreatDoorXYFrame
import Derived.Test.YtohffiehmmcgbaaGreatDoorXD
import Derived.Test.YtohffiehmmcgbaaGreatDoorXC
namespace Go.Proofs.YtohffiehmmcgbaaGreatDoor
open Go.ChangeShapes Go.WideShapes Go.ChangeAt Go.RowKit Go.Lib
set_option linter.unusedVariables false
set_option linter.unusedSimpArgs false
abbrev zrowM : Array Value := #[.int .i64 0, .int .i64 0, .int .i64 0, .int .i64 0, .int .i64 0, .int .u32 0, .bool false, .int .i64 0, .int .i64 0, .int .i64 0, .int .u32 0, .int .u32 0, .bool false, .int .i64 0, .int .u64 0, .string ⟨#[]⟩, .int .u64 0, .string ⟨#[]⟩, .int .i64 0, .int .u64 0, .int .i64 0, .int .i64 0, .int .i64 0, .int .i64 0, .int .i64 0, .int .i64 0, .int .i64 0, .int .i64 0, .int .i64 0]
theorem zrowM_is : zrowM = rowM zeroM := rfl
theorem len_idc (r s : Int) : (Tryz.prog.info? 25).map (·.size) = some (#[Value.int .i64 r, Value.int .i64 s] : Array Value).size := by kernel_rfl
theorem one_idc (r s : Int) : (#[Value.int .i64 r, Value.int .i64 s] : Array Value).all (·.oneCell') = true := by simp [Value.oneCell']
def putAt (cs : Array Value) : Nat → List Value → Array Value
  | _, [] => cs
  | o, d :: ds => putAt (cs.setIfInBounds o d) (o + 1) ds
def TwoM (w0 w : World) (g k n : Nat) (cs : Array Value) (l : List Nat) : Prop :=
  InAt w g l 0 ∧ Blk w k 64 (rowM zeroM) ∧ Blk w n 64 cs ∧ w0.grownBy w (some g) ∧ PartsIs w ∧ 3 < g ∧ g < k ∧ k < n ∧ w0.heap.size ≤ k
section
variable {w0 w w' : World} {g k n : Nat} {cs : Array Value} {l l' : List Nat}
theorem TwoM.iat (h : TwoM w0 w g k n cs l) : InAt w g l 0 := h.1
theorem TwoM.res (h : TwoM w0 w g k n cs l) : Blk w k 64 (rowM zeroM) := h.2.1
theorem TwoM.box (h : TwoM w0 w g k n cs l) : Blk w n 64 cs := h.2.2.1
theorem TwoM.grown (h : TwoM w0 w g k n cs l) : w0.grownBy w (some g) := h.2.2.2.1
theorem TwoM.parts (h : TwoM w0 w g k n cs l) : PartsIs w := h.2.2.2.2.1
theorem TwoM.turn (h : TwoM w0 w g k n cs l) (hi : InAt w' g l' 0) (hb : w.grownBy w' (some g)) : TwoM w0 w' g k n cs l' := by
  obtain ⟨h1, h2, h3, h4, h5, h6, h7, h8, h9⟩ := h
  exact ⟨hi, h2.grown hb (by intro e; injection e with e; omega), h3.grown hb (by intro e; injection e with e; omega), h4.trans hb, var_grown gParts h5 h5.lt (by intro e; injection e with e; omega) hb, h6, h7, h8, h9⟩
theorem TwoM.set_ (h : TwoM w0 w g k n cs l) (i : Nat) (u : Value) : TwoM w0 (w.setCell ⟨n, i, none⟩ u) g k n (cs.setIfInBounds i u) l := by
  obtain ⟨h1, h2, h3, h4, h5, h6, h7, h8, h9⟩ := h
  exact ⟨h1.setCell (by omega), h2.far (by show k ≠ n; omega) u, h3.set_ i u, only_setCell (p := ⟨n, i, none⟩) h4 (.inr (by show w0.heap.size ≤ n; omega)) u, var_under gParts h5 (base := n) (by omega) (Below.setCell (p := ⟨n, i, none⟩) (Below.refl _ _) (Nat.le_refl _) u), h6, h7, h8, h9⟩
theorem TwoM.last (h : TwoM w0 w g k n cs l) (d : Array Value) : InAt (w.setRow k d) g l 0 ∧ w0.grownBy (w.setRow k d) (some g) := by
  obtain ⟨h1, h2, h3, h4, h5, h6, h7, h8, h9⟩ := h
  exact ⟨h1.setRow h7, only_setRow h4 h9⟩
theorem TwoM.there (h : TwoM w0 w g k n cs l) {o m : Nat} (hs : o + m ≤ cs.size) : w.there n o m := fun j hj => by
  refine ⟨?_, h.box.frozen _⟩
  rw [h.box.cell, Array.getElem?_eq_getElem (by omega)]
  rfl
end
theorem TwoM.sets {w0 : World} {g k n : Nat} {l : List Nat} : ∀ (ds : List Value) (w : World) (cs : Array Value) (o : Nat), TwoM w0 w g k n cs l → TwoM w0 (w.setCells n o ds) g k n (putAt cs o ds) l
  | [], _, _, _, h => h
  | d :: ds, w, cs, o, h => TwoM.sets ds (w.setCell ⟨n, o, none⟩ d) (cs.setIfInBounds o d) (o + 1) (h.set_ o d)
theorem put_known (k a b r s v : Int) (ok : Bool) (x : J) : putAt (rowM ⟨k, a, b, r, s, v, ok, zeroJ⟩) 7 (rowJ x).toList = rowM ⟨k, a, b, r, s, v, ok, x⟩ := by
  simp only [rowM, rowJ, putAt, List.setIfInBounds_toArray, List.set_cons_zero, List.set_cons_succ]
set_option maxRecDepth 100000 in
set_option maxHeartbeats 8000000 in
theorem mtake_as (g k a b r s v : Nat) (ok : Bool) (x : J) (tl : List Nat) (w : World) (L L1 L2 L3 L4 L5 : List Nat) (h : InAt w g L 0) (hL : L = k :: L1) (hL1 : L1 = a :: L2) (hL2 : L2 = b :: L3) (hS3 : Sound L3 0) (h3 : sName L3 0 = (L4, 0, r, s)) (hS4 : Sound L4 0) (h4 : sBallot L4 0 = (L5, 0, v)) (hS5 : Sound L5 0) (h5 : sTruth L5 0 = (tl, 0, ok)) (hS6 : Sound tl 0)
    (h6 : k = 6 → tl = [] ∧ x = zeroJ) (h7 : k ≠ 6 → False) (hP : PartsIs w) (hg : 3 < g) (k0 : 0 < k) (k8 : k < 8) (ha : a ≤ 6) (hb : b ≤ 6) :
    Calls Tryz.prog 77 #[.pointer (some ⟨g, 0, none⟩)] w (Turns (fun en => en = .returned (.agg (rowM ⟨k, a, b, r, s, v, ok, x⟩))) g [] 0 w) := by
  subst hL hL1 hL2
  have HI := hid h
  have HS3 := hid hS3
  have HS4 := hid hS4
  have HS5 := hid hS5
  have HS6 := hid hS6
  have H3 := hid h3
  have H4 := hid h4
  have H5 := hid h5
  have H6 := hid h6
  have H7 := hid h7
  have HP := hid hP
  have hgl := h.lt
  have HKB := hid (show kindB (k : Int) = true by unfold kindB; exact decide_eq_true ⟨by omega, by omega⟩)
  have HRA := hid (show repB (a : Int) = true by unfold repB; exact decide_eq_true ⟨by omega, by omega⟩)
  have HRB := hid (show repB (b : Int) = true by unfold repB; exact decide_eq_true ⟨by omega, by omega⟩)
  have W1 : IntKind.i64.wrap (k : Int) = k := by rw [IntKind.wrap_i64]; omega
  have W2 : IntKind.i64.wrap (a : Int) = a := by rw [IntKind.wrap_i64]; omega
  have W3 : IntKind.i64.wrap (b : Int) = b := by rw [IntKind.wrap_i64]; omega
  clear h hS3 hS4 hS5 hS6 h3 h4 h5 h6 h7 hP
  go_enter Tryz.func77, Tryz.ntmps77
  go_upto_region 1 with fail
  obtain ⟨W, hW⟩ : ∃ W, w.alloc (.cells zrowM 64) = W := ⟨_, rfl⟩
  rw [hW]
  obtain ⟨K0, KB⟩ := one_new hW
  rw [zrowM_is] at K0
  have HI0 := hid (HI.out.keep (KB.out.mono (by omega)))
  have P0 := hid (HP.out.below KB.out)
  have G0 := hid (only_of_below KB.out (some g))
  clear hW KB HI HP
  obtain ⟨q, hq⟩ : ∃ q, w.heap.size = q := ⟨_, rfl⟩
  have HQ := hid hq
  rw [hq] at K0 hgl
  rw [hq]
  clear hq
  go_wp2_with fail
  with_reducible refine (byte_any g (k :: a :: b :: L3) 0 (a :: b :: L3) 0 k _ HI0.out (fine0 _) rfl).mono ?_
  rintro en w1 ⟨rfl, hin, hgr⟩
  have I1 := hid hin
  have R1 := hid (K0.out.grown hgr (by intro e; injection e with e; omega))
  have P1 : Hid (PartsIs w1) := hid (var_grown gParts P0.out P0.out.lt (by intro e; injection e with e; omega) hgr)
  have G1 := hid (G0.out.trans hgr)
  clear hin hgr HI0 K0 P0 G0
  obtain ⟨n, hn⟩ : ∃ n, w1.heap.size = n := ⟨_, rfl⟩
  have E0 : Hid (Blk (w1.alloc (.cells zrowM 64)) n 64 zrowM) := hid (by rw [← hn]; exact Blk.new w1 64 zrowM)
  have A0 : Hid (TwoM w ((w1.alloc (.cells zrowM 64)).setRow n (rowM ⟨(k : Int), 0, 0, 0, 0, 0, false, zeroJ⟩)) g q n (rowM ⟨(k : Int), 0, 0, 0, 0, 0, false, zeroJ⟩) (a :: b :: L3)) := hid (by
    have hlt := R1.out.lt
    have hI := (I1.out.keep ((Below.refl _ _).alloc (by have := I1.out.lt; omega) (.cells zrowM 64))).setRow (r := n) (cs := rowM ⟨(k : Int), 0, 0, 0, 0, 0, false, zeroJ⟩) (by omega)
    have hG := only_setRow (r := n) (cs := rowM ⟨(k : Int), 0, 0, 0, 0, 0, false, zeroJ⟩) (only_below G1.out ((Below.refl _ _).alloc (Nat.le_refl _) (.cells zrowM 64))) (by rw [HQ.out]; omega)
    exact ⟨hI, (R1.out.alloc _).rowFar (by omega) _, E0.out.row _, hG, var_under gParts (P1.out.alloc (.cells zrowM 64)) (base := n) (by omega) (below_setRow_ (Below.refl _ _) (Nat.le_refl _)), hg, by omega, by omega, by rw [HQ.out]; exact Nat.le_refl _⟩)
  have N1 := hid (len_msg ⟨(k : Int), 0, 0, 0, 0, 0, false, zeroJ⟩)
  have N2 := hid (size_msg zeroM ⟨(k : Int), 0, 0, 0, 0, 0, false, zeroJ⟩)
  have N3 := hid (rowM_one ⟨(k : Int), 0, 0, 0, 0, 0, false, zeroJ⟩)
  go_upto_region 2 with (refine wpList_store_row (o := ⟨none, _, _, _, _, _⟩) rfl 64 (.tmp 3) (.tmp 7) rfl n (rowM ⟨(k : Int), 0, 0, 0, 0, 0, false, zeroJ⟩) rfl ?hy 64 zrowM E0.out.heap N1.out N2.out N3.out ?_; (case hy => rfl))
  obtain ⟨W2, hW2⟩ : ∃ W2, (w1.alloc (.cells zrowM 64)).setRow n (rowM ⟨(k : Int), 0, 0, 0, 0, 0, false, zeroJ⟩) = W2 := ⟨_, rfl⟩
  rw [hW2] at A0
  rw [hW2]
  clear hW2 hn E0 I1 R1 P1 G1 N1 N2 N3 W1
  have c0 := A0.out.box.m0
  go_wp2_with fail
  with_reducible refine (mkind_any (k : Int) _).mono ?_
  rw [HKB.out]
  rintro en w2 ⟨rfl, rfl⟩
  clear c0
  go_wp2_with fail
  with_reducible refine (byte_any g (a :: b :: L3) 0 (b :: L3) 0 a _ A0.out.iat (fine0 _) rfl).mono ?_
  rintro en w3 ⟨rfl, hin, hgr⟩
  have A1 := hid (A0.out.turn hin hgr)
  clear hin hgr A0
  have c1 := A1.out.box.m1
  have f1 := A1.out.box.frozen 1
  have A2 : Hid (TwoM w (w3.setCell ⟨n, 1, none⟩ (.int .i64 (a : Int))) g q n (rowM ⟨(k : Int), (a : Int), 0, 0, 0, 0, false, zeroJ⟩) (b :: L3)) := hid (A1.out.set_ 1 (.int .i64 (a : Int)))
  clear A1
  go_wp2_with fail
  clear c1 f1
  with_reducible refine (byte_any g (b :: L3) 0 L3 0 b _ A2.out.iat (fine0 _) rfl).mono ?_
  rintro en w4 ⟨rfl, hin, hgr⟩
  have A3 := hid (A2.out.turn hin hgr)
  clear hin hgr A2 W2
  have c2 := A3.out.box.m2
  have f2 := A3.out.box.frozen 2
  have A4 : Hid (TwoM w (w4.setCell ⟨n, 2, none⟩ (.int .i64 (b : Int))) g q n (rowM ⟨(k : Int), (a : Int), (b : Int), 0, 0, 0, false, zeroJ⟩) L3) := hid (A3.out.set_ 2 (.int .i64 (b : Int)))
  clear A3
  go_upto_region 6 with fail
  obtain ⟨W4, hW4⟩ : ∃ W4, w4.setCell ⟨n, 2, none⟩ (.int .i64 (b : Int)) = W4 := ⟨_, rfl⟩
  rw [hW4] at A4
  rw [hW4]
  clear hW4 c2 f2 W3
  have c1 := A4.out.box.m1
  have c2 := A4.out.box.m2
  go_wp2_with fail
  with_reducible refine (isrep_any (a : Int) _).mono ?_
  rw [HRA.out]
  rintro en w5 ⟨rfl, rfl⟩
  go_wp2_with fail
  with_reducible refine (isrep_any (b : Int) _).mono ?_
  rw [HRB.out]
  rintro en w5 ⟨rfl, rfl⟩
  clear c1 c2
  go_wp2_with fail
  with_reducible refine (takeid_any g L3 0 L4 0 r s _ A4.out.iat HS3.out.fine HS3.out.bytes HS3.out.len H3.out).mono ?_
  rintro en w6 ⟨rfl, hin, hgr⟩
  have A5 := hid (A4.out.turn hin hgr)
  clear hin hgr A4
  have TH := hid (A5.out.there (o := 3) (m := 2) (by rw [rowM_size]; decide))
  have TL := hid (len_idc (r : Int) (s : Int))
  have TO := hid (one_idc (r : Int) (s : Int))
  have A6 : Hid (TwoM w (w6.setCells n 3 [.int .i64 (r : Int), .int .i64 (s : Int)]) g q n (rowM ⟨(k : Int), (a : Int), (b : Int), (r : Int), (s : Int), 0, false, zeroJ⟩) L4) := hid (A5.out.sets [.int .i64 (r : Int), .int .i64 (s : Int)] w6 _ 3)
  clear A5
  go_upto_region 9 with (refine wpList_store_mid (op := ⟨none, _, _, _, _, _⟩) rfl 25 (.tmp 36) (.tmp 35) rfl n 3 #[.int .i64 (r : Int), .int .i64 (s : Int)] rfl ?hy TH.out TL.out TO.out ?_; (case hy => rfl))
  obtain ⟨W6, hW6⟩ : ∃ W6, w6.setCells n 3 [.int .i64 (r : Int), .int .i64 (s : Int)] = W6 := ⟨_, rfl⟩
  rw [hW6] at A6
  rw [hW6]
  clear hW6 TH TL TO
  go_wp2_with fail
  with_reducible refine (takeballot_any g L4 0 L5 0 v _ A6.out.iat HS4.out.fine HS4.out.bytes HS4.out.len H4.out).mono ?_
  rintro en w7 ⟨rfl, hin, hgr⟩
  have A7 := hid (A6.out.turn hin hgr)
  clear hin hgr A6
  have c5 := A7.out.box.m5
  have f5 := A7.out.box.frozen 5
  have A8 : Hid (TwoM w (w7.setCell ⟨n, 5, none⟩ (.int .u32 (v : Int))) g q n (rowM ⟨(k : Int), (a : Int), (b : Int), (r : Int), (s : Int), (v : Int), false, zeroJ⟩) L5) := hid (A7.out.set_ 5 (.int .u32 (v : Int)))
  clear A7
  go_wp2_with fail
  clear c5 f5
  with_reducible refine (truth_any g L5 0 tl 0 ok _ A8.out.iat HS5.out.fine HS5.out.bytes H5.out).mono ?_
  rintro en w8 ⟨rfl, hin, hgr⟩
  have A9 := hid (A8.out.turn hin hgr)
  clear hin hgr A8
  have c6 := A9.out.box.m6
  have f6 := A9.out.box.frozen 6
  have B0 : Hid (TwoM w (w8.setCell ⟨n, 6, none⟩ (.bool ok)) g q n (rowM ⟨(k : Int), (a : Int), (b : Int), (r : Int), (s : Int), (v : Int), ok, zeroJ⟩) tl) := hid (A9.out.set_ 6 (.bool ok))
  clear A9
  go_upto_region 11 with fail
  obtain ⟨W8, hW8⟩ : ∃ W8, w8.setCell ⟨n, 6, none⟩ (.bool ok) = W8 := ⟨_, rfl⟩
  rw [hW8] at B0
  rw [hW8]
  clear hW8 c6 f6
  have c0 := B0.out.box.m0
  have N1 := hid (len_msg ⟨(k : Int), (a : Int), (b : Int), (r : Int), (s : Int), (v : Int), ok, x⟩)
  have N2 := hid (size_msg zeroM ⟨(k : Int), (a : Int), (b : Int), (r : Int), (s : Int), (v : Int), ok, x⟩)
  have N3 := hid (rowM_one ⟨(k : Int), (a : Int), (b : Int), (r : Int), (s : Int), (v : Int), ok, x⟩)
  by_cases hk6 : k = 6
  · obtain ⟨ht, hx0⟩ := H6.out hk6
    subst ht
    subst hx0
    subst hk6
    have B0 : Hid (TwoM w W8 g q n (rowM ⟨6, (a : Int), (b : Int), (r : Int), (s : Int), (v : Int), ok, zeroJ⟩) []) := B0
    clear c0 N1 N2 N3
    have c0 := B0.out.box.m0
    have N1 := hid (len_msg ⟨6, (a : Int), (b : Int), (r : Int), (s : Int), (v : Int), ok, zeroJ⟩)
    have N2 := hid (size_msg zeroM ⟨6, (a : Int), (b : Int), (r : Int), (s : Int), (v : Int), ok, zeroJ⟩)
    have N3 := hid (rowM_one ⟨6, (a : Int), (b : Int), (r : Int), (s : Int), (v : Int), ok, zeroJ⟩)
    have T3 := hid (B0.out.last (rowM ⟨6, (a : Int), (b : Int), (r : Int), (s : Int), (v : Int), ok, zeroJ⟩))
    go_wp2_with (first
      | (with_reducible refine wpList_load_row (o := ⟨some 49, _, _, _, _, _⟩) rfl 64 (.tmp 3) rfl n rfl 64 (rowM ⟨6, (a : Int), (b : Int), (r : Int), (s : Int), (v : Int), ok, zeroJ⟩) (0, 0) _ B0.out.box.heap Tryz.underlying64 rfl N1.out ?_)
      | (with_reducible refine wpList_store_row (o := ⟨none, _, _, _, _, _⟩) rfl 64 (.tmp 2) (.tmp 49) rfl q (rowM ⟨6, (a : Int), (b : Int), (r : Int), (s : Int), (v : Int), ok, zeroJ⟩) rfl rfl 64 (rowM zeroM) B0.out.res.heap N1.out N2.out N3.out ?_))
    exact bodyPost_ret (v := .agg (rowM ⟨6, (a : Int), (b : Int), (r : Int), (s : Int), (v : Int), ok, zeroJ⟩)) (results_cell_row (p := 2) (ty := 64) (by kernel_rfl) _ _ q 64 (rowM ⟨6, (a : Int), (b : Int), (r : Int), (s : Int), (v : Int), ok, zeroJ⟩) (0, 0) _ rfl (setRow_heap _ q _ (rowM ⟨6, (a : Int), (b : Int), (r : Int), (s : Int), (v : Int), ok, zeroJ⟩) _ _ B0.out.res.heap) Tryz.underlying64 rfl N1.out) rfl ⟨rfl, T3.out.1, T3.out.2⟩
  · exact (H7.out hk6).elim
theorem mtake_right (g : Nat) (m : Ms) (w : World) (h : InAt w g (encM m) 0) (hm6 : m.k = 6) (hok : okM m) (hr : rightM m = true) (hP : PartsIs w) (hg : 3 < g) :
    Calls Tryz.prog 77 #[.pointer (some ⟨g, 0, none⟩)] w (Turns (fun en => en = .returned (.agg (rowM m))) g [] 0 w) := by
  have hlen := encM_len m hok hr
  have hby := encM_byte m hok hr
  have hsnd : ∀ l : List Nat, (∀ y ∈ l, y ∈ encM m) → l.length ≤ 440 → Sound l 0 := fun l h1 h2 => ⟨fine0 _, fun y hy => hby y (h1 y hy), by omega⟩
  obtain ⟨k, a, b, r, s, v, hk, ha, hb, hr', hs, hv, h0, h8, ha6, hb6, hr7, hs10, hvv, hvb, h6, hx⟩ := rightM_in hok hr
  obtain ⟨k', a', b', r', s', v', ok, x⟩ := m
  simp only at hk ha hb hr' hs hv h6 hx
  subst hk ha hb hr' hs hv
  have he : encM ⟨k, a, b, r, s, v, ok, x⟩ = k :: a :: b :: (([r] ++ shortN s) ++ (shortN v ++ ([truthN ok] ++ (if k = 6 then [] else encJ x)))) := by
    unfold encM headM tailM
    simp only [Int.toNat_natCast, List.append_assoc, List.nil_append, List.cons_append]
    by_cases hz : k = 6
    · subst hz; rfl
    · rw [if_neg hz, if_neg (by omega)]
  rw [he] at h hlen hsnd
  have key : ∃ y, (k = 6 → (if k = 6 then [] else encJ x) = ([] : List Nat) ∧ y = zeroJ) ∧ (k ≠ 6 → False) ∧ eqJ y x = true := by
    by_cases hz : k = 6
    · refine ⟨zeroJ, fun _ => ⟨by rw [if_pos hz], rfl⟩, fun h => absurd hz h, ?_⟩
      have := (h6 hz).2
      unfold eqJ at this ⊢
      simp only [Bool.and_eq_true, beq_iff_eq, decide_eq_true_eq, eqA_iff] at this ⊢
      obtain ⟨⟨a1, a2⟩, a3, a4, a5, a6, a7, a8⟩ := this
      exact ⟨⟨a1.symm, a2.symm⟩, a3.symm, a4.symm, a5.symm, a6.symm, a7.symm, fun i hi => (a8 i hi).symm⟩
    · exact absurd (by have h : ((k : Nat) : Int) = 6 := hm6; omega) hz
  obtain ⟨y, y6, y7, ye⟩ := key
  have hrow : rowM ⟨k, a, b, r, s, v, ok, y⟩ = rowM ⟨k, a, b, r, s, v, ok, x⟩ := rowM_congr (by unfold eqM; simp [ye])
  rw [← hrow]
  generalize (if k = 6 then [] else encJ x) = tl at *
  simp only [List.length_cons, List.length_append, List.length_nil] at hlen
  exact mtake_as g k a b r s v ok y tl w _ _ _ _ _ _ h rfl rfl rfl (hsnd _ (fun z hz => List.mem_cons_of_mem _ (List.mem_cons_of_mem _ (List.mem_cons_of_mem _ (hz)))) (by simp only [List.length_cons, List.length_append, List.length_nil]; omega)) (sName_put r s _ hr7 hs10)
    (hsnd _ (fun z hz => List.mem_cons_of_mem _ (List.mem_cons_of_mem _ (List.mem_cons_of_mem _ (List.mem_append_right _ hz)))) (by simp only [List.length_cons, List.length_append, List.length_nil]; omega)) (sBallot_put v _ hvv hvb)
    (hsnd _ (fun z hz => List.mem_cons_of_mem _ (List.mem_cons_of_mem _ (List.mem_cons_of_mem _ (List.mem_append_right _ (List.mem_append_right _ hz))))) (by simp only [List.length_cons, List.length_append, List.length_nil]; omega)) (sTruth_put ok _)
    (hsnd _ (fun z hz => List.mem_cons_of_mem _ (List.mem_cons_of_mem _ (List.mem_cons_of_mem _ (List.mem_append_right _ (List.mem_append_right _ (List.mem_append_right _ hz)))))) (by omega)) y6 y7 hP hg h0 h8 ha6 hb6
end Go.Proofs.YtohffiehmmcgbaaGreatDoor
