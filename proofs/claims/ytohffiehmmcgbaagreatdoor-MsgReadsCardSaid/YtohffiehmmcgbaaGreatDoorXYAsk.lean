/-
  What is asked, and what is told to it: the contracts of apart, Ask, Reply (package msg).
-/
import Derived.Test.YtohffiehmmcgbaaGreatDoorXYTake
namespace Go.Proofs.YtohffiehmmcgbaaGreatDoor
open Go.ChangeShapes Go.WideShapes Go.ChangeAt Go.RowKit Go.Lib
set_option linter.unusedVariables false
set_option linter.unusedSimpArgs false
set_option maxHeartbeats 400000 in
theorem mclone_any (s : ByteArray) (w : World) (hs : s.size ≤ 281474976710656) : Calls Tryz.prog 132 #[.string s] w fun e w' => e = .returned (.string s) ∧ Below w.heap.size w w' := by
  go_enter Tryz.func132, Tryz.ntmps132
  go_wp2_with fail
  refine (Tryz.stringslite_Clone s _ hs).mono ?_
  rintro e w1 ⟨rfl, hb⟩
  have HB := hid hb
  clear hb
  go_wp2
  go_ret
  exact ⟨rfl, HB.out⟩
set_option maxRecDepth 100000 in
set_option maxHeartbeats 4000000 in
theorem apart_any (x : J) (w : World) (hf : x.c.foot.size ≤ 281474976710656) (hp : x.c.path.size ≤ 281474976710656) :
    Calls Tryz.prog 84 #[.agg (rowJ x)] w fun e w' => e = .returned (.agg (rowJ x)) ∧ Below w.heap.size w w' := by
  have L1 := hid (len_inst x)
  have L3 := hid (rowJ_one x)
  go_enter Tryz.func84, Tryz.ntmps84
  go_upto_region 1 with fail
  obtain ⟨W, hW⟩ : ∃ W, (w.alloc (.cells (rowJ x) 37)).alloc (.cells zrow 37) = W := ⟨_, rfl⟩
  rw [hW]
  obtain ⟨K0, K1, KB⟩ := two_new hW
  rw [zrow_is] at K1
  clear hW
  obtain ⟨k, hk⟩ : ∃ k, w.heap.size = k := ⟨_, rfl⟩
  rw [hk] at K0 K1 KB
  rw [hk]
  have HK := hid hk
  clear hk
  have c8 := K0.out.j8
  go_wp2_with fail
  with_reducible refine (mclone_any x.c.foot _ hf).mono ?_
  rintro e w1 ⟨rfl, hb⟩
  have D0 := hid (K0.out.below hb K0.out.lt)
  have D1 := hid (K1.out.below hb K1.out.lt)
  have DB := hid (below_pay KB.out (by have := K0.out.lt; omega) hb)
  clear hb c8 K0 K1 KB
  have c8 := D0.out.j8
  have f8 := D0.out.frozen 8
  have E0 : Hid (Blk (w1.setCell ⟨k, 8, none⟩ (.string x.c.foot)) k 37 (rowJ x)) := hid (D0.out.set_ 8 (.string x.c.foot))
  have E1 := hid (D1.out.far (p := ⟨k, 8, none⟩) (by show k + 1 ≠ k; omega) (.string x.c.foot))
  have EB := hid (DB.out.setCell (p := ⟨k, 8, none⟩) (Nat.le_refl _) (.string x.c.foot))
  go_upto_region 2 with fail
  obtain ⟨W2, hW2⟩ : ∃ W2, w1.setCell ⟨k, 8, none⟩ (.string x.c.foot) = W2 := ⟨_, rfl⟩
  rw [hW2] at E0 E1 EB
  rw [hW2]
  clear hW2 c8 f8 D0 D1 DB
  have c10 := E0.out.j10
  go_wp2_with fail
  with_reducible refine (mclone_any x.c.path _ hp).mono ?_
  rintro e w2 ⟨rfl, hb⟩
  have D0 := hid (E0.out.below hb E0.out.lt)
  have D1 := hid (E1.out.below hb E1.out.lt)
  have DB := hid (below_pay EB.out (by have := E0.out.lt; omega) hb)
  clear hb c10 E0 E1 EB
  have c10 := D0.out.j10
  have f10 := D0.out.frozen 10
  have E0 : Hid (Blk (w2.setCell ⟨k, 10, none⟩ (.string x.c.path)) k 37 (rowJ x)) := hid (D0.out.set_ 10 (.string x.c.path))
  have E1 := hid (D1.out.far (p := ⟨k, 10, none⟩) (by show k + 1 ≠ k; omega) (.string x.c.path))
  have EB := hid (DB.out.setCell (p := ⟨k, 10, none⟩) (Nat.le_refl _) (.string x.c.path))
  go_upto_region 3 with fail
  obtain ⟨W3, hW3⟩ : ∃ W3, w2.setCell ⟨k, 10, none⟩ (.string x.c.path) = W3 := ⟨_, rfl⟩
  rw [hW3] at E0 E1 EB
  rw [hW3]
  clear hW3 c10 f10 D0 D1 DB
  go_wp2_with (first
    | (with_reducible refine wpList_load_row (o := ⟨some 17, _, _, _, _, _⟩) rfl 37 (.tmp 1) rfl k rfl 37 (rowJ x) (0, 0) _ E0.out.heap Tryz.underlying37 rfl L1.out ?_)
    | (with_reducible refine wpList_store_row (o := ⟨none, _, _, _, _, _⟩) rfl 37 (.tmp 2) (.tmp 17) rfl (k + 1) (rowJ x) rfl rfl 37 (rowJ zeroJ) E1.out.heap L1.out (size_inst _ _) L3.out ?_))
  exact bodyPost_ret (v := .agg (rowJ x)) (results_cell_row (p := 2) (ty := 37) (by kernel_rfl) _ _ (k + 1) 37 (rowJ x) (0, 0) _ rfl (setRow_heap W3 (k + 1) _ _ _ _ E1.out.heap) Tryz.underlying37 rfl L1.out) rfl ⟨rfl, by rw [HK.out]; exact below_setRow_ EB.out (by omega)⟩
theorem Blk.sets {g : Nat} {T : TypeId} : ∀ (ds : List Value) (w : World) (cs : Array Value) (o : Nat), Blk w g T cs → Blk (w.setCells g o ds) g T (putAt cs o ds)
  | [], _, _, _, h => h
  | d :: ds, w, cs, o, h => Blk.sets ds (w.setCell ⟨g, o, none⟩ d) (cs.setIfInBounds o d) (o + 1) (h.set_ o d)
theorem Blk.setsFar {g q : Nat} {T : TypeId} {cs : Array Value} (hne : g ≠ q) : ∀ (ds : List Value) (w : World) (o : Nat), Blk w g T cs → Blk (w.setCells q o ds) g T cs
  | [], _, _, h => h
  | d :: ds, w, o, h => Blk.setsFar hne ds (w.setCell ⟨q, o, none⟩ d) (o + 1) (h.far (p := ⟨q, o, none⟩) hne d)
theorem below_sets {k q : Nat} {w0 : World} (hq : k ≤ q) : ∀ (ds : List Value) (w : World) (o : Nat), Below k w0 w → Below k w0 (w.setCells q o ds)
  | [], _, _, h => h
  | d :: ds, w, o, h => below_sets hq ds (w.setCell ⟨q, o, none⟩ d) (o + 1) (h.setCell (p := ⟨q, o, none⟩) hq d)
theorem Blk.thereM {w : World} {g : Nat} {T : TypeId} {cs : Array Value} (h : Blk w g T cs) {o m : Nat} (hs : o + m ≤ cs.size) : w.there g o m := fun j hj => by
  refine ⟨?_, h.frozen _⟩
  rw [h.cell, Array.getElem?_eq_getElem (by omega)]
  rfl
def askM (k a b bal : Int) (x : J) : Ms := ⟨k, a, b, x.r, x.s, bal, false, if k = 6 then zeroJ else askedJ k bal x⟩
set_option maxRecDepth 100000 in
set_option maxHeartbeats 4000000 in
theorem ask_any (k a b bal : Int) (x : J) (w : World) (hk : k = 1 ∨ k = 3 ∨ k = 5 ∨ k = 6) (hf : x.c.foot.size ≤ 281474976710656) (hp : x.c.path.size ≤ 281474976710656) :
    Calls Tryz.prog 33 #[.int .i64 k, .int .i64 a, .int .i64 b, .int .u32 bal, .agg (rowJ x)] w fun e w' => e = .returned (.agg (rowM (askM k a b bal x))) ∧ Below w.heap.size w w' := by
  have L1 := hid (len_inst x)
  have M1 := hid (len_msg (askM k a b bal x))
  have M3 := hid (rowM_one (askM k a b bal x))
  have N1 := hid (len_msg ⟨k, a, b, x.r, x.s, bal, false, zeroJ⟩)
  have N3 := hid (rowM_one ⟨k, a, b, x.r, x.s, bal, false, zeroJ⟩)
  have HKK := hid hk
  clear hk
  go_enter Tryz.func33, Tryz.ntmps33
  go_upto_region 1 with fail
  obtain ⟨W, hW⟩ : ∃ W, (w.alloc (.cells (rowJ x) 37)).alloc (.cells zrowM 64) = W := ⟨_, rfl⟩
  rw [hW]
  obtain ⟨K0, K1, KB⟩ := two_new hW
  rw [zrowM_is] at K1
  clear hW
  obtain ⟨g, hg⟩ : ∃ g, w.heap.size = g := ⟨_, rfl⟩
  rw [hg] at K0 K1 KB
  rw [hg]
  have HG := hid hg
  clear hg
  have c0 := K0.out.j0
  have c1 := K0.out.j1
  obtain ⟨n, hn⟩ : ∃ n, W.heap.size = n := ⟨_, rfl⟩
  have hgn : g + 1 < n := by have := K1.out.lt; omega
  have E0 : Hid (Blk (W.alloc (.cells zrowM 64)) n 64 zrowM) := hid (by rw [← hn]; exact Blk.new W 64 zrowM)
  go_upto_region 2 with (refine wpList_store_row (o := ⟨none, _, _, _, _, _⟩) rfl 64 (.tmp 11) (.tmp 18) rfl n (rowM ⟨k, a, b, x.r, x.s, bal, false, zeroJ⟩) rfl ?hy 64 zrowM E0.out.heap N1.out rfl N3.out ?_; (case hy => rfl))
  obtain ⟨W2, hW2⟩ : ∃ W2, (W.alloc (.cells zrowM 64)).setRow n (rowM ⟨k, a, b, x.r, x.s, bal, false, zeroJ⟩) = W2 := ⟨_, rfl⟩
  have F0 : Hid (Blk W2 g 37 (rowJ x)) := hid (by rw [← hW2]; exact (K0.out.alloc _).rowFar (by omega) _)
  have F1 : Hid (Blk W2 (g + 1) 64 (rowM zeroM)) := hid (by rw [← hW2]; exact (K1.out.alloc _).rowFar (by omega) _)
  have F2 : Hid (Blk W2 n 64 (rowM ⟨k, a, b, x.r, x.s, bal, false, zeroJ⟩)) := hid (by rw [← hW2]; exact E0.out.row _)
  have FB : Hid (Below g w W2) := hid (by rw [← hW2]; exact below_setRow_ (KB.out.trans ((Below.refl g W).alloc (by omega) _)) (by omega))
  rw [hW2]
  clear hW2 hn E0 K0 K1 KB c0 c1 N1 N3
  by_cases h6 : k = 6
  · have h6b : (k == 6) = true := beq_iff_eq.2 h6
    have HA : Hid (rowM ⟨k, a, b, x.r, x.s, bal, false, zeroJ⟩ = rowM (askM k a b bal x)) := hid (by unfold askM; rw [if_pos h6])
    rw [HA.out] at F2
    clear h6 HA
    go_wp2_with (first
      | (with_reducible refine wpList_load_row (o := ⟨some 27, _, _, _, _, _⟩) rfl 64 (.tmp 11) rfl n rfl 64 (rowM (askM k a b bal x)) (0, 0) _ F2.out.heap Tryz.underlying64 rfl M1.out ?_)
      | (with_reducible refine wpList_store_row (o := ⟨none, _, _, _, _, _⟩) rfl 64 (.tmp 10) (.tmp 27) rfl (g + 1) (rowM (askM k a b bal x)) rfl rfl 64 (rowM zeroM) F1.out.heap M1.out (size_msg _ _) M3.out ?_))
    exact bodyPost_ret (v := .agg (rowM (askM k a b bal x))) (results_cell_row (p := 10) (ty := 64) (by kernel_rfl) _ _ (g + 1) 64 (rowM (askM k a b bal x)) (0, 0) _ rfl (setRow_heap W2 (g + 1) _ _ _ _ F1.out.heap) Tryz.underlying64 rfl M1.out) rfl ⟨rfl, by rw [HG.out]; exact below_setRow_ FB.out (by omega)⟩
  · have h6b : (k == 6) = false := beq_eq_false_iff_ne.2 h6
    have HA : Hid (rowM ⟨k, a, b, x.r, x.s, bal, false, askedJ k bal x⟩ = rowM (askM k a b bal x)) := hid (by unfold askM; rw [if_neg h6])
    have HK3 : Hid (k = 1 ∨ k = 3 ∨ k = 5) := hid (by have := HKK.out; omega)
    clear h6
    go_wp2_with (with_reducible refine wpList_load_row (o := ⟨some 23, _, _, _, _, _⟩) rfl 37 (.tmp 9) rfl g rfl 37 (rowJ x) (0, 0) _ F0.out.heap Tryz.underlying37 rfl L1.out ?_)
    with_reducible refine (apart_any x _ hf hp).mono ?_
    rintro e w3 ⟨rfl, hb⟩
    have G1 := hid (F1.out.below hb F1.out.lt)
    have G2 := hid (F2.out.below hb F2.out.lt)
    have GB := hid (below_pay FB.out (by have := F0.out.lt; omega) hb)
    clear hb F0 F1 F2 FB
    go_wp2_with fail
    with_reducible refine (asked_any k bal x HK3.out _).mono ?_
    rintro e w4 ⟨rfl, hb⟩
    have H1 := hid (G1.out.below hb G1.out.lt)
    have H2 := hid (G2.out.below hb G2.out.lt)
    have HB := hid (below_pay GB.out (by have := G1.out.lt; omega) hb)
    clear hb G1 G2 GB
    have TH := hid (H2.out.thereM (o := 7) (m := 22) (by rw [rowM_size]; decide))
    have TL := hid (len_inst (askedJ k bal x))
    have TO := hid (rowJ_one (askedJ k bal x))
    have J2 : Hid (Blk (w4.setCells n 7 (rowJ (askedJ k bal x)).toList) n 64 (rowM (askM k a b bal x))) := hid (by have h := Blk.sets (rowJ (askedJ k bal x)).toList w4 _ 7 H2.out; rw [put_known, HA.out] at h; exact h)
    have J1 := hid (Blk.setsFar (q := n) (by omega) (rowJ (askedJ k bal x)).toList w4 7 H1.out)
    have JB := hid (below_sets (q := n) (by omega) (rowJ (askedJ k bal x)).toList w4 7 HB.out)
    clear H1 H2 HB
    go_upto_region 4 with (refine wpList_store_mid (op := ⟨none, _, _, _, _, _⟩) rfl 37 (.tmp 26) (.tmp 25) rfl n 7 (rowJ (askedJ k bal x)) rfl ?hy TH.out TL.out TO.out ?_; (case hy => rfl))
    obtain ⟨W5, hW5⟩ : ∃ W5, w4.setCells n 7 (rowJ (askedJ k bal x)).toList = W5 := ⟨_, rfl⟩
    rw [hW5] at J1 J2 JB
    rw [hW5]
    clear hW5 TH TL TO
    go_wp2_with (first
      | (with_reducible refine wpList_load_row (o := ⟨some 27, _, _, _, _, _⟩) rfl 64 (.tmp 11) rfl n rfl 64 (rowM (askM k a b bal x)) (0, 0) _ J2.out.heap Tryz.underlying64 rfl M1.out ?_)
      | (with_reducible refine wpList_store_row (o := ⟨none, _, _, _, _, _⟩) rfl 64 (.tmp 10) (.tmp 27) rfl (g + 1) (rowM (askM k a b bal x)) rfl rfl 64 (rowM zeroM) J1.out.heap M1.out (size_msg _ _) M3.out ?_))
    exact bodyPost_ret (v := .agg (rowM (askM k a b bal x))) (results_cell_row (p := 10) (ty := 64) (by kernel_rfl) _ _ (g + 1) 64 (rowM (askM k a b bal x)) (0, 0) _ rfl (setRow_heap W5 (g + 1) _ _ _ _ J1.out.heap) Tryz.underlying64 rfl M1.out) rfl ⟨rfl, by rw [HG.out]; exact below_setRow_ JB.out (by omega)⟩
end Go.Proofs.YtohffiehmmcgbaaGreatDoor
