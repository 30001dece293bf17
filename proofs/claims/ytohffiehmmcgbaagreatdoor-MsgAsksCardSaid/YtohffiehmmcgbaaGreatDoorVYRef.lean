/-
  The document's own Right of a message (moothillref11), and the laws' of, small.
-/
import Derived.Test.YtohffiehmmcgbaaGreatDoorZYTake
import Derived.Test.YtohffiehmmcgbaaGreatDoorVJRef
namespace Go.Proofs.YtohffiehmmcgbaaGreatDoor
open Go.ChangeShapes Go.WideShapes Go.ChangeAt Go.RowKit Go.Lib
set_option linter.unusedVariables false
set_option linter.unusedSimpArgs false

theorem info_refm : (Tryz.prog.info? 67).map (·.size) = some 29 := by kernel_rfl
theorem len_refm (m : Ms) : (Tryz.prog.info? 67).map (·.size) = some (rowM m).size := by rw [rowM_size]; exact info_refm
theorem eq_refnameT (r s r2 s2 : Int) (b : Bool) (hb : (r == r2 && s == s2) = b) (w : World) :
    (Op.equalIn 10000 43 (.agg #[.int .i64 r, .int .i64 s]) (.agg #[.int .i64 r2, .int .i64 s2])).run Tryz.prog w = .ok b w := by
  have ht : Tryz.prog.underlying 43 = some (.struct (Tryz.prog.fieldsOf 43)) := by kernel_rfl
  have hp : Tryz.prog.stoodInHeld 43 = false := by kernel_rfl
  rw [run_equalIn_struct w 9999 _ _ _ ht hp]
  have p1 := run_part_plain (P := Tryz.prog) (w := w) (e := 3) (by kernel_rfl) (xs := #[.int .i64 r, .int .i64 s]) (off := 0) rfl
  have p2 := run_part_plain (P := Tryz.prog) (w := w) (e := 3) (by kernel_rfl) (xs := #[.int .i64 r, .int .i64 s]) (off := 1) rfl
  have p3 := run_part_plain (P := Tryz.prog) (w := w) (e := 3) (by kernel_rfl) (xs := #[.int .i64 r2, .int .i64 s2]) (off := 0) rfl
  have p4 := run_part_plain (P := Tryz.prog) (w := w) (e := 3) (by kernel_rfl) (xs := #[.int .i64 r2, .int .i64 s2]) (off := 1) rfl
  have q1 := run_equalIn_int (P := Tryz.prog) w 9998 3 .i64 .i64 r r2 Tryz.underlying3
  have q2 := run_equalIn_int (P := Tryz.prog) w 9998 3 .i64 .i64 s s2 Tryz.underlying3
  subst hb
  cases h : (r == r2) <;> simp [Program.fieldsOf, Tryz.underlying43, Op.eqFields, p1, p2, p3, p4, q1, q2, h, Sem.run_bind, Sem.run_ite, Result.andThen_ok]
  by_cases h2 : s = s2 <;> simp [h2]
theorem refname_guard : Tryz.prog.eqGuardType Tryz.prog.depth 43 = false := by kernel_rfl
theorem eq_refx_zero (x : J) (b : Bool) (hb : eqJ x zeroJ = b) (w : World) : (Op.equalIn 10000 48 (.agg (rowJ x)) (.agg #[.int .i64 0, .int .i64 0, .int .i64 0, .int .u32 0, .int .u32 0, .bool false, .int .i64 0, .int .u64 0, .string ⟨#[]⟩, .int .u64 0, .string ⟨#[]⟩, .int .i64 0, .int .u64 0, .int .i64 0, .int .i64 0, .int .i64 0, .int .i64 0, .int .i64 0, .int .i64 0, .int .i64 0, .int .i64 0, .int .i64 0])).run Tryz.prog w = .ok b w := eq_refx x zeroJ b hb w

set_option maxRecDepth 100000 in
set_option maxHeartbeats 8000000 in
theorem of11 (m : Ms) (w : World) :
    Calls Tryz.prog 26 #[.agg (rowM m)] w fun e w' => e = .returned (.agg (rowM m)) ∧ Below w.heap.size w w' := by
  obtain ⟨k, a, b, r0, s0, v, ok, ⟨r, s, st, bal, vote, same, ⟨ck, cu, cf, cq, cp, cm, cn, ct⟩, f⟩⟩ := m
  have L0 := hid info_inst
  have L1 := hid (len_inst ⟨r, s, st, bal, vote, same, ⟨ck, cu, cf, cq, cp, cm, cn, ct⟩, f⟩)
  have L2 := hid (len_refx ⟨r, s, st, bal, vote, same, ⟨ck, cu, cf, cq, cp, cm, cn, ct⟩, f⟩)
  have L3 := hid (rowJ_one ⟨r, s, st, bal, vote, same, ⟨ck, cu, cf, cq, cp, cm, cn, ct⟩, f⟩)
  have L4 := hid (size_inst zeroJ ⟨r, s, st, bal, vote, same, ⟨ck, cu, cf, cq, cp, cm, cn, ct⟩, f⟩)
  have M1 := hid (len_refm ⟨k, a, b, r0, s0, v, ok, ⟨r, s, st, bal, vote, same, ⟨ck, cu, cf, cq, cp, cm, cn, ct⟩, f⟩⟩)
  have M2 := hid (size_msg zeroM ⟨k, a, b, r0, s0, v, ok, ⟨r, s, st, bal, vote, same, ⟨ck, cu, cf, cq, cp, cm, cn, ct⟩, f⟩⟩)
  have M3 := hid (rowM_one ⟨k, a, b, r0, s0, v, ok, ⟨r, s, st, bal, vote, same, ⟨ck, cu, cf, cq, cp, cm, cn, ct⟩, f⟩⟩)
  go_enter Tryz.func26, Tryz.ntmps26
  go_upto_region 1 with fail
  obtain ⟨W, hW⟩ : ∃ W, (w.alloc (.cells (rowM ⟨k, a, b, r0, s0, v, ok, ⟨r, s, st, bal, vote, same, ⟨ck, cu, cf, cq, cp, cm, cn, ct⟩, f⟩⟩) 64)).alloc (.cells zrowM 67) = W := ⟨_, rfl⟩
  rw [hW]
  obtain ⟨K0, K1, KB⟩ := two_new hW
  rw [zrowM_is] at K1
  clear hW
  obtain ⟨g, hg⟩ : ∃ g, w.heap.size = g := ⟨_, rfl⟩
  rw [hg] at K0 K1 KB
  rw [hg]
  have HG := hid hg
  clear hg
  obtain ⟨n, hn⟩ : ∃ n, W.heap.size = n := ⟨_, rfl⟩
  have E0 : Hid (Blk (W.alloc (.cells zrow 37)) n 37 zrow) := hid (by rw [← hn]; exact Blk.new W 37 zrow)
  go_upto_region 2 with (first
    | (with_reducible refine wpList_load_known (op := ⟨some 7, _, _, _, _, _⟩) rfl 37 (.tmp 6) rfl g rfl K0.out _ Tryz.underlying37 rfl L0.out ?_)
    | (refine wpList_store_row (o := ⟨none, _, _, _, _, _⟩) rfl 37 (.tmp 3) (.tmp 7) rfl n (rowJ ⟨r, s, st, bal, vote, same, ⟨ck, cu, cf, cq, cp, cm, cn, ct⟩, f⟩) rfl rfl 37 zrow E0.out.heap L1.out rfl L3.out ?_))
  obtain ⟨W2, hW2⟩ : ∃ W2, (W.alloc (.cells zrow 37)).setRow n (rowJ ⟨r, s, st, bal, vote, same, ⟨ck, cu, cf, cq, cp, cm, cn, ct⟩, f⟩) = W2 := ⟨_, rfl⟩
  have hgn : g + 1 < n := by have := K1.out.lt; omega
  have F0 : Hid (Blk W2 g 64 (rowM ⟨k, a, b, r0, s0, v, ok, ⟨r, s, st, bal, vote, same, ⟨ck, cu, cf, cq, cp, cm, cn, ct⟩, f⟩⟩)) := hid (by rw [← hW2]; exact (K0.out.alloc _).rowFar (by omega) _)
  have F1 : Hid (Blk W2 (g + 1) 67 (rowM zeroM)) := hid (by rw [← hW2]; exact (K1.out.alloc _).rowFar (by omega) _)
  have F2 : Hid (Blk W2 n 37 (rowJ ⟨r, s, st, bal, vote, same, ⟨ck, cu, cf, cq, cp, cm, cn, ct⟩, f⟩)) := hid (by rw [← hW2]; exact E0.out.row _)
  have FB : Hid (Below g w W2) := hid (by rw [← hW2]; exact below_setRow_ (KB.out.trans ((Below.refl g W).alloc (by omega) _)) (by omega))
  rw [hW2]
  clear hW2 hn E0 K0 K1 KB
  have I1 := hid (info_cmd8 ⟨ck, cu, cf, cq, cp, cm, cn, ct⟩)
  go_upto_region 3 with (with_reducible refine wpList_load_mid (op := ⟨some 9, _, _, _, _, _⟩) rfl 32 (.tmp 8) rfl n 6 rfl (lsK ⟨ck, cu, cf, cq, cp, cm, cn, ct⟩) _ F2.out.jc Tryz.underlying32 rfl I1.out ?_)
  obtain ⟨q, hq⟩ : ∃ q, W2.heap.size = q := ⟨_, rfl⟩
  obtain ⟨W3, hW3⟩ : ∃ W3, W2.alloc (.cells #[.int .i64 ck, .int .u64 cu, .string cf, .int .u64 cq, .string cp, .int .i64 cm, .int .u64 cn, .int .i64 ct] 32) = W3 := ⟨_, rfl⟩
  rw [hW3]
  have G0 : Hid (Blk W3 g 64 (rowM ⟨k, a, b, r0, s0, v, ok, ⟨r, s, st, bal, vote, same, ⟨ck, cu, cf, cq, cp, cm, cn, ct⟩, f⟩⟩)) := hid (by rw [← hW3]; exact F0.out.alloc _)
  have G1 : Hid (Blk W3 (g + 1) 67 (rowM zeroM)) := hid (by rw [← hW3]; exact F1.out.alloc _)
  have G2 : Hid (Blk W3 n 37 (rowJ ⟨r, s, st, bal, vote, same, ⟨ck, cu, cf, cq, cp, cm, cn, ct⟩, f⟩)) := hid (by rw [← hW3]; exact F2.out.alloc _)
  have G3 : Hid (Blk W3 q 32 #[.int .i64 ck, .int .u64 cu, .string cf, .int .u64 cq, .string cp, .int .i64 cm, .int .u64 cn, .int .i64 ct]) := hid (by rw [← hW3, ← hq]; exact Blk.new _ _ _)
  have GB : Hid (Below g w W3) := hid (by rw [← hW3]; exact FB.out.trans ((Below.refl g W2).alloc (by have := F0.out.lt; omega) _))
  rw [hq]
  clear hW3 hq F0 F1 F2 FB I1
  have c0 := G2.out.j0
  have c1 := G2.out.j1
  have c2 := G2.out.j2
  have c3 := G2.out.j3
  have c4 := G2.out.j4
  have c5 := G2.out.j5
  obtain ⟨⟨d0, d1, d2, d3, d4, d5, d6, d7⟩, _⟩ := cells8 G3.out
  have I2 := hid (info_att8 f)
  obtain ⟨y, hy⟩ : ∃ y, W3.heap.size = y := ⟨_, rfl⟩
  have hgy : g + 1 < y := by have := G2.out.lt; omega
  have E0 : Hid (Blk (W3.alloc (.cells zrow 48)) y 48 zrow) := hid (by rw [← hy]; exact Blk.new W3 48 zrow)
  go_upto_region 4 with (first
    | (with_reducible refine wpList_load_mid (op := ⟨some 40, _, _, _, _, _⟩) rfl 35 (.tmp 39) rfl n 14 rfl (ls8 f) _ G2.out.ja Tryz.underlying35 rfl I2.out ?_)
    | (refine wpList_store_row (o := ⟨none, _, _, _, _, _⟩) rfl 48 (.tmp 5) (.tmp 41) rfl y (rowJ ⟨r, s, st, bal, vote, same, ⟨ck, cu, cf, cq, cp, cm, cn, ct⟩, f⟩) rfl ?hy 48 zrow E0.out.heap L2.out rfl L3.out ?_; (case hy => rfl)))
  obtain ⟨W4, hW4⟩ : ∃ W4, (W3.alloc (.cells zrow 48)).setRow y (rowJ ⟨r, s, st, bal, vote, same, ⟨ck, cu, cf, cq, cp, cm, cn, ct⟩, f⟩) = W4 := ⟨_, rfl⟩
  have H0 : Hid (Blk W4 g 64 (rowM ⟨k, a, b, r0, s0, v, ok, ⟨r, s, st, bal, vote, same, ⟨ck, cu, cf, cq, cp, cm, cn, ct⟩, f⟩⟩)) := hid (by rw [← hW4]; exact (G0.out.alloc _).rowFar (by omega) _)
  have H1 : Hid (Blk W4 (g + 1) 67 (rowM zeroM)) := hid (by rw [← hW4]; exact (G1.out.alloc _).rowFar (by omega) _)
  have H2 : Hid (Blk W4 y 48 #[.int .i64 r, .int .i64 s, .int .i64 st, .int .u32 bal, .int .u32 vote, .bool same, .int .i64 ck, .int .u64 cu, .string cf, .int .u64 cq, .string cp, .int .i64 cm, .int .u64 cn, .int .i64 ct, .int .i64 (f 0), .int .i64 (f 1), .int .i64 (f 2), .int .i64 (f 3), .int .i64 (f 4), .int .i64 (f 5), .int .i64 (f 6), .int .i64 (f 7)]) := hid (by rw [← hW4]; exact E0.out.row _)
  have HB : Hid (Below g w W4) := hid (by rw [← hW4]; exact below_setRow_ (GB.out.trans ((Below.refl g W3).alloc (by omega) _)) (by omega))
  have L2 : Hid ((Tryz.prog.info? 48).map (·.size) = some (#[.int .i64 r, .int .i64 s, .int .i64 st, .int .u32 bal, .int .u32 vote, .bool same, .int .i64 ck, .int .u64 cu, .string cf, .int .u64 cq, .string cp, .int .i64 cm, .int .u64 cn, .int .i64 ct, .int .i64 (f 0), .int .i64 (f 1), .int .i64 (f 2), .int .i64 (f 3), .int .i64 (f 4), .int .i64 (f 5), .int .i64 (f 6), .int .i64 (f 7)] : Array Value).size) := L2
  rw [hW4]
  clear hW4 hy E0 G0 G1 G2 G3 GB c0 c1 c2 c3 c4 c5 d0 d1 d2 d3 d4 d5 d6 d7 I2
  have c0 := H0.out.m0
  have c1 := H0.out.m1
  have c2 := H0.out.m2
  have c3 := H0.out.m3
  have c4 := H0.out.m4
  have c5 := H0.out.m5
  have c6 := H0.out.m6
  go_wp2_with (first
    | (with_reducible refine wpList_load_row (o := ⟨some 54, _, _, _, _, _⟩) rfl 48 (.tmp 5) rfl y rfl 48 #[.int .i64 r, .int .i64 s, .int .i64 st, .int .u32 bal, .int .u32 vote, .bool same, .int .i64 ck, .int .u64 cu, .string cf, .int .u64 cq, .string cp, .int .i64 cm, .int .u64 cn, .int .i64 ct, .int .i64 (f 0), .int .i64 (f 1), .int .i64 (f 2), .int .i64 (f 3), .int .i64 (f 4), .int .i64 (f 5), .int .i64 (f 6), .int .i64 (f 7)] (0, 0) _ H2.out.heap Tryz.underlying48 rfl L2.out ?_)
    | (refine wpList_store_row (o := ⟨none, _, _, _, _, _⟩) rfl 67 (.tmp 2) (.tmp 55) rfl (g + 1) (rowM ⟨k, a, b, r0, s0, v, ok, ⟨r, s, st, bal, vote, same, ⟨ck, cu, cf, cq, cp, cm, cn, ct⟩, f⟩⟩) rfl ?hy 67 (rowM zeroM) H1.out.heap M1.out M2.out M3.out ?_; (case hy => rfl)))
  exact bodyPost_ret (v := .agg (rowM ⟨k, a, b, r0, s0, v, ok, ⟨r, s, st, bal, vote, same, ⟨ck, cu, cf, cq, cp, cm, cn, ct⟩, f⟩⟩)) (results_cell_row (p := 2) (ty := 67) (by kernel_rfl) _ _ (g + 1) 67 (rowM ⟨k, a, b, r0, s0, v, ok, ⟨r, s, st, bal, vote, same, ⟨ck, cu, cf, cq, cp, cm, cn, ct⟩, f⟩⟩) (0, 0) _ rfl (setRow_heap W4 (g + 1) _ _ _ _ H1.out.heap) Tryz.underlying67 rfl M1.out) rfl ⟨rfl, by rw [HG.out]; exact below_setRow_ HB.out (by omega)⟩

def smallM (m : Ms) : Bool := decide (m.x.c.path.size < 200) && decide (m.x.c.foot.size < 200)
theorem smallM_in {m : Ms} (h : smallM m = true) : m.x.c.foot.size < 200 ∧ m.x.c.path.size < 200 := by
  unfold smallM at h
  simp only [Bool.and_eq_true, decide_eq_true_eq] at h
  exact ⟨h.2, h.1⟩
theorem Blk.mfoot {w : World} {g : Nat} {T : TypeId} {m : Ms} (h : Blk w g T (rowM m)) : w.cell? ⟨g, 15, none⟩ = some (.string m.x.c.foot) := (h.cell 15).trans rfl
theorem Blk.mpath {w : World} {g : Nat} {T : TypeId} {m : Ms} (h : Blk w g T (rowM m)) : w.cell? ⟨g, 17, none⟩ = some (.string m.x.c.path) := (h.cell 17).trans rfl

set_option maxRecDepth 100000 in
set_option maxHeartbeats 400000 in
theorem small11 (m : Ms) (w : World) :
    Calls Tryz.prog 25 #[.agg (rowM m)] w fun e w' => e = .returned (.bool (smallM m)) ∧ Below w.heap.size w w' := by
  have HV : Hid (smallM m = (decide (m.x.c.path.size < 200) && decide (m.x.c.foot.size < 200))) := hid rfl
  go_enter Tryz.func25, Tryz.ntmps25
  go_upto_region 1 with fail
  obtain ⟨W, hW⟩ : ∃ W, w.alloc (.cells (rowM m) 64) = W := ⟨_, rfl⟩
  rw [hW]
  obtain ⟨K0, KB⟩ := one_new hW
  clear hW
  obtain ⟨k, hk⟩ : ∃ k, w.heap.size = k := ⟨_, rfl⟩
  rw [hk] at K0 KB
  rw [hk]
  have HK := hid hk
  clear hk
  have c8 := K0.out.mfoot
  have c10 := K0.out.mpath
  rcases Nat.lt_or_ge m.x.c.path.size 200 with h | h
  · go_wp2
    go_ret
    exact ⟨ret_bool (by rw [HV.out, Bool.eq_iff_iff]; simp; omega), by rw [HK.out]; exact KB.out⟩
  · go_wp2
    go_ret
    exact ⟨ret_bool (by rw [HV.out, Bool.eq_iff_iff]; simp; omega), by rw [HK.out]; exact KB.out⟩

section
variable {w : World} {g : Nat} {T : TypeId} {m : Ms}
theorem Blk.m9 (h : Blk w g T (rowM m)) : w.cell? ⟨g, 9, none⟩ = some (.int .i64 m.x.st) := (h.cell 9).trans rfl
theorem Blk.m10 (h : Blk w g T (rowM m)) : w.cell? ⟨g, 10, none⟩ = some (.int .u32 m.x.bal) := (h.cell 10).trans rfl
theorem Blk.m11 (h : Blk w g T (rowM m)) : w.cell? ⟨g, 11, none⟩ = some (.int .u32 m.x.vote) := (h.cell 11).trans rfl
theorem Blk.m12 (h : Blk w g T (rowM m)) : w.cell? ⟨g, 12, none⟩ = some (.bool m.x.same) := (h.cell 12).trans rfl
end

end Go.Proofs.YtohffiehmmcgbaaGreatDoor
