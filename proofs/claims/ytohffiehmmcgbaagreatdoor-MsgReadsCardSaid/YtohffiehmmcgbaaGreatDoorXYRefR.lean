/-
  The document's own Right of a message (moothillref11).
-/
import Derived.Test.YtohffiehmmcgbaaGreatDoorXYTake
import Derived.Test.YtohffiehmmcgbaaGreatDoorXJRef
namespace Go.Proofs.YtohffiehmmcgbaaGreatDoor
open Go.ChangeShapes Go.WideShapes Go.ChangeAt Go.RowKit Go.Lib
set_option linter.unusedVariables false
set_option linter.unusedSimpArgs false
theorem info_refm : (Tryz.prog.info? 67).map (·.size) = some 29 := by kernel_rfl
theorem len_refm (m : Ms) : (Tryz.prog.info? 67).map (·.size) = some (rowM m).size := by rw [rowM_size]; exact info_refm
theorem eq_refnameT (r s r2 s2 : Int) (b : Bool) (hb : (r == r2 && s == s2) = b) (w : World) :
    (Op.equalIn 10000 43 (.agg #[.int .i64 r, .int .i64 s]) (.agg #[.int .i64 r2, .int .i64 s2])).run Tryz.prog w = .ok b w := by
  have ht : Tryz.prog.underlying 43 = some (.struct (Tryz.prog.fieldsOf 43)) := by kernel_rfl
  have hp : Tryz.prog.stoodInHeld 43 = false := by kernel_rfl
  rw [run_equalIn_struct w 9999 _ _ _ ht hp]
  have p1 := run_part_plain (P := Tryz.prog) (w := w) (e := 3) (by kernel_rfl) (xs := #[.int .i64 r, .int .i64 s]) (off := 0) rfl
  have p2 := run_part_plain (P := Tryz.prog) (w := w) (e := 3) (by kernel_rfl) (xs := #[.int .i64 r, .int .i64 s]) (off := 1) rfl
  have p3 := run_part_plain (P := Tryz.prog) (w := w) (e := 3) (by kernel_rfl) (xs := #[.int .i64 r2, .int .i64 s2]) (off := 0) rfl
  have p4 := run_part_plain (P := Tryz.prog) (w := w) (e := 3) (by kernel_rfl) (xs := #[.int .i64 r2, .int .i64 s2]) (off := 1) rfl
  have q1 := run_equalIn_int (P := Tryz.prog) w 9998 3 .i64 .i64 r r2 Tryz.underlying3
  have q2 := run_equalIn_int (P := Tryz.prog) w 9998 3 .i64 .i64 s s2 Tryz.underlying3
  subst hb
  cases h : (r == r2) <;> simp [Program.fieldsOf, Tryz.underlying43, Op.eqFields, p1, p2, p3, p4, q1, q2, h, Sem.run_bind, Sem.run_ite, Result.andThen_ok]
  by_cases h2 : s = s2 <;> simp [h2]
theorem refname_guard : Tryz.prog.eqGuardType Tryz.prog.depth 43 = false := by kernel_rfl
theorem eq_refx_zero (x : J) (b : Bool) (hb : eqJ x zeroJ = b) (w : World) : (Op.equalIn 10000 48 (.agg (rowJ x)) (.agg #[.int .i64 0, .int .i64 0, .int .i64 0, .int .u32 0, .int .u32 0, .bool false, .int .i64 0, .int .u64 0, .string ⟨#[]⟩, .int .u64 0, .string ⟨#[]⟩, .int .i64 0, .int .u64 0, .int .i64 0, .int .i64 0, .int .i64 0, .int .i64 0, .int .i64 0, .int .i64 0, .int .i64 0, .int .i64 0, .int .i64 0])).run Tryz.prog w = .ok b w := eq_refx x zeroJ b hb w
set_option maxRecDepth 100000 in
set_option maxHeartbeats 8000000 in
theorem of11 (m : Ms) (w : World) :
    Calls Tryz.prog 26 #[.agg (rowM m)] w fun e w' => e = .returned (.agg (rowM m)) ∧ Below w.heap.size w w' := by
  obtain ⟨k, a, b, r0, s0, v, ok, ⟨r, s, st, bal, vote, same, ⟨ck, cu, cf, cq, cp, cm, cn, ct⟩, f⟩⟩ := m
  have L0 := hid info_inst
  have L1 := hid (len_inst ⟨r, s, st, bal, vote, same, ⟨ck, cu, cf, cq, cp, cm, cn, ct⟩, f⟩)
  have L2 := hid (len_refx ⟨r, s, st, bal, vote, same, ⟨ck, cu, cf, cq, cp, cm, cn, ct⟩, f⟩)
  have L3 := hid (rowJ_one ⟨r, s, st, bal, vote, same, ⟨ck, cu, cf, cq, cp, cm, cn, ct⟩, f⟩)
  have L4 := hid (size_inst zeroJ ⟨r, s, st, bal, vote, same, ⟨ck, cu, cf, cq, cp, cm, cn, ct⟩, f⟩)
  have M1 := hid (len_refm ⟨k, a, b, r0, s0, v, ok, ⟨r, s, st, bal, vote, same, ⟨ck, cu, cf, cq, cp, cm, cn, ct⟩, f⟩⟩)
  have M2 := hid (size_msg zeroM ⟨k, a, b, r0, s0, v, ok, ⟨r, s, st, bal, vote, same, ⟨ck, cu, cf, cq, cp, cm, cn, ct⟩, f⟩⟩)
  have M3 := hid (rowM_one ⟨k, a, b, r0, s0, v, ok, ⟨r, s, st, bal, vote, same, ⟨ck, cu, cf, cq, cp, cm, cn, ct⟩, f⟩⟩)
  go_enter Tryz.func26, Tryz.ntmps26
  go_upto_region 1 with fail
  obtain ⟨W, hW⟩ : ∃ W, (w.alloc (.cells (rowM ⟨k, a, b, r0, s0, v, ok, ⟨r, s, st, bal, vote, same, ⟨ck, cu, cf, cq, cp, cm, cn, ct⟩, f⟩⟩) 64)).alloc (.cells zrowM 67) = W := ⟨_, rfl⟩
  rw [hW]
  obtain ⟨K0, K1, KB⟩ := two_new hW
  rw [zrowM_is] at K1
  clear hW
  obtain ⟨g, hg⟩ : ∃ g, w.heap.size = g := ⟨_, rfl⟩
  rw [hg] at K0 K1 KB
  rw [hg]
  have HG := hid hg
  clear hg
  obtain ⟨n, hn⟩ : ∃ n, W.heap.size = n := ⟨_, rfl⟩
  have E0 : Hid (Blk (W.alloc (.cells zrow 37)) n 37 zrow) := hid (by rw [← hn]; exact Blk.new W 37 zrow)
  go_upto_region 2 with (first
    | (with_reducible refine wpList_load_known (op := ⟨some 7, _, _, _, _, _⟩) rfl 37 (.tmp 6) rfl g rfl K0.out _ Tryz.underlying37 rfl L0.out ?_)
    | (refine wpList_store_row (o := ⟨none, _, _, _, _, _⟩) rfl 37 (.tmp 3) (.tmp 7) rfl n (rowJ ⟨r, s, st, bal, vote, same, ⟨ck, cu, cf, cq, cp, cm, cn, ct⟩, f⟩) rfl rfl 37 zrow E0.out.heap L1.out rfl L3.out ?_))
  obtain ⟨W2, hW2⟩ : ∃ W2, (W.alloc (.cells zrow 37)).setRow n (rowJ ⟨r, s, st, bal, vote, same, ⟨ck, cu, cf, cq, cp, cm, cn, ct⟩, f⟩) = W2 := ⟨_, rfl⟩
  have hgn : g + 1 < n := by have := K1.out.lt; omega
  have F0 : Hid (Blk W2 g 64 (rowM ⟨k, a, b, r0, s0, v, ok, ⟨r, s, st, bal, vote, same, ⟨ck, cu, cf, cq, cp, cm, cn, ct⟩, f⟩⟩)) := hid (by rw [← hW2]; exact (K0.out.alloc _).rowFar (by omega) _)
  have F1 : Hid (Blk W2 (g + 1) 67 (rowM zeroM)) := hid (by rw [← hW2]; exact (K1.out.alloc _).rowFar (by omega) _)
  have F2 : Hid (Blk W2 n 37 (rowJ ⟨r, s, st, bal, vote, same, ⟨ck, cu, cf, cq, cp, cm, cn, ct⟩, f⟩)) := hid (by rw [← hW2]; exact E0.out.row _)
  have FB : Hid (Below g w W2) := hid (by rw [← hW2]; exact below_setRow_ (KB.out.trans ((Below.refl g W).alloc (by omega) _)) (by omega))
  rw [hW2]
  clear hW2 hn E0 K0 K1 KB
  have I1 := hid (info_cmd8 ⟨ck, cu, cf, cq, cp, cm, cn, ct⟩)
  go_upto_region 3 with (with_reducible refine wpList_load_mid (op := ⟨some 9, _, _, _, _, _⟩) rfl 32 (.tmp 8) rfl n 6 rfl (lsK ⟨ck, cu, cf, cq, cp, cm, cn, ct⟩) _ F2.out.jc Tryz.underlying32 rfl I1.out ?_)
  obtain ⟨q, hq⟩ : ∃ q, W2.heap.size = q := ⟨_, rfl⟩
  obtain ⟨W3, hW3⟩ : ∃ W3, W2.alloc (.cells #[.int .i64 ck, .int .u64 cu, .string cf, .int .u64 cq, .string cp, .int .i64 cm, .int .u64 cn, .int .i64 ct] 32) = W3 := ⟨_, rfl⟩
  rw [hW3]
  have G0 : Hid (Blk W3 g 64 (rowM ⟨k, a, b, r0, s0, v, ok, ⟨r, s, st, bal, vote, same, ⟨ck, cu, cf, cq, cp, cm, cn, ct⟩, f⟩⟩)) := hid (by rw [← hW3]; exact F0.out.alloc _)
  have G1 : Hid (Blk W3 (g + 1) 67 (rowM zeroM)) := hid (by rw [← hW3]; exact F1.out.alloc _)
  have G2 : Hid (Blk W3 n 37 (rowJ ⟨r, s, st, bal, vote, same, ⟨ck, cu, cf, cq, cp, cm, cn, ct⟩, f⟩)) := hid (by rw [← hW3]; exact F2.out.alloc _)
  have G3 : Hid (Blk W3 q 32 #[.int .i64 ck, .int .u64 cu, .string cf, .int .u64 cq, .string cp, .int .i64 cm, .int .u64 cn, .int .i64 ct]) := hid (by rw [← hW3, ← hq]; exact Blk.new _ _ _)
  have GB : Hid (Below g w W3) := hid (by rw [← hW3]; exact FB.out.trans ((Below.refl g W2).alloc (by have := F0.out.lt; omega) _))
  rw [hq]
  clear hW3 hq F0 F1 F2 FB I1
  have c0 := G2.out.j0
  have c1 := G2.out.j1
  have c2 := G2.out.j2
  have c3 := G2.out.j3
  have c4 := G2.out.j4
  have c5 := G2.out.j5
  obtain ⟨⟨d0, d1, d2, d3, d4, d5, d6, d7⟩, _⟩ := cells8 G3.out
  have I2 := hid (info_att8 f)
  obtain ⟨y, hy⟩ : ∃ y, W3.heap.size = y := ⟨_, rfl⟩
  have hgy : g + 1 < y := by have := G2.out.lt; omega
  have E0 : Hid (Blk (W3.alloc (.cells zrow 48)) y 48 zrow) := hid (by rw [← hy]; exact Blk.new W3 48 zrow)
  go_upto_region 4 with (first
    | (with_reducible refine wpList_load_mid (op := ⟨some 40, _, _, _, _, _⟩) rfl 35 (.tmp 39) rfl n 14 rfl (ls8 f) _ G2.out.ja Tryz.underlying35 rfl I2.out ?_)
    | (refine wpList_store_row (o := ⟨none, _, _, _, _, _⟩) rfl 48 (.tmp 5) (.tmp 41) rfl y (rowJ ⟨r, s, st, bal, vote, same, ⟨ck, cu, cf, cq, cp, cm, cn, ct⟩, f⟩) rfl ?hy 48 zrow E0.out.heap L2.out rfl L3.out ?_; (case hy => rfl)))
  obtain ⟨W4, hW4⟩ : ∃ W4, (W3.alloc (.cells zrow 48)).setRow y (rowJ ⟨r, s, st, bal, vote, same, ⟨ck, cu, cf, cq, cp, cm, cn, ct⟩, f⟩) = W4 := ⟨_, rfl⟩
  have H0 : Hid (Blk W4 g 64 (rowM ⟨k, a, b, r0, s0, v, ok, ⟨r, s, st, bal, vote, same, ⟨ck, cu, cf, cq, cp, cm, cn, ct⟩, f⟩⟩)) := hid (by rw [← hW4]; exact (G0.out.alloc _).rowFar (by omega) _)
  have H1 : Hid (Blk W4 (g + 1) 67 (rowM zeroM)) := hid (by rw [← hW4]; exact (G1.out.alloc _).rowFar (by omega) _)
  have H2 : Hid (Blk W4 y 48 #[.int .i64 r, .int .i64 s, .int .i64 st, .int .u32 bal, .int .u32 vote, .bool same, .int .i64 ck, .int .u64 cu, .string cf, .int .u64 cq, .string cp, .int .i64 cm, .int .u64 cn, .int .i64 ct, .int .i64 (f 0), .int .i64 (f 1), .int .i64 (f 2), .int .i64 (f 3), .int .i64 (f 4), .int .i64 (f 5), .int .i64 (f 6), .int .i64 (f 7)]) := hid (by rw [← hW4]; exact E0.out.row _)
  have HB : Hid (Below g w W4) := hid (by rw [← hW4]; exact below_setRow_ (GB.out.trans ((Below.refl g W3).alloc (by omega) _)) (by omega))
  have L2 : Hid ((Tryz.prog.info? 48).map (·.size) = some (#[.int .i64 r, .int .i64 s, .int .i64 st, .int .u32 bal, .int .u32 vote, .bool same, .int .i64 ck, .int .u64 cu, .string cf, .int .u64 cq, .string cp, .int .i64 cm, .int .u64 cn, .int .i64 ct, .int .i64 (f 0), .int .i64 (f 1), .int .i64 (f 2), .int .i64 (f 3), .int .i64 (f 4), .int .i64 (f 5), .int .i64 (f 6), .int .i64 (f 7)] : Array Value).size) := L2
  rw [hW4]
  clear hW4 hy E0 G0 G1 G2 G3 GB c0 c1 c2 c3 c4 c5 d0 d1 d2 d3 d4 d5 d6 d7 I2
  have c0 := H0.out.m0
  have c1 := H0.out.m1
  have c2 := H0.out.m2
  have c3 := H0.out.m3
  have c4 := H0.out.m4
  have c5 := H0.out.m5
  have c6 := H0.out.m6
  go_wp2_with (first
    | (with_reducible refine wpList_load_row (o := ⟨some 54, _, _, _, _, _⟩) rfl 48 (.tmp 5) rfl y rfl 48 #[.int .i64 r, .int .i64 s, .int .i64 st, .int .u32 bal, .int .u32 vote, .bool same, .int .i64 ck, .int .u64 cu, .string cf, .int .u64 cq, .string cp, .int .i64 cm, .int .u64 cn, .int .i64 ct, .int .i64 (f 0), .int .i64 (f 1), .int .i64 (f 2), .int .i64 (f 3), .int .i64 (f 4), .int .i64 (f 5), .int .i64 (f 6), .int .i64 (f 7)] (0, 0) _ H2.out.heap Tryz.underlying48 rfl L2.out ?_)
    | (refine wpList_store_row (o := ⟨none, _, _, _, _, _⟩) rfl 67 (.tmp 2) (.tmp 55) rfl (g + 1) (rowM ⟨k, a, b, r0, s0, v, ok, ⟨r, s, st, bal, vote, same, ⟨ck, cu, cf, cq, cp, cm, cn, ct⟩, f⟩⟩) rfl ?hy 67 (rowM zeroM) H1.out.heap M1.out M2.out M3.out ?_; (case hy => rfl)))
  exact bodyPost_ret (v := .agg (rowM ⟨k, a, b, r0, s0, v, ok, ⟨r, s, st, bal, vote, same, ⟨ck, cu, cf, cq, cp, cm, cn, ct⟩, f⟩⟩)) (results_cell_row (p := 2) (ty := 67) (by kernel_rfl) _ _ (g + 1) 67 (rowM ⟨k, a, b, r0, s0, v, ok, ⟨r, s, st, bal, vote, same, ⟨ck, cu, cf, cq, cp, cm, cn, ct⟩, f⟩⟩) (0, 0) _ rfl (setRow_heap W4 (g + 1) _ _ _ _ H1.out.heap) Tryz.underlying67 rfl M1.out) rfl ⟨rfl, by rw [HG.out]; exact below_setRow_ HB.out (by omega)⟩
def smallM (m : Ms) : Bool := decide (m.x.c.path.size < 200) && decide (m.x.c.foot.size < 200)
theorem smallM_in {m : Ms} (h : smallM m = true) : m.x.c.foot.size < 200 ∧ m.x.c.path.size < 200 := by
  unfold smallM at h
  simp only [Bool.and_eq_true, decide_eq_true_eq] at h
  exact ⟨h.2, h.1⟩
theorem Blk.mfoot {w : World} {g : Nat} {T : TypeId} {m : Ms} (h : Blk w g T (rowM m)) : w.cell? ⟨g, 15, none⟩ = some (.string m.x.c.foot) := (h.cell 15).trans rfl
theorem Blk.mpath {w : World} {g : Nat} {T : TypeId} {m : Ms} (h : Blk w g T (rowM m)) : w.cell? ⟨g, 17, none⟩ = some (.string m.x.c.path) := (h.cell 17).trans rfl
set_option maxRecDepth 100000 in
set_option maxHeartbeats 400000 in
theorem small11 (m : Ms) (w : World) :
    Calls Tryz.prog 25 #[.agg (rowM m)] w fun e w' => e = .returned (.bool (smallM m)) ∧ Below w.heap.size w w' := by
  have HV : Hid (smallM m = (decide (m.x.c.path.size < 200) && decide (m.x.c.foot.size < 200))) := hid rfl
  go_enter Tryz.func25, Tryz.ntmps25
  go_upto_region 1 with fail
  obtain ⟨W, hW⟩ : ∃ W, w.alloc (.cells (rowM m) 64) = W := ⟨_, rfl⟩
  rw [hW]
  obtain ⟨K0, KB⟩ := one_new hW
  clear hW
  obtain ⟨k, hk⟩ : ∃ k, w.heap.size = k := ⟨_, rfl⟩
  rw [hk] at K0 KB
  rw [hk]
  have HK := hid hk
  clear hk
  have c8 := K0.out.mfoot
  have c10 := K0.out.mpath
  rcases Nat.lt_or_ge m.x.c.path.size 200 with h | h
  · go_wp2
    go_ret
    exact ⟨ret_bool (by rw [HV.out, Bool.eq_iff_iff]; simp; omega), by rw [HK.out]; exact KB.out⟩
  · go_wp2
    go_ret
    exact ⟨ret_bool (by rw [HV.out, Bool.eq_iff_iff]; simp; omega), by rw [HK.out]; exact KB.out⟩
section
variable {w : World} {g : Nat} {T : TypeId} {m : Ms}
theorem Blk.m9 (h : Blk w g T (rowM m)) : w.cell? ⟨g, 9, none⟩ = some (.int .i64 m.x.st) := (h.cell 9).trans rfl
theorem Blk.m10 (h : Blk w g T (rowM m)) : w.cell? ⟨g, 10, none⟩ = some (.int .u32 m.x.bal) := (h.cell 10).trans rfl
theorem Blk.m11 (h : Blk w g T (rowM m)) : w.cell? ⟨g, 11, none⟩ = some (.int .u32 m.x.vote) := (h.cell 11).trans rfl
theorem Blk.m12 (h : Blk w g T (rowM m)) : w.cell? ⟨g, 12, none⟩ = some (.bool m.x.same) := (h.cell 12).trans rfl
end
end Go.Proofs.YtohffiehmmcgbaaGreatDoor
namespace Go.Proofs.YtohffiehmmcgbaaGreatDoor
open Go.ChangeShapes Go.WideShapes Go.ChangeAt Go.RowKit Go.Lib
set_option linter.unusedVariables false
set_option linter.unusedSimpArgs false
abbrev wantCells : Array Value := #[.int .i64 0, .int .i64 1, .int .i64 0, .int .i64 2, .int .i64 0, .int .i64 3]
theorem want_ix1 (W : World) : (Instr.index 111 (.agg wantCells) (.int .i64 1)).run Tryz.prog W = .ok (.int .i64 1) W := by kernel_rfl
theorem want_ix3 (W : World) : (Instr.index 111 (.agg wantCells) (.int .i64 3)).run Tryz.prog W = .ok (.int .i64 2) W := by kernel_rfl
theorem want_ix5 (W : World) : (Instr.index 111 (.agg wantCells) (.int .i64 5)).run Tryz.prog W = .ok (.int .i64 3) W := by kernel_rfl
set_option maxRecDepth 100000 in
set_option maxHeartbeats 8000000 in
theorem refmright_any (m : Ms) (hok : okM m) (w : World) (hf : m.x.c.foot.size ≤ 900) (hp : m.x.c.path.size ≤ 900) :
    Calls Tryz.prog 27 #[.agg (rowM m)] w fun e w' => e = .returned (.bool (rightM m)) ∧ Below w.heap.size w w' := by
  rw [← doc_rightM m]
  obtain ⟨nb, hnb⟩ : ∃ a, nameB m.r m.s = a := ⟨_, rfl⟩
  obtain ⟨ba, hba⟩ : ∃ a, balB m.bal = a := ⟨_, rfl⟩
  obtain ⟨ez, hez⟩ : ∃ a, eqJ m.x zeroJ = a := ⟨_, rfl⟩
  obtain ⟨rj, hrj⟩ : ∃ a, rightJ m.x = a := ⟨_, rfl⟩
  obtain ⟨en, hen⟩ : ∃ a, (m.x.r == m.r && m.x.s == m.s) = a := ⟨_, rfl⟩
  obtain ⟨ok, hk0⟩ : ∃ a, m.ok = a := ⟨_, rfl⟩
  obtain ⟨sm, hsm⟩ : ∃ a, m.x.same = a := ⟨_, rfl⟩
  obtain ⟨hb, hhb⟩ : ∃ a, (decide (1 ≤ m.k) && decide (m.k ≤ 7) && decide (0 ≤ m.a) && decide (m.a ≤ 6) && decide (0 ≤ m.b) && decide (m.b ≤ 6) && (m.a != m.b)) = a := ⟨_, rfl⟩
  have HV : Hid (docM m = (hb && nb && ba && (if m.k = 6 then !ok && ez else rj && en && (replyB m.k || (!ok && (m.x.st == statK m.k) && (m.x.bal == m.bal) && (m.x.vote == m.bal) && !sm))))) := hid (by unfold docM; rw [hhb, hnb, hba, hez, hrj, hen, hk0, hsm])
  have HOB := hid hok.1
  have HJX := hid (show okJ m.x ∧ okK m.x.c from hok.2)
  have HH := hid hhb
  have NB := hid hnb
  have BA := hid hba
  have EZ := hid hez
  have RJ := hid hrj
  have EN := hid hen
  have OK := hid hk0
  have SM := hid hsm
  clear hok hhb hnb hba hez hrj hen hk0 hsm
  go_enter Tryz.func27, Tryz.ntmps27
  go_upto_region 1 with fail
  obtain ⟨W, hW⟩ : ∃ W, w.alloc (.cells (rowM m) 67) = W := ⟨_, rfl⟩
  rw [hW]
  obtain ⟨K0, KB⟩ := one_new hW
  clear hW
  obtain ⟨g, hg⟩ : ∃ k, w.heap.size = k := ⟨_, rfl⟩
  rw [hg] at K0 KB
  rw [hg]
  have HG := hid hg
  clear hg
  have L2 := hid (show (Tryz.prog.info? 48).map (·.size) = some 22 from info_refx)
  have c0 := K0.out.m0
  have c1 := K0.out.m1
  have c2 := K0.out.m2
  have c3 := K0.out.m3
  have c4 := K0.out.m4
  have c5 := K0.out.m5
  cases hb
  · have hneg : m.k < 1 ∨ 7 < m.k ∨ m.a < 0 ∨ 6 < m.a ∨ m.b < 0 ∨ 6 < m.b ∨ m.a = m.b := by
      have := HH.out
      simp only [Bool.and_eq_false_iff, decide_eq_false_iff_not, bne_eq_false_iff_eq] at this
      omega
    clear c3 c4 c5
    by_cases t0 : m.k < 1
    · go_wp2
      go_ret
      exact ⟨ret_bool (by rw [HV.out]; simp), by rw [HG.out]; exact KB.out⟩
    by_cases t1 : 7 < m.k
    · go_wp2
      go_ret
      exact ⟨ret_bool (by rw [HV.out]; simp), by rw [HG.out]; exact KB.out⟩
    by_cases t2 : m.a < 0
    · go_wp2
      go_ret
      exact ⟨ret_bool (by rw [HV.out]; simp), by rw [HG.out]; exact KB.out⟩
    by_cases t3 : 6 < m.a
    · go_wp2
      go_ret
      exact ⟨ret_bool (by rw [HV.out]; simp), by rw [HG.out]; exact KB.out⟩
    by_cases t4 : m.b < 0
    · go_wp2
      go_ret
      exact ⟨ret_bool (by rw [HV.out]; simp), by rw [HG.out]; exact KB.out⟩
    by_cases t5 : 6 < m.b
    · go_wp2
      go_ret
      exact ⟨ret_bool (by rw [HV.out]; simp), by rw [HG.out]; exact KB.out⟩
    have t6 : m.a = m.b := by omega
    have t6b : (m.a == m.b) = true := beq_iff_eq.2 t6
    go_wp2
    go_ret
    exact ⟨ret_bool (by rw [HV.out]; simp), by rw [HG.out]; exact KB.out⟩
  have hpos : 1 ≤ m.k ∧ m.k ≤ 7 ∧ 0 ≤ m.a ∧ m.a ≤ 6 ∧ 0 ≤ m.b ∧ m.b ≤ 6 ∧ m.a ≠ m.b := by
    have := HH.out
    simp only [Bool.and_eq_true, decide_eq_true_eq, bne_iff_ne] at this
    obtain ⟨⟨⟨⟨⟨⟨h1, h2⟩, h3⟩, h4⟩, h5⟩, h6⟩, h7⟩ := this
    exact ⟨h1, h2, h3, h4, h5, h6, h7⟩
  obtain ⟨p1, p2, p3, p4, p5, p6, p7⟩ := hpos
  have t0 : ¬ m.k < 1 := by omega
  have t1 : ¬ 7 < m.k := by omega
  have t2 : ¬ m.a < 0 := by omega
  have t3 : ¬ 6 < m.a := by omega
  have t4 : ¬ m.b < 0 := by omega
  have t5 : ¬ 6 < m.b := by omega
  have t6 : (m.a == m.b) = false := beq_eq_false_iff_ne.2 p7
  go_wp2_with fail
  with_reducible refine (nrefright_any m.r m.s _).mono ?_
  rw [NB.out]
  rintro e w1 ⟨rfl, hb⟩
  have E0 := hid (K0.out.below hb K0.out.lt)
  have EB := hid (below_pay KB.out (by have := K0.out.lt; omega) hb)
  clear hb c0 c1 c2 c3 c4 c5 K0 KB t0 t1 t2 t3 t4 t5 t6
  cases nb
  · go_wp2
    go_ret
    exact ⟨ret_bool (by rw [HV.out]; simp), by rw [HG.out]; exact EB.out⟩
  have c0 := E0.out.m0
  have c5 := E0.out.m5
  have c6 := E0.out.m6
  rw [OK.out] at c6
  go_wp2_with fail
  with_reducible refine (refballot_int m.bal _ HOB.out).mono ?_
  rw [BA.out]
  rintro e w2 ⟨rfl, rfl⟩
  cases ba
  · go_wp2
    go_ret
    exact ⟨ret_bool (by rw [HV.out]; simp), by rw [HG.out]; exact EB.out⟩
  rcases Decidable.em (m.k = 6) with h6 | h6
  · have h6b : (m.k == 6) = true := beq_iff_eq.2 h6
    have H6 := hid h6
    clear h6
    have EQ := eq_refx_zero m.x ez EZ.out
    have EG := refx_guard
    cases ok
    · go_wp2_with (with_reducible refine wpList_load_knowng (op := ⟨some 59, _, _, _, _, _⟩) (by kernel_rfl) 48 (.tmp 58) rfl g rfl E0.out _ Tryz.underlying48 rfl L2.out ?_)
      go_ret
      exact ⟨ret_bool (by rw [HV.out, if_pos H6.out]; simp), by rw [HG.out]; exact EB.out⟩
    · clear EQ EG
      go_wp2
      go_ret
      exact ⟨ret_bool (by rw [HV.out, if_pos H6.out]; simp), by rw [HG.out]; exact EB.out⟩
  have h6b : (m.k == 6) = false := beq_eq_false_iff_ne.2 h6
  have H6 := hid h6
  go_wp2_with (with_reducible refine wpList_load_known (op := ⟨some 64, _, _, _, _, _⟩) rfl 48 (.tmp 63) rfl g rfl E0.out _ Tryz.underlying48 rfl L2.out ?_)
  with_reducible refine (refxright_any m.x HJX.out.1 HJX.out.2 _ hf hp).mono ?_
  rw [RJ.out]
  rintro e w4 ⟨rfl, hb⟩
  have F0 := hid (E0.out.below hb E0.out.lt)
  have FB := hid (below_pay EB.out (by have := E0.out.lt; omega) hb)
  clear hb c0 c5 c6 E0 EB h6b
  cases rj
  · go_wp2
    go_ret
    exact ⟨ret_bool (by rw [HV.out, if_neg H6.out]; simp), by rw [HG.out]; exact FB.out⟩
  have c3 := F0.out.m3
  have c4 := F0.out.m4
  have c7 := F0.out.m7
  have c8 := F0.out.m8
  have EQN := eq_refnameT m.x.r m.x.s m.r m.s en EN.out
  have EGN := refname_guard
  cases en
  · go_wp2
    go_ret
    exact ⟨ret_bool (by rw [HV.out, if_neg H6.out]; simp), by rw [HG.out]; exact FB.out⟩
  have hk : m.k = 1 ∨ m.k = 2 ∨ m.k = 3 ∨ m.k = 4 ∨ m.k = 5 ∨ m.k = 7 := by omega
  have HVV : Hid (docM m = (replyB m.k || (!ok && (m.x.st == statK m.k) && (m.x.bal == m.bal) && (m.x.vote == m.bal) && !sm))) := hid (by rw [HV.out, if_neg H6.out]; simp)
  clear h6 p1 p2 p3 p4 p5 p6 p7 HV H6
  have c0 := F0.out.m0
  rcases hk with hk | hk | hk | hk | hk | hk
  · rw [hk] at c0
    have IX := want_ix1
    have c5 := F0.out.m5
    have c6 := F0.out.m6
    have c9 := F0.out.m9
    have c10 := F0.out.m10
    have c11 := F0.out.m11
    have c12 := F0.out.m12
    rw [OK.out] at c6
    rw [SM.out] at c12
    have HW : Hid (docM m = (!ok && (m.x.st == 1) && (m.x.bal == m.bal) && (m.x.vote == m.bal) && !sm)) := hid (by rw [HVV.out, hk]; simp [replyB, statK])
    clear HVV
    obtain ⟨b1, h1⟩ : ∃ a, (m.x.st == 1) = a := ⟨_, rfl⟩
    obtain ⟨b2, h2⟩ : ∃ a, (m.x.bal == m.bal) = a := ⟨_, rfl⟩
    obtain ⟨b3, h3⟩ : ∃ a, (m.x.vote == m.bal) = a := ⟨_, rfl⟩
    have HW : Hid (docM m = (!ok && b1 && b2 && b3 && !sm)) := hid (by rw [HW.out, h1, h2, h3])
    cases ok
    · cases b1
      · go_wp2
        go_ret
        exact ⟨ret_bool (by rw [HW.out]; simp), by rw [HG.out]; exact FB.out⟩
      cases b2
      · go_wp2
        go_ret
        exact ⟨ret_bool (by rw [HW.out]; simp), by rw [HG.out]; exact FB.out⟩
      cases b3
      · go_wp2
        go_ret
        exact ⟨ret_bool (by rw [HW.out]; simp), by rw [HG.out]; exact FB.out⟩
      go_wp2
      go_ret
      exact ⟨ret_bool (by rw [HW.out]; simp), by rw [HG.out]; exact FB.out⟩
    · go_wp2
      go_ret
      exact ⟨ret_bool (by rw [HW.out]; simp), by rw [HG.out]; exact FB.out⟩
  · rw [hk] at c0
    go_wp2
    go_ret
    exact ⟨ret_bool (by rw [HVV.out, hk]; simp [replyB]), by rw [HG.out]; exact FB.out⟩
  · rw [hk] at c0
    have IX := want_ix3
    have c5 := F0.out.m5
    have c6 := F0.out.m6
    have c9 := F0.out.m9
    have c10 := F0.out.m10
    have c11 := F0.out.m11
    have c12 := F0.out.m12
    rw [OK.out] at c6
    rw [SM.out] at c12
    have HW : Hid (docM m = (!ok && (m.x.st == 2) && (m.x.bal == m.bal) && (m.x.vote == m.bal) && !sm)) := hid (by rw [HVV.out, hk]; simp [replyB, statK])
    clear HVV
    obtain ⟨b1, h1⟩ : ∃ a, (m.x.st == 2) = a := ⟨_, rfl⟩
    obtain ⟨b2, h2⟩ : ∃ a, (m.x.bal == m.bal) = a := ⟨_, rfl⟩
    obtain ⟨b3, h3⟩ : ∃ a, (m.x.vote == m.bal) = a := ⟨_, rfl⟩
    have HW : Hid (docM m = (!ok && b1 && b2 && b3 && !sm)) := hid (by rw [HW.out, h1, h2, h3])
    cases ok
    · cases b1
      · go_wp2
        go_ret
        exact ⟨ret_bool (by rw [HW.out]; simp), by rw [HG.out]; exact FB.out⟩
      cases b2
      · go_wp2
        go_ret
        exact ⟨ret_bool (by rw [HW.out]; simp), by rw [HG.out]; exact FB.out⟩
      cases b3
      · go_wp2
        go_ret
        exact ⟨ret_bool (by rw [HW.out]; simp), by rw [HG.out]; exact FB.out⟩
      go_wp2
      go_ret
      exact ⟨ret_bool (by rw [HW.out]; simp), by rw [HG.out]; exact FB.out⟩
    · go_wp2
      go_ret
      exact ⟨ret_bool (by rw [HW.out]; simp), by rw [HG.out]; exact FB.out⟩
  · rw [hk] at c0
    go_wp2
    go_ret
    exact ⟨ret_bool (by rw [HVV.out, hk]; simp [replyB]), by rw [HG.out]; exact FB.out⟩
  · rw [hk] at c0
    have IX := want_ix5
    have c5 := F0.out.m5
    have c6 := F0.out.m6
    have c9 := F0.out.m9
    have c10 := F0.out.m10
    have c11 := F0.out.m11
    have c12 := F0.out.m12
    rw [OK.out] at c6
    rw [SM.out] at c12
    have HW : Hid (docM m = (!ok && (m.x.st == 3) && (m.x.bal == m.bal) && (m.x.vote == m.bal) && !sm)) := hid (by rw [HVV.out, hk]; simp [replyB, statK])
    clear HVV
    obtain ⟨b1, h1⟩ : ∃ a, (m.x.st == 3) = a := ⟨_, rfl⟩
    obtain ⟨b2, h2⟩ : ∃ a, (m.x.bal == m.bal) = a := ⟨_, rfl⟩
    obtain ⟨b3, h3⟩ : ∃ a, (m.x.vote == m.bal) = a := ⟨_, rfl⟩
    have HW : Hid (docM m = (!ok && b1 && b2 && b3 && !sm)) := hid (by rw [HW.out, h1, h2, h3])
    cases ok
    · cases b1
      · go_wp2
        go_ret
        exact ⟨ret_bool (by rw [HW.out]; simp), by rw [HG.out]; exact FB.out⟩
      cases b2
      · go_wp2
        go_ret
        exact ⟨ret_bool (by rw [HW.out]; simp), by rw [HG.out]; exact FB.out⟩
      cases b3
      · go_wp2
        go_ret
        exact ⟨ret_bool (by rw [HW.out]; simp), by rw [HG.out]; exact FB.out⟩
      go_wp2
      go_ret
      exact ⟨ret_bool (by rw [HW.out]; simp), by rw [HG.out]; exact FB.out⟩
    · go_wp2
      go_ret
      exact ⟨ret_bool (by rw [HW.out]; simp), by rw [HG.out]; exact FB.out⟩
  · rw [hk] at c0
    go_wp2
    go_ret
    exact ⟨ret_bool (by rw [HVV.out, hk]; simp [replyB]), by rw [HG.out]; exact FB.out⟩
end Go.Proofs.YtohffiehmmcgbaaGreatDoor
