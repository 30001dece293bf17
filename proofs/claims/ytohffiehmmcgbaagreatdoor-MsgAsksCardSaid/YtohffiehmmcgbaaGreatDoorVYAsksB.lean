/-
  The law MsgAsks, walked.
-/
import Derived.Test.YtohffiehmmcgbaaGreatDoorVYAsksM
namespace Go.Proofs.YtohffiehmmcgbaaGreatDoor.msgAsks
open Go.ChangeShapes Go.WideShapes Go.ChangeAt Go.RowKit Go.Lib
set_option linter.unusedVariables false
set_option linter.unusedSimpArgs false

set_option maxRecDepth 100000 in
set_option maxHeartbeats 16000000 in
theorem walk_3 (a b bal : Int) (x y : J) (ok : Bool) (hB : 0 ≤ bal ∧ bal < 4294967296) (hox : okJ x) (hkx : okK x.c) (hoy : okJ y) (hky : okK y.c) (w : World) (hP : PartsIs w) :
    Calls Tryz.prog 8 #[.int .i64 3, .int .i64 a, .int .i64 b, .int .u32 bal, .agg (rowJ x), .agg (rowJ y), .bool ok] w fun e w' => e = .returned (.bool true) ∧ Below w.heap.size w w' := by
  obtain ⟨rx, hrx⟩ : ∃ a, rightJ x = a := ⟨_, rfl⟩
  obtain ⟨ry, hry⟩ : ∃ a, rightJ y = a := ⟨_, rfl⟩
  obtain ⟨ba, hba⟩ : ∃ a, balB bal = a := ⟨_, rfl⟩
  obtain ⟨en, hen⟩ : ∃ a, (y.r == x.r && y.s == x.s) = a := ⟨_, rfl⟩
  have RX := hid hrx
  have RY := hid hry
  have BA := hid hba
  have EN := hid hen
  have HB := hid hB
  have OX := hid hox
  have KX := hid hkx
  have OY := hid hoy
  have KY := hid hky
  have HP := hid hP
  have L1 := hid (len_inst x)
  have L2 := hid (len_inst y)
  clear hrx hry hba hen hB hox hkx hoy hky hP
  go_enter Tryz.func8, Tryz.ntmps8
  go_upto_region 1 with fail
  obtain ⟨W, hW⟩ : ∃ W, (w.alloc (.cells (rowJ x) 37)).alloc (.cells (rowJ y) 37) = W := ⟨_, rfl⟩
  rw [hW]
  obtain ⟨K0, K1, KB⟩ := twoj_new hW
  have PW := hid (HP.out.below KB.out)
  clear hW HP
  obtain ⟨g, hg⟩ : ∃ g, w.heap.size = g := ⟨_, rfl⟩
  rw [hg] at K0 K1 KB
  rw [hg]
  have HK := hid hg
  have A0 : Hid (Pair w g W x y) := hid ⟨K0.out, K1.out, KB.out, PW.out⟩
  clear hg K0 K1 KB PW
  go_wp2_with fail
  with_reducible refine (anchor11 _ A0.out.parts).mono ?_
  rintro e w1 ⟨rfl, hb⟩
  have A1 := hid (A0.out.on hb)
  clear hb A0
  by_cases t0 : a < 0
  · go_wp2
    go_ret
    exact ⟨rfl, by rw [HK.out]; exact A1.out.bel⟩
  have v0 : decide (a < 0) = false := decide_eq_false t0
  by_cases t1 : 6 < a
  · go_wp2
    go_ret
    exact ⟨rfl, by rw [HK.out]; exact A1.out.bel⟩
  have v1 : decide (6 < a) = false := decide_eq_false t1
  by_cases t2 : b < 0
  · go_wp2
    go_ret
    exact ⟨rfl, by rw [HK.out]; exact A1.out.bel⟩
  have v2 : decide (b < 0) = false := decide_eq_false t2
  by_cases t3 : 6 < b
  · go_wp2
    go_ret
    exact ⟨rfl, by rw [HK.out]; exact A1.out.bel⟩
  have v3 : decide (6 < b) = false := decide_eq_false t3
  by_cases t4 : a = b
  · have t5 : (a == b) = true := beq_iff_eq.2 t4
    go_wp2
    go_ret
    exact ⟨rfl, by rw [HK.out]; exact A1.out.bel⟩
  have t5 : (a == b) = false := beq_eq_false_iff_ne.2 t4
  have HG := hid (show 0 ≤ a ∧ a ≤ 6 ∧ 0 ≤ b ∧ b ≤ 6 ∧ a ≠ b from ⟨by omega, by omega, by omega, by omega, t4⟩)
  clear t4
  have c8 := A1.out.fst.j8
  have c10 := A1.out.fst.j10
  have d8 := A1.out.snd.j8
  have d10 := A1.out.snd.j10
  go_upto_region 5 with fail
  clear t0 t1 t2 t3 t5 v0 v1 v2 v3
  by_cases t0 : 200 < x.c.path.size
  · go_wp2
    go_ret
    exact ⟨rfl, by rw [HK.out]; exact A1.out.bel⟩
  have v0 : decide ((200 : Int) < ((x.c.path.size : Nat) : Int)) = false := decide_eq_false (by omega)
  by_cases t1 : 200 < x.c.foot.size
  · go_wp2
    go_ret
    exact ⟨rfl, by rw [HK.out]; exact A1.out.bel⟩
  have v1 : decide ((200 : Int) < ((x.c.foot.size : Nat) : Int)) = false := decide_eq_false (by omega)
  by_cases t2 : 200 < y.c.path.size
  · go_wp2
    go_ret
    exact ⟨rfl, by rw [HK.out]; exact A1.out.bel⟩
  have v2 : decide ((200 : Int) < ((y.c.path.size : Nat) : Int)) = false := decide_eq_false (by omega)
  by_cases t3 : 200 < y.c.foot.size
  · go_wp2
    go_ret
    exact ⟨rfl, by rw [HK.out]; exact A1.out.bel⟩
  have v3 : decide ((200 : Int) < ((y.c.foot.size : Nat) : Int)) = false := decide_eq_false (by omega)
  go_wp2_with (with_reducible refine wpList_load_rowg (o := ⟨some 83, _, _, _, _, _⟩) (by kernel_rfl) 37 (.tmp 11) rfl g rfl 37 (rowJ x) (0, 0) _ A1.out.fst.heap Tryz.underlying37 rfl L1.out ?_)
  with_reducible refine (jright_any x OX.out _ A1.out.parts (by omega) (by omega)).mono ?_
  rw [RX.out]
  rintro e w2 ⟨rfl, hb⟩
  have A2 := hid (A1.out.on hb)
  clear hb c8 c10 d8 d10 A1
  cases rx
  · go_wp2
    go_ret
    exact ⟨rfl, by rw [HK.out]; exact A2.out.bel⟩
  go_wp2_with (with_reducible refine wpList_load_rowg (o := ⟨some 88, _, _, _, _, _⟩) (by kernel_rfl) 37 (.tmp 12) rfl (g + 1) rfl 37 (rowJ y) (0, 0) _ A2.out.snd.heap Tryz.underlying37 rfl L2.out ?_)
  with_reducible refine (jright_any y OY.out _ A2.out.parts (by omega) (by omega)).mono ?_
  rw [RY.out]
  rintro e w3 ⟨rfl, hb⟩
  have A3 := hid (A2.out.on hb)
  clear hb A2
  cases ry
  · go_wp2
    go_ret
    exact ⟨rfl, by rw [HK.out]; exact A3.out.bel⟩
  go_wp2_with fail
  with_reducible refine (balright_int bal _ HB.out).mono ?_
  rw [BA.out]
  rintro e w4 ⟨rfl, rfl⟩
  cases ba
  · go_wp2
    go_ret
    exact ⟨rfl, by rw [HK.out]; exact A3.out.bel⟩
  have c2 := A3.out.fst.j2
  by_cases ts : x.st = 0
  · have ts0 : (x.st == 0) = true := beq_iff_eq.2 ts
    go_wp2
    go_ret
    exact ⟨rfl, by rw [HK.out]; exact A3.out.bel⟩
  have ts0 : (x.st == 0) = false := beq_eq_false_iff_ne.2 ts
  have TS := hid ts
  clear ts
  have HS1 := hid (show x.c.foot.size ≤ 281474976710656 by omega)
  have HS2 := hid (show x.c.path.size ≤ 281474976710656 by omega)
  have HS3 := hid (show y.c.foot.size ≤ 281474976710656 by omega)
  have HS4 := hid (show y.c.path.size ≤ 281474976710656 by omega)
  have HS5 := hid (show y.c.foot.size ≤ 900 by omega)
  have HS6 := hid (show y.c.path.size ≤ 900 by omega)
  have OM : Hid (okM ⟨3, a, b, x.r, x.s, bal, false, askedJ 3 bal x⟩) := hid (ask_ok HB.out KX.out)
  have RM : Hid (rightM ⟨3, a, b, x.r, x.s, bal, false, askedJ 3 bal x⟩ = true) := hid (ask_right (by decide) HG.out RX.out TS.out BA.out)
  have SF : Hid (((askedJ 3 bal x) : J).c.foot.size ≤ 900) := hid (by show x.c.foot.size ≤ _; omega)
  have SP : Hid (((askedJ 3 bal x) : J).c.path.size ≤ 900) := hid (by show x.c.path.size ≤ _; omega)
  have M1 := hid (len_msg ⟨3, a, b, x.r, x.s, bal, false, askedJ 3 bal x⟩)
  have M3 := hid (rowM_one ⟨3, a, b, x.r, x.s, bal, false, askedJ 3 bal x⟩)
  have MA : Hid (rowM (askM 3 a b bal x) = rowM ⟨3, a, b, x.r, x.s, bal, false, askedJ 3 bal x⟩) := hid rfl
  go_wp2_with (with_reducible refine wpList_load_row (o := ⟨some 106, _, _, _, _, _⟩) rfl 37 (.tmp 11) rfl g rfl 37 (rowJ x) (0, 0) _ A3.out.fst.heap Tryz.underlying37 rfl L1.out ?_)
  with_reducible refine (ask_any 3 a b bal x _ (by decide) HS1.out HS2.out).mono ?_
  rw [MA.out]
  rintro e w5 ⟨rfl, hb⟩
  have A4 := hid (A3.out.on hb)
  clear hb c2 ts0 A3 t0 t1 t2 t3 v0 v1 v2 v3
  obtain ⟨n, hn⟩ : ∃ n, w5.heap.size = n := ⟨_, rfl⟩
  have hgn : g + 1 < n := by have := A4.out.snd.lt; omega
  have E0 : Hid (Blk (w5.alloc (.cells zrowM 64)) n 64 zrowM) := hid (by rw [← hn]; exact Blk.new w5 64 zrowM)
  go_upto_region 8 with (refine wpList_store_row (o := ⟨none, _, _, _, _, _⟩) rfl 64 (.tmp 15) (.tmp 107) rfl n (rowM ⟨3, a, b, x.r, x.s, bal, false, askedJ 3 bal x⟩) rfl rfl 64 zrowM E0.out.heap M1.out rfl M3.out ?_)
  obtain ⟨W6, hW6⟩ : ∃ W6, (w5.alloc (.cells zrowM 64)).setRow n (rowM ⟨3, a, b, x.r, x.s, bal, false, askedJ 3 bal x⟩) = W6 := ⟨_, rfl⟩
  have A5 : Hid (Pair w g W6 x y) := hid (by
    rw [← hW6]
    exact ⟨(A4.out.fst.alloc _).rowFar (by omega) _, (A4.out.snd.alloc _).rowFar (by omega) _, below_setRow_ (A4.out.bel.trans ((Below.refl _ w5).alloc (by omega) _)) (by omega), var_under gParts (A4.out.parts.alloc (.cells zrowM 64)) (base := n) (by have := A4.out.parts.lt; omega) (below_setRow_ (Below.refl _ _) (Nat.le_refl _))⟩)
  have B5 : Hid (Blk W6 n 64 (rowM ⟨3, a, b, x.r, x.s, bal, false, askedJ 3 bal x⟩)) := hid (by rw [← hW6]; exact E0.out.row _)
  rw [hW6]
  clear hW6 hn E0 A4
  go_wp2_with (with_reducible refine wpList_load_row (o := ⟨some 108, _, _, _, _, _⟩) rfl 64 (.tmp 15) rfl n rfl 64 (rowM ⟨3, a, b, x.r, x.s, bal, false, askedJ 3 bal x⟩) (0, 0) _ B5.out.heap Tryz.underlying64 rfl M1.out ?_)
  with_reducible refine (of11 ⟨3, a, b, x.r, x.s, bal, false, askedJ 3 bal x⟩ _).mono ?_
  rintro e w6 ⟨rfl, hb⟩
  have A6 := hid (A5.out.on hb)
  have B6 := hid (B5.out.below hb B5.out.lt)
  clear hb A5 B5
  go_wp2_with fail
  with_reducible refine (refmright_any ⟨3, a, b, x.r, x.s, bal, false, askedJ 3 bal x⟩ OM.out _ SF.out SP.out).mono ?_
  rw [RM.out]
  rintro e w7 ⟨rfl, hb⟩
  have A7 := hid (A6.out.on hb)
  have B7 := hid (B6.out.below hb B6.out.lt)
  clear hb A6 B6
  go_wp2_with (with_reducible refine wpList_load_rowg (o := ⟨some 113, _, _, _, _, _⟩) (by kernel_rfl) 64 (.tmp 15) rfl n rfl 64 (rowM ⟨3, a, b, x.r, x.s, bal, false, askedJ 3 bal x⟩) (0, 0) _ B7.out.heap Tryz.underlying64 rfl M1.out ?_)
  with_reducible refine (mright_any ⟨3, a, b, x.r, x.s, bal, false, askedJ 3 bal x⟩ OM.out _ A7.out.parts (Nat.le_trans SF.out (by decide)) (Nat.le_trans SP.out (by decide))).mono ?_
  rw [RM.out]
  rintro e w8 ⟨rfl, hb⟩
  have A8 := hid (A7.out.on hb)
  have B8 := hid (B7.out.below hb B7.out.lt)
  clear hb A7 B7
  have c0 := A8.out.fst.j0
  have c1 := A8.out.fst.j1
  have d3 : w8.cell? ⟨n, 3, none⟩ = some (.int .i64 x.r) := B8.out.m3
  have d4 : w8.cell? ⟨n, 4, none⟩ = some (.int .i64 x.s) := B8.out.m4
  have d5 : w8.cell? ⟨n, 5, none⟩ = some (.int .u32 bal) := B8.out.m5
  have EQN := eq_name x.r x.s x.r x.s true (by simp)
  have EGN := nm_guard
  have L0 := hid info_inst
  go_wp2_with (first
    | (with_reducible refine wpList_load_knowng (op := ⟨some 135, _, _, _, _, _⟩) (by kernel_rfl) 37 (.tmp 134) rfl n rfl B8.out _ Tryz.underlying37 rfl L0.out ?_)
    | (with_reducible refine wpList_load_rowg (o := ⟨some 136, _, _, _, _, _⟩) (by kernel_rfl) 37 (.tmp 11) rfl g rfl 37 (rowJ x) (0, 0) _ A8.out.fst.heap Tryz.underlying37 rfl L1.out ?_))
  with_reducible refine (alike_any (askedJ 3 bal x) x _).mono ?_
  rw [alike_asked]
  rintro e w9 ⟨rfl, hb⟩
  have A9 := hid (A8.out.on hb)
  have B9 := hid (B8.out.below hb B8.out.lt)
  clear hb A8 B8 c0 c1 d3 d4 d5 EQN EGN
  have c0 := A9.out.fst.j0
  have c1 := A9.out.fst.j1
  have d0 := A9.out.snd.j0
  have d1 := A9.out.snd.j1
  have EQN := eq_name y.r y.s x.r x.s en EN.out
  have EGN := nm_guard
  cases en
  · go_wp2
    go_ret
    exact ⟨rfl, by rw [HK.out]; exact A9.out.bel⟩
  have OR : Hid (okM ⟨4, b, a, x.r, x.s, bal, ok, y⟩) := hid (told_ok HB.out OY.out KY.out)
  have RR : Hid (rightM ⟨4, b, a, x.r, x.s, bal, ok, y⟩ = true) := hid (told_right (by decide) HG.out RY.out EN.out BA.out)
  have R1 := hid (len_msg ⟨4, b, a, x.r, x.s, bal, ok, y⟩)
  have R3 := hid (rowM_one ⟨4, b, a, x.r, x.s, bal, ok, y⟩)
  have RA : Hid (rowM (replyM ⟨3, a, b, x.r, x.s, bal, false, askedJ 3 bal x⟩ ok y) = rowM ⟨4, b, a, x.r, x.s, bal, ok, y⟩) := hid rfl
  go_wp2_with (first
    | (with_reducible refine wpList_load_row (o := ⟨some 150, _, _, _, _, _⟩) rfl 64 (.tmp 15) rfl n rfl 64 (rowM ⟨3, a, b, x.r, x.s, bal, false, askedJ 3 bal x⟩) (0, 0) _ B9.out.heap Tryz.underlying64 rfl M1.out ?_)
    | (with_reducible refine wpList_load_row (o := ⟨some 152, _, _, _, _, _⟩) rfl 37 (.tmp 12) rfl (g + 1) rfl 37 (rowJ y) (0, 0) _ A9.out.snd.heap Tryz.underlying37 rfl L2.out ?_))
  with_reducible refine (reply_any ⟨3, a, b, x.r, x.s, bal, false, askedJ 3 bal x⟩ ok y _ (show (0 : Int) ≤ 3 ∧ (3 : Int) ≤ 7 by decide) HS3.out HS4.out).mono ?_
  rw [RA.out]
  rintro e w10 ⟨rfl, hb⟩
  have A10 := hid (A9.out.on hb)
  clear hb A9 B9 c0 c1 d0 d1 EQN EGN
  obtain ⟨q, hq⟩ : ∃ q, w10.heap.size = q := ⟨_, rfl⟩
  have hgq : g + 1 < q := by have := A10.out.snd.lt; omega
  have E0 : Hid (Blk (w10.alloc (.cells zrowM 64)) q 64 zrowM) := hid (by rw [← hq]; exact Blk.new w10 64 zrowM)
  go_upto_region 13 with (refine wpList_store_row (o := ⟨none, _, _, _, _, _⟩) rfl 64 (.tmp 16) (.tmp 153) rfl q (rowM ⟨4, b, a, x.r, x.s, bal, ok, y⟩) rfl rfl 64 zrowM E0.out.heap R1.out rfl R3.out ?_)
  obtain ⟨W11, hW11⟩ : ∃ W11, (w10.alloc (.cells zrowM 64)).setRow q (rowM ⟨4, b, a, x.r, x.s, bal, ok, y⟩) = W11 := ⟨_, rfl⟩
  have A11 : Hid (Pair w g W11 x y) := hid (by
    rw [← hW11]
    exact ⟨(A10.out.fst.alloc _).rowFar (by omega) _, (A10.out.snd.alloc _).rowFar (by omega) _, below_setRow_ (A10.out.bel.trans ((Below.refl _ w10).alloc (by omega) _)) (by omega), var_under gParts (A10.out.parts.alloc (.cells zrowM 64)) (base := q) (by have := A10.out.parts.lt; omega) (below_setRow_ (Below.refl _ _) (Nat.le_refl _))⟩)
  have B11 : Hid (Blk W11 q 64 (rowM ⟨4, b, a, x.r, x.s, bal, ok, y⟩)) := hid (by rw [← hW11]; exact E0.out.row _)
  rw [hW11]
  clear hW11 hq E0 A10
  go_wp2_with (with_reducible refine wpList_load_row (o := ⟨some 154, _, _, _, _, _⟩) rfl 64 (.tmp 16) rfl q rfl 64 (rowM ⟨4, b, a, x.r, x.s, bal, ok, y⟩) (0, 0) _ B11.out.heap Tryz.underlying64 rfl R1.out ?_)
  with_reducible refine (of11 ⟨4, b, a, x.r, x.s, bal, ok, y⟩ _).mono ?_
  rintro e w12 ⟨rfl, hb⟩
  have A12 := hid (A11.out.on hb)
  have B12 := hid (B11.out.below hb B11.out.lt)
  clear hb A11 B11
  go_wp2_with fail
  with_reducible refine (refmright_any ⟨4, b, a, x.r, x.s, bal, ok, y⟩ OR.out _ HS5.out HS6.out).mono ?_
  rw [RR.out]
  rintro e w13 ⟨rfl, hb⟩
  have A13 := hid (A12.out.on hb)
  have B13 := hid (B12.out.below hb B12.out.lt)
  clear hb A12 B12
  have c0 := A13.out.fst.j0
  have c1 := A13.out.fst.j1
  have d0 : w13.cell? ⟨q, 0, none⟩ = some (.int .i64 4) := B13.out.m0
  have d1 : w13.cell? ⟨q, 1, none⟩ = some (.int .i64 b) := B13.out.m1
  have d2 : w13.cell? ⟨q, 2, none⟩ = some (.int .i64 a) := B13.out.m2
  have d3 : w13.cell? ⟨q, 3, none⟩ = some (.int .i64 x.r) := B13.out.m3
  have d4 : w13.cell? ⟨q, 4, none⟩ = some (.int .i64 x.s) := B13.out.m4
  have d5 : w13.cell? ⟨q, 5, none⟩ = some (.int .u32 bal) := B13.out.m5
  have d6 : w13.cell? ⟨q, 6, none⟩ = some (.bool ok) := B13.out.m6
  have EQN := eq_name x.r x.s x.r x.s true (by simp)
  have EGN := nm_guard
  have EQJ := eq_inst y y true (eqJ_self y)
  have EGJ := inst_guard
  have L0 := hid info_inst
  go_wp2_with (first
    | (with_reducible refine wpList_load_knowng (op := ⟨some 197, _, _, _, _, _⟩) (by kernel_rfl) 37 (.tmp 196) rfl q rfl B13.out _ Tryz.underlying37 rfl L0.out ?_)
    | (with_reducible refine wpList_load_rowg (o := ⟨some 198, _, _, _, _, _⟩) (by kernel_rfl) 37 (.tmp 12) rfl (g + 1) rfl 37 (rowJ y) (0, 0) _ A13.out.snd.heap Tryz.underlying37 rfl L2.out ?_))
  go_ret
  exact ⟨rfl, by rw [HK.out]; exact A13.out.bel⟩

end Go.Proofs.YtohffiehmmcgbaaGreatDoor.msgAsks
