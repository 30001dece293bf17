/-
  The contract of guess (package cmd), once for each class of kinds.
-/
import Derived.Test.YtohffiehmmcgbaaGreatDoorXN
namespace Go.Proofs.YtohffiehmmcgbaaGreatDoor
open Go.ChangeShapes Go.WideShapes Go.ChangeAt Go.RowKit Go.Lib
set_option linter.unusedSimpArgs false
set_option linter.unusedVariables false
set_option maxRecDepth 100000 in
set_option maxHeartbeats 4000000 in
theorem guess_3 (s nm r0 : ByteArray) (k : Int) (w : World) (hL : Laid7 w) (hz : s.size ≤ 100000) (hc : cutC 32 (L s) = (L nm, L r0)) (hk : kindL (L nm) = k) (hs : Sig k true true false false false true) :
    Calls Tryz.prog 155 #[.string s] w fun e w' => e = .returned (val (gOf (L s))) ∧ Below w.heap.size w w' := by
  obtain ⟨s0, s1, s2, s3, s4, s5⟩ := hs
  have S0 := hid s0
  have S1 := hid s1
  have S2 := hid s2
  have S3 := hid s3
  have S4 := hid s4
  have S5 := hid s5
  have HC := hid hc
  have HK := hid hk
  have HL := hid hL
  have HZ : Hid (r0.size ≤ 100000) := hid (by have h := (cutC_len 32 (L s)).2; rw [hc, L_length, L_length] at h; omega)
  have Z0 : Hid (Blk (w.alloc (.cells (cellsOf zK) 32)) w.heap.size 32 (cellsOf zK)) := hid (Blk.new _ _ _)
  have W0 := hid ((Below.refl w.heap.size w).alloc (Nat.le_refl _) (.cells (cellsOf zK) 32))
  clear s0 s1 s2 s3 s4 s5 hc hk hL
  go_enter Tryz.func155, Tryz.ntmps155
  go_wp2_with fail
  refine (cut7 32 s _ (by omega)).mono ?_
  rintro e w1 ⟨a, b, fl, rfl, hc, hb⟩
  obtain ⟨ea, eb⟩ : L nm = L a ∧ L r0 = L b := by rw [HC.out] at hc; simpa using hc
  obtain rfl := L_inj.1 ea
  obtain rfl := L_inj.1 eb
  have Z1 := hid (Z0.out.below hb Z0.out.lt)
  have W1 := hid (W0.out.trans (hb.mono W0.out.size))
  have HL1 := hid (HL.out.below W1.out)
  clear ea eb hc hb Z0 W0
  obtain ⟨g, hg⟩ : ∃ g, w1.heap.size = g := ⟨_, rfl⟩
  have hwg : w.heap.size < g := by rw [← hg]; exact Z1.out.lt
  have G1 : Hid (Blk (w1.alloc (.cells #[.string r0] 9)) g 9 #[.string r0]) := hid (by rw [← hg]; exact Blk.new _ _ _)
  have W2 := hid (W1.out.alloc W1.out.size (.cells #[.string r0] 9))
  have Z2 := hid (Z1.out.alloc (.cells #[.string r0] 9))
  have HL2 := hid (HL.out.below W2.out)
  clear Z1 W1 HL1
  go_wp2_with fail
  with_reducible refine (kindof7 nm _ HL2.out).mono ?_
  rw [HK.out]
  rintro e w3 ⟨rfl, hb⟩
  obtain ⟨y, hy⟩ : ∃ y, w3.heap.size = y := ⟨_, rfl⟩
  have hgy : g < y := by rw [← hy]; exact (G1.out.below hb G1.out.lt).lt
  have A3 : Hid (GAt w (w3.alloc (.cells (cellsOf ⟨k, 0, ⟨#[]⟩, 0, ⟨#[]⟩, 0, 0, 0⟩) 32)) g y ⟨k, 0, ⟨#[]⟩, 0, ⟨#[]⟩, 0, 0, 0⟩ r0) := hid ⟨(G1.out.below hb G1.out.lt).alloc _, by rw [← hy]; exact Blk.new _ _ _, (Z2.out.below hb Z2.out.lt).alloc _, hwg, hgy, (W2.out.trans (hb.mono W2.out.size)).alloc (Nat.le_trans (W2.out.size) hb.size) _, HL.out⟩
  have HY := hid hy
  have HG := hid hg
  clear hb G1 W2 Z2 HL2 hy hg
  obtain ⟨⟨c0, c1, c2, c3, c4, c5, c6, c7⟩, f0, f1, f2, f3, f4, f5, f6, f7⟩ := cells8 A3.out.2.1
  have hyo := HY.out
  have hgo := HG.out
  go_wp2_with fail
  with_reducible refine (has_0 ⟨k, 0, ⟨#[]⟩, 0, ⟨#[]⟩, 0, 0, 0⟩ true _ S0.out A3.out.parts).mono ?_
  rintro e w4 ⟨rfl, hb⟩
  have A4 := hid (A3.out.on hb)
  clear hb A3
  clear c0 c1 c2 c3 c4 c5 c6 c7 f0 f1 f2 f3 f4 f5 f6 f7
  obtain ⟨⟨c0, c1, c2, c3, c4, c5, c6, c7⟩, f0, f1, f2, f3, f4, f5, f6, f7⟩ := cells8 A4.out.2.1
  clear hyo hgo
  go_wp2_with fail
  with_reducible refine (next7 g r0 _ A4.out.box (by have := HZ.out; omega)).mono ?_
  rintro e w5 ⟨v5, r5, rfl, hv, hr, hk, hgr⟩
  have A5 := hid (A4.out.turn hk hgr)
  have V5 := hid hv
  have R5 := hid hr
  have ZR5 : Hid (r5.size ≤ 100000) := hid (by have h := res_len (L r0); rw [← hr, L_length, L_length] at h; have := HZ.out; omega)
  have ZV5 : Hid (v5.size ≤ 100000) := hid (by have h := val_len (L r0); rw [← hv, L_length, L_length] at h; have := HZ.out; omega)
  clear hv hr hk hgr A4
  clear c0 c1 c2 c3 c4 c5 c6 c7 f0 f1 f2 f3 f4 f5 f6 f7
  obtain ⟨⟨c0, c1, c2, c3, c4, c5, c6, c7⟩, f0, f1, f2, f3, f4, f5, f6, f7⟩ := cells8 A5.out.2.1
  obtain ⟨x6, hx6⟩ : ∃ x : Int, ((readL (L v5) : Nat) : Int) = x := ⟨_, rfl⟩
  have X6 := hid hx6
  go_wp2_with fail
  with_reducible refine (read7 v5 _ (by have := ZV5.out; omega) A5.out.laid).mono ?_
  rw [X6.out]
  rintro e w6 ⟨rfl, hb⟩
  have A6 := hid (A5.out.on hb)
  clear hb A5 hx6
  clear c0 c1 c2 c3 c4 c5 c6 c7 f0 f1 f2 f3 f4 f5 f6 f7
  obtain ⟨⟨c0, c1, c2, c3, c4, c5, c6, c7⟩, f0, f1, f2, f3, f4, f5, f6, f7⟩ := cells8 A6.out.2.1
  have A7 := hid (A6.out.set_ 1 (.int .u64 x6) ⟨k, x6, ⟨#[]⟩, 0, ⟨#[]⟩, 0, 0, 0⟩ rfl)
  clear A6
  go_wp2_with fail
  with_reducible refine (next7 g r5 _ A7.out.box (by have := ZR5.out; omega)).mono ?_
  rintro e w8 ⟨v8, r8, rfl, hv, hr, hk, hgr⟩
  have A8 := hid (A7.out.turn hk hgr)
  have V8 := hid hv
  have R8 := hid hr
  have ZR8 : Hid (r8.size ≤ 100000) := hid (by have h := res_len (L r5); rw [← hr, L_length, L_length] at h; have := ZR5.out; omega)
  have ZV8 : Hid (v8.size ≤ 100000) := hid (by have h := val_len (L r5); rw [← hv, L_length, L_length] at h; have := ZR5.out; omega)
  clear hv hr hk hgr A7
  clear c0 c1 c2 c3 c4 c5 c6 c7 f0 f1 f2 f3 f4 f5 f6 f7
  obtain ⟨⟨c0, c1, c2, c3, c4, c5, c6, c7⟩, f0, f1, f2, f3, f4, f5, f6, f7⟩ := cells8 A8.out.2.1
  go_wp2_with fail
  with_reducible refine (sclone_any v8 _ (by have := ZV8.out; omega)).mono ?_
  rintro e w9 ⟨rfl, hb⟩
  have A9 := hid (A8.out.on hb)
  clear hb A8
  clear c0 c1 c2 c3 c4 c5 c6 c7 f0 f1 f2 f3 f4 f5 f6 f7
  obtain ⟨⟨c0, c1, c2, c3, c4, c5, c6, c7⟩, f0, f1, f2, f3, f4, f5, f6, f7⟩ := cells8 A9.out.2.1
  have A10 := hid (A9.out.set_ 2 (.string v8) ⟨k, x6, v8, 0, ⟨#[]⟩, 0, 0, 0⟩ rfl)
  clear A9
  go_wp2_with fail
  with_reducible refine (has_1 ⟨k, x6, v8, 0, ⟨#[]⟩, 0, 0, 0⟩ true _ S1.out A10.out.parts).mono ?_
  rintro e w11 ⟨rfl, hb⟩
  have A11 := hid (A10.out.on hb)
  clear hb A10
  clear c0 c1 c2 c3 c4 c5 c6 c7 f0 f1 f2 f3 f4 f5 f6 f7
  obtain ⟨⟨c0, c1, c2, c3, c4, c5, c6, c7⟩, f0, f1, f2, f3, f4, f5, f6, f7⟩ := cells8 A11.out.2.1
  go_wp2_with fail
  with_reducible refine (next7 g r8 _ A11.out.box (by have := ZR8.out; omega)).mono ?_
  rintro e w12 ⟨v12, r12, rfl, hv, hr, hk, hgr⟩
  have A12 := hid (A11.out.turn hk hgr)
  have V12 := hid hv
  have R12 := hid hr
  have ZR12 : Hid (r12.size ≤ 100000) := hid (by have h := res_len (L r8); rw [← hr, L_length, L_length] at h; have := ZR8.out; omega)
  have ZV12 : Hid (v12.size ≤ 100000) := hid (by have h := val_len (L r8); rw [← hv, L_length, L_length] at h; have := ZR8.out; omega)
  clear hv hr hk hgr A11
  clear c0 c1 c2 c3 c4 c5 c6 c7 f0 f1 f2 f3 f4 f5 f6 f7
  obtain ⟨⟨c0, c1, c2, c3, c4, c5, c6, c7⟩, f0, f1, f2, f3, f4, f5, f6, f7⟩ := cells8 A12.out.2.1
  obtain ⟨x13, hx13⟩ : ∃ x : Int, ((readL (L v12) : Nat) : Int) = x := ⟨_, rfl⟩
  have X13 := hid hx13
  go_wp2_with fail
  with_reducible refine (read7 v12 _ (by have := ZV12.out; omega) A12.out.laid).mono ?_
  rw [X13.out]
  rintro e w13 ⟨rfl, hb⟩
  have A13 := hid (A12.out.on hb)
  clear hb A12 hx13
  clear c0 c1 c2 c3 c4 c5 c6 c7 f0 f1 f2 f3 f4 f5 f6 f7
  obtain ⟨⟨c0, c1, c2, c3, c4, c5, c6, c7⟩, f0, f1, f2, f3, f4, f5, f6, f7⟩ := cells8 A13.out.2.1
  have A14 := hid (A13.out.set_ 3 (.int .u64 x13) ⟨k, x6, v8, x13, ⟨#[]⟩, 0, 0, 0⟩ rfl)
  clear A13
  go_wp2_with fail
  with_reducible refine (has_2 ⟨k, x6, v8, x13, ⟨#[]⟩, 0, 0, 0⟩ false _ S2.out A14.out.parts).mono ?_
  rintro e w15 ⟨rfl, hb⟩
  have A15 := hid (A14.out.on hb)
  clear hb A14
  clear c0 c1 c2 c3 c4 c5 c6 c7 f0 f1 f2 f3 f4 f5 f6 f7
  obtain ⟨⟨c0, c1, c2, c3, c4, c5, c6, c7⟩, f0, f1, f2, f3, f4, f5, f6, f7⟩ := cells8 A15.out.2.1
  go_wp2_with fail
  with_reducible refine (has_3 ⟨k, x6, v8, x13, ⟨#[]⟩, 0, 0, 0⟩ false _ S3.out A15.out.parts).mono ?_
  rintro e w16 ⟨rfl, hb⟩
  have A16 := hid (A15.out.on hb)
  clear hb A15
  clear c0 c1 c2 c3 c4 c5 c6 c7 f0 f1 f2 f3 f4 f5 f6 f7
  obtain ⟨⟨c0, c1, c2, c3, c4, c5, c6, c7⟩, f0, f1, f2, f3, f4, f5, f6, f7⟩ := cells8 A16.out.2.1
  go_wp2_with fail
  with_reducible refine (has_4 ⟨k, x6, v8, x13, ⟨#[]⟩, 0, 0, 0⟩ false _ S4.out A16.out.parts).mono ?_
  rintro e w17 ⟨rfl, hb⟩
  have A17 := hid (A16.out.on hb)
  clear hb A16
  clear c0 c1 c2 c3 c4 c5 c6 c7 f0 f1 f2 f3 f4 f5 f6 f7
  obtain ⟨⟨c0, c1, c2, c3, c4, c5, c6, c7⟩, f0, f1, f2, f3, f4, f5, f6, f7⟩ := cells8 A17.out.2.1
  go_wp2_with fail
  with_reducible refine (has_5 ⟨k, x6, v8, x13, ⟨#[]⟩, 0, 0, 0⟩ true _ S5.out A17.out.parts).mono ?_
  rintro e w18 ⟨rfl, hb⟩
  have A18 := hid (A17.out.on hb)
  clear hb A17
  clear c0 c1 c2 c3 c4 c5 c6 c7 f0 f1 f2 f3 f4 f5 f6 f7
  obtain ⟨⟨c0, c1, c2, c3, c4, c5, c6, c7⟩, f0, f1, f2, f3, f4, f5, f6, f7⟩ := cells8 A18.out.2.1
  go_wp2_with fail
  with_reducible refine (next7 g r12 _ A18.out.box (by have := ZR12.out; omega)).mono ?_
  rintro e w19 ⟨v19, r19, rfl, hv, hr, hk, hgr⟩
  have A19 := hid (A18.out.turn hk hgr)
  have V19 := hid hv
  have R19 := hid hr
  have ZR19 : Hid (r19.size ≤ 100000) := hid (by have h := res_len (L r12); rw [← hr, L_length, L_length] at h; have := ZR12.out; omega)
  have ZV19 : Hid (v19.size ≤ 100000) := hid (by have h := val_len (L r12); rw [← hv, L_length, L_length] at h; have := ZR12.out; omega)
  clear hv hr hk hgr A18
  clear c0 c1 c2 c3 c4 c5 c6 c7 f0 f1 f2 f3 f4 f5 f6 f7
  obtain ⟨⟨c0, c1, c2, c3, c4, c5, c6, c7⟩, f0, f1, f2, f3, f4, f5, f6, f7⟩ := cells8 A19.out.2.1
  obtain ⟨x20, hx20⟩ : ∃ x : Int, ((readL (L v19) : Nat) : Int) = x := ⟨_, rfl⟩
  have X20 := hid hx20
  obtain ⟨y20, hy20⟩ : ∃ x : Int, IntKind.i64.wrap x20 = x := ⟨_, rfl⟩
  have Y20 := hid hy20
  go_wp2_with fail
  with_reducible refine (read7 v19 _ (by have := ZV19.out; omega) A19.out.laid).mono ?_
  rw [X20.out]
  rintro e w20 ⟨rfl, hb⟩
  have A20 := hid (A19.out.on hb)
  clear hb A19 hx20
  clear c0 c1 c2 c3 c4 c5 c6 c7 f0 f1 f2 f3 f4 f5 f6 f7
  obtain ⟨⟨c0, c1, c2, c3, c4, c5, c6, c7⟩, f0, f1, f2, f3, f4, f5, f6, f7⟩ := cells8 A20.out.2.1
  have A21 := hid (A20.out.set_ 7 (.int .i64 y20) ⟨k, x6, v8, x13, ⟨#[]⟩, 0, 0, y20⟩ rfl)
  clear A20
  have Q := hid A21.out.res
  obtain ⟨⟨d0, d1, d2, d3, d4, d5, d6, d7⟩, g0, g1, g2, g3, g4, g5, g6, g7⟩ := cells8 Q.out.1
  have P := hid (Q.out.put ⟨k, x6, v8, x13, ⟨#[]⟩, 0, 0, y20⟩)
  have E : Hid (gOf (L s) = ⟨k, x6, v8, x13, ⟨#[]⟩, 0, 0, y20⟩) := hid (by unfold gOf; rw [HC.out]; simp only [HK.out, S0.out, S1.out, S2.out, S3.out, S4.out, S5.out, if_true, if_false, Bool.false_eq_true] <;> simp [mk_L, ← V5.out, ← R5.out, X6.out, ← V8.out, ← R8.out, ← V12.out, ← R12.out, X13.out, ← V19.out, ← R19.out, X20.out, Y20.out])
  clear Q A21
  go_wp2
  refine bodyPost_ret (v := val ⟨k, x6, v8, x13, ⟨#[]⟩, 0, 0, y20⟩) (by simp [results, Tryz.results155, go_sem, d0, d1, d2, d3, d4, d5, d6, d7]) rfl ⟨by rw [E.out], P.out.below⟩
set_option maxRecDepth 100000 in
set_option maxHeartbeats 4000000 in
theorem guess_4 (s nm r0 : ByteArray) (k : Int) (w : World) (hL : Laid7 w) (hz : s.size ≤ 100000) (hc : cutC 32 (L s) = (L nm, L r0)) (hk : kindL (L nm) = k) (hs : Sig k true true true true false false) :
    Calls Tryz.prog 155 #[.string s] w fun e w' => e = .returned (val (gOf (L s))) ∧ Below w.heap.size w w' := by
  obtain ⟨s0, s1, s2, s3, s4, s5⟩ := hs
  have S0 := hid s0
  have S1 := hid s1
  have S2 := hid s2
  have S3 := hid s3
  have S4 := hid s4
  have S5 := hid s5
  have HC := hid hc
  have HK := hid hk
  have HL := hid hL
  have HZ : Hid (r0.size ≤ 100000) := hid (by have h := (cutC_len 32 (L s)).2; rw [hc, L_length, L_length] at h; omega)
  have Z0 : Hid (Blk (w.alloc (.cells (cellsOf zK) 32)) w.heap.size 32 (cellsOf zK)) := hid (Blk.new _ _ _)
  have W0 := hid ((Below.refl w.heap.size w).alloc (Nat.le_refl _) (.cells (cellsOf zK) 32))
  clear s0 s1 s2 s3 s4 s5 hc hk hL
  go_enter Tryz.func155, Tryz.ntmps155
  go_wp2_with fail
  refine (cut7 32 s _ (by omega)).mono ?_
  rintro e w1 ⟨a, b, fl, rfl, hc, hb⟩
  obtain ⟨ea, eb⟩ : L nm = L a ∧ L r0 = L b := by rw [HC.out] at hc; simpa using hc
  obtain rfl := L_inj.1 ea
  obtain rfl := L_inj.1 eb
  have Z1 := hid (Z0.out.below hb Z0.out.lt)
  have W1 := hid (W0.out.trans (hb.mono W0.out.size))
  have HL1 := hid (HL.out.below W1.out)
  clear ea eb hc hb Z0 W0
  obtain ⟨g, hg⟩ : ∃ g, w1.heap.size = g := ⟨_, rfl⟩
  have hwg : w.heap.size < g := by rw [← hg]; exact Z1.out.lt
  have G1 : Hid (Blk (w1.alloc (.cells #[.string r0] 9)) g 9 #[.string r0]) := hid (by rw [← hg]; exact Blk.new _ _ _)
  have W2 := hid (W1.out.alloc W1.out.size (.cells #[.string r0] 9))
  have Z2 := hid (Z1.out.alloc (.cells #[.string r0] 9))
  have HL2 := hid (HL.out.below W2.out)
  clear Z1 W1 HL1
  go_wp2_with fail
  with_reducible refine (kindof7 nm _ HL2.out).mono ?_
  rw [HK.out]
  rintro e w3 ⟨rfl, hb⟩
  obtain ⟨y, hy⟩ : ∃ y, w3.heap.size = y := ⟨_, rfl⟩
  have hgy : g < y := by rw [← hy]; exact (G1.out.below hb G1.out.lt).lt
  have A3 : Hid (GAt w (w3.alloc (.cells (cellsOf ⟨k, 0, ⟨#[]⟩, 0, ⟨#[]⟩, 0, 0, 0⟩) 32)) g y ⟨k, 0, ⟨#[]⟩, 0, ⟨#[]⟩, 0, 0, 0⟩ r0) := hid ⟨(G1.out.below hb G1.out.lt).alloc _, by rw [← hy]; exact Blk.new _ _ _, (Z2.out.below hb Z2.out.lt).alloc _, hwg, hgy, (W2.out.trans (hb.mono W2.out.size)).alloc (Nat.le_trans (W2.out.size) hb.size) _, HL.out⟩
  have HY := hid hy
  have HG := hid hg
  clear hb G1 W2 Z2 HL2 hy hg
  obtain ⟨⟨c0, c1, c2, c3, c4, c5, c6, c7⟩, f0, f1, f2, f3, f4, f5, f6, f7⟩ := cells8 A3.out.2.1
  have hyo := HY.out
  have hgo := HG.out
  go_wp2_with fail
  with_reducible refine (has_0 ⟨k, 0, ⟨#[]⟩, 0, ⟨#[]⟩, 0, 0, 0⟩ true _ S0.out A3.out.parts).mono ?_
  rintro e w4 ⟨rfl, hb⟩
  have A4 := hid (A3.out.on hb)
  clear hb A3
  clear c0 c1 c2 c3 c4 c5 c6 c7 f0 f1 f2 f3 f4 f5 f6 f7
  obtain ⟨⟨c0, c1, c2, c3, c4, c5, c6, c7⟩, f0, f1, f2, f3, f4, f5, f6, f7⟩ := cells8 A4.out.2.1
  clear hyo hgo
  go_wp2_with fail
  with_reducible refine (next7 g r0 _ A4.out.box (by have := HZ.out; omega)).mono ?_
  rintro e w5 ⟨v5, r5, rfl, hv, hr, hk, hgr⟩
  have A5 := hid (A4.out.turn hk hgr)
  have V5 := hid hv
  have R5 := hid hr
  have ZR5 : Hid (r5.size ≤ 100000) := hid (by have h := res_len (L r0); rw [← hr, L_length, L_length] at h; have := HZ.out; omega)
  have ZV5 : Hid (v5.size ≤ 100000) := hid (by have h := val_len (L r0); rw [← hv, L_length, L_length] at h; have := HZ.out; omega)
  clear hv hr hk hgr A4
  clear c0 c1 c2 c3 c4 c5 c6 c7 f0 f1 f2 f3 f4 f5 f6 f7
  obtain ⟨⟨c0, c1, c2, c3, c4, c5, c6, c7⟩, f0, f1, f2, f3, f4, f5, f6, f7⟩ := cells8 A5.out.2.1
  obtain ⟨x6, hx6⟩ : ∃ x : Int, ((readL (L v5) : Nat) : Int) = x := ⟨_, rfl⟩
  have X6 := hid hx6
  go_wp2_with fail
  with_reducible refine (read7 v5 _ (by have := ZV5.out; omega) A5.out.laid).mono ?_
  rw [X6.out]
  rintro e w6 ⟨rfl, hb⟩
  have A6 := hid (A5.out.on hb)
  clear hb A5 hx6
  clear c0 c1 c2 c3 c4 c5 c6 c7 f0 f1 f2 f3 f4 f5 f6 f7
  obtain ⟨⟨c0, c1, c2, c3, c4, c5, c6, c7⟩, f0, f1, f2, f3, f4, f5, f6, f7⟩ := cells8 A6.out.2.1
  have A7 := hid (A6.out.set_ 1 (.int .u64 x6) ⟨k, x6, ⟨#[]⟩, 0, ⟨#[]⟩, 0, 0, 0⟩ rfl)
  clear A6
  go_wp2_with fail
  with_reducible refine (next7 g r5 _ A7.out.box (by have := ZR5.out; omega)).mono ?_
  rintro e w8 ⟨v8, r8, rfl, hv, hr, hk, hgr⟩
  have A8 := hid (A7.out.turn hk hgr)
  have V8 := hid hv
  have R8 := hid hr
  have ZR8 : Hid (r8.size ≤ 100000) := hid (by have h := res_len (L r5); rw [← hr, L_length, L_length] at h; have := ZR5.out; omega)
  have ZV8 : Hid (v8.size ≤ 100000) := hid (by have h := val_len (L r5); rw [← hv, L_length, L_length] at h; have := ZR5.out; omega)
  clear hv hr hk hgr A7
  clear c0 c1 c2 c3 c4 c5 c6 c7 f0 f1 f2 f3 f4 f5 f6 f7
  obtain ⟨⟨c0, c1, c2, c3, c4, c5, c6, c7⟩, f0, f1, f2, f3, f4, f5, f6, f7⟩ := cells8 A8.out.2.1
  go_wp2_with fail
  with_reducible refine (sclone_any v8 _ (by have := ZV8.out; omega)).mono ?_
  rintro e w9 ⟨rfl, hb⟩
  have A9 := hid (A8.out.on hb)
  clear hb A8
  clear c0 c1 c2 c3 c4 c5 c6 c7 f0 f1 f2 f3 f4 f5 f6 f7
  obtain ⟨⟨c0, c1, c2, c3, c4, c5, c6, c7⟩, f0, f1, f2, f3, f4, f5, f6, f7⟩ := cells8 A9.out.2.1
  have A10 := hid (A9.out.set_ 2 (.string v8) ⟨k, x6, v8, 0, ⟨#[]⟩, 0, 0, 0⟩ rfl)
  clear A9
  go_wp2_with fail
  with_reducible refine (has_1 ⟨k, x6, v8, 0, ⟨#[]⟩, 0, 0, 0⟩ true _ S1.out A10.out.parts).mono ?_
  rintro e w11 ⟨rfl, hb⟩
  have A11 := hid (A10.out.on hb)
  clear hb A10
  clear c0 c1 c2 c3 c4 c5 c6 c7 f0 f1 f2 f3 f4 f5 f6 f7
  obtain ⟨⟨c0, c1, c2, c3, c4, c5, c6, c7⟩, f0, f1, f2, f3, f4, f5, f6, f7⟩ := cells8 A11.out.2.1
  go_wp2_with fail
  with_reducible refine (next7 g r8 _ A11.out.box (by have := ZR8.out; omega)).mono ?_
  rintro e w12 ⟨v12, r12, rfl, hv, hr, hk, hgr⟩
  have A12 := hid (A11.out.turn hk hgr)
  have V12 := hid hv
  have R12 := hid hr
  have ZR12 : Hid (r12.size ≤ 100000) := hid (by have h := res_len (L r8); rw [← hr, L_length, L_length] at h; have := ZR8.out; omega)
  have ZV12 : Hid (v12.size ≤ 100000) := hid (by have h := val_len (L r8); rw [← hv, L_length, L_length] at h; have := ZR8.out; omega)
  clear hv hr hk hgr A11
  clear c0 c1 c2 c3 c4 c5 c6 c7 f0 f1 f2 f3 f4 f5 f6 f7
  obtain ⟨⟨c0, c1, c2, c3, c4, c5, c6, c7⟩, f0, f1, f2, f3, f4, f5, f6, f7⟩ := cells8 A12.out.2.1
  obtain ⟨x13, hx13⟩ : ∃ x : Int, ((readL (L v12) : Nat) : Int) = x := ⟨_, rfl⟩
  have X13 := hid hx13
  go_wp2_with fail
  with_reducible refine (read7 v12 _ (by have := ZV12.out; omega) A12.out.laid).mono ?_
  rw [X13.out]
  rintro e w13 ⟨rfl, hb⟩
  have A13 := hid (A12.out.on hb)
  clear hb A12 hx13
  clear c0 c1 c2 c3 c4 c5 c6 c7 f0 f1 f2 f3 f4 f5 f6 f7
  obtain ⟨⟨c0, c1, c2, c3, c4, c5, c6, c7⟩, f0, f1, f2, f3, f4, f5, f6, f7⟩ := cells8 A13.out.2.1
  have A14 := hid (A13.out.set_ 3 (.int .u64 x13) ⟨k, x6, v8, x13, ⟨#[]⟩, 0, 0, 0⟩ rfl)
  clear A13
  go_wp2_with fail
  with_reducible refine (has_2 ⟨k, x6, v8, x13, ⟨#[]⟩, 0, 0, 0⟩ true _ S2.out A14.out.parts).mono ?_
  rintro e w15 ⟨rfl, hb⟩
  have A15 := hid (A14.out.on hb)
  clear hb A14
  clear c0 c1 c2 c3 c4 c5 c6 c7 f0 f1 f2 f3 f4 f5 f6 f7
  obtain ⟨⟨c0, c1, c2, c3, c4, c5, c6, c7⟩, f0, f1, f2, f3, f4, f5, f6, f7⟩ := cells8 A15.out.2.1
  go_wp2_with fail
  with_reducible refine (next7 g r12 _ A15.out.box (by have := ZR12.out; omega)).mono ?_
  rintro e w16 ⟨v16, r16, rfl, hv, hr, hk, hgr⟩
  have A16 := hid (A15.out.turn hk hgr)
  have V16 := hid hv
  have R16 := hid hr
  have ZR16 : Hid (r16.size ≤ 100000) := hid (by have h := res_len (L r12); rw [← hr, L_length, L_length] at h; have := ZR12.out; omega)
  have ZV16 : Hid (v16.size ≤ 100000) := hid (by have h := val_len (L r12); rw [← hv, L_length, L_length] at h; have := ZR12.out; omega)
  clear hv hr hk hgr A15
  clear c0 c1 c2 c3 c4 c5 c6 c7 f0 f1 f2 f3 f4 f5 f6 f7
  obtain ⟨⟨c0, c1, c2, c3, c4, c5, c6, c7⟩, f0, f1, f2, f3, f4, f5, f6, f7⟩ := cells8 A16.out.2.1
  go_wp2_with fail
  with_reducible refine (sclone_any v16 _ (by have := ZV16.out; omega)).mono ?_
  rintro e w17 ⟨rfl, hb⟩
  have A17 := hid (A16.out.on hb)
  clear hb A16
  clear c0 c1 c2 c3 c4 c5 c6 c7 f0 f1 f2 f3 f4 f5 f6 f7
  obtain ⟨⟨c0, c1, c2, c3, c4, c5, c6, c7⟩, f0, f1, f2, f3, f4, f5, f6, f7⟩ := cells8 A17.out.2.1
  have A18 := hid (A17.out.set_ 4 (.string v16) ⟨k, x6, v8, x13, v16, 0, 0, 0⟩ rfl)
  clear A17
  go_wp2_with fail
  with_reducible refine (has_3 ⟨k, x6, v8, x13, v16, 0, 0, 0⟩ true _ S3.out A18.out.parts).mono ?_
  rintro e w19 ⟨rfl, hb⟩
  have A19 := hid (A18.out.on hb)
  clear hb A18
  clear c0 c1 c2 c3 c4 c5 c6 c7 f0 f1 f2 f3 f4 f5 f6 f7
  obtain ⟨⟨c0, c1, c2, c3, c4, c5, c6, c7⟩, f0, f1, f2, f3, f4, f5, f6, f7⟩ := cells8 A19.out.2.1
  go_wp2_with fail
  with_reducible refine (next7 g r16 _ A19.out.box (by have := ZR16.out; omega)).mono ?_
  rintro e w20 ⟨v20, r20, rfl, hv, hr, hk, hgr⟩
  have A20 := hid (A19.out.turn hk hgr)
  have V20 := hid hv
  have R20 := hid hr
  have ZR20 : Hid (r20.size ≤ 100000) := hid (by have h := res_len (L r16); rw [← hr, L_length, L_length] at h; have := ZR16.out; omega)
  have ZV20 : Hid (v20.size ≤ 100000) := hid (by have h := val_len (L r16); rw [← hv, L_length, L_length] at h; have := ZR16.out; omega)
  clear hv hr hk hgr A19
  clear c0 c1 c2 c3 c4 c5 c6 c7 f0 f1 f2 f3 f4 f5 f6 f7
  obtain ⟨⟨c0, c1, c2, c3, c4, c5, c6, c7⟩, f0, f1, f2, f3, f4, f5, f6, f7⟩ := cells8 A20.out.2.1
  obtain ⟨x21, hx21⟩ : ∃ x : Int, ((readL (L v20) : Nat) : Int) = x := ⟨_, rfl⟩
  have X21 := hid hx21
  obtain ⟨y21, hy21⟩ : ∃ x : Int, IntKind.i64.wrap x21 = x := ⟨_, rfl⟩
  have Y21 := hid hy21
  go_wp2_with fail
  with_reducible refine (read7 v20 _ (by have := ZV20.out; omega) A20.out.laid).mono ?_
  rw [X21.out]
  rintro e w21 ⟨rfl, hb⟩
  have A21 := hid (A20.out.on hb)
  clear hb A20 hx21
  clear c0 c1 c2 c3 c4 c5 c6 c7 f0 f1 f2 f3 f4 f5 f6 f7
  obtain ⟨⟨c0, c1, c2, c3, c4, c5, c6, c7⟩, f0, f1, f2, f3, f4, f5, f6, f7⟩ := cells8 A21.out.2.1
  have A22 := hid (A21.out.set_ 5 (.int .i64 y21) ⟨k, x6, v8, x13, v16, y21, 0, 0⟩ rfl)
  clear A21
  go_wp2_with fail
  with_reducible refine (has_4 ⟨k, x6, v8, x13, v16, y21, 0, 0⟩ false _ S4.out A22.out.parts).mono ?_
  rintro e w23 ⟨rfl, hb⟩
  have A23 := hid (A22.out.on hb)
  clear hb A22
  clear c0 c1 c2 c3 c4 c5 c6 c7 f0 f1 f2 f3 f4 f5 f6 f7
  obtain ⟨⟨c0, c1, c2, c3, c4, c5, c6, c7⟩, f0, f1, f2, f3, f4, f5, f6, f7⟩ := cells8 A23.out.2.1
  go_wp2_with fail
  with_reducible refine (has_5 ⟨k, x6, v8, x13, v16, y21, 0, 0⟩ false _ S5.out A23.out.parts).mono ?_
  rintro e w24 ⟨rfl, hb⟩
  have A24 := hid (A23.out.on hb)
  clear hb A23
  clear c0 c1 c2 c3 c4 c5 c6 c7 f0 f1 f2 f3 f4 f5 f6 f7
  obtain ⟨⟨c0, c1, c2, c3, c4, c5, c6, c7⟩, f0, f1, f2, f3, f4, f5, f6, f7⟩ := cells8 A24.out.2.1
  have Q := hid A24.out.res
  obtain ⟨⟨d0, d1, d2, d3, d4, d5, d6, d7⟩, g0, g1, g2, g3, g4, g5, g6, g7⟩ := cells8 Q.out.1
  have P := hid (Q.out.put ⟨k, x6, v8, x13, v16, y21, 0, 0⟩)
  have E : Hid (gOf (L s) = ⟨k, x6, v8, x13, v16, y21, 0, 0⟩) := hid (by unfold gOf; rw [HC.out]; simp only [HK.out, S0.out, S1.out, S2.out, S3.out, S4.out, S5.out, if_true, if_false, Bool.false_eq_true] <;> simp [mk_L, ← V5.out, ← R5.out, X6.out, ← V8.out, ← R8.out, ← V12.out, ← R12.out, X13.out, ← V16.out, ← R16.out, ← V20.out, ← R20.out, X21.out, Y21.out])
  clear Q A24
  go_wp2
  refine bodyPost_ret (v := val ⟨k, x6, v8, x13, v16, y21, 0, 0⟩) (by simp [results, Tryz.results155, go_sem, d0, d1, d2, d3, d4, d5, d6, d7]) rfl ⟨by rw [E.out], P.out.below⟩
set_option maxRecDepth 100000 in
set_option maxHeartbeats 4000000 in
theorem guess_6 (s nm r0 : ByteArray) (k : Int) (w : World) (hL : Laid7 w) (hz : s.size ≤ 100000) (hc : cutC 32 (L s) = (L nm, L r0)) (hk : kindL (L nm) = k) (hs : Sig k true true true false false false) :
    Calls Tryz.prog 155 #[.string s] w fun e w' => e = .returned (val (gOf (L s))) ∧ Below w.heap.size w w' := by
  obtain ⟨s0, s1, s2, s3, s4, s5⟩ := hs
  have S0 := hid s0
  have S1 := hid s1
  have S2 := hid s2
  have S3 := hid s3
  have S4 := hid s4
  have S5 := hid s5
  have HC := hid hc
  have HK := hid hk
  have HL := hid hL
  have HZ : Hid (r0.size ≤ 100000) := hid (by have h := (cutC_len 32 (L s)).2; rw [hc, L_length, L_length] at h; omega)
  have Z0 : Hid (Blk (w.alloc (.cells (cellsOf zK) 32)) w.heap.size 32 (cellsOf zK)) := hid (Blk.new _ _ _)
  have W0 := hid ((Below.refl w.heap.size w).alloc (Nat.le_refl _) (.cells (cellsOf zK) 32))
  clear s0 s1 s2 s3 s4 s5 hc hk hL
  go_enter Tryz.func155, Tryz.ntmps155
  go_wp2_with fail
  refine (cut7 32 s _ (by omega)).mono ?_
  rintro e w1 ⟨a, b, fl, rfl, hc, hb⟩
  obtain ⟨ea, eb⟩ : L nm = L a ∧ L r0 = L b := by rw [HC.out] at hc; simpa using hc
  obtain rfl := L_inj.1 ea
  obtain rfl := L_inj.1 eb
  have Z1 := hid (Z0.out.below hb Z0.out.lt)
  have W1 := hid (W0.out.trans (hb.mono W0.out.size))
  have HL1 := hid (HL.out.below W1.out)
  clear ea eb hc hb Z0 W0
  obtain ⟨g, hg⟩ : ∃ g, w1.heap.size = g := ⟨_, rfl⟩
  have hwg : w.heap.size < g := by rw [← hg]; exact Z1.out.lt
  have G1 : Hid (Blk (w1.alloc (.cells #[.string r0] 9)) g 9 #[.string r0]) := hid (by rw [← hg]; exact Blk.new _ _ _)
  have W2 := hid (W1.out.alloc W1.out.size (.cells #[.string r0] 9))
  have Z2 := hid (Z1.out.alloc (.cells #[.string r0] 9))
  have HL2 := hid (HL.out.below W2.out)
  clear Z1 W1 HL1
  go_wp2_with fail
  with_reducible refine (kindof7 nm _ HL2.out).mono ?_
  rw [HK.out]
  rintro e w3 ⟨rfl, hb⟩
  obtain ⟨y, hy⟩ : ∃ y, w3.heap.size = y := ⟨_, rfl⟩
  have hgy : g < y := by rw [← hy]; exact (G1.out.below hb G1.out.lt).lt
  have A3 : Hid (GAt w (w3.alloc (.cells (cellsOf ⟨k, 0, ⟨#[]⟩, 0, ⟨#[]⟩, 0, 0, 0⟩) 32)) g y ⟨k, 0, ⟨#[]⟩, 0, ⟨#[]⟩, 0, 0, 0⟩ r0) := hid ⟨(G1.out.below hb G1.out.lt).alloc _, by rw [← hy]; exact Blk.new _ _ _, (Z2.out.below hb Z2.out.lt).alloc _, hwg, hgy, (W2.out.trans (hb.mono W2.out.size)).alloc (Nat.le_trans (W2.out.size) hb.size) _, HL.out⟩
  have HY := hid hy
  have HG := hid hg
  clear hb G1 W2 Z2 HL2 hy hg
  obtain ⟨⟨c0, c1, c2, c3, c4, c5, c6, c7⟩, f0, f1, f2, f3, f4, f5, f6, f7⟩ := cells8 A3.out.2.1
  have hyo := HY.out
  have hgo := HG.out
  go_wp2_with fail
  with_reducible refine (has_0 ⟨k, 0, ⟨#[]⟩, 0, ⟨#[]⟩, 0, 0, 0⟩ true _ S0.out A3.out.parts).mono ?_
  rintro e w4 ⟨rfl, hb⟩
  have A4 := hid (A3.out.on hb)
  clear hb A3
  clear c0 c1 c2 c3 c4 c5 c6 c7 f0 f1 f2 f3 f4 f5 f6 f7
  obtain ⟨⟨c0, c1, c2, c3, c4, c5, c6, c7⟩, f0, f1, f2, f3, f4, f5, f6, f7⟩ := cells8 A4.out.2.1
  clear hyo hgo
  go_wp2_with fail
  with_reducible refine (next7 g r0 _ A4.out.box (by have := HZ.out; omega)).mono ?_
  rintro e w5 ⟨v5, r5, rfl, hv, hr, hk, hgr⟩
  have A5 := hid (A4.out.turn hk hgr)
  have V5 := hid hv
  have R5 := hid hr
  have ZR5 : Hid (r5.size ≤ 100000) := hid (by have h := res_len (L r0); rw [← hr, L_length, L_length] at h; have := HZ.out; omega)
  have ZV5 : Hid (v5.size ≤ 100000) := hid (by have h := val_len (L r0); rw [← hv, L_length, L_length] at h; have := HZ.out; omega)
  clear hv hr hk hgr A4
  clear c0 c1 c2 c3 c4 c5 c6 c7 f0 f1 f2 f3 f4 f5 f6 f7
  obtain ⟨⟨c0, c1, c2, c3, c4, c5, c6, c7⟩, f0, f1, f2, f3, f4, f5, f6, f7⟩ := cells8 A5.out.2.1
  obtain ⟨x6, hx6⟩ : ∃ x : Int, ((readL (L v5) : Nat) : Int) = x := ⟨_, rfl⟩
  have X6 := hid hx6
  go_wp2_with fail
  with_reducible refine (read7 v5 _ (by have := ZV5.out; omega) A5.out.laid).mono ?_
  rw [X6.out]
  rintro e w6 ⟨rfl, hb⟩
  have A6 := hid (A5.out.on hb)
  clear hb A5 hx6
  clear c0 c1 c2 c3 c4 c5 c6 c7 f0 f1 f2 f3 f4 f5 f6 f7
  obtain ⟨⟨c0, c1, c2, c3, c4, c5, c6, c7⟩, f0, f1, f2, f3, f4, f5, f6, f7⟩ := cells8 A6.out.2.1
  have A7 := hid (A6.out.set_ 1 (.int .u64 x6) ⟨k, x6, ⟨#[]⟩, 0, ⟨#[]⟩, 0, 0, 0⟩ rfl)
  clear A6
  go_wp2_with fail
  with_reducible refine (next7 g r5 _ A7.out.box (by have := ZR5.out; omega)).mono ?_
  rintro e w8 ⟨v8, r8, rfl, hv, hr, hk, hgr⟩
  have A8 := hid (A7.out.turn hk hgr)
  have V8 := hid hv
  have R8 := hid hr
  have ZR8 : Hid (r8.size ≤ 100000) := hid (by have h := res_len (L r5); rw [← hr, L_length, L_length] at h; have := ZR5.out; omega)
  have ZV8 : Hid (v8.size ≤ 100000) := hid (by have h := val_len (L r5); rw [← hv, L_length, L_length] at h; have := ZR5.out; omega)
  clear hv hr hk hgr A7
  clear c0 c1 c2 c3 c4 c5 c6 c7 f0 f1 f2 f3 f4 f5 f6 f7
  obtain ⟨⟨c0, c1, c2, c3, c4, c5, c6, c7⟩, f0, f1, f2, f3, f4, f5, f6, f7⟩ := cells8 A8.out.2.1
  go_wp2_with fail
  with_reducible refine (sclone_any v8 _ (by have := ZV8.out; omega)).mono ?_
  rintro e w9 ⟨rfl, hb⟩
  have A9 := hid (A8.out.on hb)
  clear hb A8
  clear c0 c1 c2 c3 c4 c5 c6 c7 f0 f1 f2 f3 f4 f5 f6 f7
  obtain ⟨⟨c0, c1, c2, c3, c4, c5, c6, c7⟩, f0, f1, f2, f3, f4, f5, f6, f7⟩ := cells8 A9.out.2.1
  have A10 := hid (A9.out.set_ 2 (.string v8) ⟨k, x6, v8, 0, ⟨#[]⟩, 0, 0, 0⟩ rfl)
  clear A9
  go_wp2_with fail
  with_reducible refine (has_1 ⟨k, x6, v8, 0, ⟨#[]⟩, 0, 0, 0⟩ true _ S1.out A10.out.parts).mono ?_
  rintro e w11 ⟨rfl, hb⟩
  have A11 := hid (A10.out.on hb)
  clear hb A10
  clear c0 c1 c2 c3 c4 c5 c6 c7 f0 f1 f2 f3 f4 f5 f6 f7
  obtain ⟨⟨c0, c1, c2, c3, c4, c5, c6, c7⟩, f0, f1, f2, f3, f4, f5, f6, f7⟩ := cells8 A11.out.2.1
  go_wp2_with fail
  with_reducible refine (next7 g r8 _ A11.out.box (by have := ZR8.out; omega)).mono ?_
  rintro e w12 ⟨v12, r12, rfl, hv, hr, hk, hgr⟩
  have A12 := hid (A11.out.turn hk hgr)
  have V12 := hid hv
  have R12 := hid hr
  have ZR12 : Hid (r12.size ≤ 100000) := hid (by have h := res_len (L r8); rw [← hr, L_length, L_length] at h; have := ZR8.out; omega)
  have ZV12 : Hid (v12.size ≤ 100000) := hid (by have h := val_len (L r8); rw [← hv, L_length, L_length] at h; have := ZR8.out; omega)
  clear hv hr hk hgr A11
  clear c0 c1 c2 c3 c4 c5 c6 c7 f0 f1 f2 f3 f4 f5 f6 f7
  obtain ⟨⟨c0, c1, c2, c3, c4, c5, c6, c7⟩, f0, f1, f2, f3, f4, f5, f6, f7⟩ := cells8 A12.out.2.1
  obtain ⟨x13, hx13⟩ : ∃ x : Int, ((readL (L v12) : Nat) : Int) = x := ⟨_, rfl⟩
  have X13 := hid hx13
  go_wp2_with fail
  with_reducible refine (read7 v12 _ (by have := ZV12.out; omega) A12.out.laid).mono ?_
  rw [X13.out]
  rintro e w13 ⟨rfl, hb⟩
  have A13 := hid (A12.out.on hb)
  clear hb A12 hx13
  clear c0 c1 c2 c3 c4 c5 c6 c7 f0 f1 f2 f3 f4 f5 f6 f7
  obtain ⟨⟨c0, c1, c2, c3, c4, c5, c6, c7⟩, f0, f1, f2, f3, f4, f5, f6, f7⟩ := cells8 A13.out.2.1
  have A14 := hid (A13.out.set_ 3 (.int .u64 x13) ⟨k, x6, v8, x13, ⟨#[]⟩, 0, 0, 0⟩ rfl)
  clear A13
  go_wp2_with fail
  with_reducible refine (has_2 ⟨k, x6, v8, x13, ⟨#[]⟩, 0, 0, 0⟩ true _ S2.out A14.out.parts).mono ?_
  rintro e w15 ⟨rfl, hb⟩
  have A15 := hid (A14.out.on hb)
  clear hb A14
  clear c0 c1 c2 c3 c4 c5 c6 c7 f0 f1 f2 f3 f4 f5 f6 f7
  obtain ⟨⟨c0, c1, c2, c3, c4, c5, c6, c7⟩, f0, f1, f2, f3, f4, f5, f6, f7⟩ := cells8 A15.out.2.1
  go_wp2_with fail
  with_reducible refine (next7 g r12 _ A15.out.box (by have := ZR12.out; omega)).mono ?_
  rintro e w16 ⟨v16, r16, rfl, hv, hr, hk, hgr⟩
  have A16 := hid (A15.out.turn hk hgr)
  have V16 := hid hv
  have R16 := hid hr
  have ZR16 : Hid (r16.size ≤ 100000) := hid (by have h := res_len (L r12); rw [← hr, L_length, L_length] at h; have := ZR12.out; omega)
  have ZV16 : Hid (v16.size ≤ 100000) := hid (by have h := val_len (L r12); rw [← hv, L_length, L_length] at h; have := ZR12.out; omega)
  clear hv hr hk hgr A15
  clear c0 c1 c2 c3 c4 c5 c6 c7 f0 f1 f2 f3 f4 f5 f6 f7
  obtain ⟨⟨c0, c1, c2, c3, c4, c5, c6, c7⟩, f0, f1, f2, f3, f4, f5, f6, f7⟩ := cells8 A16.out.2.1
  go_wp2_with fail
  with_reducible refine (sclone_any v16 _ (by have := ZV16.out; omega)).mono ?_
  rintro e w17 ⟨rfl, hb⟩
  have A17 := hid (A16.out.on hb)
  clear hb A16
  clear c0 c1 c2 c3 c4 c5 c6 c7 f0 f1 f2 f3 f4 f5 f6 f7
  obtain ⟨⟨c0, c1, c2, c3, c4, c5, c6, c7⟩, f0, f1, f2, f3, f4, f5, f6, f7⟩ := cells8 A17.out.2.1
  have A18 := hid (A17.out.set_ 4 (.string v16) ⟨k, x6, v8, x13, v16, 0, 0, 0⟩ rfl)
  clear A17
  go_wp2_with fail
  with_reducible refine (has_3 ⟨k, x6, v8, x13, v16, 0, 0, 0⟩ false _ S3.out A18.out.parts).mono ?_
  rintro e w19 ⟨rfl, hb⟩
  have A19 := hid (A18.out.on hb)
  clear hb A18
  clear c0 c1 c2 c3 c4 c5 c6 c7 f0 f1 f2 f3 f4 f5 f6 f7
  obtain ⟨⟨c0, c1, c2, c3, c4, c5, c6, c7⟩, f0, f1, f2, f3, f4, f5, f6, f7⟩ := cells8 A19.out.2.1
  go_wp2_with fail
  with_reducible refine (has_4 ⟨k, x6, v8, x13, v16, 0, 0, 0⟩ false _ S4.out A19.out.parts).mono ?_
  rintro e w20 ⟨rfl, hb⟩
  have A20 := hid (A19.out.on hb)
  clear hb A19
  clear c0 c1 c2 c3 c4 c5 c6 c7 f0 f1 f2 f3 f4 f5 f6 f7
  obtain ⟨⟨c0, c1, c2, c3, c4, c5, c6, c7⟩, f0, f1, f2, f3, f4, f5, f6, f7⟩ := cells8 A20.out.2.1
  go_wp2_with fail
  with_reducible refine (has_5 ⟨k, x6, v8, x13, v16, 0, 0, 0⟩ false _ S5.out A20.out.parts).mono ?_
  rintro e w21 ⟨rfl, hb⟩
  have A21 := hid (A20.out.on hb)
  clear hb A20
  clear c0 c1 c2 c3 c4 c5 c6 c7 f0 f1 f2 f3 f4 f5 f6 f7
  obtain ⟨⟨c0, c1, c2, c3, c4, c5, c6, c7⟩, f0, f1, f2, f3, f4, f5, f6, f7⟩ := cells8 A21.out.2.1
  have Q := hid A21.out.res
  obtain ⟨⟨d0, d1, d2, d3, d4, d5, d6, d7⟩, g0, g1, g2, g3, g4, g5, g6, g7⟩ := cells8 Q.out.1
  have P := hid (Q.out.put ⟨k, x6, v8, x13, v16, 0, 0, 0⟩)
  have E : Hid (gOf (L s) = ⟨k, x6, v8, x13, v16, 0, 0, 0⟩) := hid (by unfold gOf; rw [HC.out]; simp only [HK.out, S0.out, S1.out, S2.out, S3.out, S4.out, S5.out, if_true, if_false, Bool.false_eq_true] <;> simp [mk_L, ← V5.out, ← R5.out, X6.out, ← V8.out, ← R8.out, ← V12.out, ← R12.out, X13.out, ← V16.out, ← R16.out])
  clear Q A21
  go_wp2
  refine bodyPost_ret (v := val ⟨k, x6, v8, x13, v16, 0, 0, 0⟩) (by simp [results, Tryz.results155, go_sem, d0, d1, d2, d3, d4, d5, d6, d7]) rfl ⟨by rw [E.out], P.out.below⟩
end Go.Proofs.YtohffiehmmcgbaaGreatDoor
