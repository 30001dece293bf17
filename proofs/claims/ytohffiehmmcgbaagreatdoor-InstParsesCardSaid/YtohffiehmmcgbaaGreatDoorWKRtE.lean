/-
  The contract of the document's Take of a command (moothillref07), off any bytes.
-/
import Derived.Test.YtohffiehmmcgbaaGreatDoorWKRtA
import Derived.Test.YtohffiehmmcgbaaGreatDoorWKRtB
import Derived.Test.YtohffiehmmcgbaaGreatDoorWKRtC
import Derived.Test.YtohffiehmmcgbaaGreatDoorWKRtD
namespace Go.Proofs.YtohffiehmmcgbaaGreatDoor
open Go.ChangeShapes Go.WideShapes Go.ChangeAt Go.RowKit Go.Lib
set_option linter.unusedVariables false
set_option linter.unusedSimpArgs false
set_option maxRecDepth 100000 in
set_option maxHeartbeats 4000000 in
theorem rtake_big (A : Option Addr) (L : List Nat) (n c p e b : Nat) (l0 : List Nat)  (w : World) (hn : L.length = n) (hp : p ≤ n) (hl : n ≤ 9223372036854775807) (hc : n ≤ c) (hA0 : A = none → c = 0) (hx : ∀ x ∈ L, x < 256) (hA : Sees .u8 w A L)
    (hbyte : sByte (rem L p e) e = (l0, 0, b)) (hb8 : 8 < b) :
    Calls Tryz.prog 47 #[reader A n c (p : Int) (e : Int)] w (RefDoes A n L c [] 22 (val zeroK) w) := by
  have HN := hid hn
  have HA := hid hA
  have HB := hid hbyte
  have hbg : (8 : Int) < (b : Int) := by omega
  clear hn hA hbyte
  go_enter Tryz.func47, Tryz.ntmps47
  go_upto_region 1 with fail
  obtain ⟨W, hW⟩ : ∃ W, ((w.alloc (.cells (rd3 A n c (p : Int) (e : Int)) 42)).alloc (.cells rdZ 42)).alloc (.cells (cellsOf zeroK) 45) = W := ⟨_, rfl⟩
  rw [hW]
  obtain ⟨K0, K1, K2, KB⟩ := three_new hW
  have HAW := hid (HA.out.below KB.out)
  clear hW
  obtain ⟨k, hk⟩ : ∃ k, w.heap.size = k := ⟨_, rfl⟩
  rw [hk] at K0 K1 K2 KB
  rw [hk]
  have HK := hid hk
  clear hk HA
  have R0 := hid (len_rd A n c (p : Int) (e : Int))
  go_wp2_with (with_reducible refine wpList_load_row (o := ⟨some 9, _, _, _, _, _⟩) rfl 42 (.tmp 1) rfl k rfl 42 (rd3 A n c (p : Int) (e : Int)) (0, 0) _ K0.out.heap Tryz.underlying42 rfl R0.out ?_)
  with_reducible refine (refbyte_any A L n c p e l0 0 b _ HN.out hp hl HAW.out HB.out).mono ?_
  rintro en w1 ⟨p0, hp0, hr0, rfl, hb⟩
  have J0 := hid (K0.out.below hb K0.out.lt)
  have J1 := hid (K1.out.below hb K1.out.lt)
  have J2 := hid (K2.out.below hb K2.out.lt)
  have JB := hid (below_pay KB.out (by have := K0.out.lt; omega) hb)
  clear hb K0 K1 K2 KB HAW
  subst hr0
  have R1 := hid (len_rd A n c (p0 : Int) (0 : Int))
  have R3 := hid (one_rd A n c (p0 : Int) (0 : Int))
  have c2 : (w1.setRow k (rd3 A n c (p0 : Int) (0 : Int))).cell? ⟨k, 2, none⟩ = some (.int .i64 (0 : Int)) := ((J0.out.row (rd3 A n c (p0 : Int) (0 : Int))).cell 2).trans rfl
  have f2 : (w1.setRow k (rd3 A n c (p0 : Int) (0 : Int))).frozen? ⟨k, 2, none⟩ = false := (J0.out.row (rd3 A n c (p0 : Int) (0 : Int))).frozen 2
  go_upto_region 3 with (refine wpList_store_row (o := ⟨none, _, _, _, _, _⟩) rfl 42 (.tmp 1) (.tmp 11) rfl k (rd3 A n c (p0 : Int) (0 : Int)) rfl ?hy 42 (rd3 A n c (p : Int) (e : Int)) J0.out.heap R1.out rfl R3.out ?_; (case hy => rfl))
  obtain ⟨W2, hW2⟩ : ∃ W2, w1.setRow k (rd3 A n c (p0 : Int) (0 : Int)) = W2 := ⟨_, rfl⟩
  rw [hW2]
  rw [hW2] at c2 f2
  have M0 : Hid (Blk W2 k 42 (rd3 A n c (p0 : Int) (0 : Int))) := hid (by rw [← hW2]; exact J0.out.row _)
  have M1 : Hid (Blk W2 (k + 1) 42 rdZ) := hid (by rw [← hW2]; exact J1.out.rowFar (by omega) _)
  have M2 : Hid (Blk W2 (k + 1 + 1) 45 (cellsOf zeroK)) := hid (by rw [← hW2]; exact J2.out.rowFar (by omega) _)
  have MB : Hid (Below k w W2) := hid (by rw [← hW2]; exact below_setRow_ JB.out (Nat.le_refl _))
  clear hW2 J0 J1 J2 JB R1 R3
  go_upto_region 5 with fail
  obtain ⟨W3, hW3⟩ : ∃ W3, W2.setCell ⟨k, 2, none⟩ (.int .i64 22) = W3 := ⟨_, rfl⟩
  rw [hW3]
  have N0 : Hid (Blk W3 k 42 (rd3 A n c (p0 : Int) (22 : Int))) := hid (by rw [← hW3]; exact M0.out.set_ 2 _)
  have N1 : Hid (Blk W3 (k + 1) 42 rdZ) := hid (by rw [← hW3]; exact M1.out.far (by show k + 1 ≠ k; omega) _)
  have N2 : Hid (Blk W3 (k + 1 + 1) 45 (cellsOf zeroK)) := hid (by rw [← hW3]; exact M2.out.far (by show k + 1 + 1 ≠ k; omega) _)
  have NB : Hid (Below k w W3) := hid (by rw [← hW3]; exact MB.out.setCell (Nat.le_refl _) _)
  clear hW3 c2 f2 M0 M1 M2 MB
  have G1 := hid (len_rd A n c (p0 : Int) (22 : Int))
  have G3 := hid (one_rd A n c (p0 : Int) (22 : Int))
  have Z1 := hid (len_rc zeroK)
  have Z3 := hid (one_rc zeroK)
  have g1 := hid (N2.out.rowFar (k := k + 1) (by omega) (rd3 A n c (p0 : Int) (22 : Int)))
  have F1 := hid ((N1.out.row (rd3 A n c (p0 : Int) (22 : Int))).rowFar (k := k + 1 + 1) (by omega) (cellsOf zeroK))
  have F2 := hid (g1.out.row (cellsOf zeroK))
  have FB := hid (below_setRow_ (below_setRow_ NB.out (show k ≤ k + 1 by omega) (cs := rd3 A n c (p0 : Int) (22 : Int))) (show k ≤ k + 1 + 1 by omega) (cs := cellsOf zeroK))
  go_wp2_with (first
    | (with_reducible refine wpList_load_row (o := ⟨some 24, _, _, _, _, _⟩) rfl 42 (.tmp 1) rfl k rfl 42 (rd3 A n c (p0 : Int) (22 : Int)) (0, 0) _ N0.out.heap Tryz.underlying42 rfl G1.out ?_)
    | (refine wpList_store_row (o := ⟨none, _, _, _, _, _⟩) rfl 42 (.tmp 2) (.tmp 24) rfl (k + 1) (rd3 A n c (p0 : Int) (22 : Int)) rfl ?hy 42 rdZ N1.out.heap G1.out rfl G3.out ?_; (case hy => rfl))
    | (refine wpList_store_row (o := ⟨none, _, _, _, _, _⟩) rfl 45 (.tmp 3) (.tmp 25) rfl (k + 1 + 1) (cellsOf zeroK) rfl ?hy 45 (cellsOf zeroK) g1.out.heap Z1.out rfl Z3.out ?_; (case hy => rfl)))
  exact bodyPost_ret (v := .tuple #[reader A n c (p0 : Int) (22 : Int), val zeroK]) (results_two_rows (p := 2) (q := 3) (ty := 42) (ty2 := 45) (by kernel_rfl) _ _ (k + 1) (k + 1 + 1) 42 45 (rd3 A n c (p0 : Int) (22 : Int)) (cellsOf zeroK) (0, 0) (0, 0) _ _ rfl rfl F1.out.heap F2.out.heap Tryz.underlying42 rfl G1.out Tryz.underlying45 rfl Z1.out) rfl (refdoes_end (e' := 22) hp0 (rem_err (by decide)).symm (by rw [HK.out]; exact FB.out))
set_option maxRecDepth 100000 in
set_option maxHeartbeats 4000000 in
theorem rtake_err (A : Option Addr) (L : List Nat) (n c p e b : Nat) (l0 : List Nat) (e0 : Nat) (w : World) (hn : L.length = n) (hp : p ≤ n) (hl : n ≤ 9223372036854775807) (hc : n ≤ c) (hA0 : A = none → c = 0) (hx : ∀ x ∈ L, x < 256) (hA : Sees .u8 w A L)
    (hbyte : sByte (rem L p e) e = (l0, e0, b)) (hb8 : b ≤ 8) (h0 : e0 ≠ 0) :
    Calls Tryz.prog 47 #[reader A n c (p : Int) (e : Int)] w (RefDoes A n L c l0 e0 (val zeroK) w) := by
  have HN := hid hn
  have HA := hid hA
  have HB := hid hbyte
  have hbg : ¬ ((8 : Int) < (b : Int)) := by omega
  have hz : ((e0 : Int) == 0) = false := by rw [beq_eq_false_iff_ne]; omega
  have hz2 : ((e0 : Int) != 0) = true := by rw [bne_iff_ne]; omega
  clear h0
  clear hn hA hbyte
  go_enter Tryz.func47, Tryz.ntmps47
  go_upto_region 1 with fail
  obtain ⟨W, hW⟩ : ∃ W, ((w.alloc (.cells (rd3 A n c (p : Int) (e : Int)) 42)).alloc (.cells rdZ 42)).alloc (.cells (cellsOf zeroK) 45) = W := ⟨_, rfl⟩
  rw [hW]
  obtain ⟨K0, K1, K2, KB⟩ := three_new hW
  have HAW := hid (HA.out.below KB.out)
  clear hW
  obtain ⟨k, hk⟩ : ∃ k, w.heap.size = k := ⟨_, rfl⟩
  rw [hk] at K0 K1 K2 KB
  rw [hk]
  have HK := hid hk
  clear hk HA
  have R0 := hid (len_rd A n c (p : Int) (e : Int))
  go_wp2_with (with_reducible refine wpList_load_row (o := ⟨some 9, _, _, _, _, _⟩) rfl 42 (.tmp 1) rfl k rfl 42 (rd3 A n c (p : Int) (e : Int)) (0, 0) _ K0.out.heap Tryz.underlying42 rfl R0.out ?_)
  with_reducible refine (refbyte_any A L n c p e l0 e0 b _ HN.out hp hl HAW.out HB.out).mono ?_
  rintro en w1 ⟨p0, hp0, hr0, rfl, hb⟩
  have J0 := hid (K0.out.below hb K0.out.lt)
  have J1 := hid (K1.out.below hb K1.out.lt)
  have J2 := hid (K2.out.below hb K2.out.lt)
  have JB := hid (below_pay KB.out (by have := K0.out.lt; omega) hb)
  clear hb K0 K1 K2 KB HAW
  subst hr0
  have R1 := hid (len_rd A n c (p0 : Int) (e0 : Int))
  have R3 := hid (one_rd A n c (p0 : Int) (e0 : Int))
  have c2 : (w1.setRow k (rd3 A n c (p0 : Int) (e0 : Int))).cell? ⟨k, 2, none⟩ = some (.int .i64 (e0 : Int)) := ((J0.out.row (rd3 A n c (p0 : Int) (e0 : Int))).cell 2).trans rfl
  have f2 : (w1.setRow k (rd3 A n c (p0 : Int) (e0 : Int))).frozen? ⟨k, 2, none⟩ = false := (J0.out.row (rd3 A n c (p0 : Int) (e0 : Int))).frozen 2
  go_upto_region 5 with (refine wpList_store_row (o := ⟨none, _, _, _, _, _⟩) rfl 42 (.tmp 1) (.tmp 11) rfl k (rd3 A n c (p0 : Int) (e0 : Int)) rfl ?hy 42 (rd3 A n c (p : Int) (e : Int)) J0.out.heap R1.out rfl R3.out ?_; (case hy => rfl))
  obtain ⟨W2, hW2⟩ : ∃ W2, w1.setRow k (rd3 A n c (p0 : Int) (e0 : Int)) = W2 := ⟨_, rfl⟩
  rw [hW2]
  rw [hW2] at c2 f2
  have M0 : Hid (Blk W2 k 42 (rd3 A n c (p0 : Int) (e0 : Int))) := hid (by rw [← hW2]; exact J0.out.row _)
  have M1 : Hid (Blk W2 (k + 1) 42 rdZ) := hid (by rw [← hW2]; exact J1.out.rowFar (by omega) _)
  have M2 : Hid (Blk W2 (k + 1 + 1) 45 (cellsOf zeroK)) := hid (by rw [← hW2]; exact J2.out.rowFar (by omega) _)
  have MB : Hid (Below k w W2) := hid (by rw [← hW2]; exact below_setRow_ JB.out (Nat.le_refl _))
  clear hW2 J0 J1 J2 JB R1 R3
  have G1 := hid (len_rd A n c (p0 : Int) (e0 : Int))
  have G3 := hid (one_rd A n c (p0 : Int) (e0 : Int))
  have Z1 := hid (len_rc zeroK)
  have Z3 := hid (one_rc zeroK)
  have g1 := hid (M2.out.rowFar (k := k + 1) (by omega) (rd3 A n c (p0 : Int) (e0 : Int)))
  have F1 := hid ((M1.out.row (rd3 A n c (p0 : Int) (e0 : Int))).rowFar (k := k + 1 + 1) (by omega) (cellsOf zeroK))
  have F2 := hid (g1.out.row (cellsOf zeroK))
  have FB := hid (below_setRow_ (below_setRow_ MB.out (show k ≤ k + 1 by omega) (cs := rd3 A n c (p0 : Int) (e0 : Int))) (show k ≤ k + 1 + 1 by omega) (cs := cellsOf zeroK))
  go_wp2_with (first
    | (with_reducible refine wpList_load_row (o := ⟨some 24, _, _, _, _, _⟩) rfl 42 (.tmp 1) rfl k rfl 42 (rd3 A n c (p0 : Int) (e0 : Int)) (0, 0) _ M0.out.heap Tryz.underlying42 rfl G1.out ?_)
    | (refine wpList_store_row (o := ⟨none, _, _, _, _, _⟩) rfl 42 (.tmp 2) (.tmp 24) rfl (k + 1) (rd3 A n c (p0 : Int) (e0 : Int)) rfl ?hy 42 rdZ M1.out.heap G1.out rfl G3.out ?_; (case hy => rfl))
    | (refine wpList_store_row (o := ⟨none, _, _, _, _, _⟩) rfl 45 (.tmp 3) (.tmp 25) rfl (k + 1 + 1) (cellsOf zeroK) rfl ?hy 45 (cellsOf zeroK) g1.out.heap Z1.out rfl Z3.out ?_; (case hy => rfl)))
  exact bodyPost_ret (v := .tuple #[reader A n c (p0 : Int) (e0 : Int), val zeroK]) (results_two_rows (p := 2) (q := 3) (ty := 42) (ty2 := 45) (by kernel_rfl) _ _ (k + 1) (k + 1 + 1) 42 45 (rd3 A n c (p0 : Int) (e0 : Int)) (cellsOf zeroK) (0, 0) (0, 0) _ _ rfl rfl F1.out.heap F2.out.heap Tryz.underlying42 rfl G1.out Tryz.underlying45 rfl Z1.out) rfl (refdoes_end (e' := e0) hp0 rfl (by rw [HK.out]; exact FB.out))
theorem rtake_mid (A : Option Addr) (L : List Nat) (n c p e b : Nat) (l0 : List Nat) (l' : List Nat) (e' : Nat) (d : K) (w : World) (hn : L.length = n) (hp : p ≤ n) (hl : n ≤ 9223372036854775807) (hc : n ≤ c) (hA0 : A = none → c = 0) (hx : ∀ x ∈ L, x < 256) (hA : Sees .u8 w A L)
    (hbyte : sByte (rem L p e) e = (l0, 0, b)) (hb8 : b ≤ 8) (hS : Sound l0 0) (hok : okK d) (hff : d.foot.size ≤ 900) (hpf : d.path.size ≤ 900) (hs : sParts (b : Int) l0 0 = (l', e', d)) :
    Calls Tryz.prog 47 #[reader A n c (p : Int) (e : Int)] w (RefDoes A n L c (lastE (l', e', d)).1 (lastE (l', e', d)).2.1 (val (lastE (l', e', d)).2.2) w) := by
  obtain ⟨l1, e1, l2, e2, l3, e3, l4, e4, l5, e5, u, fb, q, pb, m, z, t, a0, a1, a2, a3, a4, a5, rfl⟩ := sParts_split hs
  obtain ⟨s0, _, _, _⟩ := tk0_sound hS a0
  obtain ⟨s1, _, _⟩ := tk1_sound s0 a1
  obtain ⟨s2, _, _⟩ := tk2_sound s1 a2
  obtain ⟨s3, hmn, _⟩ := tk3_sound s2 a3
  obtain ⟨s4, _, _⟩ := tk4_sound s3 a4
  obtain ⟨s5, htn, _⟩ := tk5_sound s4 a5
  clear hs s0 s1 s2 s3 s4 s5 hS
  rcases sig_cases (b : Int) with ⟨h, _⟩ | ⟨_, h⟩ | ⟨_, h⟩ | ⟨_, h⟩ | ⟨_, h⟩ | ⟨_, h⟩ | ⟨_, h⟩ | ⟨_, h⟩
  · have h' := h
    obtain ⟨s0, s1, s2, s3, s4, s5⟩ := h
    simp only [tk0, s0, Bool.false_eq_true, if_false, Prod.mk.injEq] at a0
    obtain ⟨rfl, rfl, rfl, rfl⟩ := a0
    simp only [tk1, s1, Bool.false_eq_true, if_false, Prod.mk.injEq] at a1
    obtain ⟨rfl, rfl, rfl⟩ := a1
    simp only [tk2, s2, Bool.false_eq_true, if_false, Prod.mk.injEq] at a2
    obtain ⟨rfl, rfl, rfl⟩ := a2
    simp only [tk3, s3, Bool.false_eq_true, if_false, Prod.mk.injEq] at a3
    obtain ⟨rfl, rfl, rfl⟩ := a3
    simp only [tk4, s4, Bool.false_eq_true, if_false, Prod.mk.injEq] at a4
    obtain ⟨rfl, rfl, rfl⟩ := a4
    simp only [tk5, s5, Bool.false_eq_true, if_false, Prod.mk.injEq] at a5
    obtain ⟨rfl, rfl, rfl⟩ := a5
    exact rtake_0 A L n c p e b _ w hn hp hl hc hA0 hx hA hbyte hb8 h'  hok hff hpf
  · have h' := h
    obtain ⟨s0, s1, s2, s3, s4, s5⟩ := h
    simp only [tk0, s0, if_true, Prod.mk.injEq] at a0
    obtain ⟨rfl, rfl, rfl, rfl⟩ := a0
    simp only [tk1, s1, if_true] at a1
    simp only [tk2, s2, Bool.false_eq_true, if_false, Prod.mk.injEq] at a2
    obtain ⟨rfl, rfl, rfl⟩ := a2
    simp only [tk3, s3, Bool.false_eq_true, if_false, Prod.mk.injEq] at a3
    obtain ⟨rfl, rfl, rfl⟩ := a3
    simp only [tk4, s4, if_true] at a4
    simp only [tk5, s5, if_true] at a5
    exact rtake_1 A L n c p e b _ _ _ _ _ _ _ _ _ _ _ _ _ _ _ _ w hn hp hl hc hA0 hx hA hbyte hb8 h' rfl rfl a1 a4 a5 hok hff hpf htn
  · have h' := h
    obtain ⟨s0, s1, s2, s3, s4, s5⟩ := h
    simp only [tk0, s0, if_true, Prod.mk.injEq] at a0
    obtain ⟨rfl, rfl, rfl, rfl⟩ := a0
    simp only [tk1, s1, if_true] at a1
    simp only [tk2, s2, Bool.false_eq_true, if_false, Prod.mk.injEq] at a2
    obtain ⟨rfl, rfl, rfl⟩ := a2
    simp only [tk3, s3, Bool.false_eq_true, if_false, Prod.mk.injEq] at a3
    obtain ⟨rfl, rfl, rfl⟩ := a3
    simp only [tk4, s4, Bool.false_eq_true, if_false, Prod.mk.injEq] at a4
    obtain ⟨rfl, rfl, rfl⟩ := a4
    simp only [tk5, s5, Bool.false_eq_true, if_false, Prod.mk.injEq] at a5
    obtain ⟨rfl, rfl, rfl⟩ := a5
    exact rtake_2 A L n c p e b _ _ _ _ _ _ _ _ _ _ w hn hp hl hc hA0 hx hA hbyte hb8 h' rfl rfl a1 hok hff hpf
  · have h' := h
    obtain ⟨s0, s1, s2, s3, s4, s5⟩ := h
    simp only [tk0, s0, if_true, Prod.mk.injEq] at a0
    obtain ⟨rfl, rfl, rfl, rfl⟩ := a0
    simp only [tk1, s1, if_true] at a1
    simp only [tk2, s2, Bool.false_eq_true, if_false, Prod.mk.injEq] at a2
    obtain ⟨rfl, rfl, rfl⟩ := a2
    simp only [tk3, s3, Bool.false_eq_true, if_false, Prod.mk.injEq] at a3
    obtain ⟨rfl, rfl, rfl⟩ := a3
    simp only [tk4, s4, Bool.false_eq_true, if_false, Prod.mk.injEq] at a4
    obtain ⟨rfl, rfl, rfl⟩ := a4
    simp only [tk5, s5, if_true] at a5
    exact rtake_3 A L n c p e b _ _ _ _ _ _ _ _ _ _ _ _ _ w hn hp hl hc hA0 hx hA hbyte hb8 h' rfl rfl a1 a5 hok hff hpf htn
  · have h' := h
    obtain ⟨s0, s1, s2, s3, s4, s5⟩ := h
    simp only [tk0, s0, if_true, Prod.mk.injEq] at a0
    obtain ⟨rfl, rfl, rfl, rfl⟩ := a0
    simp only [tk1, s1, if_true] at a1
    simp only [tk2, s2, if_true] at a2
    simp only [tk3, s3, if_true] at a3
    simp only [tk4, s4, Bool.false_eq_true, if_false, Prod.mk.injEq] at a4
    obtain ⟨rfl, rfl, rfl⟩ := a4
    simp only [tk5, s5, Bool.false_eq_true, if_false, Prod.mk.injEq] at a5
    obtain ⟨rfl, rfl, rfl⟩ := a5
    exact rtake_4 A L n c p e b _ _ _ _ _ _ _ _ _ _ _ _ _ _ _ _ w hn hp hl hc hA0 hx hA hbyte hb8 h' rfl rfl a1 a2 a3 hok hff hpf hmn
  · have h' := h
    obtain ⟨s0, s1, s2, s3, s4, s5⟩ := h
    simp only [tk0, s0, if_true, Prod.mk.injEq] at a0
    obtain ⟨rfl, rfl, rfl, rfl⟩ := a0
    simp only [tk1, s1, if_true] at a1
    simp only [tk2, s2, if_true] at a2
    simp only [tk3, s3, Bool.false_eq_true, if_false, Prod.mk.injEq] at a3
    obtain ⟨rfl, rfl, rfl⟩ := a3
    simp only [tk4, s4, Bool.false_eq_true, if_false, Prod.mk.injEq] at a4
    obtain ⟨rfl, rfl, rfl⟩ := a4
    simp only [tk5, s5, Bool.false_eq_true, if_false, Prod.mk.injEq] at a5
    obtain ⟨rfl, rfl, rfl⟩ := a5
    exact rtake_6 A L n c p e b _ _ _ _ _ _ _ _ _ _ _ _ _ w hn hp hl hc hA0 hx hA hbyte hb8 h' rfl rfl a1 a2 hok hff hpf
  · have h' := h
    obtain ⟨s0, s1, s2, s3, s4, s5⟩ := h
    simp only [tk0, s0, if_true, Prod.mk.injEq] at a0
    obtain ⟨rfl, rfl, rfl, rfl⟩ := a0
    simp only [tk1, s1, if_true] at a1
    simp only [tk2, s2, if_true] at a2
    simp only [tk3, s3, Bool.false_eq_true, if_false, Prod.mk.injEq] at a3
    obtain ⟨rfl, rfl, rfl⟩ := a3
    simp only [tk4, s4, if_true] at a4
    simp only [tk5, s5, Bool.false_eq_true, if_false, Prod.mk.injEq] at a5
    obtain ⟨rfl, rfl, rfl⟩ := a5
    exact rtake_7 A L n c p e b _ _ _ _ _ _ _ _ _ _ _ _ _ _ _ _ w hn hp hl hc hA0 hx hA hbyte hb8 h' rfl rfl a1 a2 a4 hok hff hpf
  · have h' := h
    obtain ⟨s0, s1, s2, s3, s4, s5⟩ := h
    simp only [tk0, s0, if_true, Prod.mk.injEq] at a0
    obtain ⟨rfl, rfl, rfl, rfl⟩ := a0
    simp only [tk1, s1, Bool.false_eq_true, if_false, Prod.mk.injEq] at a1
    obtain ⟨rfl, rfl, rfl⟩ := a1
    simp only [tk2, s2, Bool.false_eq_true, if_false, Prod.mk.injEq] at a2
    obtain ⟨rfl, rfl, rfl⟩ := a2
    simp only [tk3, s3, Bool.false_eq_true, if_false, Prod.mk.injEq] at a3
    obtain ⟨rfl, rfl, rfl⟩ := a3
    simp only [tk4, s4, Bool.false_eq_true, if_false, Prod.mk.injEq] at a4
    obtain ⟨rfl, rfl, rfl⟩ := a4
    simp only [tk5, s5, if_true] at a5
    exact rtake_8 A L n c p e b _ _ _ _ _ _ _ _ _ _ w hn hp hl hc hA0 hx hA hbyte hb8 h' rfl rfl a5 hok hff hpf htn
theorem rtake_any (A : Option Addr) (L : List Nat) (n c p e : Nat) (l' : List Nat) (e' : Nat) (d : K) (w : World) (hn : L.length = n) (hp : p ≤ n) (hl : n ≤ 9223372036854775807) (hc : n ≤ c) (hA0 : A = none → c = 0) (hx : ∀ x ∈ L, x < 256) (hA : Sees .u8 w A L)
    (hs : sCmd (rem L p e) e = (l', e', d)) :
    Calls Tryz.prog 47 #[reader A n c (p : Int) (e : Int)] w (RefDoes A n L c l' e' (val d) w) := by
  have hS : Sound (rem L p e) e := ⟨rem_fine L p e, fun x hh => hx x (rem_in x hh), by have := rem_len L p e; omega⟩
  obtain ⟨l1, e1, b, hb⟩ : ∃ a b c, sByte (rem L p e) e = (a, b, c) := ⟨_, _, _, rfl⟩
  obtain ⟨s1, b1⟩ := sByte_sound hS hb
  obtain ⟨_, _, hno⟩ := sTruth_byte (rem_fine L p e) hb
  unfold sCmd at hs
  by_cases h8 : 8 < b
  · have z : e1 = 0 := by
      by_cases h : e1 = 0
      · exact h
      · have := (hno h).1; omega
    subst z
    have hi : isK (b : Int) = false := by unfold isK; rw [decide_eq_false_iff_not]; omega
    have hk : kindE (rem L p e) e = ([], 22) := by unfold kindE; rw [hb]; simp [h8, leftE, firstE]
    have hp' : partsE (rem L p e) e = ([], 22, ⟨b, 0, ⟨#[]⟩, 0, ⟨#[]⟩, 0, 0, 0⟩) := by unfold partsE; rw [hb, hk]; exact kind_no hi _ _
    rw [hp'] at hs
    have hl' : lastE ([], 22, ⟨(b : Int), 0, ⟨#[]⟩, 0, ⟨#[]⟩, 0, 0, 0⟩) = ([], 22, zeroK) := by unfold lastE; rw [rightK_kind hi]; rfl
    rw [hl'] at hs
    simp only [Prod.mk.injEq] at hs
    obtain ⟨rfl, rfl, rfl⟩ := hs
    exact rtake_big A L n c p e b l1 w hn hp hl hc hA0 hx hA hb h8
  · have hk : kindE (rem L p e) e = (l1, e1) := by unfold kindE; rw [hb]; exact if_neg h8
    by_cases h0 : e1 = 0
    · subst h0
      obtain ⟨l3, e3, d3, h3⟩ : ∃ x y z, sParts (b : Int) l1 0 = (x, y, z) := ⟨_, _, _, rfl⟩
      obtain ⟨s3, ok3, k3, f3, p3, i3⟩ := sParts_sound (by omega) s1 h3
      have hp' : partsE (rem L p e) e = (l3, e3, d3) := by unfold partsE; rw [hb, hk]; exact h3
      rw [hp'] at hs
      have hh := rtake_mid A L n c p e b l1 l3 e3 d3 w hn hp hl hc hA0 hx hA hb (by omega) s1 ok3 (by omega) (by omega) h3
      rw [hs] at hh
      exact hh
    · obtain ⟨rfl, rfl⟩ := hno h0
      have hp' : partsE (rem L p e) e = ([], e1, zeroK) := by unfold partsE; rw [hb, hk]; rfl
      rw [hp'] at hs
      have hl' : lastE ([], e1, zeroK) = ([], e1, zeroK) := by unfold lastE; rw [show rightK zeroK = true from right_none]; simp [h0]
      rw [hl'] at hs
      simp only [Prod.mk.injEq] at hs
      obtain ⟨rfl, rfl, rfl⟩ := hs
      exact rtake_err A L n c p e 0 [] e1 w hn hp hl hc hA0 hx hA hb (by omega) h0
end Go.Proofs.YtohffiehmmcgbaaGreatDoor
