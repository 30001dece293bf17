/-
  The contract of the document's Take of a state (moothillref10): one path.
-/
import Derived.Test.YtohffiehmmcgbaaGreatDoorWKRtE
import Derived.Test.YtohffiehmmcgbaaGreatDoorWJRt
namespace Go.Proofs.YtohffiehmmcgbaaGreatDoor
open Go.ChangeShapes Go.WideShapes Go.ChangeAt Go.RowKit Go.Lib
set_option linter.unusedVariables false
set_option linter.unusedSimpArgs false
set_option maxRecDepth 100000 in
set_option maxHeartbeats 60000000 in
theorem reftakex_s (A : Option Addr) (L : List Nat) (n c p e : Nat) (l1 l2 l3 l4 l8 : List Nat) (e1 e2 e3 e4 e8 r s v b vt : Nat) (sm : Bool) (d : K) (V : Nat → Int) (w : World) (hn : L.length = n) (hp : p ≤ n) (hl : n ≤ 9223372036854775807) (hc : n ≤ c) (hA0 : A = none → c = 0) (hx : ∀ x ∈ L, x < 256) (hA : Sees .u8 w A L)
    (h1 : sName (rem L p e) e = (l1, e1, r, s)) (h2 : sBallot l1 e1 = (l2, e2, v)) (h3 : sByte l2 e2 = (l3, e3, b)) (h4 : statE b l3 e3 = (l4, e4)) (h5 : valE b l4 e4 = (l8, e8, vt, sm, d, V)) (hb8 : b < 256) (hok : okJ ⟨((r : Nat) : Int), ((s : Nat) : Int), ((b : Nat) : Int), ((v : Nat) : Int), ((vt : Nat) : Int), sm, d, V⟩) (hK : okK d) (hf : d.foot.size ≤ 900) (hpf : d.path.size ≤ 900) (hbz : b ≠ 0) (hb3 : ¬ 3 < b) :
    Calls Tryz.prog 13 #[reader A n c (p : Int) (e : Int)] w (RefDoes A n L c (lastJ (l8, e8, ⟨((r : Nat) : Int), ((s : Nat) : Int), ((b : Nat) : Int), ((v : Nat) : Int), ((vt : Nat) : Int), sm, d, V⟩)).1 (lastJ (l8, e8, ⟨((r : Nat) : Int), ((s : Nat) : Int), ((b : Nat) : Int), ((v : Nat) : Int), ((vt : Nat) : Int), sm, d, V⟩)).2.1 (.agg (rowJ (lastJ (l8, e8, ⟨((r : Nat) : Int), ((s : Nat) : Int), ((b : Nat) : Int), ((v : Nat) : Int), ((vt : Nat) : Int), sm, d, V⟩)).2.2)) w) := by
  obtain ⟨l5, e5, l6, e6, l7, e7, g5, g6, g7, g8⟩ := valE_some hbz h5
  have hb0 : (0 : Int) < (b : Int) := by omega
  have G5 := hid g5
  have G6 := hid g6
  have G7 := hid g7
  have G8 := hid g8
  clear g5 g6 g7 g8
  obtain ⟨rfl, rfl⟩ : l3 = l4 ∧ e3 = e4 := by have := h4; unfold statE at this; rw [if_neg hb3] at this; simpa using this
  have hb3i : ¬ ((3 : Int) < (b : Int)) := by omega
  obtain ⟨rr, hr⟩ : ∃ x, rightJ ⟨((r : Nat) : Int), ((s : Nat) : Int), ((b : Nat) : Int), ((v : Nat) : Int), ((vt : Nat) : Int), sm, d, V⟩ = x := ⟨_, rfl⟩
  have HRR := hid hr
  have HL : Hid (lastJ (l8, e8, ⟨((r : Nat) : Int), ((s : Nat) : Int), ((b : Nat) : Int), ((v : Nat) : Int), ((vt : Nat) : Int), sm, d, V⟩) = if rr then (l8, e8, if e8 = 0 then ⟨((r : Nat) : Int), ((s : Nat) : Int), ((b : Nat) : Int), ((v : Nat) : Int), ((vt : Nat) : Int), sm, d, V⟩ else zeroJ) else (leftE e8 10 l8, firstE e8 10, zeroJ)) := hid (by unfold lastJ; simp only; rw [hr])
  have HOK : Hid (okJ ⟨((r : Nat) : Int), ((s : Nat) : Int), ((b : Nat) : Int), ((v : Nat) : Int), ((vt : Nat) : Int), sm, d, V⟩) := hid hok
  have HKK := hid hK
  have HN := hid hn
  have HX := hid hx
  have HA := hid hA
  have H0 := hid hA0
  have H1 := hid h1
  have H2 := hid h2
  have H3 := hid h3
  have W1 : IntKind.i64.wrap (b : Int) = b := by rw [IntKind.wrap_i64]; omega
  have Z1 := hid (len_x zeroJ)
  have Z3 := hid (rowJ_one zeroJ)
  clear hr hok hK hn hx hA hA0 h1 h2 h3 h4 h5 hb8
  go_enter Tryz.func13, Tryz.ntmps13
  go_upto_region 1 with fail
  obtain ⟨W, hW⟩ : ∃ W, ((w.alloc (.cells (rd3 A n c (p : Int) (e : Int)) 42)).alloc (.cells rdZ 42)).alloc (.cells zrow 48) = W := ⟨_, rfl⟩
  rw [hW]
  obtain ⟨K0, K1, K2, KB⟩ := three_new hW
  rw [zrow_is] at K2
  clear hW
  obtain ⟨k, hk⟩ : ∃ k, w.heap.size = k := ⟨_, rfl⟩
  have HAK : Hid (∀ w', Below k w w' → Sees .u8 w' A L) := hid (fun w' h => HA.out.below (by rw [hk]; exact h))
  rw [hk] at K0 K1 K2 KB
  rw [hk]
  have HK := hid hk
  clear hk HA
  obtain ⟨m, hm⟩ : ∃ m, W.heap.size = m := ⟨_, rfl⟩
  have E0 : Hid (Blk (W.alloc (.cells zrow 48)) m 48 zrow) := hid (by rw [← hm]; exact Blk.new W 48 zrow)
  have A0 : Hid (RA w ((W.alloc (.cells zrow 48)).setRow m (rowJ zeroJ)) k m 48 (rowJ zeroJ) (rowJ zeroJ) A n c p (e : Int)) := hid (by
    have h0 := K0.out.lt
    have h2 := K2.out.lt
    exact ⟨(K0.out.alloc _).rowFar (by omega) _, (K1.out.alloc _).rowFar (by omega) _, (K2.out.alloc _).rowFar (by omega) _, E0.out.row _, below_setRow_ (KB.out.trans ((Below.refl k W).alloc (by omega) _)) (by omega), by omega⟩)
  go_upto_region 2 with (refine wpList_store_row (o := ⟨none, _, _, _, _, _⟩) rfl 48 (.tmp 4) (.tmp 6) rfl m (rowJ zeroJ) rfl ?hy 48 zrow E0.out.heap Z1.out (size_inst zeroJ zeroJ) Z3.out ?_; (case hy => rfl))
  obtain ⟨W2, hW2⟩ : ∃ W2, (W.alloc (.cells zrow 48)).setRow m (rowJ zeroJ) = W2 := ⟨_, rfl⟩
  rw [hW2] at A0
  rw [hW2]
  clear hW2 hm E0 K0 K1 K2 KB
  have RL0 := hid (len_rd A n c (p : Int) (e : Int))
  go_wp2_with (first
      | (with_reducible refine wpList_load_row (o := ⟨some 8, _, _, _, _, _⟩) rfl 42 (.tmp 1) rfl k rfl 42 (rd3 A n c (p : Int) (e : Int)) (0, 0) _ A0.out.rd.heap Tryz.underlying42 rfl RL0.out ?_))
  with_reducible refine (reftakeid_any A L n c p e l1 e1 r s _ HN.out hp hl hc H0.out HX.out (HAK.out _ A0.out.bel) H1.out).mono ?_
  rintro en v1 ⟨q1, hp1, hr1, rfl, hb⟩
  have B1a := hid (A0.out.on hb)
  clear hb A0
  subst hr1
  have B1b := hid (B1a.out.read q1 e1)
  have RX0 := hid (len_rd A n c (q1 : Int) (e1 : Int))
  have RO0 := hid (one_rd A n c (q1 : Int) (e1 : Int))
  have RS0 := hid (show (rd3 A n c (p : Int) (e : Int)).size = (rd3 A n c (q1 : Int) (e1 : Int)).size from rfl)
  have TH1 := hid (show World.there _ m 0 (#[.int .i64 (r : Int), .int .i64 (s : Int)] : Array Value).size from B1b.out.there (o := 0) (z := 2) (by rw [rowJ_size]; decide))
  have TL1 := hid (len_id (r : Int) (s : Int))
  have TO1 := hid (one_id (r : Int) (s : Int))
  have B1 : Hid (RA w _ k m 48 (rowJ zeroJ) (rowJ ⟨((r : Nat) : Int), ((s : Nat) : Int), 0, 0, 0, false, zeroK, fun _ => 0⟩) A n c q1 (e1 : Int)) := hid (B1b.out.id (r : Int) (s : Int))
  clear B1b
  have RL1 := hid (len_rd A n c (q1 : Int) (e1 : Int))
  go_wp2_with (first
      | ((with_reducible refine wpList_store_row (o := ⟨none, _, _, _, _, _⟩) rfl 42 (.tmp 1) (.tmp 10) rfl k (rd3 A n c (q1 : Int) (e1 : Int)) rfl ?hy 42 (rd3 A n c (p : Int) (e : Int)) B1a.out.rd.heap RX0.out RS0.out RO0.out ?_); (case hy => rfl))
      | ((with_reducible refine wpList_store_mid (op := ⟨none, _, _, _, _, _⟩) rfl 43 (.tmp 12) (.tmp 11) rfl m 0 #[.int .i64 (r : Int), .int .i64 (s : Int)] rfl ?hy TH1.out TL1.out TO1.out ?_); (case hy => rfl))
      | (with_reducible refine wpList_load_row (o := ⟨some 14, _, _, _, _, _⟩) rfl 42 (.tmp 1) rfl k rfl 42 (rd3 A n c (q1 : Int) (e1 : Int)) (0, 0) _ B1.out.rd.heap Tryz.underlying42 rfl RL1.out ?_))
  with_reducible refine (reftakeballot_any A L n c q1 e1 l2 e2 v _ HN.out hp1 hl hc H0.out HX.out (HAK.out _ B1.out.bel) H2.out).mono ?_
  rintro en v2 ⟨q2, hp2, hr2, rfl, hb⟩
  have B2a := hid (B1.out.on hb)
  clear hb B1
  subst hr2
  have B2b := hid (B2a.out.read q2 e2)
  have RX1 := hid (len_rd A n c (q2 : Int) (e2 : Int))
  have RO1 := hid (one_rd A n c (q2 : Int) (e2 : Int))
  have RS1 := hid (show (rd3 A n c (q1 : Int) (e1 : Int)).size = (rd3 A n c (q2 : Int) (e2 : Int)).size from rfl)
  have cf := (B2b.out.obj.cell 3).trans rfl
  have ff := B2b.out.obj.frozen 3
  have B2 := hid (B2b.out.set_ 3 (.int .u32 (v : Int)) (ds := rowJ ⟨((r : Nat) : Int), ((s : Nat) : Int), 0, ((v : Nat) : Int), 0, false, zeroK, fun _ => 0⟩) rfl)
  clear B2b
  have RL2 := hid (len_rd A n c (q2 : Int) (e2 : Int))
  go_wp2_with (first
      | ((with_reducible refine wpList_store_row (o := ⟨none, _, _, _, _, _⟩) rfl 42 (.tmp 1) (.tmp 16) rfl k (rd3 A n c (q2 : Int) (e2 : Int)) rfl ?hy 42 (rd3 A n c (q1 : Int) (e1 : Int)) B2a.out.rd.heap RX1.out RS1.out RO1.out ?_); (case hy => rfl))
      | (with_reducible refine wpList_load_row (o := ⟨some 20, _, _, _, _, _⟩) rfl 42 (.tmp 1) rfl k rfl 42 (rd3 A n c (q2 : Int) (e2 : Int)) (0, 0) _ B2.out.rd.heap Tryz.underlying42 rfl RL2.out ?_))
  with_reducible refine (refbyte_any A L n c q2 e2 l3 e3 b _ HN.out hp2 hl (HAK.out _ B2.out.bel) H3.out).mono ?_
  rintro en v3 ⟨q3, hp3, hr3, rfl, hb⟩
  have B3a := hid (B2.out.on hb)
  clear hb B2 cf ff
  subst hr3
  have B3b := hid (B3a.out.read q3 e3)
  have RX2 := hid (len_rd A n c (q3 : Int) (e3 : Int))
  have RO2 := hid (one_rd A n c (q3 : Int) (e3 : Int))
  have RS2 := hid (show (rd3 A n c (q2 : Int) (e2 : Int)).size = (rd3 A n c (q3 : Int) (e3 : Int)).size from rfl)
  have cs2 := (B3b.out.obj.cell 2).trans rfl
  have fs2 := B3b.out.obj.frozen 2
  have c2 := (B3b.out.rd.cell 2).trans rfl
  have BS := hid (B3b.out.set_ 2 (.int .i64 (b : Int)) (ds := rowJ ⟨((r : Nat) : Int), ((s : Nat) : Int), ((b : Nat) : Int), ((v : Nat) : Int), 0, false, zeroK, fun _ => 0⟩) rfl)
  go_upto_region 8 with (first
      | ((with_reducible refine wpList_store_row (o := ⟨none, _, _, _, _, _⟩) rfl 42 (.tmp 1) (.tmp 22) rfl k (rd3 A n c (q3 : Int) (e3 : Int)) rfl ?hy 42 (rd3 A n c (q2 : Int) (e2 : Int)) B3a.out.rd.heap RX2.out RS2.out RO2.out ?_); (case hy => rfl)))
  obtain ⟨W6, hW6⟩ : ∃ W6, (v3.setRow k (rd3 A n c (q3 : Int) (e3 : Int))).setCell ⟨m, 2, none⟩ (.int .i64 (b : Int)) = W6 := ⟨_, rfl⟩
  rw [hW6] at BS
  rw [hW6]
  clear hW6 cs2 fs2 c2 B3a B3b W1
  have RL3 := hid (len_rd A n c (q3 : Int) (e3 : Int))
  go_wp2_with (first
      | (with_reducible refine wpList_load_row (o := ⟨some 38, _, _, _, _, _⟩) rfl 42 (.tmp 1) rfl k rfl 42 (rd3 A n c (q3 : Int) (e3 : Int)) (0, 0) _ BS.out.rd.heap Tryz.underlying42 rfl RL3.out ?_))
  with_reducible refine (reftakeballot_any A L n c q3 e3 l5 e5 vt _ HN.out hp3 hl hc H0.out HX.out (HAK.out _ BS.out.bel) G5.out).mono ?_
  rintro en v4 ⟨q4, hp4, hr4, rfl, hb⟩
  have B4a := hid (BS.out.on hb)
  clear hb BS
  subst hr4
  have B4b := hid (B4a.out.read q4 e5)
  have RX3 := hid (len_rd A n c (q4 : Int) (e5 : Int))
  have RO3 := hid (one_rd A n c (q4 : Int) (e5 : Int))
  have RS3 := hid (show (rd3 A n c (q3 : Int) (e3 : Int)).size = (rd3 A n c (q4 : Int) (e5 : Int)).size from rfl)
  have cf := (B4b.out.obj.cell 4).trans rfl
  have ff := B4b.out.obj.frozen 4
  have B4 := hid (B4b.out.set_ 4 (.int .u32 (vt : Int)) (ds := rowJ ⟨((r : Nat) : Int), ((s : Nat) : Int), ((b : Nat) : Int), ((v : Nat) : Int), ((vt : Nat) : Int), false, zeroK, fun _ => 0⟩) rfl)
  clear B4b
  have RL4 := hid (len_rd A n c (q4 : Int) (e5 : Int))
  go_wp2_with (first
      | ((with_reducible refine wpList_store_row (o := ⟨none, _, _, _, _, _⟩) rfl 42 (.tmp 1) (.tmp 40) rfl k (rd3 A n c (q4 : Int) (e5 : Int)) rfl ?hy 42 (rd3 A n c (q3 : Int) (e3 : Int)) B4a.out.rd.heap RX3.out RS3.out RO3.out ?_); (case hy => rfl))
      | (with_reducible refine wpList_load_row (o := ⟨some 44, _, _, _, _, _⟩) rfl 42 (.tmp 1) rfl k rfl 42 (rd3 A n c (q4 : Int) (e5 : Int)) (0, 0) _ B4.out.rd.heap Tryz.underlying42 rfl RL4.out ?_))
  with_reducible refine (reftruth_any A L n c q4 e5 l6 e6 sm _ HN.out hp4 hl (HAK.out _ B4.out.bel) G6.out).mono ?_
  rintro en v5 ⟨q5, hp5, hr5, rfl, hb⟩
  have B5a := hid (B4.out.on hb)
  clear hb B4 cf ff
  subst hr5
  have B5b := hid (B5a.out.read q5 e6)
  have RX4 := hid (len_rd A n c (q5 : Int) (e6 : Int))
  have RO4 := hid (one_rd A n c (q5 : Int) (e6 : Int))
  have RS4 := hid (show (rd3 A n c (q4 : Int) (e5 : Int)).size = (rd3 A n c (q5 : Int) (e6 : Int)).size from rfl)
  have cf := (B5b.out.obj.cell 5).trans rfl
  have ff := B5b.out.obj.frozen 5
  have B5 := hid (B5b.out.set_ 5 (.bool sm) (ds := rowJ ⟨((r : Nat) : Int), ((s : Nat) : Int), ((b : Nat) : Int), ((v : Nat) : Int), ((vt : Nat) : Int), sm, zeroK, fun _ => 0⟩) rfl)
  clear B5b
  have RL5 := hid (len_rd A n c (q5 : Int) (e6 : Int))
  go_wp2_with (first
      | ((with_reducible refine wpList_store_row (o := ⟨none, _, _, _, _, _⟩) rfl 42 (.tmp 1) (.tmp 46) rfl k (rd3 A n c (q5 : Int) (e6 : Int)) rfl ?hy 42 (rd3 A n c (q4 : Int) (e5 : Int)) B5a.out.rd.heap RX4.out RS4.out RO4.out ?_); (case hy => rfl))
      | (with_reducible refine wpList_load_row (o := ⟨some 50, _, _, _, _, _⟩) rfl 42 (.tmp 1) rfl k rfl 42 (rd3 A n c (q5 : Int) (e6 : Int)) (0, 0) _ B5.out.rd.heap Tryz.underlying42 rfl RL5.out ?_))
  with_reducible refine (rtake_any A L n c q5 e6 l7 e7 d _ HN.out hp5 hl hc H0.out HX.out (HAK.out _ B5.out.bel) G7.out).mono ?_
  rintro en v6 ⟨q6, hp6, hr6, rfl, hb⟩
  have B6a := hid (B5.out.on hb)
  clear hb B5 cf ff
  subst hr6
  have B6b := hid (B6a.out.read q6 e7)
  have RX5 := hid (len_rd A n c (q6 : Int) (e7 : Int))
  have RO5 := hid (one_rd A n c (q6 : Int) (e7 : Int))
  have RS5 := hid (show (rd3 A n c (q5 : Int) (e6 : Int)).size = (rd3 A n c (q6 : Int) (e7 : Int)).size from rfl)
  have TH6 := hid (show World.there _ m 6 ((cellsOf d) : Array Value).size from B6b.out.there (o := 6) (z := 8) (by rw [rowJ_size]; decide))
  have TL6 := hid (len_rc d)
  have TO6 := hid (one_rc d)
  have B6 : Hid (RA w _ k m 48 (rowJ zeroJ) (rowJ ⟨((r : Nat) : Int), ((s : Nat) : Int), ((b : Nat) : Int), ((v : Nat) : Int), ((vt : Nat) : Int), sm, d, fun _ => 0⟩) A n c q6 (e7 : Int)) := hid (B6b.out.cmd d)
  clear B6b
  have RL6 := hid (len_rd A n c (q6 : Int) (e7 : Int))
  go_wp2_with (first
      | ((with_reducible refine wpList_store_row (o := ⟨none, _, _, _, _, _⟩) rfl 42 (.tmp 1) (.tmp 52) rfl k (rd3 A n c (q6 : Int) (e7 : Int)) rfl ?hy 42 (rd3 A n c (q5 : Int) (e6 : Int)) B6a.out.rd.heap RX5.out RS5.out RO5.out ?_); (case hy => rfl))
      | ((with_reducible refine wpList_store_mid (op := ⟨none, _, _, _, _, _⟩) rfl 45 (.tmp 54) (.tmp 53) rfl m 6 (cellsOf d) rfl ?hy TH6.out TL6.out TO6.out ?_); (case hy => rfl))
      | (with_reducible refine wpList_load_row (o := ⟨some 56, _, _, _, _, _⟩) rfl 42 (.tmp 1) rfl k rfl 42 (rd3 A n c (q6 : Int) (e7 : Int)) (0, 0) _ B6.out.rd.heap Tryz.underlying42 rfl RL6.out ?_))
  with_reducible refine (refattake_any A L n c q6 e7 l8 e8 V _ HN.out hp6 hl hc H0.out HX.out (HAK.out _ B6.out.bel) G8.out).mono ?_
  rintro en v7 ⟨q7, hp7, hr7, rfl, hb⟩
  have B7a := hid (B6.out.on hb)
  clear hb B6
  subst hr7
  have B7b := hid (B7a.out.read q7 e8)
  have RX6 := hid (len_rd A n c (q7 : Int) (e8 : Int))
  have RO6 := hid (one_rd A n c (q7 : Int) (e8 : Int))
  have RS6 := hid (show (rd3 A n c (q6 : Int) (e7 : Int)).size = (rd3 A n c (q7 : Int) (e8 : Int)).size from rfl)
  have TH7 := hid (show World.there _ m 14 ((rowA V) : Array Value).size from B7b.out.there (o := 14) (z := 8) (by rw [rowJ_size]; decide))
  have TL7 := hid (len_a V)
  have TO7 := hid (one_a V)
  have B7 : Hid (RA w _ k m 48 (rowJ zeroJ) (rowJ ⟨((r : Nat) : Int), ((s : Nat) : Int), ((b : Nat) : Int), ((v : Nat) : Int), ((vt : Nat) : Int), sm, d, V⟩) A n c q7 (e8 : Int)) := hid (B7b.out.att V)
  clear B7b
  have c2 := (B7.out.rd.cell 2).trans rfl
  have f2 := B7.out.rd.frozen 2
  have Q1 := hid (len_x ⟨((r : Nat) : Int), ((s : Nat) : Int), ((b : Nat) : Int), ((v : Nat) : Int), ((vt : Nat) : Int), sm, d, V⟩)
  have Q3 := hid (rowJ_one ⟨((r : Nat) : Int), ((s : Nat) : Int), ((b : Nat) : Int), ((v : Nat) : Int), ((vt : Nat) : Int), sm, d, V⟩)
  have G1 := hid (len_rd A n c (q7 : Int) (e8 : Int))
  have G3 := hid (one_rd A n c (q7 : Int) (e8 : Int))
  by_cases h0 : e8 = 0
  · have HE0 := hid h0
    clear h0 c2
    have c2 : (_ : World).cell? ⟨k, 2, none⟩ = some (.int .i64 0) := (B7.out.rd.cell 2).trans (by rw [HE0.out]; rfl)
    go_wp2_with (first
        | ((with_reducible refine wpList_store_row (o := ⟨none, _, _, _, _, _⟩) rfl 42 (.tmp 1) (.tmp 58) rfl k (rd3 A n c (q7 : Int) (e8 : Int)) rfl ?hy 42 (rd3 A n c (q6 : Int) (e7 : Int)) B7a.out.rd.heap RX6.out RS6.out RO6.out ?_); (case hy => rfl))
        | ((with_reducible refine wpList_store_mid (op := ⟨none, _, _, _, _, _⟩) rfl 46 (.tmp 60) (.tmp 59) rfl m 14 (rowA V) rfl ?hy TH7.out TL7.out TO7.out ?_); (case hy => rfl))
        | (with_reducible refine wpList_load_rowg (o := ⟨some 65, _, _, _, _, _⟩) (by kernel_rfl) 48 (.tmp 4) rfl m rfl 48 (rowJ ⟨((r : Nat) : Int), ((s : Nat) : Int), ((b : Nat) : Int), ((v : Nat) : Int), ((vt : Nat) : Int), sm, d, V⟩) (0, 0) _ B7.out.obj.heap Tryz.underlying48 rfl Q1.out ?_))
    with_reducible refine (refxright_any ⟨((r : Nat) : Int), ((s : Nat) : Int), ((b : Nat) : Int), ((v : Nat) : Int), ((vt : Nat) : Int), sm, d, V⟩ HOK.out HKK.out _ hf hpf).mono ?_
    rw [HRR.out]
    rintro en vr ⟨rfl, hb⟩
    have T1 := hid (B7.out.on hb)
    clear hb c2 f2
    have c2 : vr.cell? ⟨k, 2, none⟩ = some (.int .i64 0) := (T1.out.rd.cell 2).trans (by rw [HE0.out]; rfl)
    have f2 := T1.out.rd.frozen 2
    cases rr
    · have T2 := hid (T1.out.err 10)
      have g10 := hid (len_rd A n c (q7 : Int) (10 : Int))
      have g11 := hid (one_rd A n c (q7 : Int) (10 : Int))
      go_upto_region 15 with fail
      obtain ⟨WE, hWE⟩ : ∃ WE, vr.setCell ⟨k, 2, none⟩ (.int .i64 10) = WE := ⟨_, rfl⟩
      have T2 : Hid (RA w WE k m 48 (rowJ zeroJ) (rowJ ⟨((r : Nat) : Int), ((s : Nat) : Int), ((b : Nat) : Int), ((v : Nat) : Int), ((vt : Nat) : Int), sm, d, V⟩) A n c q7 10) := hid (by rw [← hWE]; exact T2.out)
      rw [hWE]
      clear hWE c2 f2
      have c2 := (T2.out.rd.cell 2).trans rfl
      have TF := hid (T2.out.fin (rowJ zeroJ))
      have GS := hid (show rdZ.size = (rd3 A n c (q7 : Int) (10 : Int)).size from rfl)
      have g1 := hid (T2.out.r2.rowFar (k := k + 1) (by omega) (rd3 A n c (q7 : Int) (10 : Int)))
      go_wp2_with (first
          | (with_reducible refine wpList_load_row (o := ⟨some 73, _, _, _, _, _⟩) rfl 42 (.tmp 1) rfl k rfl 42 (rd3 A n c (q7 : Int) (10 : Int)) (0, 0) _ T2.out.rd.heap Tryz.underlying42 rfl g10.out ?_)
          | ((with_reducible refine wpList_store_row (o := ⟨none, _, _, _, _, _⟩) rfl 42 (.tmp 2) (.tmp 73) rfl (k + 1) (rd3 A n c (q7 : Int) (10 : Int)) rfl ?hy 42 rdZ T2.out.r1.heap g10.out GS.out g11.out ?_); (case hy => rfl))
          | ((with_reducible refine wpList_store_row (o := ⟨none, _, _, _, _, _⟩) rfl 48 (.tmp 3) (.tmp 74) rfl (k + 1 + 1) (rowJ zeroJ) rfl ?hy 48 (rowJ zeroJ) g1.out.heap Z1.out (size_inst _ _) Z3.out ?_); (case hy => rfl)))
      exact bodyPost_ret (v := .tuple #[reader A n c (q7 : Int) (10 : Int), .agg (rowJ zeroJ)]) (results_two_rows (p := 2) (q := 3) (ty := 42) (ty2 := 48) (by kernel_rfl) _ _ (k + 1) (k + 1 + 1) 42 48 (rd3 A n c (q7 : Int) (10 : Int)) (rowJ zeroJ) (0, 0) (0, 0) _ _ rfl rfl TF.out.1.heap TF.out.2.1.heap Tryz.underlying42 rfl g10.out Tryz.underlying48 rfl Z1.out) rfl (by rw [HL.out]; rw [HE0.out]; exact refdoes_end (e' := 10) hp7 (rem_err (by decide)).symm (by rw [HK.out]; exact TF.out.2.2))
    · have TD := hid T1.out.drew
      have TF := hid (TD.out.fin (rowJ ⟨((r : Nat) : Int), ((s : Nat) : Int), ((b : Nat) : Int), ((v : Nat) : Int), ((vt : Nat) : Int), sm, d, V⟩))
      go_upto_region 17 with fail
      clear c2 f2
      refine wp_region_held_drew (S := (fun w' => Blk w' k 42 (rd3 A n c (q7 : Int) (e8 : Int)) ∧ Blk w' m 48 (rowJ ⟨((r : Nat) : Int), ((s : Nat) : Int), ((b : Nat) : Int), ((v : Nat) : Int), ((vt : Nat) : Int), sm, d, V⟩))) (by kernel_rfl) (by exact ⟨TD.out.rd, TD.out.obj⟩) (fun hHeld => ?_)
      refine wpAnyH_take (i := 0) (oi := _) (v := .agg (rd3 A n c (q7 : Int) (e8 : Int))) rfl (by kernel_rfl) (by kernel_rfl) (by kernel_rfl) (fun _ _ _ h => h) (yields_row (by kernel_rfl) 42 (.tmp 1) rfl k rfl 42 (rd3 A n c (q7 : Int) (e8 : Int)) (0, 0) _ (fun _ h => Blk.heap (And.left h)) Tryz.underlying42 rfl G1.out) hHeld ?_
      try simp only [Act.put, List.getElem_toArray, List.getElem_cons_zero, List.getElem_cons_succ, List.setIfInBounds_toArray, List.set_cons_zero, List.set_cons_succ]
      refine wpAnyH_take (i := 1) (oi := _) (v := .agg (rowJ ⟨((r : Nat) : Int), ((s : Nat) : Int), ((b : Nat) : Int), ((v : Nat) : Int), ((vt : Nat) : Int), sm, d, V⟩)) rfl (by kernel_rfl) (by kernel_rfl) (by kernel_rfl) (fun _ _ _ h => h) (yields_row (by kernel_rfl) 48 (.tmp 4) rfl m rfl 48 (rowJ ⟨((r : Nat) : Int), ((s : Nat) : Int), ((b : Nat) : Int), ((v : Nat) : Int), ((vt : Nat) : Int), sm, d, V⟩) (0, 0) _ (fun _ h => Blk.heap (And.right h)) Tryz.underlying48 rfl Q1.out) hHeld ?_
      try simp only [Act.put, List.getElem_toArray, List.getElem_cons_zero, List.getElem_cons_succ, List.setIfInBounds_toArray, List.set_cons_zero, List.set_cons_succ]
      refine wpAnyH_ready (rs := [2]) (by kernel_rfl) (by simp) ?_
      refine AllReadyH.cons (o := _) rfl (fun K hK => ?_) AllReadyH.nil
      refine ready_store_row (by kernel_rfl) 42 (.tmp 2) (.tmp 75) rfl (k + 1) (rd3 A n c (q7 : Int) (e8 : Int)) rfl rfl 42 rdZ TD.out.r1.heap G1.out rfl G3.out ?_
      refine hK.out _ _ (by exact ⟨TD.out.rd.rowFar (k := k + 1) (by omega) (rd3 A n c (q7 : Int) (e8 : Int)), TD.out.obj.rowFar (k := k + 1) (by have := TD.out.2.2.2.2.2; omega) (rd3 A n c (q7 : Int) (e8 : Int))⟩) (fun hHeld => ?_)
      clear hK K
      try simp only [Act.put, List.getElem_toArray, List.getElem_cons_zero, List.getElem_cons_succ, List.setIfInBounds_toArray, List.set_cons_zero, List.set_cons_succ]
      refine wpAnyH_ready (rs := [3]) (by kernel_rfl) (by simp) ?_
      refine AllReadyH.cons (o := _) rfl (fun K hK => ?_) AllReadyH.nil
      refine ready_store_row (by kernel_rfl) 48 (.tmp 3) (.tmp 76) rfl (k + 1 + 1) (rowJ ⟨((r : Nat) : Int), ((s : Nat) : Int), ((b : Nat) : Int), ((v : Nat) : Int), ((vt : Nat) : Int), sm, d, V⟩) rfl rfl 48 (rowJ zeroJ) (TD.out.r2.rowFar (k := k + 1) (by omega) (rd3 A n c (q7 : Int) (e8 : Int))).heap Q1.out (size_inst _ _) Q3.out ?_
      refine hK.out _ _ (by exact ⟨(TD.out.rd.rowFar (k := k + 1) (by omega) (rd3 A n c (q7 : Int) (e8 : Int))).rowFar (k := k + 1 + 1) (by omega) (rowJ ⟨((r : Nat) : Int), ((s : Nat) : Int), ((b : Nat) : Int), ((v : Nat) : Int), ((vt : Nat) : Int), sm, d, V⟩), (TD.out.obj.rowFar (k := k + 1) (by have := TD.out.2.2.2.2.2; omega) (rd3 A n c (q7 : Int) (e8 : Int))).rowFar (k := k + 1 + 1) (by have := TD.out.2.2.2.2.2; omega) (rowJ ⟨((r : Nat) : Int), ((s : Nat) : Int), ((b : Nat) : Int), ((v : Nat) : Int), ((vt : Nat) : Int), sm, d, V⟩)⟩) (fun hHeld => ?_)
      clear hK K
      try simp only [Act.put, List.getElem_toArray, List.getElem_cons_zero, List.getElem_cons_succ, List.setIfInBounds_toArray, List.set_cons_zero, List.set_cons_succ]
      refine wpAnyH_done (by kernel_rfl) ?_ _
      clear hHeld
      go_wp2
      exact bodyPost_ret (v := .tuple #[reader A n c (q7 : Int) (e8 : Int), .agg (rowJ ⟨((r : Nat) : Int), ((s : Nat) : Int), ((b : Nat) : Int), ((v : Nat) : Int), ((vt : Nat) : Int), sm, d, V⟩)]) (results_two_rows (p := 2) (q := 3) (ty := 42) (ty2 := 48) (by kernel_rfl) _ _ (k + 1) (k + 1 + 1) 42 48 (rd3 A n c (q7 : Int) (e8 : Int)) (rowJ ⟨((r : Nat) : Int), ((s : Nat) : Int), ((b : Nat) : Int), ((v : Nat) : Int), ((vt : Nat) : Int), sm, d, V⟩) (0, 0) (0, 0) _ _ rfl rfl TF.out.1.heap TF.out.2.1.heap Tryz.underlying42 rfl G1.out Tryz.underlying48 rfl Q1.out) rfl (by rw [HL.out]; (first | rw [if_pos rfl] | rw [if_pos True.intro]); (first | rw [if_pos HE0.out] | rw [if_pos True.intro]); exact refdoes_end hp7 rfl (by rw [HK.out]; exact TF.out.2.2))
  · have HE0 := hid h0
    have hz : ((e8 : Int) == 0) = false := by rw [beq_eq_false_iff_ne]; omega
    have hz2 : ((e8 : Int) != 0) = true := by rw [bne_iff_ne]; omega
    clear h0
    have TF := hid (B7.out.fin (rowJ zeroJ))
    have GS := hid (show rdZ.size = (rd3 A n c (q7 : Int) (e8 : Int)).size from rfl)
    have g1 := hid (B7.out.r2.rowFar (k := k + 1) (by omega) (rd3 A n c (q7 : Int) (e8 : Int)))
    go_wp2_with (first
        | ((with_reducible refine wpList_store_row (o := ⟨none, _, _, _, _, _⟩) rfl 42 (.tmp 1) (.tmp 58) rfl k (rd3 A n c (q7 : Int) (e8 : Int)) rfl ?hy 42 (rd3 A n c (q6 : Int) (e7 : Int)) B7a.out.rd.heap RX6.out RS6.out RO6.out ?_); (case hy => rfl))
        | ((with_reducible refine wpList_store_mid (op := ⟨none, _, _, _, _, _⟩) rfl 46 (.tmp 60) (.tmp 59) rfl m 14 (rowA V) rfl ?hy TH7.out TL7.out TO7.out ?_); (case hy => rfl))
        | (with_reducible refine wpList_load_row (o := ⟨some 73, _, _, _, _, _⟩) rfl 42 (.tmp 1) rfl k rfl 42 (rd3 A n c (q7 : Int) (e8 : Int)) (0, 0) _ B7.out.rd.heap Tryz.underlying42 rfl G1.out ?_)
        | ((with_reducible refine wpList_store_row (o := ⟨none, _, _, _, _, _⟩) rfl 42 (.tmp 2) (.tmp 73) rfl (k + 1) (rd3 A n c (q7 : Int) (e8 : Int)) rfl ?hy 42 rdZ B7.out.r1.heap G1.out GS.out G3.out ?_); (case hy => rfl))
        | ((with_reducible refine wpList_store_row (o := ⟨none, _, _, _, _, _⟩) rfl 48 (.tmp 3) (.tmp 74) rfl (k + 1 + 1) (rowJ zeroJ) rfl ?hy 48 (rowJ zeroJ) g1.out.heap Z1.out (size_inst _ _) Z3.out ?_); (case hy => rfl)))
    exact bodyPost_ret (v := .tuple #[reader A n c (q7 : Int) (e8 : Int), .agg (rowJ zeroJ)]) (results_two_rows (p := 2) (q := 3) (ty := 42) (ty2 := 48) (by kernel_rfl) _ _ (k + 1) (k + 1 + 1) 42 48 (rd3 A n c (q7 : Int) (e8 : Int)) (rowJ zeroJ) (0, 0) (0, 0) _ _ rfl rfl TF.out.1.heap TF.out.2.1.heap Tryz.underlying42 rfl G1.out Tryz.underlying48 rfl Z1.out) rfl (by rw [HL.out]; (cases rr <;> (first | rw [if_pos rfl, if_neg HE0.out] | rw [if_pos True.intro, if_neg HE0.out] | rw [if_neg (by decide)]) <;> (try rw [show leftE e8 10 (rem L q7 e8) = (rem L q7 e8) by unfold leftE; rw [if_neg (by have := HE0.out; omega)], show firstE e8 10 = e8 by unfold firstE; rw [if_neg HE0.out]]) <;> exact refdoes_end (e' := e8) hp7 rfl (by rw [HK.out]; exact TF.out.2.2)))
end Go.Proofs.YtohffiehmmcgbaaGreatDoor
