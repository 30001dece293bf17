/-
  The contract of the document's Take of a command (moothillref07), once for each class of kinds.
-/
import Derived.Test.YtohffiehmmcgbaaGreatDoorWF
namespace Go.Proofs.YtohffiehmmcgbaaGreatDoor
open Go.ChangeShapes Go.WideShapes Go.ChangeAt Go.RowKit Go.Lib
set_option linter.unusedVariables false
set_option linter.unusedSimpArgs false
set_option maxRecDepth 100000 in
set_option maxHeartbeats 8000000 in
theorem rtake_0 (A : Option Addr) (L : List Nat) (n c p e b : Nat) (l0 : List Nat)  (w : World) (hn : L.length = n) (hp : p ≤ n) (hl : n ≤ 9223372036854775807) (hc : n ≤ c) (hA0 : A = none → c = 0) (hx : ∀ x ∈ L, x < 256) (hA : Sees .u8 w A L)
    (hbyte : sByte (rem L p e) e = (l0, 0, b)) (hb8 : b ≤ 8) (hs : Sig (b : Int) false false false false false false) (hok : okK ⟨(b : Int), 0, ⟨#[]⟩, 0, ⟨#[]⟩, 0, 0, 0⟩) (hff : (⟨(b : Int), 0, ⟨#[]⟩, 0, ⟨#[]⟩, 0, 0, 0⟩ : K).foot.size ≤ 900) (hpf : (⟨(b : Int), 0, ⟨#[]⟩, 0, ⟨#[]⟩, 0, 0, 0⟩ : K).path.size ≤ 900) :
    Calls Tryz.prog 47 #[reader A n c (p : Int) (e : Int)] w (RefDoes A n L c (lastE (l0, 0, ⟨(b : Int), 0, ⟨#[]⟩, 0, ⟨#[]⟩, 0, 0, 0⟩)).1 (lastE (l0, 0, ⟨(b : Int), 0, ⟨#[]⟩, 0, ⟨#[]⟩, 0, 0, 0⟩)).2.1 (val (lastE (l0, 0, ⟨(b : Int), 0, ⟨#[]⟩, 0, ⟨#[]⟩, 0, 0, 0⟩)).2.2) w) := by
  obtain ⟨rr, hr⟩ : ∃ x, rightK ⟨(b : Int), 0, ⟨#[]⟩, 0, ⟨#[]⟩, 0, 0, 0⟩ = x := ⟨_, rfl⟩
  have HRR := hid hr
  have HL : Hid (lastE (l0, 0, ⟨(b : Int), 0, ⟨#[]⟩, 0, ⟨#[]⟩, 0, 0, 0⟩) = if rr then (l0, 0, if 0 = 0 then ⟨(b : Int), 0, ⟨#[]⟩, 0, ⟨#[]⟩, 0, 0, 0⟩ else zeroK) else (leftE 0 10 l0, firstE 0 10, zeroK)) := hid (by unfold lastE; simp only; rw [hr])
  have IX := has_ix hb8 hs
  have HN := hid hn
  have HX := hid hx
  have HA := hid hA
  have H0 := hid hA0
  have HB := hid hbyte
  have HO := hid hok
  have W1 : IntKind.i64.wrap (b : Int) = b := by rw [IntKind.wrap_i64]; omega
  have hbg : ¬ ((8 : Int) < (b : Int)) := by omega
  clear hr hn hx hA hA0 hbyte hs hok
  go_enter Tryz.func47, Tryz.ntmps47
  go_upto_region 1 with fail
  obtain ⟨W, hW⟩ : ∃ W, ((w.alloc (.cells (rd3 A n c (p : Int) (e : Int)) 42)).alloc (.cells rdZ 42)).alloc (.cells (cellsOf zeroK) 45) = W := ⟨_, rfl⟩
  rw [hW]
  obtain ⟨K0, K1, K2, KB⟩ := three_new hW
  have HAW := hid (HA.out.below KB.out)
  clear hW
  obtain ⟨k, hk⟩ : ∃ k, w.heap.size = k := ⟨_, rfl⟩
  have HAK : Hid (∀ w', Below k w w' → Sees .u8 w' A L) := hid (fun w' h => HA.out.below (by rw [hk]; exact h))
  rw [hk] at K0 K1 K2 KB
  rw [hk]
  have HK := hid hk
  clear hk HA
  have R0 := hid (len_rd A n c (p : Int) (e : Int))
  go_wp2_with (with_reducible refine wpList_load_row (o := ⟨some 9, _, _, _, _, _⟩) rfl 42 (.tmp 1) rfl k rfl 42 (rd3 A n c (p : Int) (e : Int)) (0, 0) _ K0.out.heap Tryz.underlying42 rfl R0.out ?_)
  with_reducible refine (refbyte_any A L n c p e l0 0 b _ HN.out hp hl HAW.out HB.out).mono ?_
  rintro en w1 ⟨p0, hp0, hr0, rfl, hb⟩
  have J0 := hid (K0.out.below hb K0.out.lt)
  have J1 := hid (K1.out.below hb K1.out.lt)
  have J2 := hid (K2.out.below hb K2.out.lt)
  have JB := hid (below_pay KB.out (by have := K0.out.lt; omega) hb)
  clear hb K0 K1 K2 KB HAW
  subst hr0
  have R1 := hid (len_rd A n c (p0 : Int) 0)
  have R3 := hid (one_rd A n c (p0 : Int) 0)
  have c2 : (w1.setRow k (rd3 A n c (p0 : Int) 0)).cell? ⟨k, 2, none⟩ = some (.int .i64 0) := ((J0.out.row (rd3 A n c (p0 : Int) 0)).cell 2).trans rfl
  go_upto_region 6 with (refine wpList_store_row (o := ⟨none, _, _, _, _, _⟩) rfl 42 (.tmp 1) (.tmp 11) rfl k (rd3 A n c (p0 : Int) 0) rfl ?hy 42 (rd3 A n c (p : Int) (e : Int)) J0.out.heap R1.out rfl R3.out ?_; (case hy => rfl))
  obtain ⟨W2, hW2⟩ : ∃ W2, w1.setRow k (rd3 A n c (p0 : Int) 0) = W2 := ⟨_, rfl⟩
  rw [hW2]
  rw [hW2] at c2
  have M0 : Hid (Blk W2 k 42 (rd3 A n c (p0 : Int) 0)) := hid (by rw [← hW2]; exact J0.out.row _)
  have M1 : Hid (Blk W2 (k + 1) 42 rdZ) := hid (by rw [← hW2]; exact J1.out.rowFar (by omega) _)
  have M2 : Hid (Blk W2 (k + 1 + 1) 45 (cellsOf zeroK)) := hid (by rw [← hW2]; exact J2.out.rowFar (by omega) _)
  have MB : Hid (Below k w W2) := hid (by rw [← hW2]; exact below_setRow_ JB.out (Nat.le_refl _))
  clear hW2 c2 J0 J1 J2 JB R1 R3
  obtain ⟨m, hm⟩ : ∃ m, W2.heap.size = m := ⟨_, rfl⟩
  have A0 : Hid (RA w (W2.alloc (.cells (cellsOf ⟨b, 0, ⟨#[]⟩, 0, ⟨#[]⟩, 0, 0, 0⟩) 45)) k m 45 (cellsOf zeroK) (cellsOf ⟨b, 0, ⟨#[]⟩, 0, ⟨#[]⟩, 0, 0, 0⟩) A n c p0 0) := hid
    ⟨M0.out.alloc _, M1.out.alloc _, M2.out.alloc _, by rw [← hm]; exact Blk.new _ _ _, MB.out.trans ((Below.refl k W2).alloc (by have := M0.out.lt; omega) _), by have := M2.out.lt; omega⟩
  go_upto_region 7 with fail
  obtain ⟨W3, hW3⟩ : ∃ W3, W2.alloc (.cells (cellsOf ⟨b, 0, ⟨#[]⟩, 0, ⟨#[]⟩, 0, 0, 0⟩) 45) = W3 := ⟨_, rfl⟩
  rw [hW3] at A0
  rw [hW3]
  clear hW3 hm M0 M1 M2 MB W1 hbg
  go_wp2_with fail
  rename_i Kr hKr _
  have key0 : ∀ (W : World) (h : Nat), Hid (RA w W k m 45 (cellsOf zeroK) (cellsOf ⟨(b : Int), 0, ⟨#[]⟩, 0, ⟨#[]⟩, 0, 0, 0⟩) A n c p0 0) → Hid (RowAt7 W h false false false false false false) → Hid (k + 1 + 1 < h ∧ m ≠ h) → Kr ⟨#[reader A n c (p : Int) (e : Int), .pointer (some ⟨k, 0, none⟩), .pointer (some ⟨k + 1, 0, none⟩), .pointer (some ⟨k + 1 + 1, 0, none⟩), .int .u8 (b : Int), .pointer (some ⟨m, 0, none⟩), .pointer (some ⟨h, 0, none⟩), undef, .tuple #[.agg #[.slice A n c, .int .i64 (p0 : Int), .int .i64 0], .int .u8 (b : Int)], .agg (rd3 A n c (p : Int) (e : Int)), .tuple #[.agg #[.slice A n c, .int .i64 (p0 : Int), .int .i64 0], .int .u8 (b : Int)], .agg #[.slice A n c, .int .i64 (p0 : Int), .int .i64 0], .int .u8 (b : Int), .int .u8 (b : Int), .bool false, .bool false, undef, undef, undef, .bool false, undef, .pointer (some ⟨k, 2, none⟩), .int .i64 0, .bool false, undef, undef, .int .u8 (b : Int), .int .i64 (b : Int), .agg #[.int .i64 (b : Int), .int .u64 0, .string ⟨#[]⟩, .int .u64 0, .string ⟨#[]⟩, .int .i64 0, .int .u64 0, .int .i64 0], .agg hasCells, .pointer (some ⟨m, 0, none⟩), .int .i64 (b : Int), .agg #[.bool false, .bool false, .bool false, .bool false, .bool false, .bool false], undef, undef, undef, undef, undef, undef, undef, undef, undef, undef, undef, undef, undef, undef, undef, undef, undef, undef, undef, undef, undef, undef, undef, undef, undef, undef, undef, undef, undef, undef, undef, undef, undef, undef, undef, undef, undef, undef, undef, undef, undef, undef, undef, undef, undef, undef, undef, undef, undef, undef, undef, undef, undef, undef, undef, undef, undef, undef, undef, undef, undef, undef, undef, undef, undef, undef, undef, undef, undef, undef, undef, undef, undef, undef], []⟩ W := by
    intro W h A1 R1 HH
    clear A0
    dsimp only
    obtain ⟨r0, r1, r2, r3, r4, r5⟩ := row7 R1.out
    have c2 := (A1.out.rd.cell 2).trans rfl
    have f2 := A1.out.rd.frozen 2
    have Q1 := hid (len_rc ⟨(b : Int), 0, ⟨#[]⟩, 0, ⟨#[]⟩, 0, 0, 0⟩)
    have Q3 := hid (one_rc ⟨(b : Int), 0, ⟨#[]⟩, 0, ⟨#[]⟩, 0, 0, 0⟩)
    have Z1 := hid (len_rc zeroK)
    have Z3 := hid (one_rc zeroK)
    have G1 := hid (len_rd A n c (p0 : Int) 0)
    have G3 := hid (one_rd A n c (p0 : Int) 0)
    go_wp2_with (first
        | (with_reducible refine wpList_load_rowg (o := ⟨some 95, _, _, _, _, _⟩) (by kernel_rfl) 45 (.tmp 5) rfl m rfl 45 (cellsOf ⟨(b : Int), 0, ⟨#[]⟩, 0, ⟨#[]⟩, 0, 0, 0⟩) (0, 0) _ A1.out.obj.heap Tryz.underlying45 rfl Q1.out ?_))
    with_reducible refine (refright7 ⟨(b : Int), 0, ⟨#[]⟩, 0, ⟨#[]⟩, 0, 0, 0⟩ _ HO.out hff hpf).mono ?_
    rw [HRR.out]
    rintro en vr ⟨rfl, hb⟩
    have T1 := hid (A1.out.on hb)
    clear hb c2 f2 r0 r1 r2 r3 r4 r5
    have c2 := (T1.out.rd.cell 2).trans rfl
    have f2 := T1.out.rd.frozen 2
    cases rr
    · have T2 := hid (T1.out.err 10)
      have g10 := hid (len_rd A n c (p0 : Int) (10 : Int))
      have g11 := hid (one_rd A n c (p0 : Int) (10 : Int))
      go_upto_region 26 with fail
      obtain ⟨WE, hWE⟩ : ∃ WE, vr.setCell ⟨k, 2, none⟩ (.int .i64 10) = WE := ⟨_, rfl⟩
      have T2 : Hid (RA w WE k m 45 (cellsOf zeroK) (cellsOf ⟨(b : Int), 0, ⟨#[]⟩, 0, ⟨#[]⟩, 0, 0, 0⟩) A n c p0 10) := hid (by rw [← hWE]; exact T2.out)
      rw [hWE]
      clear hWE c2 f2
      have c2 := (T2.out.rd.cell 2).trans rfl
      have TF := hid (T2.out.fin (cellsOf zeroK))
      have g1 := hid (T2.out.r2.rowFar (k := k + 1) (by omega) (rd3 A n c (p0 : Int) (10 : Int)))
      go_wp2_with (first
          | (with_reducible refine wpList_load_row (o := ⟨some 103, _, _, _, _, _⟩) rfl 42 (.tmp 1) rfl k rfl 42 (rd3 A n c (p0 : Int) (10 : Int)) (0, 0) _ T2.out.rd.heap Tryz.underlying42 rfl g10.out ?_)
          | ((with_reducible refine wpList_store_row (o := ⟨none, _, _, _, _, _⟩) rfl 42 (.tmp 2) (.tmp 103) rfl (k + 1) (rd3 A n c (p0 : Int) (10 : Int)) rfl ?hy 42 rdZ T2.out.r1.heap g10.out (rdZ_sz _ _ _ _ _) g11.out ?_); (case hy => rfl))
          | ((with_reducible refine wpList_store_row (o := ⟨none, _, _, _, _, _⟩) rfl 45 (.tmp 3) (.tmp 104) rfl (k + 1 + 1) (cellsOf zeroK) rfl ?hy 45 (cellsOf zeroK) g1.out.heap Z1.out (c_sz _ _) Z3.out ?_); (case hy => rfl)))
      exact bodyPost_ret (v := .tuple #[reader A n c (p0 : Int) (10 : Int), val zeroK]) (results_two_rows (p := 2) (q := 3) (ty := 42) (ty2 := 45) (by kernel_rfl) _ _ (k + 1) (k + 1 + 1) 42 45 (rd3 A n c (p0 : Int) (10 : Int)) (cellsOf zeroK) (0, 0) (0, 0) _ _ rfl rfl TF.out.1.heap TF.out.2.1.heap Tryz.underlying42 rfl g10.out Tryz.underlying45 rfl Z1.out) rfl (by rw [HL.out]; exact refdoes_end (e' := 10) hp0 (rem_err (by decide)).symm (by rw [HK.out]; exact TF.out.2.2))
    · have TF := hid ((T1.out.drew).fin (cellsOf ⟨(b : Int), 0, ⟨#[]⟩, 0, ⟨#[]⟩, 0, 0, 0⟩))
      have TF2 := hid ((T1.out.drew).fin2 (cellsOf ⟨(b : Int), 0, ⟨#[]⟩, 0, ⟨#[]⟩, 0, 0, 0⟩))
      go_upto_region 28 with fail
      clear c2 f2
      have TD := hid T1.out.drew
      refine wp_region_held_drew (S := (fun w' => Blk w' k 42 (rd3 A n c (p0 : Int) 0) ∧ Blk w' m 45 (cellsOf ⟨(b : Int), 0, ⟨#[]⟩, 0, ⟨#[]⟩, 0, 0, 0⟩))) (by kernel_rfl) (by exact ⟨TD.out.rd, TD.out.obj⟩) (fun hHeld => ?_)
      refine wpAnyH_take (i := 0) (oi := _) (v := .agg (rd3 A n c (p0 : Int) 0)) rfl (by kernel_rfl) (by kernel_rfl) (by kernel_rfl) (fun _ _ _ h => h) (yields_row (by kernel_rfl) 42 (.tmp 1) rfl k rfl 42 (rd3 A n c (p0 : Int) 0) (0, 0) _ (fun _ h => Blk.heap (And.left h)) Tryz.underlying42 rfl G1.out) hHeld ?_
      try simp only [Act.put, List.getElem_toArray, List.getElem_cons_zero, List.getElem_cons_succ, List.setIfInBounds_toArray, List.set_cons_zero, List.set_cons_succ]
      refine wpAnyH_take (i := 1) (oi := _) (v := .agg (cellsOf ⟨(b : Int), 0, ⟨#[]⟩, 0, ⟨#[]⟩, 0, 0, 0⟩)) rfl (by kernel_rfl) (by kernel_rfl) (by kernel_rfl) (fun _ _ _ h => h) (yields_row (by kernel_rfl) 45 (.tmp 5) rfl m rfl 45 (cellsOf ⟨(b : Int), 0, ⟨#[]⟩, 0, ⟨#[]⟩, 0, 0, 0⟩) (0, 0) _ (fun _ h => Blk.heap (And.right h)) Tryz.underlying45 rfl Q1.out) hHeld ?_
      try simp only [Act.put, List.getElem_toArray, List.getElem_cons_zero, List.getElem_cons_succ, List.setIfInBounds_toArray, List.set_cons_zero, List.set_cons_succ]
      refine wpAnyH_ready (rs := [2]) (by kernel_rfl) (by simp) ?_
      refine AllReadyH.cons (o := _) rfl (fun K hK => ?_) AllReadyH.nil
      refine ready_store_row (by kernel_rfl) 42 (.tmp 2) (.tmp 105) rfl (k + 1) (rd3 A n c (p0 : Int) 0) rfl rfl 42 rdZ TD.out.r1.heap G1.out rfl G3.out ?_
      refine hK.out _ _ (by exact ⟨TD.out.rd.rowFar (k := k + 1) (by omega) (rd3 A n c (p0 : Int) 0), TD.out.obj.rowFar (k := k + 1) (by have := TD.out.2.2.2.2.2; omega) (rd3 A n c (p0 : Int) 0)⟩) (fun hHeld => ?_)
      clear hK K
      try simp only [Act.put, List.getElem_toArray, List.getElem_cons_zero, List.getElem_cons_succ, List.setIfInBounds_toArray, List.set_cons_zero, List.set_cons_succ]
      refine wpAnyH_ready (rs := [3]) (by kernel_rfl) (by simp) ?_
      refine AllReadyH.cons (o := _) rfl (fun K hK => ?_) AllReadyH.nil
      refine ready_store_row (by kernel_rfl) 45 (.tmp 3) (.tmp 106) rfl (k + 1 + 1) (cellsOf ⟨(b : Int), 0, ⟨#[]⟩, 0, ⟨#[]⟩, 0, 0, 0⟩) rfl rfl 45 (cellsOf zeroK) (TD.out.r2.rowFar (k := k + 1) (by omega) (rd3 A n c (p0 : Int) 0)).heap Q1.out rfl Q3.out ?_
      refine hK.out _ _ (by exact ⟨(TD.out.rd.rowFar (k := k + 1) (by omega) (rd3 A n c (p0 : Int) 0)).rowFar (k := k + 1 + 1) (by omega) (cellsOf ⟨(b : Int), 0, ⟨#[]⟩, 0, ⟨#[]⟩, 0, 0, 0⟩), (TD.out.obj.rowFar (k := k + 1) (by have := TD.out.2.2.2.2.2; omega) (rd3 A n c (p0 : Int) 0)).rowFar (k := k + 1 + 1) (by have := TD.out.2.2.2.2.2; omega) (cellsOf ⟨(b : Int), 0, ⟨#[]⟩, 0, ⟨#[]⟩, 0, 0, 0⟩)⟩) (fun hHeld => ?_)
      clear hK K
      try simp only [Act.put, List.getElem_toArray, List.getElem_cons_zero, List.getElem_cons_succ, List.setIfInBounds_toArray, List.set_cons_zero, List.set_cons_succ]
      refine wpAnyH_done (by kernel_rfl) ?_ _
      clear hHeld
      go_wp2
      exact bodyPost_ret (v := .tuple #[reader A n c (p0 : Int) 0, val ⟨(b : Int), 0, ⟨#[]⟩, 0, ⟨#[]⟩, 0, 0, 0⟩]) (results_two_rows (p := 2) (q := 3) (ty := 42) (ty2 := 45) (by kernel_rfl) _ _ (k + 1) (k + 1 + 1) 42 45 (rd3 A n c (p0 : Int) 0) (cellsOf ⟨(b : Int), 0, ⟨#[]⟩, 0, ⟨#[]⟩, 0, 0, 0⟩) (0, 0) (0, 0) _ _ rfl rfl TF.out.1.heap TF.out.2.1.heap Tryz.underlying42 rfl G1.out Tryz.underlying45 rfl Q1.out) rfl (by rw [HL.out]; (first | rw [if_pos rfl] | rw [if_pos True.intro]); (first | rw [if_pos rfl] | rw [if_pos True.intro]); exact refdoes_end hp0 rfl (by rw [HK.out]; exact TF.out.2.2))
  have key := hid key0
  clear key0 hKr
  have hlt3 : k + 1 + 1 < W3.heap.size := A0.out.r2.lt
  have hlm : m < W3.heap.size := A0.out.obj.lt
  go_region_held3 (fun w' => w'.cell? ⟨m, 0, none⟩ = some (.int .i64 (b : Int)))
    (first | with_reducible exact RA.kind7 (RA.drew A0.out) | with_reducible exact RA.kind7 (RA.drew (RA.alloc A0.out _)) | with_reducible exact RA.kind7 A1.out | with_reducible exact RA.kind7 (RA.alloc A1.out _) | with_reducible exact RA.kind7 (RA.row6 (RA.alloc A1.out _) (by have := hA1.out; omega) (by have := hA1.out; omega) _ _ _ _ _ _) | with_reducible exact RA.kind7 (RA.row6 A1.out hlt3 (Nat.ne_of_lt hlm) _ _ _ _ _ _))
    (first
      | (go_at_call 101; (with_reducible refine (has_ref _).mono ?_); rintro e w1 ⟨rfl, hb1⟩; have A1 := hid (RA.on (RA.drew A0.out) hb1); have hA1 := hid (And.intro A1.out.r2.lt A1.out.obj.lt))
      | (go_at_call 101; (with_reducible refine (has_ref _).mono ?_); rintro e w1 ⟨rfl, hb1⟩; have A1 := hid (RA.on (RA.drew (RA.alloc A0.out _)) hb1); have R1 := hid (row_first hb1); obtain ⟨q0, q1, q2, q3, q4, q5⟩ := row7 R1.out; obtain ⟨v0, v1, v2, v3, v4, v5⟩ := rowf7 R1.out))
  all_goals change Kr _ _
  all_goals with_reducible refine key.out _ _ ?_ ?_ ?_
  · exact hid (A1.out.alloc _)
  · exact hid (Blk.new w1 138 #[.bool false, .bool false, .bool false, .bool false, .bool false, .bool false])
  · exact hid ⟨A1.out.r2.lt, Nat.ne_of_lt A1.out.obj.lt⟩
  · exact hid (A1.out.alloc _)
  · exact hid (Blk.new w1 138 #[.bool false, .bool false, .bool false, .bool false, .bool false, .bool false])
  · exact hid ⟨A1.out.r2.lt, Nat.ne_of_lt A1.out.obj.lt⟩
  · exact hid (RA.row6 A1.out hlt3 (Nat.ne_of_lt hlm) _ _ _ _ _ _)
  · exact hid (row7_put R1.out)
  · exact hid ⟨hlt3, Nat.ne_of_lt hlm⟩
set_option maxRecDepth 100000 in
set_option maxHeartbeats 8000000 in
theorem rtake_1 (A : Option Addr) (L : List Nat) (n c p e b : Nat) (l0 : List Nat) (l1 : List Nat) (e1 : Nat) (l2 : List Nat) (e2 : Nat) (l3 : List Nat) (e3 : Nat) (l4 : List Nat) (e4 : Nat) (l5 : List Nat) (e5 : Nat) (un : Nat) (fb : List Nat) (qn : Nat) (nn : Nat) (tn : Nat) (w : World) (hn : L.length = n) (hp : p ≤ n) (hl : n ≤ 9223372036854775807) (hc : n ≤ c) (hA0 : A = none → c = 0) (hx : ∀ x ∈ L, x < 256) (hA : Sees .u8 w A L)
    (hbyte : sByte (rem L p e) e = (l0, 0, b)) (hb8 : b ≤ 8) (hs : Sig (b : Int) true true false false true true) (d0 : sFixed l0 0 = (l1, e1, un)) (d1 : sText l1 e1 64 = (l2, e2, fb)) (d2 : sShort l2 e2 18446744073709551615 = (l3, e3, qn)) (d3 : sShort l3 e3 18446744073709551615 = (l4, e4, nn)) (d4 : sShort l4 e4 1099511627776 = (l5, e5, tn)) (hok : okK ⟨(b : Int), (un : Int), strN fb, (qn : Int), ⟨#[]⟩, 0, (nn : Int), (tn : Int)⟩) (hff : (⟨(b : Int), (un : Int), strN fb, (qn : Int), ⟨#[]⟩, 0, (nn : Int), (tn : Int)⟩ : K).foot.size ≤ 900) (hpf : (⟨(b : Int), (un : Int), strN fb, (qn : Int), ⟨#[]⟩, 0, (nn : Int), (tn : Int)⟩ : K).path.size ≤ 900) (htn : tn ≤ 1099511627776) :
    Calls Tryz.prog 47 #[reader A n c (p : Int) (e : Int)] w (RefDoes A n L c (lastE (l5, e5, ⟨(b : Int), (un : Int), strN fb, (qn : Int), ⟨#[]⟩, 0, (nn : Int), (tn : Int)⟩)).1 (lastE (l5, e5, ⟨(b : Int), (un : Int), strN fb, (qn : Int), ⟨#[]⟩, 0, (nn : Int), (tn : Int)⟩)).2.1 (val (lastE (l5, e5, ⟨(b : Int), (un : Int), strN fb, (qn : Int), ⟨#[]⟩, 0, (nn : Int), (tn : Int)⟩)).2.2) w) := by
  obtain ⟨rr, hr⟩ : ∃ x, rightK ⟨(b : Int), (un : Int), strN fb, (qn : Int), ⟨#[]⟩, 0, (nn : Int), (tn : Int)⟩ = x := ⟨_, rfl⟩
  have HRR := hid hr
  have HL : Hid (lastE (l5, e5, ⟨(b : Int), (un : Int), strN fb, (qn : Int), ⟨#[]⟩, 0, (nn : Int), (tn : Int)⟩) = if rr then (l5, e5, if e5 = 0 then ⟨(b : Int), (un : Int), strN fb, (qn : Int), ⟨#[]⟩, 0, (nn : Int), (tn : Int)⟩ else zeroK) else (leftE e5 10 l5, firstE e5 10, zeroK)) := hid (by unfold lastE; simp only; rw [hr])
  have IX := has_ix hb8 hs
  have HN := hid hn
  have HX := hid hx
  have HA := hid hA
  have H0 := hid hA0
  have HB := hid hbyte
  have HO := hid hok
  have D0 := hid d0
  have D1 := hid d1
  have D2 := hid d2
  have D3 := hid d3
  have D4 := hid d4
  have W1 : IntKind.i64.wrap (b : Int) = b := by rw [IntKind.wrap_i64]; omega
  have hbg : ¬ ((8 : Int) < (b : Int)) := by omega
  have W3 : IntKind.i64.wrap (tn : Int) = tn := by rw [IntKind.wrap_i64]; omega
  clear hr hn hx hA hA0 hbyte hs hok d0 d1 d2 d3 d4
  go_enter Tryz.func47, Tryz.ntmps47
  go_upto_region 1 with fail
  obtain ⟨W, hW⟩ : ∃ W, ((w.alloc (.cells (rd3 A n c (p : Int) (e : Int)) 42)).alloc (.cells rdZ 42)).alloc (.cells (cellsOf zeroK) 45) = W := ⟨_, rfl⟩
  rw [hW]
  obtain ⟨K0, K1, K2, KB⟩ := three_new hW
  have HAW := hid (HA.out.below KB.out)
  clear hW
  obtain ⟨k, hk⟩ : ∃ k, w.heap.size = k := ⟨_, rfl⟩
  have HAK : Hid (∀ w', Below k w w' → Sees .u8 w' A L) := hid (fun w' h => HA.out.below (by rw [hk]; exact h))
  rw [hk] at K0 K1 K2 KB
  rw [hk]
  have HK := hid hk
  clear hk HA
  have R0 := hid (len_rd A n c (p : Int) (e : Int))
  go_wp2_with (with_reducible refine wpList_load_row (o := ⟨some 9, _, _, _, _, _⟩) rfl 42 (.tmp 1) rfl k rfl 42 (rd3 A n c (p : Int) (e : Int)) (0, 0) _ K0.out.heap Tryz.underlying42 rfl R0.out ?_)
  with_reducible refine (refbyte_any A L n c p e l0 0 b _ HN.out hp hl HAW.out HB.out).mono ?_
  rintro en w1 ⟨p0, hp0, hr0, rfl, hb⟩
  have J0 := hid (K0.out.below hb K0.out.lt)
  have J1 := hid (K1.out.below hb K1.out.lt)
  have J2 := hid (K2.out.below hb K2.out.lt)
  have JB := hid (below_pay KB.out (by have := K0.out.lt; omega) hb)
  clear hb K0 K1 K2 KB HAW
  subst hr0
  have R1 := hid (len_rd A n c (p0 : Int) 0)
  have R3 := hid (one_rd A n c (p0 : Int) 0)
  have c2 : (w1.setRow k (rd3 A n c (p0 : Int) 0)).cell? ⟨k, 2, none⟩ = some (.int .i64 0) := ((J0.out.row (rd3 A n c (p0 : Int) 0)).cell 2).trans rfl
  go_upto_region 6 with (refine wpList_store_row (o := ⟨none, _, _, _, _, _⟩) rfl 42 (.tmp 1) (.tmp 11) rfl k (rd3 A n c (p0 : Int) 0) rfl ?hy 42 (rd3 A n c (p : Int) (e : Int)) J0.out.heap R1.out rfl R3.out ?_; (case hy => rfl))
  obtain ⟨W2, hW2⟩ : ∃ W2, w1.setRow k (rd3 A n c (p0 : Int) 0) = W2 := ⟨_, rfl⟩
  rw [hW2]
  rw [hW2] at c2
  have M0 : Hid (Blk W2 k 42 (rd3 A n c (p0 : Int) 0)) := hid (by rw [← hW2]; exact J0.out.row _)
  have M1 : Hid (Blk W2 (k + 1) 42 rdZ) := hid (by rw [← hW2]; exact J1.out.rowFar (by omega) _)
  have M2 : Hid (Blk W2 (k + 1 + 1) 45 (cellsOf zeroK)) := hid (by rw [← hW2]; exact J2.out.rowFar (by omega) _)
  have MB : Hid (Below k w W2) := hid (by rw [← hW2]; exact below_setRow_ JB.out (Nat.le_refl _))
  clear hW2 c2 J0 J1 J2 JB R1 R3
  obtain ⟨m, hm⟩ : ∃ m, W2.heap.size = m := ⟨_, rfl⟩
  have A0 : Hid (RA w (W2.alloc (.cells (cellsOf ⟨b, 0, ⟨#[]⟩, 0, ⟨#[]⟩, 0, 0, 0⟩) 45)) k m 45 (cellsOf zeroK) (cellsOf ⟨b, 0, ⟨#[]⟩, 0, ⟨#[]⟩, 0, 0, 0⟩) A n c p0 0) := hid
    ⟨M0.out.alloc _, M1.out.alloc _, M2.out.alloc _, by rw [← hm]; exact Blk.new _ _ _, MB.out.trans ((Below.refl k W2).alloc (by have := M0.out.lt; omega) _), by have := M2.out.lt; omega⟩
  go_upto_region 7 with fail
  obtain ⟨W3, hW3⟩ : ∃ W3, W2.alloc (.cells (cellsOf ⟨b, 0, ⟨#[]⟩, 0, ⟨#[]⟩, 0, 0, 0⟩) 45) = W3 := ⟨_, rfl⟩
  rw [hW3] at A0
  rw [hW3]
  clear hW3 hm M0 M1 M2 MB W1 hbg
  go_wp2_with fail
  rename_i Kr hKr _
  have key0 : ∀ (W : World) (h : Nat), Hid (RA w W k m 45 (cellsOf zeroK) (cellsOf ⟨(b : Int), 0, ⟨#[]⟩, 0, ⟨#[]⟩, 0, 0, 0⟩) A n c p0 0) → Hid (RowAt7 W h true true false false true true) → Hid (k + 1 + 1 < h ∧ m ≠ h) → Kr ⟨#[reader A n c (p : Int) (e : Int), .pointer (some ⟨k, 0, none⟩), .pointer (some ⟨k + 1, 0, none⟩), .pointer (some ⟨k + 1 + 1, 0, none⟩), .int .u8 (b : Int), .pointer (some ⟨m, 0, none⟩), .pointer (some ⟨h, 0, none⟩), undef, .tuple #[.agg #[.slice A n c, .int .i64 (p0 : Int), .int .i64 0], .int .u8 (b : Int)], .agg (rd3 A n c (p : Int) (e : Int)), .tuple #[.agg #[.slice A n c, .int .i64 (p0 : Int), .int .i64 0], .int .u8 (b : Int)], .agg #[.slice A n c, .int .i64 (p0 : Int), .int .i64 0], .int .u8 (b : Int), .int .u8 (b : Int), .bool false, .bool false, undef, undef, undef, .bool false, undef, .pointer (some ⟨k, 2, none⟩), .int .i64 0, .bool false, undef, undef, .int .u8 (b : Int), .int .i64 (b : Int), .agg #[.int .i64 (b : Int), .int .u64 0, .string ⟨#[]⟩, .int .u64 0, .string ⟨#[]⟩, .int .i64 0, .int .u64 0, .int .i64 0], .agg hasCells, .pointer (some ⟨m, 0, none⟩), .int .i64 (b : Int), .agg #[.bool true, .bool true, .bool false, .bool false, .bool true, .bool true], undef, undef, undef, undef, undef, undef, undef, undef, undef, undef, undef, undef, undef, undef, undef, undef, undef, undef, undef, undef, undef, undef, undef, undef, undef, undef, undef, undef, undef, undef, undef, undef, undef, undef, undef, undef, undef, undef, undef, undef, undef, undef, undef, undef, undef, undef, undef, undef, undef, undef, undef, undef, undef, undef, undef, undef, undef, undef, undef, undef, undef, undef, undef, undef, undef, undef, undef, undef, undef, undef, undef, undef, undef, undef], []⟩ W := by
    intro W h A1 R1 HH
    clear A0
    dsimp only
    obtain ⟨r0, r1, r2, r3, r4, r5⟩ := row7 R1.out
    have RL0 := hid (len_rd A n c (p0 : Int) (0 : Int))
    go_wp2_with (first
      | (with_reducible refine wpList_load_row (o := ⟨some 36, _, _, _, _, _⟩) rfl 42 (.tmp 1) rfl k rfl 42 (rd3 A n c (p0 : Int) (0 : Int)) (0, 0) _ A1.out.rd.heap Tryz.underlying42 rfl RL0.out ?_))
    have FX := reffixed_any A L n c p0 0 l1 e1 un _ HN.out hp0 hl HX.out (HAK.out _ A1.out.bel) D0.out
    rw [show ((0 : Nat) : Int) = 0 from rfl] at FX
    with_reducible refine FX.mono ?_
    clear FX
    rintro en v1 ⟨p1, hp1, hr1, rfl, hb⟩
    have A2a := hid (A1.out.on hb)
    have R2a : Hid (RowAt7 v1 h true true false false true true) := hid (Blk.below R1.out hb (Blk.lt R1.out))
    clear hb A1 R1 r0 r1 r2 r3 r4 r5
    subst hr1
    have A2b := hid (A2a.out.read p1 e1)
    have R2b : Hid (RowAt7 _ h true true false false true true) := hid (Blk.rowFar R2a.out (k := k) (by have := HH.out; omega) (rd3 A n c (p1 : Int) (e1 : Int)))
    have cf := (A2b.out.obj.cell 1).trans rfl
    have ff := A2b.out.obj.frozen 1
    have A2 := hid (A2b.out.set_ 1 (.int .u64 (un : Int)) (ds := cellsOf ⟨(b : Int), (un : Int), ⟨#[]⟩, 0, ⟨#[]⟩, 0, 0, 0⟩) rfl)
    have R2 : Hid (RowAt7 _ h true true false false true true) := hid (Blk.far R2b.out (p := ⟨m, 1, none⟩) (by show h ≠ m; have := HH.out; omega) (.int .u64 (un : Int)))
    have RX0 := hid (len_rd A n c (p1 : Int) (e1 : Int))
    have RO0 := hid (one_rd A n c (p1 : Int) (e1 : Int))
    clear A2b R2a R2b
    obtain ⟨r0, r1, r2, r3, r4, r5⟩ := row7 R2.out
    have RL1 := hid (len_rd A n c (p1 : Int) ((e1 : Int) : Int))
    go_wp2_with (first
      | ((with_reducible refine wpList_store_row (o := ⟨none, _, _, _, _, _⟩) rfl 42 (.tmp 1) (.tmp 38) rfl k (rd3 A n c (p1 : Int) (e1 : Int)) rfl ?hy 42 (rd3 A n c (p0 : Int) (0 : Int)) A2a.out.rd.heap RX0.out (rd_sz _ _ _ _ _ _ _) RO0.out ?_); (case hy => rfl))
      | (with_reducible refine wpList_load_row (o := ⟨some 42, _, _, _, _, _⟩) rfl 42 (.tmp 1) rfl k rfl 42 (rd3 A n c (p1 : Int) ((e1 : Int) : Int)) (0, 0) _ A2.out.rd.heap Tryz.underlying42 rfl RL1.out ?_))
    with_reducible refine (reftext_any A L n c p1 e1 64 64 l2 e2 fb _ rfl (by decide) HN.out hp1 hl hc H0.out HX.out (HAK.out _ A2.out.bel) D1.out).mono ?_
    rintro en v2 ⟨p2, hp2, hr2, rfl, hb⟩
    have A3a := hid (A2.out.on hb)
    have R3a : Hid (RowAt7 v2 h true true false false true true) := hid (Blk.below R2.out hb (Blk.lt R2.out))
    clear hb A2 R2 r0 r1 r2 r3 r4 r5 cf ff
    subst hr2
    have A3b := hid (A3a.out.read p2 e2)
    have R3b : Hid (RowAt7 _ h true true false false true true) := hid (Blk.rowFar R3a.out (k := k) (by have := HH.out; omega) (rd3 A n c (p2 : Int) (e2 : Int)))
    have cf := (A3b.out.obj.cell 2).trans rfl
    have ff := A3b.out.obj.frozen 2
    have A3 := hid (A3b.out.set_ 2 (.string (strN fb)) (ds := cellsOf ⟨(b : Int), (un : Int), strN fb, 0, ⟨#[]⟩, 0, 0, 0⟩) rfl)
    have R3 : Hid (RowAt7 _ h true true false false true true) := hid (Blk.far R3b.out (p := ⟨m, 2, none⟩) (by show h ≠ m; have := HH.out; omega) (.string (strN fb)))
    have RX1 := hid (len_rd A n c (p2 : Int) (e2 : Int))
    have RO1 := hid (one_rd A n c (p2 : Int) (e2 : Int))
    clear A3b R3a R3b
    obtain ⟨r0, r1, r2, r3, r4, r5⟩ := row7 R3.out
    have RL2 := hid (len_rd A n c (p2 : Int) ((e2 : Int) : Int))
    go_wp2_with (first
      | ((with_reducible refine wpList_store_row (o := ⟨none, _, _, _, _, _⟩) rfl 42 (.tmp 1) (.tmp 44) rfl k (rd3 A n c (p2 : Int) (e2 : Int)) rfl ?hy 42 (rd3 A n c (p1 : Int) ((e1 : Int) : Int)) A3a.out.rd.heap RX1.out (rd_sz _ _ _ _ _ _ _) RO1.out ?_); (case hy => rfl))
      | (with_reducible refine wpList_load_row (o := ⟨some 50, _, _, _, _, _⟩) rfl 42 (.tmp 1) rfl k rfl 42 (rd3 A n c (p2 : Int) ((e2 : Int) : Int)) (0, 0) _ A3.out.rd.heap Tryz.underlying42 rfl RL2.out ?_))
    with_reducible refine (refshort_any' A L n c p2 e2 18446744073709551615 18446744073709551615 l3 e3 qn _ rfl HN.out hp2 hl hc H0.out HX.out (HAK.out _ A3.out.bel) D2.out).mono ?_
    rintro en v3 ⟨p3, hp3, hr3, rfl, hb⟩
    have A4a := hid (A3.out.on hb)
    have R4a : Hid (RowAt7 v3 h true true false false true true) := hid (Blk.below R3.out hb (Blk.lt R3.out))
    clear hb A3 R3 r0 r1 r2 r3 r4 r5 cf ff
    subst hr3
    have A4b := hid (A4a.out.read p3 e3)
    have R4b : Hid (RowAt7 _ h true true false false true true) := hid (Blk.rowFar R4a.out (k := k) (by have := HH.out; omega) (rd3 A n c (p3 : Int) (e3 : Int)))
    have cf := (A4b.out.obj.cell 3).trans rfl
    have ff := A4b.out.obj.frozen 3
    have A4 := hid (A4b.out.set_ 3 (.int .u64 (qn : Int)) (ds := cellsOf ⟨(b : Int), (un : Int), strN fb, (qn : Int), ⟨#[]⟩, 0, 0, 0⟩) rfl)
    have R4 : Hid (RowAt7 _ h true true false false true true) := hid (Blk.far R4b.out (p := ⟨m, 3, none⟩) (by show h ≠ m; have := HH.out; omega) (.int .u64 (qn : Int)))
    have RX2 := hid (len_rd A n c (p3 : Int) (e3 : Int))
    have RO2 := hid (one_rd A n c (p3 : Int) (e3 : Int))
    clear A4b R4a R4b
    obtain ⟨r0, r1, r2, r3, r4, r5⟩ := row7 R4.out
    have RL3 := hid (len_rd A n c (p3 : Int) ((e3 : Int) : Int))
    go_wp2_with (first
      | ((with_reducible refine wpList_store_row (o := ⟨none, _, _, _, _, _⟩) rfl 42 (.tmp 1) (.tmp 52) rfl k (rd3 A n c (p3 : Int) (e3 : Int)) rfl ?hy 42 (rd3 A n c (p2 : Int) ((e2 : Int) : Int)) A4a.out.rd.heap RX2.out (rd_sz _ _ _ _ _ _ _) RO2.out ?_); (case hy => rfl))
      | (with_reducible refine wpList_load_row (o := ⟨some 76, _, _, _, _, _⟩) rfl 42 (.tmp 1) rfl k rfl 42 (rd3 A n c (p3 : Int) ((e3 : Int) : Int)) (0, 0) _ A4.out.rd.heap Tryz.underlying42 rfl RL3.out ?_))
    with_reducible refine (refshort_any' A L n c p3 e3 18446744073709551615 18446744073709551615 l4 e4 nn _ rfl HN.out hp3 hl hc H0.out HX.out (HAK.out _ A4.out.bel) D3.out).mono ?_
    rintro en v4 ⟨p4, hp4, hr4, rfl, hb⟩
    have A5a := hid (A4.out.on hb)
    have R5a : Hid (RowAt7 v4 h true true false false true true) := hid (Blk.below R4.out hb (Blk.lt R4.out))
    clear hb A4 R4 r0 r1 r2 r3 r4 r5 cf ff
    subst hr4
    have A5b := hid (A5a.out.read p4 e4)
    have R5b : Hid (RowAt7 _ h true true false false true true) := hid (Blk.rowFar R5a.out (k := k) (by have := HH.out; omega) (rd3 A n c (p4 : Int) (e4 : Int)))
    have cf := (A5b.out.obj.cell 6).trans rfl
    have ff := A5b.out.obj.frozen 6
    have A5 := hid (A5b.out.set_ 6 (.int .u64 (nn : Int)) (ds := cellsOf ⟨(b : Int), (un : Int), strN fb, (qn : Int), ⟨#[]⟩, 0, (nn : Int), 0⟩) rfl)
    have R5 : Hid (RowAt7 _ h true true false false true true) := hid (Blk.far R5b.out (p := ⟨m, 6, none⟩) (by show h ≠ m; have := HH.out; omega) (.int .u64 (nn : Int)))
    have RX3 := hid (len_rd A n c (p4 : Int) (e4 : Int))
    have RO3 := hid (one_rd A n c (p4 : Int) (e4 : Int))
    clear A5b R5a R5b
    obtain ⟨r0, r1, r2, r3, r4, r5⟩ := row7 R5.out
    have RL4 := hid (len_rd A n c (p4 : Int) ((e4 : Int) : Int))
    go_wp2_with (first
      | ((with_reducible refine wpList_store_row (o := ⟨none, _, _, _, _, _⟩) rfl 42 (.tmp 1) (.tmp 78) rfl k (rd3 A n c (p4 : Int) (e4 : Int)) rfl ?hy 42 (rd3 A n c (p3 : Int) ((e3 : Int) : Int)) A5a.out.rd.heap RX3.out (rd_sz _ _ _ _ _ _ _) RO3.out ?_); (case hy => rfl))
      | (with_reducible refine wpList_load_row (o := ⟨some 84, _, _, _, _, _⟩) rfl 42 (.tmp 1) rfl k rfl 42 (rd3 A n c (p4 : Int) ((e4 : Int) : Int)) (0, 0) _ A5.out.rd.heap Tryz.underlying42 rfl RL4.out ?_))
    with_reducible refine (refshort_any' A L n c p4 e4 1099511627776 1099511627776 l5 e5 tn _ rfl HN.out hp4 hl hc H0.out HX.out (HAK.out _ A5.out.bel) D4.out).mono ?_
    rintro en v5 ⟨p5, hp5, hr5, rfl, hb⟩
    have A6a := hid (A5.out.on hb)
    have R6a : Hid (RowAt7 v5 h true true false false true true) := hid (Blk.below R5.out hb (Blk.lt R5.out))
    clear hb A5 R5 r0 r1 r2 r3 r4 r5 cf ff
    subst hr5
    have A6b := hid (A6a.out.read p5 e5)
    have R6b : Hid (RowAt7 _ h true true false false true true) := hid (Blk.rowFar R6a.out (k := k) (by have := HH.out; omega) (rd3 A n c (p5 : Int) (e5 : Int)))
    have cf := (A6b.out.obj.cell 7).trans rfl
    have ff := A6b.out.obj.frozen 7
    have A6 := hid (A6b.out.set_ 7 (.int .i64 (tn : Int)) (ds := cellsOf ⟨(b : Int), (un : Int), strN fb, (qn : Int), ⟨#[]⟩, 0, (nn : Int), (tn : Int)⟩) rfl)
    have R6 : Hid (RowAt7 _ h true true false false true true) := hid (Blk.far R6b.out (p := ⟨m, 7, none⟩) (by show h ≠ m; have := HH.out; omega) (.int .i64 (tn : Int)))
    have RX4 := hid (len_rd A n c (p5 : Int) (e5 : Int))
    have RO4 := hid (one_rd A n c (p5 : Int) (e5 : Int))
    clear A6b R6a R6b
    obtain ⟨r0, r1, r2, r3, r4, r5⟩ := row7 R6.out
    have c2 := (A6.out.rd.cell 2).trans rfl
    have f2 := A6.out.rd.frozen 2
    have Q1 := hid (len_rc ⟨(b : Int), (un : Int), strN fb, (qn : Int), ⟨#[]⟩, 0, (nn : Int), (tn : Int)⟩)
    have Q3 := hid (one_rc ⟨(b : Int), (un : Int), strN fb, (qn : Int), ⟨#[]⟩, 0, (nn : Int), (tn : Int)⟩)
    have Z1 := hid (len_rc zeroK)
    have Z3 := hid (one_rc zeroK)
    have G1 := hid (len_rd A n c (p5 : Int) (e5 : Int))
    have G3 := hid (one_rd A n c (p5 : Int) (e5 : Int))
    by_cases h0 : e5 = 0
    · have HE0 := hid h0
      clear h0
      clear c2
      have c2 : (_ : World).cell? ⟨k, 2, none⟩ = some (.int .i64 0) := (A6.out.rd.cell 2).trans (by rw [HE0.out]; rfl)
      go_wp2_with (first
          | ((with_reducible refine wpList_store_row (o := ⟨none, _, _, _, _, _⟩) rfl 42 (.tmp 1) (.tmp 86) rfl k (rd3 A n c (p5 : Int) (e5 : Int)) rfl ?hy 42 (rd3 A n c (p4 : Int) ((e4 : Int) : Int)) A6a.out.rd.heap RX4.out (rd_sz _ _ _ _ _ _ _) RO4.out ?_); (case hy => rfl))
          | (with_reducible refine wpList_load_rowg (o := ⟨some 95, _, _, _, _, _⟩) (by kernel_rfl) 45 (.tmp 5) rfl m rfl 45 (cellsOf ⟨(b : Int), (un : Int), strN fb, (qn : Int), ⟨#[]⟩, 0, (nn : Int), (tn : Int)⟩) (0, 0) _ A6.out.obj.heap Tryz.underlying45 rfl Q1.out ?_))
      with_reducible refine (refright7 ⟨(b : Int), (un : Int), strN fb, (qn : Int), ⟨#[]⟩, 0, (nn : Int), (tn : Int)⟩ _ HO.out hff hpf).mono ?_
      rw [HRR.out]
      rintro en vr ⟨rfl, hb⟩
      have T1 := hid (A6.out.on hb)
      clear hb c2 f2 r0 r1 r2 r3 r4 r5 cf ff
      have c2 : vr.cell? ⟨k, 2, none⟩ = some (.int .i64 0) := (T1.out.rd.cell 2).trans (by rw [HE0.out]; rfl)
      have f2 := T1.out.rd.frozen 2
      cases rr
      · have T2 := hid (T1.out.err 10)
        have g10 := hid (len_rd A n c (p5 : Int) (10 : Int))
        have g11 := hid (one_rd A n c (p5 : Int) (10 : Int))
        go_upto_region 26 with fail
        obtain ⟨WE, hWE⟩ : ∃ WE, vr.setCell ⟨k, 2, none⟩ (.int .i64 10) = WE := ⟨_, rfl⟩
        have T2 : Hid (RA w WE k m 45 (cellsOf zeroK) (cellsOf ⟨(b : Int), (un : Int), strN fb, (qn : Int), ⟨#[]⟩, 0, (nn : Int), (tn : Int)⟩) A n c p5 10) := hid (by rw [← hWE]; exact T2.out)
        rw [hWE]
        clear hWE c2 f2
        have c2 := (T2.out.rd.cell 2).trans rfl
        have TF := hid (T2.out.fin (cellsOf zeroK))
        have g1 := hid (T2.out.r2.rowFar (k := k + 1) (by omega) (rd3 A n c (p5 : Int) (10 : Int)))
        go_wp2_with (first
            | (with_reducible refine wpList_load_row (o := ⟨some 103, _, _, _, _, _⟩) rfl 42 (.tmp 1) rfl k rfl 42 (rd3 A n c (p5 : Int) (10 : Int)) (0, 0) _ T2.out.rd.heap Tryz.underlying42 rfl g10.out ?_)
            | ((with_reducible refine wpList_store_row (o := ⟨none, _, _, _, _, _⟩) rfl 42 (.tmp 2) (.tmp 103) rfl (k + 1) (rd3 A n c (p5 : Int) (10 : Int)) rfl ?hy 42 rdZ T2.out.r1.heap g10.out (rdZ_sz _ _ _ _ _) g11.out ?_); (case hy => rfl))
            | ((with_reducible refine wpList_store_row (o := ⟨none, _, _, _, _, _⟩) rfl 45 (.tmp 3) (.tmp 104) rfl (k + 1 + 1) (cellsOf zeroK) rfl ?hy 45 (cellsOf zeroK) g1.out.heap Z1.out (c_sz _ _) Z3.out ?_); (case hy => rfl)))
        exact bodyPost_ret (v := .tuple #[reader A n c (p5 : Int) (10 : Int), val zeroK]) (results_two_rows (p := 2) (q := 3) (ty := 42) (ty2 := 45) (by kernel_rfl) _ _ (k + 1) (k + 1 + 1) 42 45 (rd3 A n c (p5 : Int) (10 : Int)) (cellsOf zeroK) (0, 0) (0, 0) _ _ rfl rfl TF.out.1.heap TF.out.2.1.heap Tryz.underlying42 rfl g10.out Tryz.underlying45 rfl Z1.out) rfl (by rw [HL.out]; rw [HE0.out]; exact refdoes_end (e' := 10) hp5 (rem_err (by decide)).symm (by rw [HK.out]; exact TF.out.2.2))
      · have TF := hid ((T1.out.drew).fin (cellsOf ⟨(b : Int), (un : Int), strN fb, (qn : Int), ⟨#[]⟩, 0, (nn : Int), (tn : Int)⟩))
        have TF2 := hid ((T1.out.drew).fin2 (cellsOf ⟨(b : Int), (un : Int), strN fb, (qn : Int), ⟨#[]⟩, 0, (nn : Int), (tn : Int)⟩))
        go_upto_region 28 with fail
        clear c2 f2
        have TD := hid T1.out.drew
        refine wp_region_held_drew (S := (fun w' => Blk w' k 42 (rd3 A n c (p5 : Int) (e5 : Int)) ∧ Blk w' m 45 (cellsOf ⟨(b : Int), (un : Int), strN fb, (qn : Int), ⟨#[]⟩, 0, (nn : Int), (tn : Int)⟩))) (by kernel_rfl) (by exact ⟨TD.out.rd, TD.out.obj⟩) (fun hHeld => ?_)
        refine wpAnyH_take (i := 0) (oi := _) (v := .agg (rd3 A n c (p5 : Int) (e5 : Int))) rfl (by kernel_rfl) (by kernel_rfl) (by kernel_rfl) (fun _ _ _ h => h) (yields_row (by kernel_rfl) 42 (.tmp 1) rfl k rfl 42 (rd3 A n c (p5 : Int) (e5 : Int)) (0, 0) _ (fun _ h => Blk.heap (And.left h)) Tryz.underlying42 rfl G1.out) hHeld ?_
        try simp only [Act.put, List.getElem_toArray, List.getElem_cons_zero, List.getElem_cons_succ, List.setIfInBounds_toArray, List.set_cons_zero, List.set_cons_succ]
        refine wpAnyH_take (i := 1) (oi := _) (v := .agg (cellsOf ⟨(b : Int), (un : Int), strN fb, (qn : Int), ⟨#[]⟩, 0, (nn : Int), (tn : Int)⟩)) rfl (by kernel_rfl) (by kernel_rfl) (by kernel_rfl) (fun _ _ _ h => h) (yields_row (by kernel_rfl) 45 (.tmp 5) rfl m rfl 45 (cellsOf ⟨(b : Int), (un : Int), strN fb, (qn : Int), ⟨#[]⟩, 0, (nn : Int), (tn : Int)⟩) (0, 0) _ (fun _ h => Blk.heap (And.right h)) Tryz.underlying45 rfl Q1.out) hHeld ?_
        try simp only [Act.put, List.getElem_toArray, List.getElem_cons_zero, List.getElem_cons_succ, List.setIfInBounds_toArray, List.set_cons_zero, List.set_cons_succ]
        refine wpAnyH_ready (rs := [2]) (by kernel_rfl) (by simp) ?_
        refine AllReadyH.cons (o := _) rfl (fun K hK => ?_) AllReadyH.nil
        refine ready_store_row (by kernel_rfl) 42 (.tmp 2) (.tmp 105) rfl (k + 1) (rd3 A n c (p5 : Int) (e5 : Int)) rfl rfl 42 rdZ TD.out.r1.heap G1.out rfl G3.out ?_
        refine hK.out _ _ (by exact ⟨TD.out.rd.rowFar (k := k + 1) (by omega) (rd3 A n c (p5 : Int) (e5 : Int)), TD.out.obj.rowFar (k := k + 1) (by have := TD.out.2.2.2.2.2; omega) (rd3 A n c (p5 : Int) (e5 : Int))⟩) (fun hHeld => ?_)
        clear hK K
        try simp only [Act.put, List.getElem_toArray, List.getElem_cons_zero, List.getElem_cons_succ, List.setIfInBounds_toArray, List.set_cons_zero, List.set_cons_succ]
        refine wpAnyH_ready (rs := [3]) (by kernel_rfl) (by simp) ?_
        refine AllReadyH.cons (o := _) rfl (fun K hK => ?_) AllReadyH.nil
        refine ready_store_row (by kernel_rfl) 45 (.tmp 3) (.tmp 106) rfl (k + 1 + 1) (cellsOf ⟨(b : Int), (un : Int), strN fb, (qn : Int), ⟨#[]⟩, 0, (nn : Int), (tn : Int)⟩) rfl rfl 45 (cellsOf zeroK) (TD.out.r2.rowFar (k := k + 1) (by omega) (rd3 A n c (p5 : Int) (e5 : Int))).heap Q1.out rfl Q3.out ?_
        refine hK.out _ _ (by exact ⟨(TD.out.rd.rowFar (k := k + 1) (by omega) (rd3 A n c (p5 : Int) (e5 : Int))).rowFar (k := k + 1 + 1) (by omega) (cellsOf ⟨(b : Int), (un : Int), strN fb, (qn : Int), ⟨#[]⟩, 0, (nn : Int), (tn : Int)⟩), (TD.out.obj.rowFar (k := k + 1) (by have := TD.out.2.2.2.2.2; omega) (rd3 A n c (p5 : Int) (e5 : Int))).rowFar (k := k + 1 + 1) (by have := TD.out.2.2.2.2.2; omega) (cellsOf ⟨(b : Int), (un : Int), strN fb, (qn : Int), ⟨#[]⟩, 0, (nn : Int), (tn : Int)⟩)⟩) (fun hHeld => ?_)
        clear hK K
        try simp only [Act.put, List.getElem_toArray, List.getElem_cons_zero, List.getElem_cons_succ, List.setIfInBounds_toArray, List.set_cons_zero, List.set_cons_succ]
        refine wpAnyH_done (by kernel_rfl) ?_ _
        clear hHeld
        go_wp2
        exact bodyPost_ret (v := .tuple #[reader A n c (p5 : Int) (e5 : Int), val ⟨(b : Int), (un : Int), strN fb, (qn : Int), ⟨#[]⟩, 0, (nn : Int), (tn : Int)⟩]) (results_two_rows (p := 2) (q := 3) (ty := 42) (ty2 := 45) (by kernel_rfl) _ _ (k + 1) (k + 1 + 1) 42 45 (rd3 A n c (p5 : Int) (e5 : Int)) (cellsOf ⟨(b : Int), (un : Int), strN fb, (qn : Int), ⟨#[]⟩, 0, (nn : Int), (tn : Int)⟩) (0, 0) (0, 0) _ _ rfl rfl TF.out.1.heap TF.out.2.1.heap Tryz.underlying42 rfl G1.out Tryz.underlying45 rfl Q1.out) rfl (by rw [HL.out]; (first | rw [if_pos rfl] | rw [if_pos True.intro]); (first | rw [if_pos HE0.out] | rw [if_pos True.intro]); exact refdoes_end hp5 rfl (by rw [HK.out]; exact TF.out.2.2))
    · have HE0 := hid h0
      have hz : ((e5 : Int) == 0) = false := by rw [beq_eq_false_iff_ne]; omega
      have hz2 : ((e5 : Int) != 0) = true := by rw [bne_iff_ne]; omega
      clear h0
      have TF := hid (A6.out.fin (cellsOf zeroK))
      have g1 := hid (A6.out.r2.rowFar (k := k + 1) (by omega) (rd3 A n c (p5 : Int) (e5 : Int)))
      go_wp2_with (first
          | ((with_reducible refine wpList_store_row (o := ⟨none, _, _, _, _, _⟩) rfl 42 (.tmp 1) (.tmp 86) rfl k (rd3 A n c (p5 : Int) (e5 : Int)) rfl ?hy 42 (rd3 A n c (p4 : Int) ((e4 : Int) : Int)) A6a.out.rd.heap RX4.out (rd_sz _ _ _ _ _ _ _) RO4.out ?_); (case hy => rfl))
          | (with_reducible refine wpList_load_row (o := ⟨some 103, _, _, _, _, _⟩) rfl 42 (.tmp 1) rfl k rfl 42 (rd3 A n c (p5 : Int) (e5 : Int)) (0, 0) _ A6.out.rd.heap Tryz.underlying42 rfl G1.out ?_)
          | ((with_reducible refine wpList_store_row (o := ⟨none, _, _, _, _, _⟩) rfl 42 (.tmp 2) (.tmp 103) rfl (k + 1) (rd3 A n c (p5 : Int) (e5 : Int)) rfl ?hy 42 rdZ A6.out.r1.heap G1.out (rdZ_sz _ _ _ _ _) G3.out ?_); (case hy => rfl))
          | ((with_reducible refine wpList_store_row (o := ⟨none, _, _, _, _, _⟩) rfl 45 (.tmp 3) (.tmp 104) rfl (k + 1 + 1) (cellsOf zeroK) rfl ?hy 45 (cellsOf zeroK) g1.out.heap Z1.out (c_sz _ _) Z3.out ?_); (case hy => rfl)))
      exact bodyPost_ret (v := .tuple #[reader A n c (p5 : Int) (e5 : Int), val zeroK]) (results_two_rows (p := 2) (q := 3) (ty := 42) (ty2 := 45) (by kernel_rfl) _ _ (k + 1) (k + 1 + 1) 42 45 (rd3 A n c (p5 : Int) (e5 : Int)) (cellsOf zeroK) (0, 0) (0, 0) _ _ rfl rfl TF.out.1.heap TF.out.2.1.heap Tryz.underlying42 rfl G1.out Tryz.underlying45 rfl Z1.out) rfl (by rw [HL.out]; (cases rr <;> (first | rw [if_pos rfl, if_neg HE0.out] | rw [if_pos True.intro, if_neg HE0.out] | rw [if_neg (by decide)]) <;> (try rw [show leftE e5 10 (rem L p5 e5) = rem L p5 e5 by unfold leftE; rw [if_neg (by have := HE0.out; omega)], show firstE e5 10 = e5 by unfold firstE; rw [if_neg HE0.out]]) <;> exact refdoes_end (e' := e5) hp5 rfl (by rw [HK.out]; exact TF.out.2.2)))
  have key := hid key0
  clear key0 hKr
  have hlt3 : k + 1 + 1 < W3.heap.size := A0.out.r2.lt
  have hlm : m < W3.heap.size := A0.out.obj.lt
  go_region_held3 (fun w' => w'.cell? ⟨m, 0, none⟩ = some (.int .i64 (b : Int)))
    (first | with_reducible exact RA.kind7 (RA.drew A0.out) | with_reducible exact RA.kind7 (RA.drew (RA.alloc A0.out _)) | with_reducible exact RA.kind7 A1.out | with_reducible exact RA.kind7 (RA.alloc A1.out _) | with_reducible exact RA.kind7 (RA.row6 (RA.alloc A1.out _) (by have := hA1.out; omega) (by have := hA1.out; omega) _ _ _ _ _ _) | with_reducible exact RA.kind7 (RA.row6 A1.out hlt3 (Nat.ne_of_lt hlm) _ _ _ _ _ _))
    (first
      | (go_at_call 101; (with_reducible refine (has_ref _).mono ?_); rintro e w1 ⟨rfl, hb1⟩; have A1 := hid (RA.on (RA.drew A0.out) hb1); have hA1 := hid (And.intro A1.out.r2.lt A1.out.obj.lt))
      | (go_at_call 101; (with_reducible refine (has_ref _).mono ?_); rintro e w1 ⟨rfl, hb1⟩; have A1 := hid (RA.on (RA.drew (RA.alloc A0.out _)) hb1); have R1 := hid (row_first hb1); obtain ⟨q0, q1, q2, q3, q4, q5⟩ := row7 R1.out; obtain ⟨v0, v1, v2, v3, v4, v5⟩ := rowf7 R1.out))
  all_goals change Kr _ _
  all_goals with_reducible refine key.out _ _ ?_ ?_ ?_
  · exact hid (A1.out.alloc _)
  · exact hid (Blk.new w1 138 #[.bool true, .bool true, .bool false, .bool false, .bool true, .bool true])
  · exact hid ⟨A1.out.r2.lt, Nat.ne_of_lt A1.out.obj.lt⟩
  · exact hid (A1.out.alloc _)
  · exact hid (Blk.new w1 138 #[.bool true, .bool true, .bool false, .bool false, .bool true, .bool true])
  · exact hid ⟨A1.out.r2.lt, Nat.ne_of_lt A1.out.obj.lt⟩
  · exact hid (RA.row6 A1.out hlt3 (Nat.ne_of_lt hlm) _ _ _ _ _ _)
  · exact hid (row7_put R1.out)
  · exact hid ⟨hlt3, Nat.ne_of_lt hlm⟩
end Go.Proofs.YtohffiehmmcgbaaGreatDoor
