/-
  Contracts of states (package inst): Right, Follows.
-/
import Derived.Test.YtapmchkikafpmaaDoorJRight
namespace Go.Proofs.YtapmchkikafpmaaDoor
open Go.ChangeShapes Go.WideShapes Go.ChangeAt Go.RowKit Go.Lib
set_option linter.unusedVariables false
set_option linter.unusedSimpArgs false

/-- In a region that draws its order: the load of a row that is known whole. -/
theorem yields_row {P : Program} {ops : Array Oper} {S : World → Prop} {op : Oper} {a : Act} (hw : Region.wanted op (yielded ops a.tmps) = true) (ty : TypeId) (x : Operand) (ho : op.op = .load ty x)
    (g : Nat) (hx : a.eval x = .pointer (some ⟨g, 0, none⟩)) (t : TypeId) (cs : Array Value) (fr : Nat × Nat) (d : TypeDesc) (hS : ∀ w, S w → w.heap[g]? = some (.cells cs t fr))
    (hu : P.underlying ty = some d) (hd : (match d with | .struct _ | .array _ _ => true | _ => false) = true) (hi : (P.info? ty).map (·.size) = some cs.size) : YieldsIf P ops S op (.agg cs) a :=
  .inl ⟨hw, fun w hw' => by
    unfold execOp
    simp only [ho, hx, Instr.loadAt, Instr.sureAddr, Sem.run_bind, Sem.run_pure, Result.andThen_ok, run_loadVar_row w g t ty cs fr d (hS w hw') hu hd hi]⟩

set_option maxRecDepth 100000 in
set_option maxHeartbeats 4000000 in
theorem jright_any (x : J) (hok : okJ x) (w : World) (hP : PartsIs w) (hf : x.c.foot.size ≤ 4611686018427387903) (hp : x.c.path.size ≤ 4611686018427387903) :
    Calls Tryd.prog 17 #[.agg (rowJ x)] w fun e w' => e = .returned (.bool (rightJ x)) ∧ Below w.heap.size w w' := by
  obtain ⟨nb, hnb⟩ : ∃ a, nameB x.r x.s = a := ⟨_, rfl⟩
  obtain ⟨ba, hba⟩ : ∃ a, balB x.bal = a := ⟨_, rfl⟩
  obtain ⟨ee, hee⟩ : ∃ a, eqJ x (emptyJ x) = a := ⟨_, rfl⟩
  obtain ⟨sb, hsb⟩ : ∃ a, statB x.st = a := ⟨_, rfl⟩
  obtain ⟨vb, hvb⟩ : ∃ a, valB x = a := ⟨_, rfl⟩
  have HV : Hid (rightJ x = (nb && ba && (if x.st = 0 then ee else sb && vb))) := hid (by unfold rightJ; rw [hnb, hba, hee, hsb, hvb])
  have HO := hid hok
  have HP := hid hP
  have NB := hid hnb
  have BA := hid hba
  have EE := hid hee
  have SB := hid hsb
  have VB := hid hvb
  clear hok hP hnb hba hee hsb hvb
  go_enter Tryd.func17, Tryd.ntmps17
  go_upto_region 1 with fail
  obtain ⟨W, hW⟩ : ∃ W, w.alloc (.cells (rowJ x) 35) = W := ⟨_, rfl⟩
  rw [hW]
  obtain ⟨K0, KB⟩ := one_new hW
  clear hW
  have HPW := hid (HP.out.below KB.out)
  obtain ⟨k, hk⟩ : ∃ k, w.heap.size = k := ⟨_, rfl⟩
  rw [hk] at K0 KB
  rw [hk]
  have HK := hid hk
  clear hk
  have c0 := K0.out.j0
  have c1 := K0.out.j1
  have HKL := hid (show k ≤ W.heap.size by have := K0.out.lt; omega)
  go_wp2_with fail
  with_reducible refine (nright_any x.r x.s _).mono ?_
  rw [NB.out]
  rintro e w1 ⟨rfl, hb⟩
  have D0 := hid (K0.out.below hb K0.out.lt)
  have DB := hid (below_pay KB.out HKL.out hb)
  have DP := hid (HPW.out.below hb)
  have DL := hid (show k ≤ w1.heap.size by have := D0.out.lt; omega)
  clear hb c0 c1 K0 KB HPW HKL
  have c2 := D0.out.j2
  have c3 := D0.out.j3
  cases nb
  · go_wp2
    go_ret
    exact ⟨ret_bool (by rw [HV.out]; simp), by rw [HK.out]; exact DB.out⟩
  · cases ba
    · go_wp2_with fail
      with_reducible refine (balright_int x.bal _ HO.out.bal').mono ?_
      rw [BA.out]
      rintro e w2 ⟨rfl, rfl⟩
      go_wp2
      go_ret
      exact ⟨ret_bool (by rw [HV.out]; simp), by rw [HK.out]; exact DB.out⟩
    · go_wp2_with fail
      with_reducible refine (balright_int x.bal _ HO.out.bal').mono ?_
      rw [BA.out]
      rintro e w2 ⟨rfl, rfl⟩
      have L1 := hid (len_inst x)
      rcases Decidable.em (x.st = 0) with h0 | h0
      · have HZ := hid h0
        have hb0 : (x.st == 0) = true := beq_iff_eq.2 h0
        clear h0
        go_upto_region 4 with fail
        clear c2 c3 hb0
        refine wp_region_held_drew (S := fun w' => Blk w' k 35 (rowJ x)) (by kernel_rfl) (by exact D0.out.drew) (fun hHeld => ?_)
        refine wpAnyH_take (i := 0) (oi := _) (v := .agg (rowJ x)) rfl (by kernel_rfl) (by kernel_rfl) (by kernel_rfl) (fun _ _ _ h => h) (yields_row (by kernel_rfl) 35 (.tmp 1) rfl k rfl 35 (rowJ x) (0, 0) _ (fun _ h => h) Tryd.underlying35 rfl L1.out) hHeld ?_
        try simp only [Act.put, List.getElem_toArray, List.getElem_cons_zero, List.getElem_cons_succ, List.setIfInBounds_toArray, List.set_cons_zero, List.set_cons_succ]
        refine wpAnyH_take (i := 1) (oi := _) (v := .agg (rowJ x)) rfl (by kernel_rfl) (by kernel_rfl) (by kernel_rfl) (fun _ _ _ h => h) (yields_row (by kernel_rfl) 35 (.tmp 1) rfl k rfl 35 (rowJ x) (0, 0) _ (fun _ h => h) Tryd.underlying35 rfl L1.out) hHeld ?_
        try simp only [Act.put, List.getElem_toArray, List.getElem_cons_zero, List.getElem_cons_succ, List.setIfInBounds_toArray, List.set_cons_zero, List.set_cons_succ]
        refine wpAnyH_ready (rs := [2]) (by kernel_rfl) (by simp) ?_
        refine AllReadyH.cons (o := _) rfl (fun K hK => ?_) AllReadyH.nil
        go_simp
        go_at_call 37
        with_reducible refine (empty_any x _).mono ?_
        rintro e w3 ⟨rfl, hb⟩
        have E0 := hid (D0.out.drew.below hb D0.out.drew.lt)
        have EB := hid (below_pay (below_drew DB.out) DL.out hb)
        clear hb
        refine hK.out _ _ (by exact E0.out) (fun hHeld => ?_)
        clear hK K
        try simp only [Act.put, List.getElem_toArray, List.getElem_cons_zero, List.getElem_cons_succ, List.setIfInBounds_toArray, List.set_cons_zero, List.set_cons_succ]
        have EQ := eq_inst x (emptyJ x) ee EE.out
        have EG := inst_guard
        refine wpAnyH_take (i := 3) (oi := _) (v := .bool ee) rfl (by kernel_rfl) (by kernel_rfl) (by kernel_rfl) (fun _ _ _ h => h) (Or.inl ⟨by kernel_rfl, ?_⟩) hHeld ?_
        focus (intro w' hSw; go_simp; try with_reducible rfl)
        try simp only [Act.put, List.getElem_toArray, List.getElem_cons_zero, List.getElem_cons_succ, List.setIfInBounds_toArray, List.set_cons_zero, List.set_cons_succ]
        clear EQ EG
        refine wpAnyH_take (i := 4) (oi := _) (v := ?_) rfl (by kernel_rfl) (by kernel_rfl) (by kernel_rfl) (fun _ _ _ h => h) (Or.inl ⟨by kernel_rfl, ?_⟩) hHeld ?_
        rotate_left 1
        focus (intro w' hSw; go_simp; try with_reducible rfl)
        try simp only [Act.put, List.getElem_toArray, List.getElem_cons_zero, List.getElem_cons_succ, List.setIfInBounds_toArray, List.set_cons_zero, List.set_cons_succ]
        refine wpAnyH_done (by kernel_rfl) ?_ _
        clear hHeld
        go_wp2
        go_ret
        exact ⟨ret_bool (by rw [HV.out, if_pos HZ.out]; simp), by rw [HK.out]; exact EB.out⟩
      · have HZ := hid h0
        have hb0 : (x.st == 0) = false := beq_eq_false_iff_ne.2 h0
        clear h0
        cases sb
        · go_wp2_with fail
          with_reducible refine (isstatus_any x.st _).mono ?_
          rw [SB.out]
          rintro e w3 ⟨rfl, rfl⟩
          go_wp2
          go_ret
          exact ⟨ret_bool (by rw [HV.out, if_neg HZ.out]; simp), by rw [HK.out]; exact DB.out⟩
        · go_wp2_with fail
          with_reducible refine (isstatus_any x.st _).mono ?_
          rw [SB.out]
          rintro e w3 ⟨rfl, rfl⟩
          go_wp2_with (with_reducible refine wpList_load_rowg (o := ⟨some 24, _, _, _, _, _⟩) (by kernel_rfl) 35 (.tmp 1) rfl k rfl 35 (rowJ x) (0, 0) _ D0.out.heap Tryd.underlying35 rfl L1.out ?_)
          with_reducible refine (hasright_any x HO.out _ DP.out hf hp).mono ?_
          rw [VB.out]
          rintro e w4 ⟨rfl, hb⟩
          have EB := hid (below_pay DB.out DL.out hb)
          clear hb
          go_wp2
          go_ret
          exact ⟨ret_bool (by rw [HV.out, if_neg HZ.out]; simp), by rw [HK.out]; exact EB.out⟩

/-- Two boxes of states, the table, and the frame. -/
def Pair (w0 : World) (k : Nat) (w : World) (x y : J) : Prop := Blk w k 35 (rowJ x) ∧ Blk w (k + 1) 35 (rowJ y) ∧ Below k w0 w ∧ PartsIs w
theorem Pair.on {w0 w w' : World} {k : Nat} {x y : J} (h : Pair w0 k w x y) (hb : Below w.heap.size w w') : Pair w0 k w' x y :=
  ⟨h.1.below hb h.1.lt, h.2.1.below hb h.2.1.lt, below_pay h.2.2.1 (by have := h.1.lt; omega) hb, h.2.2.2.below hb⟩
theorem Pair.fst {w0 w : World} {k : Nat} {x y : J} (h : Pair w0 k w x y) : Blk w k 35 (rowJ x) := h.1
theorem Pair.snd {w0 w : World} {k : Nat} {x y : J} (h : Pair w0 k w x y) : Blk w (k + 1) 35 (rowJ y) := h.2.1
theorem Pair.bel {w0 w : World} {k : Nat} {x y : J} (h : Pair w0 k w x y) : Below k w0 w := h.2.2.1
theorem Pair.parts {w0 w : World} {k : Nat} {x y : J} (h : Pair w0 k w x y) : PartsIs w := h.2.2.2

set_option maxRecDepth 100000 in
set_option maxHeartbeats 4000000 in
theorem follows_any (x y : J) (hox : okJ x) (hoy : okJ y) (w : World) (hP : PartsIs w) (hf : x.c.foot.size ≤ 4611686018427387903) (hp : x.c.path.size ≤ 4611686018427387903) (hf2 : y.c.foot.size ≤ 4611686018427387903) (hp2 : y.c.path.size ≤ 4611686018427387903) :
    Calls Tryd.prog 7 #[.agg (rowJ x), .agg (rowJ y)] w fun e w' => e = .returned (.bool (followsJ x y)) ∧ Below w.heap.size w w' := by
  obtain ⟨rx, hrx⟩ : ∃ a, rightJ x = a := ⟨_, rfl⟩
  obtain ⟨ry, hry⟩ : ∃ a, rightJ y = a := ⟨_, rfl⟩
  obtain ⟨nn, hnn⟩ : ∃ a, (x.r == y.r && x.s == y.s) = a := ⟨_, rfl⟩
  obtain ⟨al, hal⟩ : ∃ a, alikeJ x y = a := ⟨_, rfl⟩
  obtain ⟨rs, hrs⟩ : ∃ a, restJ x y = a := ⟨_, rfl⟩
  have HV : Hid (followsJ x y = (rx && ry && nn && decide (y.bal ≤ x.bal) && rs)) := hid (by unfold followsJ; rw [hrx, hry, hnn, hrs])
  have HR : Hid (rs = (if y.st = 3 then x.st == 3 && al else if x.st = 3 then true else if x.vote = y.vote then (if x.st = y.st then x.same == y.same && al else decide (y.st < x.st)) else decide (y.vote < x.vote))) := hid (by rw [← hrs]; unfold restJ; rw [hal])
  have HOX := hid hox
  have HOY := hid hoy
  have HP := hid hP
  have RX := hid hrx
  have RY := hid hry
  have AL := hid hal
  have EQ := eq_name x.r x.s y.r y.s nn hnn
  have EG := nm_guard
  clear hox hoy hP hrx hry hnn hal hrs
  go_enter Tryd.func7, Tryd.ntmps7
  go_upto_region 1 with fail
  obtain ⟨W, hW⟩ : ∃ W, (w.alloc (.cells (rowJ x) 35)).alloc (.cells (rowJ y) 35) = W := ⟨_, rfl⟩
  rw [hW]
  obtain ⟨K0, K1, KB⟩ := twoj_new hW
  clear hW
  have HPW := hid (HP.out.below KB.out)
  obtain ⟨k, hk⟩ : ∃ k, w.heap.size = k := ⟨_, rfl⟩
  rw [hk] at K0 K1 KB
  rw [hk]
  have HK := hid hk
  clear hk
  have A0 : Hid (Pair w k W x y) := hid ⟨K0.out, K1.out, KB.out, HPW.out⟩
  clear K0 K1 KB HPW
  have L1 := hid (len_inst x)
  have L2 := hid (len_inst y)
  go_wp2_with (with_reducible refine wpList_load_row (o := ⟨some 5, _, _, _, _, _⟩) rfl 35 (.tmp 2) rfl k rfl 35 (rowJ x) (0, 0) _ A0.out.fst.heap Tryd.underlying35 rfl L1.out ?_)
  with_reducible refine (jright_any x HOX.out _ A0.out.parts hf hp).mono ?_
  rw [RX.out]
  rintro e w1 ⟨rfl, hb⟩
  have A1 := hid (A0.out.on hb)
  clear hb A0
  cases rx
  · go_wp2
    go_ret
    exact ⟨ret_bool (by rw [HV.out]; simp), by rw [HK.out]; exact A1.out.bel⟩
  go_wp2_with (with_reducible refine wpList_load_rowg (o := ⟨some 9, _, _, _, _, _⟩) (by kernel_rfl) 35 (.tmp 3) rfl (k + 1) rfl 35 (rowJ y) (0, 0) _ A1.out.snd.heap Tryd.underlying35 rfl L2.out ?_)
  with_reducible refine (jright_any y HOY.out _ A1.out.parts hf2 hp2).mono ?_
  rw [RY.out]
  rintro e w2 ⟨rfl, hb⟩
  have A2 := hid (A1.out.on hb)
  clear hb A1
  cases ry
  · go_wp2
    go_ret
    exact ⟨ret_bool (by rw [HV.out]; simp), by rw [HK.out]; exact A2.out.bel⟩
  have c0 := A2.out.fst.j0
  have c1 := A2.out.fst.j1
  have c2 := A2.out.fst.j2
  have c3 := A2.out.fst.j3
  have c4 := A2.out.fst.j4
  have c5 := A2.out.fst.j5
  have d0 := A2.out.snd.j0
  have d1 := A2.out.snd.j1
  have d2 := A2.out.snd.j2
  have d3 := A2.out.snd.j3
  have d4 := A2.out.snd.j4
  have d5 := A2.out.snd.j5
  cases nn
  · go_wp2
    go_ret
    exact ⟨ret_bool (by rw [HV.out]; simp), by rw [HK.out]; exact A2.out.bel⟩
  rcases Int.lt_or_le x.bal y.bal with hbal | hbal
  · have HD : Hid (decide (y.bal ≤ x.bal) = false) := hid (decide_eq_false (by omega))
    go_wp2
    go_ret
    exact ⟨ret_bool (by rw [HV.out, HD.out]; simp), by rw [HK.out]; exact A2.out.bel⟩
  have HD : Hid (decide (y.bal ≤ x.bal) = true) := hid (decide_eq_true hbal)
  have HF : Hid (followsJ x y = rs) := hid (by rw [HV.out, HD.out]; simp)
  rcases Decidable.em (y.st = 3) with hy3 | hy3
  · have hby : (y.st == 3) = true := beq_iff_eq.2 hy3
    have HY := hid hy3
    clear hy3
    rcases Decidable.em (x.st = 3) with hx3 | hx3
    · have hbx : (x.st == 3) = true := beq_iff_eq.2 hx3
      have HX := hid hx3
      clear hx3
      go_wp2_with (first
        | (with_reducible refine wpList_load_rowg (o := ⟨some 35, _, _, _, _, _⟩) (by kernel_rfl) 35 (.tmp 2) rfl k rfl 35 (rowJ x) (0, 0) _ A2.out.fst.heap Tryd.underlying35 rfl L1.out ?_)
        | (with_reducible refine wpList_load_rowg (o := ⟨some 36, _, _, _, _, _⟩) (by kernel_rfl) 35 (.tmp 3) rfl (k + 1) rfl 35 (rowJ y) (0, 0) _ A2.out.snd.heap Tryd.underlying35 rfl L2.out ?_))
      with_reducible refine (alike_any x y _).mono ?_
      rw [AL.out]
      rintro e w3 ⟨rfl, hb⟩
      have A3 := hid (A2.out.on hb)
      clear hb A2
      go_wp2
      go_ret
      exact ⟨ret_bool (by rw [HF.out, HR.out, if_pos HY.out, HX.out]; simp), by rw [HK.out]; exact A3.out.bel⟩
    · have hbx : (x.st == 3) = false := beq_eq_false_iff_ne.2 hx3
      go_wp2
      go_ret
      exact ⟨ret_bool (by rw [HF.out, HR.out, if_pos HY.out, hbx]; simp), by rw [HK.out]; exact A2.out.bel⟩
  have hby : (y.st == 3) = false := beq_eq_false_iff_ne.2 hy3
  have HY := hid hy3
  clear hy3
  rcases Decidable.em (x.st = 3) with hx3 | hx3
  · have hbx : (x.st == 3) = true := beq_iff_eq.2 hx3
    have HX := hid hx3
    clear hx3
    go_wp2
    go_ret
    exact ⟨ret_bool (by rw [HF.out, HR.out, if_neg HY.out, if_pos HX.out]), by rw [HK.out]; exact A2.out.bel⟩
  have hbx : (x.st == 3) = false := beq_eq_false_iff_ne.2 hx3
  have HX := hid hx3
  clear hx3
  rcases Decidable.em (x.vote = y.vote) with hv | hv
  · have hbv : (x.vote != y.vote) = false := by rw [hv]; simp
    have HVT := hid hv
    clear hv
    rcases Decidable.em (x.st = y.st) with hs | hs
    · have hbs : (x.st != y.st) = false := by rw [hs]; simp
      have HS := hid hs
      clear hs
      obtain ⟨sx, hsx⟩ : ∃ a, (x.same == y.same) = a := ⟨_, rfl⟩
      have HSX : Hid (rs = (sx && al)) := hid (by rw [HR.out, if_neg HY.out, if_neg HX.out, if_pos HVT.out, if_pos HS.out, hsx])
      cases sx
      · go_wp2
        go_ret
        exact ⟨ret_bool (by rw [HF.out, HSX.out]; simp), by rw [HK.out]; exact A2.out.bel⟩
      · go_wp2_with (first
          | (with_reducible refine wpList_load_rowg (o := ⟨some 71, _, _, _, _, _⟩) (by kernel_rfl) 35 (.tmp 2) rfl k rfl 35 (rowJ x) (0, 0) _ A2.out.fst.heap Tryd.underlying35 rfl L1.out ?_)
          | (with_reducible refine wpList_load_rowg (o := ⟨some 72, _, _, _, _, _⟩) (by kernel_rfl) 35 (.tmp 3) rfl (k + 1) rfl 35 (rowJ y) (0, 0) _ A2.out.snd.heap Tryd.underlying35 rfl L2.out ?_))
        with_reducible refine (alike_any x y _).mono ?_
        rw [AL.out]
        rintro e w3 ⟨rfl, hb⟩
        have A3 := hid (A2.out.on hb)
        clear hb A2
        go_wp2
        go_ret
        exact ⟨ret_bool (by rw [HF.out, HSX.out]; simp), by rw [HK.out]; exact A3.out.bel⟩
    · have hbs : (x.st != y.st) = true := bne_iff_ne.2 hs
      have HS := hid hs
      clear hs
      go_wp2
      go_ret
      exact ⟨ret_bool (by rw [HF.out, HR.out, if_neg HY.out, if_neg HX.out, if_pos HVT.out, if_neg HS.out]), by rw [HK.out]; exact A2.out.bel⟩
  · have hbv : (x.vote != y.vote) = true := bne_iff_ne.2 hv
    have HVT := hid hv
    clear hv
    go_wp2
    go_ret
    exact ⟨ret_bool (by rw [HF.out, HR.out, if_neg HY.out, if_neg HX.out, if_neg HVT.out]), by rw [HK.out]; exact A2.out.bel⟩

end Go.Proofs.YtapmchkikafpmaaDoor
