/-
  The document's own Right of a state (moothillref10), and the laws' of.
-/
import Derived.Test.YtohffiehmmcgbaaGreatDoorXC
import Derived.Test.YtohffiehmmcgbaaGreatDoorXF
namespace Go.Proofs.YtohffiehmmcgbaaGreatDoor
open Go.ChangeShapes Go.WideShapes Go.ChangeAt Go.RowKit Go.Lib
set_option linter.unusedVariables false
set_option linter.unusedSimpArgs false
theorem info_refx : (Tryz.prog.info? 48).map (·.size) = some 22 := by kernel_rfl
theorem len_refx (x : J) : (Tryz.prog.info? 48).map (·.size) = some (rowJ x).size := by rw [rowJ_size]; exact info_refx
theorem info_refc8 (c : K) : (Tryz.prog.info? 45).map (·.size) = some (lsK c).length := by kernel_rfl
theorem info_refa8 (f : Nat → Int) : (Tryz.prog.info? 46).map (·.size) = some (ls8 f).length := by kernel_rfl
theorem refballot_int (b : Int) (w : World) (hb : 0 ≤ b ∧ b < 4294967296) :
    Calls Tryz.prog 56 #[.int .u32 b] w fun e w' => e = .returned (.bool (balB b)) ∧ w = w' := by
  obtain ⟨n, rfl⟩ : ∃ n : Nat, b = (n : Int) := ⟨b.toNat, by omega⟩
  have := refballot_any n w (by omega)
  unfold balB
  rw [Int.toNat_natCast]
  exact this
theorem refaright9 (f : Nat → Int) (w : World) : Calls Tryz.prog 58 #[.agg (ls8 f).toArray] w fun e w' => e = .returned (.bool (okB f)) ∧ Below w.heap.size w w' := refaright_any f w
theorem refright8 (c : K) (w : World) (ho : okK c) (hf : c.foot.size ≤ 900) (hp : c.path.size ≤ 900) : Calls Tryz.prog 57 #[.agg (lsK c).toArray] w fun e w' => e = .returned (.bool (rightK c)) ∧ Below w.heap.size w w' := refright7 c w ho hf hp
theorem Blk.jd {w : World} {g : Nat} {T : TypeId} {x : J} (h : Blk w g T (rowJ x)) {a : Nat} (ha : a < 7) : w.cell? ⟨g, 15 + a, none⟩ = some (.int .i64 (x.f (1 + a))) := by
  rw [h.cell]
  have e : a = 0 ∨ a = 1 ∨ a = 2 ∨ a = 3 ∨ a = 4 ∨ a = 5 ∨ a = 6 := by omega
  rcases e with rfl | rfl | rfl | rfl | rfl | rfl | rfl <;> rfl
def docJ (x : J) : Bool := nameB x.r x.s && balB x.bal && balB x.vote && decide (x.vote ≤ x.bal) && decide (0 ≤ x.st) && decide (x.st ≤ 3) &&
  (if x.st = 0 then (x.vote == 0) && !x.same && decide (x.c = zeroK) && eqA x.f (fun _ => 0) else
    !(x.same && ((x.st != 1) || (x.vote != 0))) && (rightK x.c && okB x.f && decide (x.f (1 + x.r.toNat) = x.s)))
theorem doc_rightJ (x : J) (hok : okJ x) : docJ x = rightJ x := by
  obtain ⟨⟨b0, b1⟩, v0, v1⟩ := hok
  unfold docJ rightJ valB eqJ emptyJ maySame statB ownB
  simp only
  cases nameB x.r x.s <;> cases balB x.bal
  · simp
  · simp
  · simp
  by_cases h0 : x.st = 0
  · rw [if_pos h0, if_pos h0]
    by_cases hv : x.vote = 0
    · have hb : balB x.vote = true := by rw [hv]; decide
      have hle : decide (x.vote ≤ x.bal) = true := decide_eq_true (by omega)
      rw [hb, hle, h0]
      simp [hv, Bool.and_assoc]
    · have hvb : (x.vote == 0) = false := beq_eq_false_iff_ne.2 hv
      rw [hvb]; simp
  · rw [if_neg h0, if_neg h0]
    cases balB x.vote <;> cases hle : decide (x.vote ≤ x.bal) <;> cases rightK x.c <;> cases okB x.f <;> cases x.same <;> simp
    all_goals (rw [Bool.eq_iff_iff]; simp; try omega)
set_option maxRecDepth 100000 in
set_option maxHeartbeats 8000000 in
theorem refxright_any (x : J) (hok : okJ x) (hK : okK x.c) (w : World) (hf : x.c.foot.size ≤ 900) (hp : x.c.path.size ≤ 900) :
    Calls Tryz.prog 20 #[.agg (rowJ x)] w fun e w' => e = .returned (.bool (rightJ x)) ∧ Below w.heap.size w w' := by
  rw [← doc_rightJ x hok]
  obtain ⟨nb, hnb⟩ : ∃ a, nameB x.r x.s = a := ⟨_, rfl⟩
  obtain ⟨ba, hba⟩ : ∃ a, balB x.bal = a := ⟨_, rfl⟩
  obtain ⟨bv, hbv⟩ : ∃ a, balB x.vote = a := ⟨_, rfl⟩
  obtain ⟨rk, hrk⟩ : ∃ a, rightK x.c = a := ⟨_, rfl⟩
  obtain ⟨ob, hob⟩ : ∃ a, okB x.f = a := ⟨_, rfl⟩
  obtain ⟨sm, hsm⟩ : ∃ a, x.same = a := ⟨_, rfl⟩
  obtain ⟨ek, hek⟩ : ∃ a, decide (x.c = zeroK) = a := ⟨_, rfl⟩
  obtain ⟨ea, hea⟩ : ∃ a, eqA x.f (fun _ => 0) = a := ⟨_, rfl⟩
  have HV : Hid (docJ x = (nb && ba && bv && decide (x.vote ≤ x.bal) && decide (0 ≤ x.st) && decide (x.st ≤ 3) &&
    (if x.st = 0 then (x.vote == 0) && !sm && ek && ea else !(sm && ((x.st != 1) || (x.vote != 0))) && (rk && ob && decide (x.f (1 + x.r.toNat) = x.s))))) := hid (by unfold docJ; rw [hnb, hba, hbv, hrk, hob, hsm, hek, hea])
  have HO := hid hok
  have NB := hid hnb
  have BA := hid hba
  have BV := hid hbv
  have RK := hid hrk
  have OB := hid hob
  have SM := hid hsm
  have EK := hid hek
  have EA := hid hea
  have HK := hid hK
  clear hok hnb hba hbv hrk hob hsm hek hea hK
  go_enter Tryz.func20, Tryz.ntmps20
  go_upto_region 1 with fail
  obtain ⟨W, hW⟩ : ∃ W, w.alloc (.cells (rowJ x) 48) = W := ⟨_, rfl⟩
  rw [hW]
  obtain ⟨K0, KB⟩ := one_new hW
  clear hW
  obtain ⟨k, hk⟩ : ∃ k, w.heap.size = k := ⟨_, rfl⟩
  rw [hk] at K0 KB
  rw [hk]
  have HKK := hid hk
  clear hk
  have c0 := K0.out.j0
  have c1 := K0.out.j1
  have HKL := hid (show k ≤ W.heap.size by have := K0.out.lt; omega)
  go_wp2_with fail
  with_reducible refine (nrefright_any x.r x.s _).mono ?_
  rw [NB.out]
  rintro e w1 ⟨rfl, hb⟩
  have D0 := hid (K0.out.below hb K0.out.lt)
  have DB := hid (below_pay KB.out HKL.out hb)
  have DL := hid (show k ≤ w1.heap.size by have := D0.out.lt; omega)
  clear hb c0 c1 K0 KB HKL
  have c2 := D0.out.j2
  have c3 := D0.out.j3
  have c4 := D0.out.j4
  have c5 := D0.out.j5
  rw [SM.out] at c5
  cases nb
  · go_wp2
    go_ret
    exact ⟨ret_bool (by rw [HV.out]; simp), by rw [HKK.out]; exact DB.out⟩
  go_wp2_with fail
  with_reducible refine (refballot_int x.bal _ HO.out.bal').mono ?_
  rw [BA.out]
  rintro e w2 ⟨rfl, rfl⟩
  cases ba
  · go_wp2
    go_ret
    exact ⟨ret_bool (by rw [HV.out]; simp), by rw [HKK.out]; exact DB.out⟩
  go_wp2_with fail
  with_reducible refine (refballot_int x.vote _ HO.out.vote).mono ?_
  rw [BV.out]
  rintro e w2 ⟨rfl, rfl⟩
  cases bv
  · go_wp2
    go_ret
    exact ⟨ret_bool (by rw [HV.out]; simp), by rw [HKK.out]; exact DB.out⟩
  rcases Int.lt_or_le x.bal x.vote with hle | hle
  · have HD : Hid (decide (x.vote ≤ x.bal) = false) := hid (decide_eq_false (by omega))
    go_wp2
    go_ret
    exact ⟨ret_bool (by rw [HV.out, HD.out]; simp), by rw [HKK.out]; exact DB.out⟩
  have HD : Hid (decide (x.vote ≤ x.bal) = true) := hid (decide_eq_true hle)
  rcases Int.lt_or_le x.st 0 with hs0 | hs0
  · have HD2 : Hid (decide (0 ≤ x.st) = false) := hid (decide_eq_false (by omega))
    go_wp2
    go_ret
    exact ⟨ret_bool (by rw [HV.out, HD.out, HD2.out]; simp), by rw [HKK.out]; exact DB.out⟩
  have HD2 : Hid (decide (0 ≤ x.st) = true) := hid (decide_eq_true hs0)
  rcases Int.lt_or_le 3 x.st with hs3 | hs3
  · have HD3 : Hid (decide (x.st ≤ 3) = false) := hid (decide_eq_false (by omega))
    go_wp2
    go_ret
    exact ⟨ret_bool (by rw [HV.out, HD.out, HD2.out, HD3.out]; simp), by rw [HKK.out]; exact DB.out⟩
  have HD3 : Hid (decide (x.st ≤ 3) = true) := hid (decide_eq_true hs3)
  have I1 := hid (info_refc8 x.c)
  have I2 := hid (info_refa8 x.f)
  rcases Decidable.em (x.st = 0) with h0 | h0
  · have HZ := hid h0
    have hb0 : (x.st == 0) = true := beq_iff_eq.2 h0
    clear h0
    rcases Decidable.em (x.vote = 0) with hv | hv
    · have hbv : (x.vote == 0) = true := beq_iff_eq.2 hv
      have HVV : Hid ((x.vote == 0) = true) := hid hbv
      clear hv
      cases sm
      · have EQ1 := eq_refc x.c zeroK ek EK.out
        have EQ2 := eq_refa x.f (fun _ => 0) ea EA.out
        dsimp only [val, zeroK] at EQ1
        have G1 := refc_guard
        have G2 := refa_guard
        cases ek
        · go_wp2_with (with_reducible refine wpList_load_midg (op := ⟨some 49, _, _, _, _, _⟩) (by kernel_rfl) 45 (.tmp 48) rfl k 6 rfl (lsK x.c) _ D0.out.jc Tryz.underlying45 rfl I1.out ?_)
          go_ret
          exact ⟨ret_bool (by rw [HV.out, HD.out, HD2.out, HD3.out, if_pos HZ.out, HVV.out]; simp), by rw [HKK.out]; exact DB.out⟩
        · go_wp2_with (first
            | (with_reducible refine wpList_load_midg (op := ⟨some 49, _, _, _, _, _⟩) (by kernel_rfl) 45 (.tmp 48) rfl k 6 rfl (lsK x.c) _ D0.out.jc Tryz.underlying45 rfl I1.out ?_)
            | (with_reducible refine wpList_load_midg (op := ⟨some 55, _, _, _, _, _⟩) (by kernel_rfl) 46 (.tmp 54) rfl k 14 rfl (ls8 x.f) _ D0.out.ja Tryz.underlying46 rfl I2.out ?_))
          go_ret
          exact ⟨ret_bool (by rw [HV.out, HD.out, HD2.out, HD3.out, if_pos HZ.out, HVV.out]; simp), by rw [HKK.out]; exact DB.out⟩
      · go_wp2
        go_ret
        exact ⟨ret_bool (by rw [HV.out, HD.out, HD2.out, HD3.out, if_pos HZ.out, HVV.out]; simp), by rw [HKK.out]; exact DB.out⟩
    · have hbv : (x.vote == 0) = false := beq_eq_false_iff_ne.2 hv
      have HVV : Hid ((x.vote == 0) = false) := hid hbv
      clear hv
      go_wp2
      go_ret
      exact ⟨ret_bool (by rw [HV.out, HD.out, HD2.out, HD3.out, if_pos HZ.out, HVV.out]; simp), by rw [HKK.out]; exact DB.out⟩
  have HZ := hid h0
  have hb0 : (x.st == 0) = false := beq_eq_false_iff_ne.2 h0
  clear h0
  obtain ⟨sv, hsv⟩ : ∃ a, (sm && ((x.st != 1) || (x.vote != 0))) = a := ⟨_, rfl⟩
  have HSV := hid hsv
  have HF : Hid (docJ x = (!sv && (rk && ob && decide (x.f (1 + x.r.toNat) = x.s)))) := hid (by rw [HV.out, HD.out, HD2.out, HD3.out, if_neg HZ.out, hsv]; simp)
  clear hsv
  cases sv
  case' true =>
    obtain rfl : sm = true := by have := HSV.out; cases sm <;> simp_all
    have hor : (x.st != 1) = true ∨ ((x.st != 1) = false ∧ (x.vote != 0) = true) := by
      have := HSV.out
      cases h1 : (x.st != 1) <;> simp_all
    rcases hor with h1 | ⟨h1, h2⟩
    · go_wp2
      go_ret
      exact ⟨ret_bool (by rw [HF.out]; simp), by rw [HKK.out]; exact DB.out⟩
    · go_wp2
      go_ret
      exact ⟨ret_bool (by rw [HF.out]; simp), by rw [HKK.out]; exact DB.out⟩
  have hcase : sm = false ∨ (sm = true ∧ (x.st != 1) = false ∧ (x.vote != 0) = false) := by
    have := HSV.out
    cases sm
    · exact .inl rfl
    · refine .inr ⟨rfl, ?_⟩
      simpa using this
  obtain ⟨a, b, ha, hb, ha7, hb10, _⟩ := name_in NB.out
  have HA := hid ha
  have HB := hid hb
  have hai : (a : Int) < 7 := by omega
  have HFF : Hid (docJ x = (rk && ob && decide (x.f (1 + a) = x.s))) := hid (by rw [HF.out, HA.out, Int.toNat_natCast]; simp)
  clear ha hb
  rcases hcase with rfl | ⟨rfl, h1, h2⟩
  all_goals
    cases rk
    · go_upto_region 7 with fail
      clear c2 c3 c4 c5 hb0
      refine wp_region_held_drew (S := (fun w' => Blk w' k 48 (rowJ x))) (by kernel_rfl) (by exact D0.out.drew) (fun hHeld => ?_)
      refine wpAnyH_take (i := 0) (oi := _) (v := ?_) rfl (by kernel_rfl) (by kernel_rfl) (by kernel_rfl) (fun _ _ _ h => h) (Or.inl ⟨by kernel_rfl, ?_⟩) hHeld ?_
      rotate_left 1
      focus (intro w' hSw; (try dsimp only at hSw); go_simp; try with_reducible rfl)
      try simp only [Act.put, List.getElem_toArray, List.getElem_cons_zero, List.getElem_cons_succ, List.setIfInBounds_toArray, List.set_cons_zero, List.set_cons_succ]
      refine wpAnyH_take (i := 1) (oi := _) (v := .agg (lsK x.c).toArray) rfl (by kernel_rfl) (by kernel_rfl) (by kernel_rfl) (fun _ _ _ h => h) (yieldsIf_load_mid (by kernel_rfl) 45 (.tmp 71) rfl k 6 rfl (lsK x.c) _ (fun _ h => Blk.jc h) Tryz.underlying45 rfl I1.out) hHeld ?_
      try simp only [Act.put, List.getElem_toArray, List.getElem_cons_zero, List.getElem_cons_succ, List.setIfInBounds_toArray, List.set_cons_zero, List.set_cons_succ]
      refine wpAnyH_ready (rs := [2]) (by kernel_rfl) (by simp) ?_
      refine AllReadyH.cons (o := _) rfl (fun K hK => ?_) AllReadyH.nil
      go_simp
      go_at_call 57
      with_reducible refine (refright8 x.c _ HK.out hf hp).mono ?_
      rw [RK.out]
      rintro e w3 ⟨rfl, hb⟩
      have E0 := hid (D0.out.drew.below hb D0.out.drew.lt)
      have EB := hid (below_pay (below_drew DB.out) DL.out hb)
      clear hb
      refine hK.out _ _ (by exact E0.out) (fun hHeld => ?_)
      clear hK K
      try simp only [Act.put, List.getElem_toArray, List.getElem_cons_zero, List.getElem_cons_succ, List.setIfInBounds_toArray, List.set_cons_zero, List.set_cons_succ]
      refine wpAnyH_take (i := 3) (oi := _) (v := ?_) rfl (by kernel_rfl) (by kernel_rfl) (by kernel_rfl) (fun _ _ _ h => h) (Or.inl ⟨by kernel_rfl, ?_⟩) hHeld ?_
      rotate_left 1
      focus (intro w' hSw; (try dsimp only at hSw); go_simp; try with_reducible rfl)
      try simp only [Act.put, List.getElem_toArray, List.getElem_cons_zero, List.getElem_cons_succ, List.setIfInBounds_toArray, List.set_cons_zero, List.set_cons_succ]
      refine wpAnyH_take (i := 4) (oi := _) (v := undef) rfl (by kernel_rfl) (by kernel_rfl) (by kernel_rfl) (fun _ _ _ h => h) (Or.inr ⟨by kernel_rfl, rfl⟩) hHeld ?_
      try simp only [Act.put, List.getElem_toArray, List.getElem_cons_zero, List.getElem_cons_succ, List.setIfInBounds_toArray, List.set_cons_zero, List.set_cons_succ]
      refine wpAnyH_take (i := 5) (oi := _) (v := undef) rfl (by kernel_rfl) (by kernel_rfl) (by kernel_rfl) (fun _ _ _ h => h) (Or.inr ⟨by kernel_rfl, rfl⟩) hHeld ?_
      try simp only [Act.put, List.getElem_toArray, List.getElem_cons_zero, List.getElem_cons_succ, List.setIfInBounds_toArray, List.set_cons_zero, List.set_cons_succ]
      refine wpAnyH_take (i := 6) (oi := _) (v := undef) rfl (by kernel_rfl) (by kernel_rfl) (by kernel_rfl) (fun _ _ _ h => h) (Or.inr ⟨by kernel_rfl, rfl⟩) hHeld ?_
      try simp only [Act.put, List.getElem_toArray, List.getElem_cons_zero, List.getElem_cons_succ, List.setIfInBounds_toArray, List.set_cons_zero, List.set_cons_succ]
      refine wpAnyH_take (i := 7) (oi := _) (v := ?_) rfl (by kernel_rfl) (by kernel_rfl) (by kernel_rfl) (fun _ _ _ h => h) (Or.inl ⟨by kernel_rfl, ?_⟩) hHeld ?_
      rotate_left 1
      focus (intro w' hSw; (try dsimp only at hSw); go_simp; try with_reducible rfl)
      try simp only [Act.put, List.getElem_toArray, List.getElem_cons_zero, List.getElem_cons_succ, List.setIfInBounds_toArray, List.set_cons_zero, List.set_cons_succ]
      refine wpAnyH_take (i := 8) (oi := _) (v := ?_) rfl (by kernel_rfl) (by kernel_rfl) (by kernel_rfl) (fun _ _ _ h => h) (Or.inl ⟨by kernel_rfl, ?_⟩) hHeld ?_
      rotate_left 1
      focus (intro w' hSw; (try dsimp only at hSw); go_simp; try with_reducible rfl)
      try simp only [Act.put, List.getElem_toArray, List.getElem_cons_zero, List.getElem_cons_succ, List.setIfInBounds_toArray, List.set_cons_zero, List.set_cons_succ]
      refine wpAnyH_take (i := 9) (oi := _) (v := undef) rfl (by kernel_rfl) (by kernel_rfl) (by kernel_rfl) (fun _ _ _ h => h) (Or.inr ⟨by kernel_rfl, rfl⟩) hHeld ?_
      try simp only [Act.put, List.getElem_toArray, List.getElem_cons_zero, List.getElem_cons_succ, List.setIfInBounds_toArray, List.set_cons_zero, List.set_cons_succ]
      refine wpAnyH_take (i := 10) (oi := _) (v := undef) rfl (by kernel_rfl) (by kernel_rfl) (by kernel_rfl) (fun _ _ _ h => h) (Or.inr ⟨by kernel_rfl, rfl⟩) hHeld ?_
      try simp only [Act.put, List.getElem_toArray, List.getElem_cons_zero, List.getElem_cons_succ, List.setIfInBounds_toArray, List.set_cons_zero, List.set_cons_succ]
      refine wpAnyH_take (i := 11) (oi := _) (v := undef) rfl (by kernel_rfl) (by kernel_rfl) (by kernel_rfl) (fun _ _ _ h => h) (Or.inr ⟨by kernel_rfl, rfl⟩) hHeld ?_
      try simp only [Act.put, List.getElem_toArray, List.getElem_cons_zero, List.getElem_cons_succ, List.setIfInBounds_toArray, List.set_cons_zero, List.set_cons_succ]
      refine wpAnyH_take (i := 12) (oi := _) (v := undef) rfl (by kernel_rfl) (by kernel_rfl) (by kernel_rfl) (fun _ _ _ h => h) (Or.inr ⟨by kernel_rfl, rfl⟩) hHeld ?_
      try simp only [Act.put, List.getElem_toArray, List.getElem_cons_zero, List.getElem_cons_succ, List.setIfInBounds_toArray, List.set_cons_zero, List.set_cons_succ]
      refine wpAnyH_take (i := 13) (oi := _) (v := undef) rfl (by kernel_rfl) (by kernel_rfl) (by kernel_rfl) (fun _ _ _ h => h) (Or.inr ⟨by kernel_rfl, rfl⟩) hHeld ?_
      try simp only [Act.put, List.getElem_toArray, List.getElem_cons_zero, List.getElem_cons_succ, List.setIfInBounds_toArray, List.set_cons_zero, List.set_cons_succ]
      refine wpAnyH_take (i := 14) (oi := _) (v := undef) rfl (by kernel_rfl) (by kernel_rfl) (by kernel_rfl) (fun _ _ _ h => h) (Or.inr ⟨by kernel_rfl, rfl⟩) hHeld ?_
      try simp only [Act.put, List.getElem_toArray, List.getElem_cons_zero, List.getElem_cons_succ, List.setIfInBounds_toArray, List.set_cons_zero, List.set_cons_succ]
      refine wpAnyH_take (i := 15) (oi := _) (v := undef) rfl (by kernel_rfl) (by kernel_rfl) (by kernel_rfl) (fun _ _ _ h => h) (Or.inr ⟨by kernel_rfl, rfl⟩) hHeld ?_
      try simp only [Act.put, List.getElem_toArray, List.getElem_cons_zero, List.getElem_cons_succ, List.setIfInBounds_toArray, List.set_cons_zero, List.set_cons_succ]
      refine wpAnyH_take (i := 16) (oi := _) (v := undef) rfl (by kernel_rfl) (by kernel_rfl) (by kernel_rfl) (fun _ _ _ h => h) (Or.inr ⟨by kernel_rfl, rfl⟩) hHeld ?_
      try simp only [Act.put, List.getElem_toArray, List.getElem_cons_zero, List.getElem_cons_succ, List.setIfInBounds_toArray, List.set_cons_zero, List.set_cons_succ]
      refine wpAnyH_take (i := 17) (oi := _) (v := undef) rfl (by kernel_rfl) (by kernel_rfl) (by kernel_rfl) (fun _ _ _ h => h) (Or.inr ⟨by kernel_rfl, rfl⟩) hHeld ?_
      try simp only [Act.put, List.getElem_toArray, List.getElem_cons_zero, List.getElem_cons_succ, List.setIfInBounds_toArray, List.set_cons_zero, List.set_cons_succ]
      refine wpAnyH_take (i := 18) (oi := _) (v := undef) rfl (by kernel_rfl) (by kernel_rfl) (by kernel_rfl) (fun _ _ _ h => h) (Or.inr ⟨by kernel_rfl, rfl⟩) hHeld ?_
      try simp only [Act.put, List.getElem_toArray, List.getElem_cons_zero, List.getElem_cons_succ, List.setIfInBounds_toArray, List.set_cons_zero, List.set_cons_succ]
      refine wpAnyH_take (i := 19) (oi := _) (v := undef) rfl (by kernel_rfl) (by kernel_rfl) (by kernel_rfl) (fun _ _ _ h => h) (Or.inr ⟨by kernel_rfl, rfl⟩) hHeld ?_
      try simp only [Act.put, List.getElem_toArray, List.getElem_cons_zero, List.getElem_cons_succ, List.setIfInBounds_toArray, List.set_cons_zero, List.set_cons_succ]
      refine wpAnyH_take (i := 20) (oi := _) (v := ?_) rfl (by kernel_rfl) (by kernel_rfl) (by kernel_rfl) (fun _ _ _ h => h) (Or.inl ⟨by kernel_rfl, ?_⟩) hHeld ?_
      rotate_left 1
      focus (intro w' hSw; (try dsimp only at hSw); go_simp; try with_reducible rfl)
      try simp only [Act.put, List.getElem_toArray, List.getElem_cons_zero, List.getElem_cons_succ, List.setIfInBounds_toArray, List.set_cons_zero, List.set_cons_succ]
      refine wpAnyH_take (i := 21) (oi := _) (v := ?_) rfl (by kernel_rfl) (by kernel_rfl) (by kernel_rfl) (fun _ _ _ h => h) (Or.inl ⟨by kernel_rfl, ?_⟩) hHeld ?_
      rotate_left 1
      focus (intro w' hSw; (try dsimp only at hSw); go_simp; try with_reducible rfl)
      try simp only [Act.put, List.getElem_toArray, List.getElem_cons_zero, List.getElem_cons_succ, List.setIfInBounds_toArray, List.set_cons_zero, List.set_cons_succ]
      refine wpAnyH_done (by kernel_rfl) ?_ _
      clear hHeld
      go_wp2
      go_ret
      exact ⟨ret_bool (by rw [HFF.out]; simp), by rw [HKK.out]; exact EB.out⟩
    cases ob
    · go_upto_region 7 with fail
      clear c2 c3 c4 c5 hb0
      refine wp_region_held_drew (S := (fun w' => Blk w' k 48 (rowJ x))) (by kernel_rfl) (by exact D0.out.drew) (fun hHeld => ?_)
      refine wpAnyH_take (i := 0) (oi := _) (v := ?_) rfl (by kernel_rfl) (by kernel_rfl) (by kernel_rfl) (fun _ _ _ h => h) (Or.inl ⟨by kernel_rfl, ?_⟩) hHeld ?_
      rotate_left 1
      focus (intro w' hSw; (try dsimp only at hSw); go_simp; try with_reducible rfl)
      try simp only [Act.put, List.getElem_toArray, List.getElem_cons_zero, List.getElem_cons_succ, List.setIfInBounds_toArray, List.set_cons_zero, List.set_cons_succ]
      refine wpAnyH_take (i := 1) (oi := _) (v := .agg (lsK x.c).toArray) rfl (by kernel_rfl) (by kernel_rfl) (by kernel_rfl) (fun _ _ _ h => h) (yieldsIf_load_mid (by kernel_rfl) 45 (.tmp 71) rfl k 6 rfl (lsK x.c) _ (fun _ h => Blk.jc h) Tryz.underlying45 rfl I1.out) hHeld ?_
      try simp only [Act.put, List.getElem_toArray, List.getElem_cons_zero, List.getElem_cons_succ, List.setIfInBounds_toArray, List.set_cons_zero, List.set_cons_succ]
      refine wpAnyH_ready (rs := [2]) (by kernel_rfl) (by simp) ?_
      refine AllReadyH.cons (o := _) rfl (fun K hK => ?_) AllReadyH.nil
      go_simp
      go_at_call 57
      with_reducible refine (refright8 x.c _ HK.out hf hp).mono ?_
      rw [RK.out]
      rintro e w3 ⟨rfl, hb⟩
      have E0 := hid (D0.out.drew.below hb D0.out.drew.lt)
      have EB := hid (below_pay (below_drew DB.out) DL.out hb)
      clear hb
      refine hK.out _ _ (by exact E0.out) (fun hHeld => ?_)
      clear hK K
      try simp only [Act.put, List.getElem_toArray, List.getElem_cons_zero, List.getElem_cons_succ, List.setIfInBounds_toArray, List.set_cons_zero, List.set_cons_succ]
      refine wpAnyH_take (i := 3) (oi := _) (v := ?_) rfl (by kernel_rfl) (by kernel_rfl) (by kernel_rfl) (fun _ _ _ h => h) (Or.inl ⟨by kernel_rfl, ?_⟩) hHeld ?_
      rotate_left 1
      focus (intro w' hSw; (try dsimp only at hSw); go_simp; try with_reducible rfl)
      try simp only [Act.put, List.getElem_toArray, List.getElem_cons_zero, List.getElem_cons_succ, List.setIfInBounds_toArray, List.set_cons_zero, List.set_cons_succ]
      refine wpAnyH_take (i := 4) (oi := _) (v := ?_) rfl (by kernel_rfl) (by kernel_rfl) (by kernel_rfl) (fun _ _ _ h => h) (Or.inl ⟨by kernel_rfl, ?_⟩) hHeld ?_
      rotate_left 1
      focus (intro w' hSw; (try dsimp only at hSw); go_simp; try with_reducible rfl)
      try simp only [Act.put, List.getElem_toArray, List.getElem_cons_zero, List.getElem_cons_succ, List.setIfInBounds_toArray, List.set_cons_zero, List.set_cons_succ]
      refine wpAnyH_take (i := 5) (oi := _) (v := .agg (ls8 x.f).toArray) rfl (by kernel_rfl) (by kernel_rfl) (by kernel_rfl) (fun _ _ _ h => h) (yieldsIf_load_mid (by kernel_rfl) 46 (.tmp 75) rfl k 14 rfl (ls8 x.f) _ (fun _ h => Blk.ja h) Tryz.underlying46 rfl I2.out) hHeld ?_
      try simp only [Act.put, List.getElem_toArray, List.getElem_cons_zero, List.getElem_cons_succ, List.setIfInBounds_toArray, List.set_cons_zero, List.set_cons_succ]
      refine wpAnyH_ready (rs := [6]) (by kernel_rfl) (by simp) ?_
      refine AllReadyH.cons (o := _) rfl (fun K hK => ?_) AllReadyH.nil
      go_simp
      go_at_call 58
      with_reducible refine (refaright9 x.f _).mono ?_
      rw [OB.out]
      rintro e w4 ⟨rfl, hb⟩
      have F0 := hid (E0.out.below hb E0.out.lt)
      have FB := hid (below_pay EB.out (by have := E0.out.lt; omega) hb)
      clear hb
      refine hK.out _ _ (by exact F0.out) (fun hHeld => ?_)
      clear hK K
      try simp only [Act.put, List.getElem_toArray, List.getElem_cons_zero, List.getElem_cons_succ, List.setIfInBounds_toArray, List.set_cons_zero, List.set_cons_succ]
      refine wpAnyH_take (i := 7) (oi := _) (v := ?_) rfl (by kernel_rfl) (by kernel_rfl) (by kernel_rfl) (fun _ _ _ h => h) (Or.inl ⟨by kernel_rfl, ?_⟩) hHeld ?_
      rotate_left 1
      focus (intro w' hSw; (try dsimp only at hSw); go_simp; try with_reducible rfl)
      try simp only [Act.put, List.getElem_toArray, List.getElem_cons_zero, List.getElem_cons_succ, List.setIfInBounds_toArray, List.set_cons_zero, List.set_cons_succ]
      refine wpAnyH_take (i := 8) (oi := _) (v := ?_) rfl (by kernel_rfl) (by kernel_rfl) (by kernel_rfl) (fun _ _ _ h => h) (Or.inl ⟨by kernel_rfl, ?_⟩) hHeld ?_
      rotate_left 1
      focus (intro w' hSw; (try dsimp only at hSw); go_simp; try with_reducible rfl)
      try simp only [Act.put, List.getElem_toArray, List.getElem_cons_zero, List.getElem_cons_succ, List.setIfInBounds_toArray, List.set_cons_zero, List.set_cons_succ]
      refine wpAnyH_take (i := 9) (oi := _) (v := undef) rfl (by kernel_rfl) (by kernel_rfl) (by kernel_rfl) (fun _ _ _ h => h) (Or.inr ⟨by kernel_rfl, rfl⟩) hHeld ?_
      try simp only [Act.put, List.getElem_toArray, List.getElem_cons_zero, List.getElem_cons_succ, List.setIfInBounds_toArray, List.set_cons_zero, List.set_cons_succ]
      refine wpAnyH_take (i := 10) (oi := _) (v := undef) rfl (by kernel_rfl) (by kernel_rfl) (by kernel_rfl) (fun _ _ _ h => h) (Or.inr ⟨by kernel_rfl, rfl⟩) hHeld ?_
      try simp only [Act.put, List.getElem_toArray, List.getElem_cons_zero, List.getElem_cons_succ, List.setIfInBounds_toArray, List.set_cons_zero, List.set_cons_succ]
      refine wpAnyH_take (i := 11) (oi := _) (v := undef) rfl (by kernel_rfl) (by kernel_rfl) (by kernel_rfl) (fun _ _ _ h => h) (Or.inr ⟨by kernel_rfl, rfl⟩) hHeld ?_
      try simp only [Act.put, List.getElem_toArray, List.getElem_cons_zero, List.getElem_cons_succ, List.setIfInBounds_toArray, List.set_cons_zero, List.set_cons_succ]
      refine wpAnyH_take (i := 12) (oi := _) (v := undef) rfl (by kernel_rfl) (by kernel_rfl) (by kernel_rfl) (fun _ _ _ h => h) (Or.inr ⟨by kernel_rfl, rfl⟩) hHeld ?_
      try simp only [Act.put, List.getElem_toArray, List.getElem_cons_zero, List.getElem_cons_succ, List.setIfInBounds_toArray, List.set_cons_zero, List.set_cons_succ]
      refine wpAnyH_take (i := 13) (oi := _) (v := undef) rfl (by kernel_rfl) (by kernel_rfl) (by kernel_rfl) (fun _ _ _ h => h) (Or.inr ⟨by kernel_rfl, rfl⟩) hHeld ?_
      try simp only [Act.put, List.getElem_toArray, List.getElem_cons_zero, List.getElem_cons_succ, List.setIfInBounds_toArray, List.set_cons_zero, List.set_cons_succ]
      refine wpAnyH_take (i := 14) (oi := _) (v := undef) rfl (by kernel_rfl) (by kernel_rfl) (by kernel_rfl) (fun _ _ _ h => h) (Or.inr ⟨by kernel_rfl, rfl⟩) hHeld ?_
      try simp only [Act.put, List.getElem_toArray, List.getElem_cons_zero, List.getElem_cons_succ, List.setIfInBounds_toArray, List.set_cons_zero, List.set_cons_succ]
      refine wpAnyH_take (i := 15) (oi := _) (v := undef) rfl (by kernel_rfl) (by kernel_rfl) (by kernel_rfl) (fun _ _ _ h => h) (Or.inr ⟨by kernel_rfl, rfl⟩) hHeld ?_
      try simp only [Act.put, List.getElem_toArray, List.getElem_cons_zero, List.getElem_cons_succ, List.setIfInBounds_toArray, List.set_cons_zero, List.set_cons_succ]
      refine wpAnyH_take (i := 16) (oi := _) (v := undef) rfl (by kernel_rfl) (by kernel_rfl) (by kernel_rfl) (fun _ _ _ h => h) (Or.inr ⟨by kernel_rfl, rfl⟩) hHeld ?_
      try simp only [Act.put, List.getElem_toArray, List.getElem_cons_zero, List.getElem_cons_succ, List.setIfInBounds_toArray, List.set_cons_zero, List.set_cons_succ]
      refine wpAnyH_take (i := 17) (oi := _) (v := undef) rfl (by kernel_rfl) (by kernel_rfl) (by kernel_rfl) (fun _ _ _ h => h) (Or.inr ⟨by kernel_rfl, rfl⟩) hHeld ?_
      try simp only [Act.put, List.getElem_toArray, List.getElem_cons_zero, List.getElem_cons_succ, List.setIfInBounds_toArray, List.set_cons_zero, List.set_cons_succ]
      refine wpAnyH_take (i := 18) (oi := _) (v := undef) rfl (by kernel_rfl) (by kernel_rfl) (by kernel_rfl) (fun _ _ _ h => h) (Or.inr ⟨by kernel_rfl, rfl⟩) hHeld ?_
      try simp only [Act.put, List.getElem_toArray, List.getElem_cons_zero, List.getElem_cons_succ, List.setIfInBounds_toArray, List.set_cons_zero, List.set_cons_succ]
      refine wpAnyH_take (i := 19) (oi := _) (v := undef) rfl (by kernel_rfl) (by kernel_rfl) (by kernel_rfl) (fun _ _ _ h => h) (Or.inr ⟨by kernel_rfl, rfl⟩) hHeld ?_
      try simp only [Act.put, List.getElem_toArray, List.getElem_cons_zero, List.getElem_cons_succ, List.setIfInBounds_toArray, List.set_cons_zero, List.set_cons_succ]
      refine wpAnyH_take (i := 20) (oi := _) (v := ?_) rfl (by kernel_rfl) (by kernel_rfl) (by kernel_rfl) (fun _ _ _ h => h) (Or.inl ⟨by kernel_rfl, ?_⟩) hHeld ?_
      rotate_left 1
      focus (intro w' hSw; (try dsimp only at hSw); go_simp; try with_reducible rfl)
      try simp only [Act.put, List.getElem_toArray, List.getElem_cons_zero, List.getElem_cons_succ, List.setIfInBounds_toArray, List.set_cons_zero, List.set_cons_succ]
      refine wpAnyH_take (i := 21) (oi := _) (v := ?_) rfl (by kernel_rfl) (by kernel_rfl) (by kernel_rfl) (fun _ _ _ h => h) (Or.inl ⟨by kernel_rfl, ?_⟩) hHeld ?_
      rotate_left 1
      focus (intro w' hSw; (try dsimp only at hSw); go_simp; try with_reducible rfl)
      try simp only [Act.put, List.getElem_toArray, List.getElem_cons_zero, List.getElem_cons_succ, List.setIfInBounds_toArray, List.set_cons_zero, List.set_cons_succ]
      refine wpAnyH_done (by kernel_rfl) ?_ _
      clear hHeld
      go_wp2
      go_ret
      exact ⟨ret_bool (by rw [HFF.out]; simp), by rw [HKK.out]; exact FB.out⟩
    · go_upto_region 7 with fail
      clear c2 c3 c4 c5 hb0
      refine wp_region_held_drew (S := (fun w' => Blk w' k 48 (rowJ x))) (by kernel_rfl) (by exact D0.out.drew) (fun hHeld => ?_)
      refine wpAnyH_take (i := 0) (oi := _) (v := ?_) rfl (by kernel_rfl) (by kernel_rfl) (by kernel_rfl) (fun _ _ _ h => h) (Or.inl ⟨by kernel_rfl, ?_⟩) hHeld ?_
      rotate_left 1
      focus (intro w' hSw; (try dsimp only at hSw); go_simp; try with_reducible rfl)
      try simp only [Act.put, List.getElem_toArray, List.getElem_cons_zero, List.getElem_cons_succ, List.setIfInBounds_toArray, List.set_cons_zero, List.set_cons_succ]
      refine wpAnyH_take (i := 1) (oi := _) (v := .agg (lsK x.c).toArray) rfl (by kernel_rfl) (by kernel_rfl) (by kernel_rfl) (fun _ _ _ h => h) (yieldsIf_load_mid (by kernel_rfl) 45 (.tmp 71) rfl k 6 rfl (lsK x.c) _ (fun _ h => Blk.jc h) Tryz.underlying45 rfl I1.out) hHeld ?_
      try simp only [Act.put, List.getElem_toArray, List.getElem_cons_zero, List.getElem_cons_succ, List.setIfInBounds_toArray, List.set_cons_zero, List.set_cons_succ]
      refine wpAnyH_ready (rs := [2]) (by kernel_rfl) (by simp) ?_
      refine AllReadyH.cons (o := _) rfl (fun K hK => ?_) AllReadyH.nil
      go_simp
      go_at_call 57
      with_reducible refine (refright8 x.c _ HK.out hf hp).mono ?_
      rw [RK.out]
      rintro e w3 ⟨rfl, hb⟩
      have E0 := hid (D0.out.drew.below hb D0.out.drew.lt)
      have EB := hid (below_pay (below_drew DB.out) DL.out hb)
      clear hb
      refine hK.out _ _ (by exact E0.out) (fun hHeld => ?_)
      clear hK K
      try simp only [Act.put, List.getElem_toArray, List.getElem_cons_zero, List.getElem_cons_succ, List.setIfInBounds_toArray, List.set_cons_zero, List.set_cons_succ]
      refine wpAnyH_take (i := 3) (oi := _) (v := ?_) rfl (by kernel_rfl) (by kernel_rfl) (by kernel_rfl) (fun _ _ _ h => h) (Or.inl ⟨by kernel_rfl, ?_⟩) hHeld ?_
      rotate_left 1
      focus (intro w' hSw; (try dsimp only at hSw); go_simp; try with_reducible rfl)
      try simp only [Act.put, List.getElem_toArray, List.getElem_cons_zero, List.getElem_cons_succ, List.setIfInBounds_toArray, List.set_cons_zero, List.set_cons_succ]
      refine wpAnyH_take (i := 4) (oi := _) (v := ?_) rfl (by kernel_rfl) (by kernel_rfl) (by kernel_rfl) (fun _ _ _ h => h) (Or.inl ⟨by kernel_rfl, ?_⟩) hHeld ?_
      rotate_left 1
      focus (intro w' hSw; (try dsimp only at hSw); go_simp; try with_reducible rfl)
      try simp only [Act.put, List.getElem_toArray, List.getElem_cons_zero, List.getElem_cons_succ, List.setIfInBounds_toArray, List.set_cons_zero, List.set_cons_succ]
      refine wpAnyH_take (i := 5) (oi := _) (v := .agg (ls8 x.f).toArray) rfl (by kernel_rfl) (by kernel_rfl) (by kernel_rfl) (fun _ _ _ h => h) (yieldsIf_load_mid (by kernel_rfl) 46 (.tmp 75) rfl k 14 rfl (ls8 x.f) _ (fun _ h => Blk.ja h) Tryz.underlying46 rfl I2.out) hHeld ?_
      try simp only [Act.put, List.getElem_toArray, List.getElem_cons_zero, List.getElem_cons_succ, List.setIfInBounds_toArray, List.set_cons_zero, List.set_cons_succ]
      refine wpAnyH_ready (rs := [6]) (by kernel_rfl) (by simp) ?_
      refine AllReadyH.cons (o := _) rfl (fun K hK => ?_) AllReadyH.nil
      go_simp
      go_at_call 58
      with_reducible refine (refaright9 x.f _).mono ?_
      rw [OB.out]
      rintro e w4 ⟨rfl, hb⟩
      have F0 := hid (E0.out.below hb E0.out.lt)
      have FB := hid (below_pay EB.out (by have := E0.out.lt; omega) hb)
      clear hb
      refine hK.out _ _ (by exact F0.out) (fun hHeld => ?_)
      clear hK K
      try simp only [Act.put, List.getElem_toArray, List.getElem_cons_zero, List.getElem_cons_succ, List.setIfInBounds_toArray, List.set_cons_zero, List.set_cons_succ]
      refine wpAnyH_take (i := 7) (oi := _) (v := ?_) rfl (by kernel_rfl) (by kernel_rfl) (by kernel_rfl) (fun _ _ _ h => h) (Or.inl ⟨by kernel_rfl, ?_⟩) hHeld ?_
      rotate_left 1
      focus (intro w' hSw; (try dsimp only at hSw); go_simp; try with_reducible rfl)
      try simp only [Act.put, List.getElem_toArray, List.getElem_cons_zero, List.getElem_cons_succ, List.setIfInBounds_toArray, List.set_cons_zero, List.set_cons_succ]
      refine wpAnyH_take (i := 8) (oi := _) (v := ?_) rfl (by kernel_rfl) (by kernel_rfl) (by kernel_rfl) (fun _ _ _ h => h) (Or.inl ⟨by kernel_rfl, ?_⟩) hHeld ?_
      rotate_left 1
      focus (intro w' hSw; (try dsimp only at hSw); go_simp; try with_reducible rfl)
      try simp only [Act.put, List.getElem_toArray, List.getElem_cons_zero, List.getElem_cons_succ, List.setIfInBounds_toArray, List.set_cons_zero, List.set_cons_succ]
      refine wpAnyH_take (i := 9) (oi := _) (v := ?_) rfl (by kernel_rfl) (by kernel_rfl) (by kernel_rfl) (fun _ _ _ h => h) (Or.inl ⟨by kernel_rfl, ?_⟩) hHeld ?_
      rotate_left 1
      focus (intro w' hSw; (try dsimp only at hSw); go_simp; try with_reducible rfl)
      try simp only [Act.put, List.getElem_toArray, List.getElem_cons_zero, List.getElem_cons_succ, List.setIfInBounds_toArray, List.set_cons_zero, List.set_cons_succ]
      refine wpAnyH_take (i := 10) (oi := _) (v := ?_) rfl (by kernel_rfl) (by kernel_rfl) (by kernel_rfl) (fun _ _ _ h => h) (Or.inl ⟨by kernel_rfl, ?_⟩) hHeld ?_
      rotate_left 1
      focus (intro w' hSw; (try dsimp only at hSw); go_simp; try with_reducible rfl)
      try simp only [Act.put, List.getElem_toArray, List.getElem_cons_zero, List.getElem_cons_succ, List.setIfInBounds_toArray, List.set_cons_zero, List.set_cons_succ]
      refine wpAnyH_take (i := 11) (oi := _) (v := ?_) rfl (by kernel_rfl) (by kernel_rfl) (by kernel_rfl) (fun _ _ _ h => h) (Or.inl ⟨by kernel_rfl, ?_⟩) hHeld ?_
      rotate_left 1
      focus (intro w' hSw; (try dsimp only at hSw); have q0 := (Blk.j0 hSw).trans (by rw [HA.out]); go_simp; try with_reducible rfl)
      try simp only [Act.put, List.getElem_toArray, List.getElem_cons_zero, List.getElem_cons_succ, List.setIfInBounds_toArray, List.set_cons_zero, List.set_cons_succ]
      refine wpAnyH_take (i := 12) (oi := _) (v := ?_) rfl (by kernel_rfl) (by kernel_rfl) (by kernel_rfl) (fun _ _ _ h => h) (Or.inl ⟨by kernel_rfl, ?_⟩) hHeld ?_
      rotate_left 1
      focus (intro w' hSw; (try dsimp only at hSw); go_simp; try with_reducible rfl)
      try simp only [Act.put, List.getElem_toArray, List.getElem_cons_zero, List.getElem_cons_succ, List.setIfInBounds_toArray, List.set_cons_zero, List.set_cons_succ]
      refine wpAnyH_take (i := 13) (oi := _) (v := ?_) rfl (by kernel_rfl) (by kernel_rfl) (by kernel_rfl) (fun _ _ _ h => h) (Or.inl ⟨by kernel_rfl, ?_⟩) hHeld ?_
      rotate_left 1
      focus (intro w' hSw; (try dsimp only at hSw); go_simp; try with_reducible rfl)
      try simp only [Act.put, List.getElem_toArray, List.getElem_cons_zero, List.getElem_cons_succ, List.setIfInBounds_toArray, List.set_cons_zero, List.set_cons_succ]
      refine wpAnyH_take (i := 14) (oi := _) (v := ?_) rfl (by kernel_rfl) (by kernel_rfl) (by kernel_rfl) (fun _ _ _ h => h) (Or.inl ⟨by kernel_rfl, ?_⟩) hHeld ?_
      rotate_left 1
      focus (intro w' hSw; (try dsimp only at hSw); go_simp; try with_reducible rfl)
      try simp only [Act.put, List.getElem_toArray, List.getElem_cons_zero, List.getElem_cons_succ, List.setIfInBounds_toArray, List.set_cons_zero, List.set_cons_succ]
      refine wpAnyH_take (i := 15) (oi := _) (v := ?_) rfl (by kernel_rfl) (by kernel_rfl) (by kernel_rfl) (fun _ _ _ h => h) (Or.inl ⟨by kernel_rfl, ?_⟩) hHeld ?_
      rotate_left 1
      focus (intro w' hSw; (try dsimp only at hSw); have q0 := Blk.jd hSw ha7; go_simp; try with_reducible rfl)
      try simp only [Act.put, List.getElem_toArray, List.getElem_cons_zero, List.getElem_cons_succ, List.setIfInBounds_toArray, List.set_cons_zero, List.set_cons_succ]
      refine wpAnyH_take (i := 16) (oi := _) (v := ?_) rfl (by kernel_rfl) (by kernel_rfl) (by kernel_rfl) (fun _ _ _ h => h) (Or.inl ⟨by kernel_rfl, ?_⟩) hHeld ?_
      rotate_left 1
      focus (intro w' hSw; (try dsimp only at hSw); go_simp; try with_reducible rfl)
      try simp only [Act.put, List.getElem_toArray, List.getElem_cons_zero, List.getElem_cons_succ, List.setIfInBounds_toArray, List.set_cons_zero, List.set_cons_succ]
      refine wpAnyH_take (i := 17) (oi := _) (v := ?_) rfl (by kernel_rfl) (by kernel_rfl) (by kernel_rfl) (fun _ _ _ h => h) (Or.inl ⟨by kernel_rfl, ?_⟩) hHeld ?_
      rotate_left 1
      focus (intro w' hSw; (try dsimp only at hSw); go_simp; try with_reducible rfl)
      try simp only [Act.put, List.getElem_toArray, List.getElem_cons_zero, List.getElem_cons_succ, List.setIfInBounds_toArray, List.set_cons_zero, List.set_cons_succ]
      refine wpAnyH_take (i := 18) (oi := _) (v := ?_) rfl (by kernel_rfl) (by kernel_rfl) (by kernel_rfl) (fun _ _ _ h => h) (Or.inl ⟨by kernel_rfl, ?_⟩) hHeld ?_
      rotate_left 1
      focus (intro w' hSw; (try dsimp only at hSw); have q0 := Blk.j1 hSw; go_simp; try with_reducible rfl)
      try simp only [Act.put, List.getElem_toArray, List.getElem_cons_zero, List.getElem_cons_succ, List.setIfInBounds_toArray, List.set_cons_zero, List.set_cons_succ]
      refine wpAnyH_take (i := 19) (oi := _) (v := ?_) rfl (by kernel_rfl) (by kernel_rfl) (by kernel_rfl) (fun _ _ _ h => h) (Or.inl ⟨by kernel_rfl, ?_⟩) hHeld ?_
      rotate_left 1
      focus (intro w' hSw; (try dsimp only at hSw); go_simp; try with_reducible rfl)
      try simp only [Act.put, List.getElem_toArray, List.getElem_cons_zero, List.getElem_cons_succ, List.setIfInBounds_toArray, List.set_cons_zero, List.set_cons_succ]
      refine wpAnyH_take (i := 20) (oi := _) (v := ?_) rfl (by kernel_rfl) (by kernel_rfl) (by kernel_rfl) (fun _ _ _ h => h) (Or.inl ⟨by kernel_rfl, ?_⟩) hHeld ?_
      rotate_left 1
      focus (intro w' hSw; (try dsimp only at hSw); go_simp; try with_reducible rfl)
      try simp only [Act.put, List.getElem_toArray, List.getElem_cons_zero, List.getElem_cons_succ, List.setIfInBounds_toArray, List.set_cons_zero, List.set_cons_succ]
      refine wpAnyH_take (i := 21) (oi := _) (v := ?_) rfl (by kernel_rfl) (by kernel_rfl) (by kernel_rfl) (fun _ _ _ h => h) (Or.inl ⟨by kernel_rfl, ?_⟩) hHeld ?_
      rotate_left 1
      focus (intro w' hSw; (try dsimp only at hSw); go_simp; try with_reducible rfl)
      try simp only [Act.put, List.getElem_toArray, List.getElem_cons_zero, List.getElem_cons_succ, List.setIfInBounds_toArray, List.set_cons_zero, List.set_cons_succ]
      refine wpAnyH_done (by kernel_rfl) ?_ _
      clear hHeld
      go_wp2
      go_ret
      exact ⟨ret_bool (by rw [HFF.out]; rw [Bool.eq_iff_iff]; simp), by rw [HKK.out]; exact FB.out⟩
end Go.Proofs.YtohffiehmmcgbaaGreatDoor
