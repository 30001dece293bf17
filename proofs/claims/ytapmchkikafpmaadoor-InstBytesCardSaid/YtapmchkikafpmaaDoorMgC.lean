/-
  The document's own Right of a state (moothillref10), and the laws' of.
-/
import Derived.Test.YtapmchkikafpmaaDoorMgA
import Derived.Test.YtapmchkikafpmaaDoorMgD
import Derived.Test.YtapmchkikafpmaaDoorMgB
import Derived.Test.YtapmchkikafpmaaDoorRows
import Derived.Test.YtapmchkikafpmaaDoorKBase
import Derived.ProofKit
import Derived.LaidMore
import Derived.LaidLaws
import Derived.LaidHandle
import Derived.MakeChecks
import Derived.OpenShut
import Derived.Stop.Joined
import Derived.Lib.LaidTab
import Derived.Test.YtapmchkikafpmaaDoorAEq
import Derived.Test.YtapmchkikafpmaaDoorCards
import Derived.Test.YtapmchkikafpmaaDoorTie
import Derived.SevenTiedAt
import Derived.Lib.SmallJoins
namespace Go.Proofs.YtapmchkikafpmaaDoor
open Go.ChangeShapes Go.WideShapes Go.ChangeAt Go.RowKit Go.Lib
set_option linter.unusedVariables false
set_option linter.unusedSimpArgs false

theorem info_refx : (Tryd.prog.info? 45).map (·.size) = some 22 := by kernel_rfl
theorem len_refx (x : J) : (Tryd.prog.info? 45).map (·.size) = some (rowJ x).size := by rw [rowJ_size]; exact info_refx
theorem info_refc8 (c : K) : (Tryd.prog.info? 42).map (·.size) = some (lsK c).length := by kernel_rfl
theorem info_refa8 (f : Nat → Int) : (Tryd.prog.info? 43).map (·.size) = some (ls8 f).length := by kernel_rfl
theorem refballot_int (b : Int) (w : World) (hb : 0 ≤ b ∧ b < 4294967296) :
    Calls Tryd.prog 19 #[.int .u32 b] w fun e w' => e = .returned (.bool (balB b)) ∧ w = w' := by
  obtain ⟨n, rfl⟩ : ∃ n : Nat, b = (n : Int) := ⟨b.toNat, by omega⟩
  have := refballot_any n w (by omega)
  unfold balB
  rw [Int.toNat_natCast]
  exact this
theorem refaright9 (f : Nat → Int) (w : World) : Calls Tryd.prog 21 #[.agg (ls8 f).toArray] w fun e w' => e = .returned (.bool (okB f)) ∧ Below w.heap.size w w' := refaright_any f w
theorem refright8 (c : K) (w : World) (ho : okK c) (hf : c.foot.size ≤ 900) (hp : c.path.size ≤ 900) : Calls Tryd.prog 20 #[.agg (lsK c).toArray] w fun e w' => e = .returned (.bool (rightK c)) ∧ Below w.heap.size w w' := refright7 c w ho hf hp
theorem Blk.jd {w : World} {g : Nat} {T : TypeId} {x : J} (h : Blk w g T (rowJ x)) {a : Nat} (ha : a < 7) : w.cell? ⟨g, 15 + a, none⟩ = some (.int .i64 (x.f (1 + a))) := by
  rw [h.cell]
  have e : a = 0 ∨ a = 1 ∨ a = 2 ∨ a = 3 ∨ a = 4 ∨ a = 5 ∨ a = 6 := by omega
  rcases e with rfl | rfl | rfl | rfl | rfl | rfl | rfl <;> rfl

/-- The document's, in its own order. -/
def docJ (x : J) : Bool := nameB x.r x.s && balB x.bal && balB x.vote && decide (x.vote ≤ x.bal) && decide (0 ≤ x.st) && decide (x.st ≤ 3) &&
  (if x.st = 0 then (x.vote == 0) && !x.same && decide (x.c = zeroK) && eqA x.f (fun _ => 0) else
    !(x.same && ((x.st != 1) || (x.vote != 0))) && (rightK x.c && okB x.f && decide (x.f (1 + x.r.toNat) = x.s)))
theorem doc_rightJ (x : J) (hok : okJ x) : docJ x = rightJ x := by
  obtain ⟨⟨b0, b1⟩, v0, v1⟩ := hok
  unfold docJ rightJ valB eqJ emptyJ maySame statB ownB
  simp only
  cases nameB x.r x.s <;> cases balB x.bal
  · simp
  · simp
  · simp
  by_cases h0 : x.st = 0
  · rw [if_pos h0, if_pos h0]
    by_cases hv : x.vote = 0
    · have hb : balB x.vote = true := by rw [hv]; decide
      have hle : decide (x.vote ≤ x.bal) = true := decide_eq_true (by omega)
      rw [hb, hle, h0]
      simp [hv, Bool.and_assoc]
    · have hvb : (x.vote == 0) = false := beq_eq_false_iff_ne.2 hv
      rw [hvb]; simp
  · rw [if_neg h0, if_neg h0]
    cases balB x.vote <;> cases hle : decide (x.vote ≤ x.bal) <;> cases rightK x.c <;> cases okB x.f <;> cases x.same <;> simp
    all_goals (rw [Bool.eq_iff_iff]; simp; try omega)

set_option maxRecDepth 100000 in
set_option maxHeartbeats 8000000 in
theorem refxright_any (x : J) (hok : okJ x) (hK : okK x.c) (w : World) (hf : x.c.foot.size ≤ 900) (hp : x.c.path.size ≤ 900) :
    Calls Tryd.prog 10 #[.agg (rowJ x)] w fun e w' => e = .returned (.bool (rightJ x)) ∧ Below w.heap.size w w' := by
  rw [← doc_rightJ x hok]
  obtain ⟨nb, hnb⟩ : ∃ a, nameB x.r x.s = a := ⟨_, rfl⟩
  obtain ⟨ba, hba⟩ : ∃ a, balB x.bal = a := ⟨_, rfl⟩
  obtain ⟨bv, hbv⟩ : ∃ a, balB x.vote = a := ⟨_, rfl⟩
  obtain ⟨rk, hrk⟩ : ∃ a, rightK x.c = a := ⟨_, rfl⟩
  obtain ⟨ob, hob⟩ : ∃ a, okB x.f = a := ⟨_, rfl⟩
  obtain ⟨sm, hsm⟩ : ∃ a, x.same = a := ⟨_, rfl⟩
  obtain ⟨ek, hek⟩ : ∃ a, decide (x.c = zeroK) = a := ⟨_, rfl⟩
  obtain ⟨ea, hea⟩ : ∃ a, eqA x.f (fun _ => 0) = a := ⟨_, rfl⟩
  have HV : Hid (docJ x = (nb && ba && bv && decide (x.vote ≤ x.bal) && decide (0 ≤ x.st) && decide (x.st ≤ 3) &&
    (if x.st = 0 then (x.vote == 0) && !sm && ek && ea else !(sm && ((x.st != 1) || (x.vote != 0))) && (rk && ob && decide (x.f (1 + x.r.toNat) = x.s))))) := hid (by unfold docJ; rw [hnb, hba, hbv, hrk, hob, hsm, hek, hea])
  have HO := hid hok
  have NB := hid hnb
  have BA := hid hba
  have BV := hid hbv
  have RK := hid hrk
  have OB := hid hob
  have SM := hid hsm
  have EK := hid hek
  have EA := hid hea
  have HK := hid hK
  clear hok hnb hba hbv hrk hob hsm hek hea hK
  go_enter Tryd.func10, Tryd.ntmps10
  go_upto_region 1 with fail
  obtain ⟨W, hW⟩ : ∃ W, w.alloc (.cells (rowJ x) 45) = W := ⟨_, rfl⟩
  rw [hW]
  obtain ⟨K0, KB⟩ := one_new hW
  clear hW
  obtain ⟨k, hk⟩ : ∃ k, w.heap.size = k := ⟨_, rfl⟩
  rw [hk] at K0 KB
  rw [hk]
  have HKK := hid hk
  clear hk
  have c0 := K0.out.j0
  have c1 := K0.out.j1
  have HKL := hid (show k ≤ W.heap.size by have := K0.out.lt; omega)
  go_wp2_with fail
  with_reducible refine (nrefright_any x.r x.s _).mono ?_
  rw [NB.out]
  rintro e w1 ⟨rfl, hb⟩
  have D0 := hid (K0.out.below hb K0.out.lt)
  have DB := hid (below_pay KB.out HKL.out hb)
  have DL := hid (show k ≤ w1.heap.size by have := D0.out.lt; omega)
  clear hb c0 c1 K0 KB HKL
  have c2 := D0.out.j2
  have c3 := D0.out.j3
  have c4 := D0.out.j4
  have c5 := D0.out.j5
  rw [SM.out] at c5
  cases nb
  · go_wp2
    go_ret
    exact ⟨ret_bool (by rw [HV.out]; simp), by rw [HKK.out]; exact DB.out⟩
  go_wp2_with fail
  with_reducible refine (refballot_int x.bal _ HO.out.bal').mono ?_
  rw [BA.out]
  rintro e w2 ⟨rfl, rfl⟩
  cases ba
  · go_wp2
    go_ret
    exact ⟨ret_bool (by rw [HV.out]; simp), by rw [HKK.out]; exact DB.out⟩
  go_wp2_with fail
  with_reducible refine (refballot_int x.vote _ HO.out.vote).mono ?_
  rw [BV.out]
  rintro e w2 ⟨rfl, rfl⟩
  cases bv
  · go_wp2
    go_ret
    exact ⟨ret_bool (by rw [HV.out]; simp), by rw [HKK.out]; exact DB.out⟩
  rcases Int.lt_or_le x.bal x.vote with hle | hle
  · have HD : Hid (decide (x.vote ≤ x.bal) = false) := hid (decide_eq_false (by omega))
    go_wp2
    go_ret
    exact ⟨ret_bool (by rw [HV.out, HD.out]; simp), by rw [HKK.out]; exact DB.out⟩
  have HD : Hid (decide (x.vote ≤ x.bal) = true) := hid (decide_eq_true hle)
  rcases Int.lt_or_le x.st 0 with hs0 | hs0
  · have HD2 : Hid (decide (0 ≤ x.st) = false) := hid (decide_eq_false (by omega))
    go_wp2
    go_ret
    exact ⟨ret_bool (by rw [HV.out, HD.out, HD2.out]; simp), by rw [HKK.out]; exact DB.out⟩
  have HD2 : Hid (decide (0 ≤ x.st) = true) := hid (decide_eq_true hs0)
  rcases Int.lt_or_le 3 x.st with hs3 | hs3
  · have HD3 : Hid (decide (x.st ≤ 3) = false) := hid (decide_eq_false (by omega))
    go_wp2
    go_ret
    exact ⟨ret_bool (by rw [HV.out, HD.out, HD2.out, HD3.out]; simp), by rw [HKK.out]; exact DB.out⟩
  have HD3 : Hid (decide (x.st ≤ 3) = true) := hid (decide_eq_true hs3)
  have I1 := hid (info_refc8 x.c)
  have I2 := hid (info_refa8 x.f)
  rcases Decidable.em (x.st = 0) with h0 | h0
  · have HZ := hid h0
    have hb0 : (x.st == 0) = true := beq_iff_eq.2 h0
    clear h0
    rcases Decidable.em (x.vote = 0) with hv | hv
    · have hbv : (x.vote == 0) = true := beq_iff_eq.2 hv
      have HVV : Hid ((x.vote == 0) = true) := hid hbv
      clear hv
      cases sm
      · have EQ1 := eq_refc x.c zeroK ek EK.out
        have EQ2 := eq_refa x.f (fun _ => 0) ea EA.out
        dsimp only [val, zeroK] at EQ1
        have G1 := refc_guard
        have G2 := refa_guard
        cases ek
        · go_wp2_with (with_reducible refine wpList_load_midg (op := ⟨some 49, _, _, _, _, _⟩) (by kernel_rfl) 42 (.tmp 48) rfl k 6 rfl (lsK x.c) _ D0.out.jc Tryd.underlying42 rfl I1.out ?_)
          go_ret
          exact ⟨ret_bool (by rw [HV.out, HD.out, HD2.out, HD3.out, if_pos HZ.out, HVV.out]; simp), by rw [HKK.out]; exact DB.out⟩
        · go_wp2_with (first
            | (with_reducible refine wpList_load_midg (op := ⟨some 49, _, _, _, _, _⟩) (by kernel_rfl) 42 (.tmp 48) rfl k 6 rfl (lsK x.c) _ D0.out.jc Tryd.underlying42 rfl I1.out ?_)
            | (with_reducible refine wpList_load_midg (op := ⟨some 55, _, _, _, _, _⟩) (by kernel_rfl) 43 (.tmp 54) rfl k 14 rfl (ls8 x.f) _ D0.out.ja Tryd.underlying43 rfl I2.out ?_))
          go_ret
          exact ⟨ret_bool (by rw [HV.out, HD.out, HD2.out, HD3.out, if_pos HZ.out, HVV.out]; simp), by rw [HKK.out]; exact DB.out⟩
      · go_wp2
        go_ret
        exact ⟨ret_bool (by rw [HV.out, HD.out, HD2.out, HD3.out, if_pos HZ.out, HVV.out]; simp), by rw [HKK.out]; exact DB.out⟩
    · have hbv : (x.vote == 0) = false := beq_eq_false_iff_ne.2 hv
      have HVV : Hid ((x.vote == 0) = false) := hid hbv
      clear hv
      go_wp2
      go_ret
      exact ⟨ret_bool (by rw [HV.out, HD.out, HD2.out, HD3.out, if_pos HZ.out, HVV.out]; simp), by rw [HKK.out]; exact DB.out⟩
  have HZ := hid h0
  have hb0 : (x.st == 0) = false := beq_eq_false_iff_ne.2 h0
  clear h0
  obtain ⟨sv, hsv⟩ : ∃ a, (sm && ((x.st != 1) || (x.vote != 0))) = a := ⟨_, rfl⟩
  have HSV := hid hsv
  have HF : Hid (docJ x = (!sv && (rk && ob && decide (x.f (1 + x.r.toNat) = x.s)))) := hid (by rw [HV.out, HD.out, HD2.out, HD3.out, if_neg HZ.out, hsv]; simp)
  clear hsv
  cases sv
  case' true =>
    obtain rfl : sm = true := by have := HSV.out; cases sm <;> simp_all
    have hor : (x.st != 1) = true ∨ ((x.st != 1) = false ∧ (x.vote != 0) = true) := by
      have := HSV.out
      cases h1 : (x.st != 1) <;> simp_all
    rcases hor with h1 | ⟨h1, h2⟩
    · go_wp2
      go_ret
      exact ⟨ret_bool (by rw [HF.out]; simp), by rw [HKK.out]; exact DB.out⟩
    · go_wp2
      go_ret
      exact ⟨ret_bool (by rw [HF.out]; simp), by rw [HKK.out]; exact DB.out⟩
  have hcase : sm = false ∨ (sm = true ∧ (x.st != 1) = false ∧ (x.vote != 0) = false) := by
    have := HSV.out
    cases sm
    · exact .inl rfl
    · refine .inr ⟨rfl, ?_⟩
      simpa using this
  obtain ⟨a, b, ha, hb, ha7, hb10, _⟩ := name_in NB.out
  have HA := hid ha
  have HB := hid hb
  have hai : (a : Int) < 7 := by omega
  have HFF : Hid (docJ x = (rk && ob && decide (x.f (1 + a) = x.s))) := hid (by rw [HF.out, HA.out, Int.toNat_natCast]; simp)
  clear ha hb
  rcases hcase with rfl | ⟨rfl, h1, h2⟩
  all_goals
    cases rk
    · go_upto_region 7 with fail
      clear c2 c3 c4 c5 hb0
      refine wp_region_held_drew (S := (fun w' => Blk w' k 45 (rowJ x))) (by kernel_rfl) (by exact D0.out.drew) (fun hHeld => ?_)
      refine wpAnyH_take (i := 0) (oi := _) (v := ?_) rfl (by kernel_rfl) (by kernel_rfl) (by kernel_rfl) (fun _ _ _ h => h) (Or.inl ⟨by kernel_rfl, ?_⟩) hHeld ?_
      rotate_left 1
      focus (intro w' hSw; (try dsimp only at hSw); go_simp; try with_reducible rfl)
      try simp only [Act.put, List.getElem_toArray, List.getElem_cons_zero, List.getElem_cons_succ, List.setIfInBounds_toArray, List.set_cons_zero, List.set_cons_succ]
      refine wpAnyH_take (i := 1) (oi := _) (v := .agg (lsK x.c).toArray) rfl (by kernel_rfl) (by kernel_rfl) (by kernel_rfl) (fun _ _ _ h => h) (yieldsIf_load_mid (by kernel_rfl) 42 (.tmp 71) rfl k 6 rfl (lsK x.c) _ (fun _ h => Blk.jc h) Tryd.underlying42 rfl I1.out) hHeld ?_
      try simp only [Act.put, List.getElem_toArray, List.getElem_cons_zero, List.getElem_cons_succ, List.setIfInBounds_toArray, List.set_cons_zero, List.set_cons_succ]
      refine wpAnyH_ready (rs := [2]) (by kernel_rfl) (by simp) ?_
      refine AllReadyH.cons (o := _) rfl (fun K hK => ?_) AllReadyH.nil
      go_simp
      go_at_call 20
      with_reducible refine (refright8 x.c _ HK.out hf hp).mono ?_
      rw [RK.out]
      rintro e w3 ⟨rfl, hb⟩
      have E0 := hid (D0.out.drew.below hb D0.out.drew.lt)
      have EB := hid (below_pay (below_drew DB.out) DL.out hb)
      clear hb
      refine hK.out _ _ (by exact E0.out) (fun hHeld => ?_)
      clear hK K
      try simp only [Act.put, List.getElem_toArray, List.getElem_cons_zero, List.getElem_cons_succ, List.setIfInBounds_toArray, List.set_cons_zero, List.set_cons_succ]
      refine wpAnyH_take (i := 3) (oi := _) (v := ?_) rfl (by kernel_rfl) (by kernel_rfl) (by kernel_rfl) (fun _ _ _ h => h) (Or.inl ⟨by kernel_rfl, ?_⟩) hHeld ?_
      rotate_left 1
      focus (intro w' hSw; (try dsimp only at hSw); go_simp; try with_reducible rfl)
      try simp only [Act.put, List.getElem_toArray, List.getElem_cons_zero, List.getElem_cons_succ, List.setIfInBounds_toArray, List.set_cons_zero, List.set_cons_succ]
      refine wpAnyH_take (i := 4) (oi := _) (v := undef) rfl (by kernel_rfl) (by kernel_rfl) (by kernel_rfl) (fun _ _ _ h => h) (Or.inr ⟨by kernel_rfl, rfl⟩) hHeld ?_
      try simp only [Act.put, List.getElem_toArray, List.getElem_cons_zero, List.getElem_cons_succ, List.setIfInBounds_toArray, List.set_cons_zero, List.set_cons_succ]
      refine wpAnyH_take (i := 5) (oi := _) (v := undef) rfl (by kernel_rfl) (by kernel_rfl) (by kernel_rfl) (fun _ _ _ h => h) (Or.inr ⟨by kernel_rfl, rfl⟩) hHeld ?_
      try simp only [Act.put, List.getElem_toArray, List.getElem_cons_zero, List.getElem_cons_succ, List.setIfInBounds_toArray, List.set_cons_zero, List.set_cons_succ]
      refine wpAnyH_take (i := 6) (oi := _) (v := undef) rfl (by kernel_rfl) (by kernel_rfl) (by kernel_rfl) (fun _ _ _ h => h) (Or.inr ⟨by kernel_rfl, rfl⟩) hHeld ?_
      try simp only [Act.put, List.getElem_toArray, List.getElem_cons_zero, List.getElem_cons_succ, List.setIfInBounds_toArray, List.set_cons_zero, List.set_cons_succ]
      refine wpAnyH_take (i := 7) (oi := _) (v := ?_) rfl (by kernel_rfl) (by kernel_rfl) (by kernel_rfl) (fun _ _ _ h => h) (Or.inl ⟨by kernel_rfl, ?_⟩) hHeld ?_
      rotate_left 1
      focus (intro w' hSw; (try dsimp only at hSw); go_simp; try with_reducible rfl)
      try simp only [Act.put, List.getElem_toArray, List.getElem_cons_zero, List.getElem_cons_succ, List.setIfInBounds_toArray, List.set_cons_zero, List.set_cons_succ]
      refine wpAnyH_take (i := 8) (oi := _) (v := ?_) rfl (by kernel_rfl) (by kernel_rfl) (by kernel_rfl) (fun _ _ _ h => h) (Or.inl ⟨by kernel_rfl, ?_⟩) hHeld ?_
      rotate_left 1
      focus (intro w' hSw; (try dsimp only at hSw); go_simp; try with_reducible rfl)
      try simp only [Act.put, List.getElem_toArray, List.getElem_cons_zero, List.getElem_cons_succ, List.setIfInBounds_toArray, List.set_cons_zero, List.set_cons_succ]
      refine wpAnyH_take (i := 9) (oi := _) (v := undef) rfl (by kernel_rfl) (by kernel_rfl) (by kernel_rfl) (fun _ _ _ h => h) (Or.inr ⟨by kernel_rfl, rfl⟩) hHeld ?_
      try simp only [Act.put, List.getElem_toArray, List.getElem_cons_zero, List.getElem_cons_succ, List.setIfInBounds_toArray, List.set_cons_zero, List.set_cons_succ]
      refine wpAnyH_take (i := 10) (oi := _) (v := undef) rfl (by kernel_rfl) (by kernel_rfl) (by kernel_rfl) (fun _ _ _ h => h) (Or.inr ⟨by kernel_rfl, rfl⟩) hHeld ?_
      try simp only [Act.put, List.getElem_toArray, List.getElem_cons_zero, List.getElem_cons_succ, List.setIfInBounds_toArray, List.set_cons_zero, List.set_cons_succ]
      refine wpAnyH_take (i := 11) (oi := _) (v := undef) rfl (by kernel_rfl) (by kernel_rfl) (by kernel_rfl) (fun _ _ _ h => h) (Or.inr ⟨by kernel_rfl, rfl⟩) hHeld ?_
      try simp only [Act.put, List.getElem_toArray, List.getElem_cons_zero, List.getElem_cons_succ, List.setIfInBounds_toArray, List.set_cons_zero, List.set_cons_succ]
      refine wpAnyH_take (i := 12) (oi := _) (v := undef) rfl (by kernel_rfl) (by kernel_rfl) (by kernel_rfl) (fun _ _ _ h => h) (Or.inr ⟨by kernel_rfl, rfl⟩) hHeld ?_
      try simp only [Act.put, List.getElem_toArray, List.getElem_cons_zero, List.getElem_cons_succ, List.setIfInBounds_toArray, List.set_cons_zero, List.set_cons_succ]
      refine wpAnyH_take (i := 13) (oi := _) (v := undef) rfl (by kernel_rfl) (by kernel_rfl) (by kernel_rfl) (fun _ _ _ h => h) (Or.inr ⟨by kernel_rfl, rfl⟩) hHeld ?_
      try simp only [Act.put, List.getElem_toArray, List.getElem_cons_zero, List.getElem_cons_succ, List.setIfInBounds_toArray, List.set_cons_zero, List.set_cons_succ]
      refine wpAnyH_take (i := 14) (oi := _) (v := undef) rfl (by kernel_rfl) (by kernel_rfl) (by kernel_rfl) (fun _ _ _ h => h) (Or.inr ⟨by kernel_rfl, rfl⟩) hHeld ?_
      try simp only [Act.put, List.getElem_toArray, List.getElem_cons_zero, List.getElem_cons_succ, List.setIfInBounds_toArray, List.set_cons_zero, List.set_cons_succ]
      refine wpAnyH_take (i := 15) (oi := _) (v := undef) rfl (by kernel_rfl) (by kernel_rfl) (by kernel_rfl) (fun _ _ _ h => h) (Or.inr ⟨by kernel_rfl, rfl⟩) hHeld ?_
      try simp only [Act.put, List.getElem_toArray, List.getElem_cons_zero, List.getElem_cons_succ, List.setIfInBounds_toArray, List.set_cons_zero, List.set_cons_succ]
      refine wpAnyH_take (i := 16) (oi := _) (v := undef) rfl (by kernel_rfl) (by kernel_rfl) (by kernel_rfl) (fun _ _ _ h => h) (Or.inr ⟨by kernel_rfl, rfl⟩) hHeld ?_
      try simp only [Act.put, List.getElem_toArray, List.getElem_cons_zero, List.getElem_cons_succ, List.setIfInBounds_toArray, List.set_cons_zero, List.set_cons_succ]
      refine wpAnyH_take (i := 17) (oi := _) (v := undef) rfl (by kernel_rfl) (by kernel_rfl) (by kernel_rfl) (fun _ _ _ h => h) (Or.inr ⟨by kernel_rfl, rfl⟩) hHeld ?_
      try simp only [Act.put, List.getElem_toArray, List.getElem_cons_zero, List.getElem_cons_succ, List.setIfInBounds_toArray, List.set_cons_zero, List.set_cons_succ]
      refine wpAnyH_take (i := 18) (oi := _) (v := undef) rfl (by kernel_rfl) (by kernel_rfl) (by kernel_rfl) (fun _ _ _ h => h) (Or.inr ⟨by kernel_rfl, rfl⟩) hHeld ?_
      try simp only [Act.put, List.getElem_toArray, List.getElem_cons_zero, List.getElem_cons_succ, List.setIfInBounds_toArray, List.set_cons_zero, List.set_cons_succ]
      refine wpAnyH_take (i := 19) (oi := _) (v := undef) rfl (by kernel_rfl) (by kernel_rfl) (by kernel_rfl) (fun _ _ _ h => h) (Or.inr ⟨by kernel_rfl, rfl⟩) hHeld ?_
      try simp only [Act.put, List.getElem_toArray, List.getElem_cons_zero, List.getElem_cons_succ, List.setIfInBounds_toArray, List.set_cons_zero, List.set_cons_succ]
      refine wpAnyH_take (i := 20) (oi := _) (v := ?_) rfl (by kernel_rfl) (by kernel_rfl) (by kernel_rfl) (fun _ _ _ h => h) (Or.inl ⟨by kernel_rfl, ?_⟩) hHeld ?_
      rotate_left 1
      focus (intro w' hSw; (try dsimp only at hSw); go_simp; try with_reducible rfl)
      try simp only [Act.put, List.getElem_toArray, List.getElem_cons_zero, List.getElem_cons_succ, List.setIfInBounds_toArray, List.set_cons_zero, List.set_cons_succ]
      refine wpAnyH_take (i := 21) (oi := _) (v := ?_) rfl (by kernel_rfl) (by kernel_rfl) (by kernel_rfl) (fun _ _ _ h => h) (Or.inl ⟨by kernel_rfl, ?_⟩) hHeld ?_
      rotate_left 1
      focus (intro w' hSw; (try dsimp only at hSw); go_simp; try with_reducible rfl)
      try simp only [Act.put, List.getElem_toArray, List.getElem_cons_zero, List.getElem_cons_succ, List.setIfInBounds_toArray, List.set_cons_zero, List.set_cons_succ]
      refine wpAnyH_done (by kernel_rfl) ?_ _
      clear hHeld
      go_wp2
      go_ret
      exact ⟨ret_bool (by rw [HFF.out]; simp), by rw [HKK.out]; exact EB.out⟩
    cases ob
    · go_upto_region 7 with fail
      clear c2 c3 c4 c5 hb0
      refine wp_region_held_drew (S := (fun w' => Blk w' k 45 (rowJ x))) (by kernel_rfl) (by exact D0.out.drew) (fun hHeld => ?_)
      refine wpAnyH_take (i := 0) (oi := _) (v := ?_) rfl (by kernel_rfl) (by kernel_rfl) (by kernel_rfl) (fun _ _ _ h => h) (Or.inl ⟨by kernel_rfl, ?_⟩) hHeld ?_
      rotate_left 1
      focus (intro w' hSw; (try dsimp only at hSw); go_simp; try with_reducible rfl)
      try simp only [Act.put, List.getElem_toArray, List.getElem_cons_zero, List.getElem_cons_succ, List.setIfInBounds_toArray, List.set_cons_zero, List.set_cons_succ]
      refine wpAnyH_take (i := 1) (oi := _) (v := .agg (lsK x.c).toArray) rfl (by kernel_rfl) (by kernel_rfl) (by kernel_rfl) (fun _ _ _ h => h) (yieldsIf_load_mid (by kernel_rfl) 42 (.tmp 71) rfl k 6 rfl (lsK x.c) _ (fun _ h => Blk.jc h) Tryd.underlying42 rfl I1.out) hHeld ?_
      try simp only [Act.put, List.getElem_toArray, List.getElem_cons_zero, List.getElem_cons_succ, List.setIfInBounds_toArray, List.set_cons_zero, List.set_cons_succ]
      refine wpAnyH_ready (rs := [2]) (by kernel_rfl) (by simp) ?_
      refine AllReadyH.cons (o := _) rfl (fun K hK => ?_) AllReadyH.nil
      go_simp
      go_at_call 20
      with_reducible refine (refright8 x.c _ HK.out hf hp).mono ?_
      rw [RK.out]
      rintro e w3 ⟨rfl, hb⟩
      have E0 := hid (D0.out.drew.below hb D0.out.drew.lt)
      have EB := hid (below_pay (below_drew DB.out) DL.out hb)
      clear hb
      refine hK.out _ _ (by exact E0.out) (fun hHeld => ?_)
      clear hK K
      try simp only [Act.put, List.getElem_toArray, List.getElem_cons_zero, List.getElem_cons_succ, List.setIfInBounds_toArray, List.set_cons_zero, List.set_cons_succ]
      refine wpAnyH_take (i := 3) (oi := _) (v := ?_) rfl (by kernel_rfl) (by kernel_rfl) (by kernel_rfl) (fun _ _ _ h => h) (Or.inl ⟨by kernel_rfl, ?_⟩) hHeld ?_
      rotate_left 1
      focus (intro w' hSw; (try dsimp only at hSw); go_simp; try with_reducible rfl)
      try simp only [Act.put, List.getElem_toArray, List.getElem_cons_zero, List.getElem_cons_succ, List.setIfInBounds_toArray, List.set_cons_zero, List.set_cons_succ]
      refine wpAnyH_take (i := 4) (oi := _) (v := ?_) rfl (by kernel_rfl) (by kernel_rfl) (by kernel_rfl) (fun _ _ _ h => h) (Or.inl ⟨by kernel_rfl, ?_⟩) hHeld ?_
      rotate_left 1
      focus (intro w' hSw; (try dsimp only at hSw); go_simp; try with_reducible rfl)
      try simp only [Act.put, List.getElem_toArray, List.getElem_cons_zero, List.getElem_cons_succ, List.setIfInBounds_toArray, List.set_cons_zero, List.set_cons_succ]
      refine wpAnyH_take (i := 5) (oi := _) (v := .agg (ls8 x.f).toArray) rfl (by kernel_rfl) (by kernel_rfl) (by kernel_rfl) (fun _ _ _ h => h) (yieldsIf_load_mid (by kernel_rfl) 43 (.tmp 75) rfl k 14 rfl (ls8 x.f) _ (fun _ h => Blk.ja h) Tryd.underlying43 rfl I2.out) hHeld ?_
      try simp only [Act.put, List.getElem_toArray, List.getElem_cons_zero, List.getElem_cons_succ, List.setIfInBounds_toArray, List.set_cons_zero, List.set_cons_succ]
      refine wpAnyH_ready (rs := [6]) (by kernel_rfl) (by simp) ?_
      refine AllReadyH.cons (o := _) rfl (fun K hK => ?_) AllReadyH.nil
      go_simp
      go_at_call 21
      with_reducible refine (refaright9 x.f _).mono ?_
      rw [OB.out]
      rintro e w4 ⟨rfl, hb⟩
      have F0 := hid (E0.out.below hb E0.out.lt)
      have FB := hid (below_pay EB.out (by have := E0.out.lt; omega) hb)
      clear hb
      refine hK.out _ _ (by exact F0.out) (fun hHeld => ?_)
      clear hK K
      try simp only [Act.put, List.getElem_toArray, List.getElem_cons_zero, List.getElem_cons_succ, List.setIfInBounds_toArray, List.set_cons_zero, List.set_cons_succ]
      refine wpAnyH_take (i := 7) (oi := _) (v := ?_) rfl (by kernel_rfl) (by kernel_rfl) (by kernel_rfl) (fun _ _ _ h => h) (Or.inl ⟨by kernel_rfl, ?_⟩) hHeld ?_
      rotate_left 1
      focus (intro w' hSw; (try dsimp only at hSw); go_simp; try with_reducible rfl)
      try simp only [Act.put, List.getElem_toArray, List.getElem_cons_zero, List.getElem_cons_succ, List.setIfInBounds_toArray, List.set_cons_zero, List.set_cons_succ]
      refine wpAnyH_take (i := 8) (oi := _) (v := ?_) rfl (by kernel_rfl) (by kernel_rfl) (by kernel_rfl) (fun _ _ _ h => h) (Or.inl ⟨by kernel_rfl, ?_⟩) hHeld ?_
      rotate_left 1
      focus (intro w' hSw; (try dsimp only at hSw); go_simp; try with_reducible rfl)
      try simp only [Act.put, List.getElem_toArray, List.getElem_cons_zero, List.getElem_cons_succ, List.setIfInBounds_toArray, List.set_cons_zero, List.set_cons_succ]
      refine wpAnyH_take (i := 9) (oi := _) (v := undef) rfl (by kernel_rfl) (by kernel_rfl) (by kernel_rfl) (fun _ _ _ h => h) (Or.inr ⟨by kernel_rfl, rfl⟩) hHeld ?_
      try simp only [Act.put, List.getElem_toArray, List.getElem_cons_zero, List.getElem_cons_succ, List.setIfInBounds_toArray, List.set_cons_zero, List.set_cons_succ]
      refine wpAnyH_take (i := 10) (oi := _) (v := undef) rfl (by kernel_rfl) (by kernel_rfl) (by kernel_rfl) (fun _ _ _ h => h) (Or.inr ⟨by kernel_rfl, rfl⟩) hHeld ?_
      try simp only [Act.put, List.getElem_toArray, List.getElem_cons_zero, List.getElem_cons_succ, List.setIfInBounds_toArray, List.set_cons_zero, List.set_cons_succ]
      refine wpAnyH_take (i := 11) (oi := _) (v := undef) rfl (by kernel_rfl) (by kernel_rfl) (by kernel_rfl) (fun _ _ _ h => h) (Or.inr ⟨by kernel_rfl, rfl⟩) hHeld ?_
      try simp only [Act.put, List.getElem_toArray, List.getElem_cons_zero, List.getElem_cons_succ, List.setIfInBounds_toArray, List.set_cons_zero, List.set_cons_succ]
      refine wpAnyH_take (i := 12) (oi := _) (v := undef) rfl (by kernel_rfl) (by kernel_rfl) (by kernel_rfl) (fun _ _ _ h => h) (Or.inr ⟨by kernel_rfl, rfl⟩) hHeld ?_
      try simp only [Act.put, List.getElem_toArray, List.getElem_cons_zero, List.getElem_cons_succ, List.setIfInBounds_toArray, List.set_cons_zero, List.set_cons_succ]
      refine wpAnyH_take (i := 13) (oi := _) (v := undef) rfl (by kernel_rfl) (by kernel_rfl) (by kernel_rfl) (fun _ _ _ h => h) (Or.inr ⟨by kernel_rfl, rfl⟩) hHeld ?_
      try simp only [Act.put, List.getElem_toArray, List.getElem_cons_zero, List.getElem_cons_succ, List.setIfInBounds_toArray, List.set_cons_zero, List.set_cons_succ]
      refine wpAnyH_take (i := 14) (oi := _) (v := undef) rfl (by kernel_rfl) (by kernel_rfl) (by kernel_rfl) (fun _ _ _ h => h) (Or.inr ⟨by kernel_rfl, rfl⟩) hHeld ?_
      try simp only [Act.put, List.getElem_toArray, List.getElem_cons_zero, List.getElem_cons_succ, List.setIfInBounds_toArray, List.set_cons_zero, List.set_cons_succ]
      refine wpAnyH_take (i := 15) (oi := _) (v := undef) rfl (by kernel_rfl) (by kernel_rfl) (by kernel_rfl) (fun _ _ _ h => h) (Or.inr ⟨by kernel_rfl, rfl⟩) hHeld ?_
      try simp only [Act.put, List.getElem_toArray, List.getElem_cons_zero, List.getElem_cons_succ, List.setIfInBounds_toArray, List.set_cons_zero, List.set_cons_succ]
      refine wpAnyH_take (i := 16) (oi := _) (v := undef) rfl (by kernel_rfl) (by kernel_rfl) (by kernel_rfl) (fun _ _ _ h => h) (Or.inr ⟨by kernel_rfl, rfl⟩) hHeld ?_
      try simp only [Act.put, List.getElem_toArray, List.getElem_cons_zero, List.getElem_cons_succ, List.setIfInBounds_toArray, List.set_cons_zero, List.set_cons_succ]
      refine wpAnyH_take (i := 17) (oi := _) (v := undef) rfl (by kernel_rfl) (by kernel_rfl) (by kernel_rfl) (fun _ _ _ h => h) (Or.inr ⟨by kernel_rfl, rfl⟩) hHeld ?_
      try simp only [Act.put, List.getElem_toArray, List.getElem_cons_zero, List.getElem_cons_succ, List.setIfInBounds_toArray, List.set_cons_zero, List.set_cons_succ]
      refine wpAnyH_take (i := 18) (oi := _) (v := undef) rfl (by kernel_rfl) (by kernel_rfl) (by kernel_rfl) (fun _ _ _ h => h) (Or.inr ⟨by kernel_rfl, rfl⟩) hHeld ?_
      try simp only [Act.put, List.getElem_toArray, List.getElem_cons_zero, List.getElem_cons_succ, List.setIfInBounds_toArray, List.set_cons_zero, List.set_cons_succ]
      refine wpAnyH_take (i := 19) (oi := _) (v := undef) rfl (by kernel_rfl) (by kernel_rfl) (by kernel_rfl) (fun _ _ _ h => h) (Or.inr ⟨by kernel_rfl, rfl⟩) hHeld ?_
      try simp only [Act.put, List.getElem_toArray, List.getElem_cons_zero, List.getElem_cons_succ, List.setIfInBounds_toArray, List.set_cons_zero, List.set_cons_succ]
      refine wpAnyH_take (i := 20) (oi := _) (v := ?_) rfl (by kernel_rfl) (by kernel_rfl) (by kernel_rfl) (fun _ _ _ h => h) (Or.inl ⟨by kernel_rfl, ?_⟩) hHeld ?_
      rotate_left 1
      focus (intro w' hSw; (try dsimp only at hSw); go_simp; try with_reducible rfl)
      try simp only [Act.put, List.getElem_toArray, List.getElem_cons_zero, List.getElem_cons_succ, List.setIfInBounds_toArray, List.set_cons_zero, List.set_cons_succ]
      refine wpAnyH_take (i := 21) (oi := _) (v := ?_) rfl (by kernel_rfl) (by kernel_rfl) (by kernel_rfl) (fun _ _ _ h => h) (Or.inl ⟨by kernel_rfl, ?_⟩) hHeld ?_
      rotate_left 1
      focus (intro w' hSw; (try dsimp only at hSw); go_simp; try with_reducible rfl)
      try simp only [Act.put, List.getElem_toArray, List.getElem_cons_zero, List.getElem_cons_succ, List.setIfInBounds_toArray, List.set_cons_zero, List.set_cons_succ]
      refine wpAnyH_done (by kernel_rfl) ?_ _
      clear hHeld
      go_wp2
      go_ret
      exact ⟨ret_bool (by rw [HFF.out]; simp), by rw [HKK.out]; exact FB.out⟩
    · go_upto_region 7 with fail
      clear c2 c3 c4 c5 hb0
      refine wp_region_held_drew (S := (fun w' => Blk w' k 45 (rowJ x))) (by kernel_rfl) (by exact D0.out.drew) (fun hHeld => ?_)
      refine wpAnyH_take (i := 0) (oi := _) (v := ?_) rfl (by kernel_rfl) (by kernel_rfl) (by kernel_rfl) (fun _ _ _ h => h) (Or.inl ⟨by kernel_rfl, ?_⟩) hHeld ?_
      rotate_left 1
      focus (intro w' hSw; (try dsimp only at hSw); go_simp; try with_reducible rfl)
      try simp only [Act.put, List.getElem_toArray, List.getElem_cons_zero, List.getElem_cons_succ, List.setIfInBounds_toArray, List.set_cons_zero, List.set_cons_succ]
      refine wpAnyH_take (i := 1) (oi := _) (v := .agg (lsK x.c).toArray) rfl (by kernel_rfl) (by kernel_rfl) (by kernel_rfl) (fun _ _ _ h => h) (yieldsIf_load_mid (by kernel_rfl) 42 (.tmp 71) rfl k 6 rfl (lsK x.c) _ (fun _ h => Blk.jc h) Tryd.underlying42 rfl I1.out) hHeld ?_
      try simp only [Act.put, List.getElem_toArray, List.getElem_cons_zero, List.getElem_cons_succ, List.setIfInBounds_toArray, List.set_cons_zero, List.set_cons_succ]
      refine wpAnyH_ready (rs := [2]) (by kernel_rfl) (by simp) ?_
      refine AllReadyH.cons (o := _) rfl (fun K hK => ?_) AllReadyH.nil
      go_simp
      go_at_call 20
      with_reducible refine (refright8 x.c _ HK.out hf hp).mono ?_
      rw [RK.out]
      rintro e w3 ⟨rfl, hb⟩
      have E0 := hid (D0.out.drew.below hb D0.out.drew.lt)
      have EB := hid (below_pay (below_drew DB.out) DL.out hb)
      clear hb
      refine hK.out _ _ (by exact E0.out) (fun hHeld => ?_)
      clear hK K
      try simp only [Act.put, List.getElem_toArray, List.getElem_cons_zero, List.getElem_cons_succ, List.setIfInBounds_toArray, List.set_cons_zero, List.set_cons_succ]
      refine wpAnyH_take (i := 3) (oi := _) (v := ?_) rfl (by kernel_rfl) (by kernel_rfl) (by kernel_rfl) (fun _ _ _ h => h) (Or.inl ⟨by kernel_rfl, ?_⟩) hHeld ?_
      rotate_left 1
      focus (intro w' hSw; (try dsimp only at hSw); go_simp; try with_reducible rfl)
      try simp only [Act.put, List.getElem_toArray, List.getElem_cons_zero, List.getElem_cons_succ, List.setIfInBounds_toArray, List.set_cons_zero, List.set_cons_succ]
      refine wpAnyH_take (i := 4) (oi := _) (v := ?_) rfl (by kernel_rfl) (by kernel_rfl) (by kernel_rfl) (fun _ _ _ h => h) (Or.inl ⟨by kernel_rfl, ?_⟩) hHeld ?_
      rotate_left 1
      focus (intro w' hSw; (try dsimp only at hSw); go_simp; try with_reducible rfl)
      try simp only [Act.put, List.getElem_toArray, List.getElem_cons_zero, List.getElem_cons_succ, List.setIfInBounds_toArray, List.set_cons_zero, List.set_cons_succ]
      refine wpAnyH_take (i := 5) (oi := _) (v := .agg (ls8 x.f).toArray) rfl (by kernel_rfl) (by kernel_rfl) (by kernel_rfl) (fun _ _ _ h => h) (yieldsIf_load_mid (by kernel_rfl) 43 (.tmp 75) rfl k 14 rfl (ls8 x.f) _ (fun _ h => Blk.ja h) Tryd.underlying43 rfl I2.out) hHeld ?_
      try simp only [Act.put, List.getElem_toArray, List.getElem_cons_zero, List.getElem_cons_succ, List.setIfInBounds_toArray, List.set_cons_zero, List.set_cons_succ]
      refine wpAnyH_ready (rs := [6]) (by kernel_rfl) (by simp) ?_
      refine AllReadyH.cons (o := _) rfl (fun K hK => ?_) AllReadyH.nil
      go_simp
      go_at_call 21
      with_reducible refine (refaright9 x.f _).mono ?_
      rw [OB.out]
      rintro e w4 ⟨rfl, hb⟩
      have F0 := hid (E0.out.below hb E0.out.lt)
      have FB := hid (below_pay EB.out (by have := E0.out.lt; omega) hb)
      clear hb
      refine hK.out _ _ (by exact F0.out) (fun hHeld => ?_)
      clear hK K
      try simp only [Act.put, List.getElem_toArray, List.getElem_cons_zero, List.getElem_cons_succ, List.setIfInBounds_toArray, List.set_cons_zero, List.set_cons_succ]
      refine wpAnyH_take (i := 7) (oi := _) (v := ?_) rfl (by kernel_rfl) (by kernel_rfl) (by kernel_rfl) (fun _ _ _ h => h) (Or.inl ⟨by kernel_rfl, ?_⟩) hHeld ?_
      rotate_left 1
      focus (intro w' hSw; (try dsimp only at hSw); go_simp; try with_reducible rfl)
      try simp only [Act.put, List.getElem_toArray, List.getElem_cons_zero, List.getElem_cons_succ, List.setIfInBounds_toArray, List.set_cons_zero, List.set_cons_succ]
      refine wpAnyH_take (i := 8) (oi := _) (v := ?_) rfl (by kernel_rfl) (by kernel_rfl) (by kernel_rfl) (fun _ _ _ h => h) (Or.inl ⟨by kernel_rfl, ?_⟩) hHeld ?_
      rotate_left 1
      focus (intro w' hSw; (try dsimp only at hSw); go_simp; try with_reducible rfl)
      try simp only [Act.put, List.getElem_toArray, List.getElem_cons_zero, List.getElem_cons_succ, List.setIfInBounds_toArray, List.set_cons_zero, List.set_cons_succ]
      refine wpAnyH_take (i := 9) (oi := _) (v := ?_) rfl (by kernel_rfl) (by kernel_rfl) (by kernel_rfl) (fun _ _ _ h => h) (Or.inl ⟨by kernel_rfl, ?_⟩) hHeld ?_
      rotate_left 1
      focus (intro w' hSw; (try dsimp only at hSw); go_simp; try with_reducible rfl)
      try simp only [Act.put, List.getElem_toArray, List.getElem_cons_zero, List.getElem_cons_succ, List.setIfInBounds_toArray, List.set_cons_zero, List.set_cons_succ]
      refine wpAnyH_take (i := 10) (oi := _) (v := ?_) rfl (by kernel_rfl) (by kernel_rfl) (by kernel_rfl) (fun _ _ _ h => h) (Or.inl ⟨by kernel_rfl, ?_⟩) hHeld ?_
      rotate_left 1
      focus (intro w' hSw; (try dsimp only at hSw); go_simp; try with_reducible rfl)
      try simp only [Act.put, List.getElem_toArray, List.getElem_cons_zero, List.getElem_cons_succ, List.setIfInBounds_toArray, List.set_cons_zero, List.set_cons_succ]
      refine wpAnyH_take (i := 11) (oi := _) (v := ?_) rfl (by kernel_rfl) (by kernel_rfl) (by kernel_rfl) (fun _ _ _ h => h) (Or.inl ⟨by kernel_rfl, ?_⟩) hHeld ?_
      rotate_left 1
      focus (intro w' hSw; (try dsimp only at hSw); have q0 := (Blk.j0 hSw).trans (by rw [HA.out]); go_simp; try with_reducible rfl)
      try simp only [Act.put, List.getElem_toArray, List.getElem_cons_zero, List.getElem_cons_succ, List.setIfInBounds_toArray, List.set_cons_zero, List.set_cons_succ]
      refine wpAnyH_take (i := 12) (oi := _) (v := ?_) rfl (by kernel_rfl) (by kernel_rfl) (by kernel_rfl) (fun _ _ _ h => h) (Or.inl ⟨by kernel_rfl, ?_⟩) hHeld ?_
      rotate_left 1
      focus (intro w' hSw; (try dsimp only at hSw); go_simp; try with_reducible rfl)
      try simp only [Act.put, List.getElem_toArray, List.getElem_cons_zero, List.getElem_cons_succ, List.setIfInBounds_toArray, List.set_cons_zero, List.set_cons_succ]
      refine wpAnyH_take (i := 13) (oi := _) (v := ?_) rfl (by kernel_rfl) (by kernel_rfl) (by kernel_rfl) (fun _ _ _ h => h) (Or.inl ⟨by kernel_rfl, ?_⟩) hHeld ?_
      rotate_left 1
      focus (intro w' hSw; (try dsimp only at hSw); go_simp; try with_reducible rfl)
      try simp only [Act.put, List.getElem_toArray, List.getElem_cons_zero, List.getElem_cons_succ, List.setIfInBounds_toArray, List.set_cons_zero, List.set_cons_succ]
      refine wpAnyH_take (i := 14) (oi := _) (v := ?_) rfl (by kernel_rfl) (by kernel_rfl) (by kernel_rfl) (fun _ _ _ h => h) (Or.inl ⟨by kernel_rfl, ?_⟩) hHeld ?_
      rotate_left 1
      focus (intro w' hSw; (try dsimp only at hSw); go_simp; try with_reducible rfl)
      try simp only [Act.put, List.getElem_toArray, List.getElem_cons_zero, List.getElem_cons_succ, List.setIfInBounds_toArray, List.set_cons_zero, List.set_cons_succ]
      refine wpAnyH_take (i := 15) (oi := _) (v := ?_) rfl (by kernel_rfl) (by kernel_rfl) (by kernel_rfl) (fun _ _ _ h => h) (Or.inl ⟨by kernel_rfl, ?_⟩) hHeld ?_
      rotate_left 1
      focus (intro w' hSw; (try dsimp only at hSw); have q0 := Blk.jd hSw ha7; go_simp; try with_reducible rfl)
      try simp only [Act.put, List.getElem_toArray, List.getElem_cons_zero, List.getElem_cons_succ, List.setIfInBounds_toArray, List.set_cons_zero, List.set_cons_succ]
      refine wpAnyH_take (i := 16) (oi := _) (v := ?_) rfl (by kernel_rfl) (by kernel_rfl) (by kernel_rfl) (fun _ _ _ h => h) (Or.inl ⟨by kernel_rfl, ?_⟩) hHeld ?_
      rotate_left 1
      focus (intro w' hSw; (try dsimp only at hSw); go_simp; try with_reducible rfl)
      try simp only [Act.put, List.getElem_toArray, List.getElem_cons_zero, List.getElem_cons_succ, List.setIfInBounds_toArray, List.set_cons_zero, List.set_cons_succ]
      refine wpAnyH_take (i := 17) (oi := _) (v := ?_) rfl (by kernel_rfl) (by kernel_rfl) (by kernel_rfl) (fun _ _ _ h => h) (Or.inl ⟨by kernel_rfl, ?_⟩) hHeld ?_
      rotate_left 1
      focus (intro w' hSw; (try dsimp only at hSw); go_simp; try with_reducible rfl)
      try simp only [Act.put, List.getElem_toArray, List.getElem_cons_zero, List.getElem_cons_succ, List.setIfInBounds_toArray, List.set_cons_zero, List.set_cons_succ]
      refine wpAnyH_take (i := 18) (oi := _) (v := ?_) rfl (by kernel_rfl) (by kernel_rfl) (by kernel_rfl) (fun _ _ _ h => h) (Or.inl ⟨by kernel_rfl, ?_⟩) hHeld ?_
      rotate_left 1
      focus (intro w' hSw; (try dsimp only at hSw); have q0 := Blk.j1 hSw; go_simp; try with_reducible rfl)
      try simp only [Act.put, List.getElem_toArray, List.getElem_cons_zero, List.getElem_cons_succ, List.setIfInBounds_toArray, List.set_cons_zero, List.set_cons_succ]
      refine wpAnyH_take (i := 19) (oi := _) (v := ?_) rfl (by kernel_rfl) (by kernel_rfl) (by kernel_rfl) (fun _ _ _ h => h) (Or.inl ⟨by kernel_rfl, ?_⟩) hHeld ?_
      rotate_left 1
      focus (intro w' hSw; (try dsimp only at hSw); go_simp; try with_reducible rfl)
      try simp only [Act.put, List.getElem_toArray, List.getElem_cons_zero, List.getElem_cons_succ, List.setIfInBounds_toArray, List.set_cons_zero, List.set_cons_succ]
      refine wpAnyH_take (i := 20) (oi := _) (v := ?_) rfl (by kernel_rfl) (by kernel_rfl) (by kernel_rfl) (fun _ _ _ h => h) (Or.inl ⟨by kernel_rfl, ?_⟩) hHeld ?_
      rotate_left 1
      focus (intro w' hSw; (try dsimp only at hSw); go_simp; try with_reducible rfl)
      try simp only [Act.put, List.getElem_toArray, List.getElem_cons_zero, List.getElem_cons_succ, List.setIfInBounds_toArray, List.set_cons_zero, List.set_cons_succ]
      refine wpAnyH_take (i := 21) (oi := _) (v := ?_) rfl (by kernel_rfl) (by kernel_rfl) (by kernel_rfl) (fun _ _ _ h => h) (Or.inl ⟨by kernel_rfl, ?_⟩) hHeld ?_
      rotate_left 1
      focus (intro w' hSw; (try dsimp only at hSw); go_simp; try with_reducible rfl)
      try simp only [Act.put, List.getElem_toArray, List.getElem_cons_zero, List.getElem_cons_succ, List.setIfInBounds_toArray, List.set_cons_zero, List.set_cons_succ]
      refine wpAnyH_done (by kernel_rfl) ?_ _
      clear hHeld
      go_wp2
      go_ret
      exact ⟨ret_bool (by rw [HFF.out]; rw [Bool.eq_iff_iff]; simp), by rw [HKK.out]; exact FB.out⟩

theorem refc_of {w W : World} {x : J} (h : (w.alloc (.cells (rowJ x) 35)).alloc (.cells zrow 45) = W) :
    Hid (Blk W w.heap.size 35 (rowJ x)) ∧ Hid (Blk W (w.heap.size + 1) 45 (rowJ zeroJ)) ∧ Hid (Below w.heap.size w W) := two_new h

set_option maxRecDepth 100000 in
set_option maxHeartbeats 4000000 in
theorem of10 (x : J) (w : World) :
    Calls Tryd.prog 9 #[.agg (rowJ x)] w fun e w' => e = .returned (.agg (rowJ x)) ∧ Below w.heap.size w w' := by
  obtain ⟨r, s, st, bal, vote, same, ⟨ck, cu, cf, cq, cp, cm, cn, ct⟩, f⟩ := x
  go_enter Tryd.func9, Tryd.ntmps9
  go_upto_region 1 with fail
  obtain ⟨W, hW⟩ : ∃ W, (w.alloc (.cells (rowJ ⟨r, s, st, bal, vote, same, ⟨ck, cu, cf, cq, cp, cm, cn, ct⟩, f⟩) 35)).alloc (.cells zrow 45) = W := ⟨_, rfl⟩
  rw [hW]
  obtain ⟨K0, K1, KB⟩ := refc_of hW
  clear hW
  obtain ⟨k, hk⟩ : ∃ k, w.heap.size = k := ⟨_, rfl⟩
  rw [hk] at K0 K1 KB
  rw [hk]
  have HK := hid hk
  clear hk
  have I1 := hid (info_cmd8 ⟨ck, cu, cf, cq, cp, cm, cn, ct⟩)
  go_upto_region 2 with (with_reducible refine wpList_load_mid (op := ⟨some 5, _, _, _, _, _⟩) rfl 30 (.tmp 4) rfl k 6 rfl (lsK ⟨ck, cu, cf, cq, cp, cm, cn, ct⟩) _ K0.out.jc Tryd.underlying30 rfl I1.out ?_)
  obtain ⟨m, hm⟩ : ∃ m, W.heap.size = m := ⟨_, rfl⟩
  obtain ⟨W2, hW2⟩ : ∃ W2, W.alloc (.cells #[.int .i64 ck, .int .u64 cu, .string cf, .int .u64 cq, .string cp, .int .i64 cm, .int .u64 cn, .int .i64 ct] 30) = W2 := ⟨_, rfl⟩
  rw [hW2]
  have F0 : Hid (Blk W2 k 35 (rowJ ⟨r, s, st, bal, vote, same, ⟨ck, cu, cf, cq, cp, cm, cn, ct⟩, f⟩)) := hid (by rw [← hW2]; exact K0.out.alloc _)
  have F1 : Hid (Blk W2 (k + 1) 45 (rowJ zeroJ)) := hid (by rw [← hW2]; exact K1.out.alloc _)
  have F2 : Hid (Blk W2 m 30 #[.int .i64 ck, .int .u64 cu, .string cf, .int .u64 cq, .string cp, .int .i64 cm, .int .u64 cn, .int .i64 ct]) := hid (by rw [← hW2, ← hm]; exact Blk.new _ _ _)
  have FB : Hid (Below k w W2) := hid (by rw [← hW2]; exact KB.out.trans ((Below.refl k W).alloc (by have := K0.out.lt; omega) _))
  rw [hm]
  clear hW2 hm K0 K1 KB I1
  have c0 := F0.out.j0
  have c1 := F0.out.j1
  have c2 := F0.out.j2
  have c3 := F0.out.j3
  have c4 := F0.out.j4
  have c5 := F0.out.j5
  obtain ⟨⟨d0, d1, d2, d3, d4, d5, d6, d7⟩, _⟩ := cells8 F2.out
  have I2 := hid (info_att8 f)
  have L1 := hid (len_refx ⟨r, s, st, bal, vote, same, ⟨ck, cu, cf, cq, cp, cm, cn, ct⟩, f⟩)
  have L3 := hid (rowJ_one ⟨r, s, st, bal, vote, same, ⟨ck, cu, cf, cq, cp, cm, cn, ct⟩, f⟩)
  go_wp2_with (first
    | (with_reducible refine wpList_load_mid (op := ⟨some 36, _, _, _, _, _⟩) rfl 33 (.tmp 35) rfl k 14 rfl (ls8 f) _ F0.out.ja Tryd.underlying33 rfl I2.out ?_)
    | (refine wpList_store_row (o := ⟨none, _, _, _, _, _⟩) rfl 45 (.tmp 2) (.tmp 37) rfl (k + 1) (rowJ ⟨r, s, st, bal, vote, same, ⟨ck, cu, cf, cq, cp, cm, cn, ct⟩, f⟩) rfl ?hy 45 (rowJ zeroJ) F1.out.heap L1.out rfl L3.out ?_; (case hy => rfl)))
  exact bodyPost_ret (v := .agg (rowJ ⟨r, s, st, bal, vote, same, ⟨ck, cu, cf, cq, cp, cm, cn, ct⟩, f⟩)) (results_cell_row (p := 2) (ty := 45) (by kernel_rfl) _ _ (k + 1) 45 (rowJ ⟨r, s, st, bal, vote, same, ⟨ck, cu, cf, cq, cp, cm, cn, ct⟩, f⟩) (0, 0) _ rfl (setRow_heap W2 (k + 1) _ _ _ _ F1.out.heap) Tryd.underlying45 rfl L1.out) rfl ⟨rfl, by rw [HK.out]; exact below_setRow_ FB.out (by omega)⟩

end Go.Proofs.YtapmchkikafpmaaDoor

/-
  The law InstBytes, walked.
-/
namespace Go.Proofs.YtapmchkikafpmaaDoor
open Go.ChangeShapes Go.WideShapes Go.ChangeAt Go.RowKit Go.Lib
set_option linter.unusedVariables false
set_option linter.unusedSimpArgs false

theorem cells_u8 : Tryd.prog.cellsOf 5 = 1 := by kernel_rfl
theorem bytes_u8 : Tryd.prog.bytesOf 5 = 1 := by kernel_rfl
theorem InAt.drew {w : World} {g : Nat} {l : List Nat} {e : Nat} (h : InAt w g l e) : InAt w.drew g l e := h
/-- What is told of a right state's bytes. -/
theorem jparse_right (A : Option Addr) (n ca : Nat) (x : J) (w : World) (hP : PartsIs w) (hok : okJ x) (hK : okK x.c) (hr : rightJ x = true) (hn : (encJ x).length = n) (hc : A = none → ca = 0) (hA : Sees .u8 w A (encJ x)) :
    Calls Tryd.prog 12 #[.slice A n ca] w fun e w' => e = .returned (.tuple #[.agg (rowJ x), .int .i64 0]) ∧ Below w.heap.size w w' := by
  obtain ⟨y, hs, he⟩ := sInst_put x [] hok hK hr
  rw [List.append_nil] at hs
  have hl := encJ_len x hok hK hr
  have h := jparse_as A (encJ x) n ca [] 0 y w hP hn (by omega) hc hA (encJ_byte x hok hK hr) hs
  have e0 : endE [] 0 = 0 := rfl
  rw [e0, if_pos rfl, rowJ_congr he] at h
  exact h
theorem jtake_right (g : Nat) (x : J) (more : List Nat) (w : World) (hI : InAt w g (encJ x ++ more) 0) (hP : PartsIs w) (hg : 0 < g) (hok : okJ x) (hK : okK x.c) (hr : rightJ x = true) (h8 : ∀ x ∈ more, x < 256) (hl : more.length ≤ 140737488351232) :
    Calls Tryd.prog 14 #[.pointer (some ⟨g, 0, none⟩)] w (Turns (fun en => en = .returned (.agg (rowJ x))) g more 0 w) := by
  obtain ⟨y, hs, he⟩ := sInst_put x more hok hK hr
  have hll := encJ_len x hok hK hr
  have h := insttake_any g (encJ x ++ more) 0 more 0 y w hI ⟨fine0 _, fun z hz => (List.mem_append.1 hz).elim (encJ_byte x hok hK hr z) (h8 z), by rw [List.length_append]; omega⟩ hP hg hs
  rw [rowJ_congr he] at h
  exact h

end Go.Proofs.YtapmchkikafpmaaDoor
namespace Go.Proofs.YtapmchkikafpmaaDoor.instBytes
open Go.ChangeShapes Go.WideShapes Go.ChangeAt Go.RowKit Go.Lib
set_option linter.unusedVariables false
set_option linter.unusedSimpArgs false

set_option maxRecDepth 100000 in
set_option maxHeartbeats 8000000 in
theorem walk_b (x : J) (A : Option Addr) (l : List Nat) (ca : Nat) (w : World) (hok : okJ x) (hK : okK x.c) (hn : A = none → ca = 0) (hl : l.length ≤ 140737488351232) (h8 : ∀ x ∈ l, x < 256) (hA : Sees .u8 w A l) (hP : PartsIs w) :
    Calls Tryd.prog 4 #[.agg (rowJ x), .slice A l.length ca] w fun e w' => e = .returned (.bool true) ∧ Below w.heap.size w w' := by
  obtain ⟨i0, hi, hz0, hz1, hz2⟩ := info_parts info_u8
  obtain ⟨sx, hsx⟩ : ∃ a, smallJ x = a := ⟨_, rfl⟩
  obtain ⟨rx, hrx⟩ : ∃ a, rightJ x = a := ⟨_, rfl⟩
  have SX := hid hsx
  have RX := hid hrx
  have HO := hid hok
  have HK := hid hK
  have HN := hid hn
  have H8 := hid h8
  have HA := hid hA
  have HP := hid hP
  have hlt := hP.lt
  clear hsx hrx hok hK hn h8 hA hP
  go_enter Tryd.func4, Tryd.ntmps4
  go_upto_region 1 with fail
  obtain ⟨W, hW⟩ : ∃ W, w.alloc (.cells (rowJ x) 35) = W := ⟨_, rfl⟩
  rw [hW]
  obtain ⟨K0, KB⟩ := one_new hW
  have PW := hid (HP.out.below KB.out)
  have AW := hid (HA.out.below KB.out)
  clear hW HP HA
  obtain ⟨k, hk⟩ : ∃ k, w.heap.size = k := ⟨_, rfl⟩
  rw [hk] at K0 KB hlt
  rw [hk]
  have HKK := hid hk
  clear hk
  have L1 := hid (len_inst x)
  go_wp2_with fail
  with_reducible refine (anchor10 _).mono ?_
  rintro e w1 ⟨rfl, hb⟩
  have A1 := hid (K0.out.below hb K0.out.lt)
  have B1 := hid (below_pay KB.out (by have := K0.out.lt; omega) hb)
  have P1 := hid (PW.out.below hb)
  have Q1 := hid (AW.out.below hb)
  clear hb K0 KB PW AW
  go_wp2_with (with_reducible refine wpList_load_row (o := ⟨some 11, _, _, _, _, _⟩) rfl 35 (.tmp 2) rfl k rfl 35 (rowJ x) (0, 0) _ A1.out.heap Tryd.underlying35 rfl L1.out ?_)
  with_reducible refine (small10 x _).mono ?_
  rw [SX.out]
  rintro e w2 ⟨rfl, hb⟩
  have A2 := hid (A1.out.below hb A1.out.lt)
  have B2 := hid (below_pay B1.out (by have := A1.out.lt; omega) hb)
  have P2 := hid (P1.out.below hb)
  have Q2 := hid (Q1.out.below hb)
  clear hb A1 B1 P1 Q1
  cases sx
  · go_wp2
    go_ret
    exact ⟨rfl, by rw [HKK.out]; exact B2.out⟩
  go_wp2_with (with_reducible refine wpList_load_rowg (o := ⟨some 15, _, _, _, _, _⟩) (by kernel_rfl) 35 (.tmp 2) rfl k rfl 35 (rowJ x) (0, 0) _ A2.out.heap Tryd.underlying35 rfl L1.out ?_)
  with_reducible refine (of10 x _).mono ?_
  rintro e w3 ⟨rfl, hb⟩
  have A3 := hid (A2.out.below hb A2.out.lt)
  have B3 := hid (below_pay B2.out (by have := A2.out.lt; omega) hb)
  have P3 := hid (P2.out.below hb)
  have Q3 := hid (Q2.out.below hb)
  clear hb A2 B2 P2 Q2
  have hsf := smallJ_in SX.out
  go_wp2_with fail
  with_reducible refine (refxright_any x HO.out HK.out _ (by omega) (by omega)).mono ?_
  rw [RX.out]
  rintro e w4 ⟨rfl, hb⟩
  have A4 := hid (A3.out.below hb A3.out.lt)
  have B4 := hid (below_pay B3.out (by have := A3.out.lt; omega) hb)
  have P4 := hid (P3.out.below hb)
  have Q4 := hid (Q3.out.below hb)
  clear hb A3 B3 P3 Q3 hsf
  cases rx
  · go_wp2
    go_ret
    exact ⟨rfl, by rw [HKK.out]; exact B4.out⟩
  go_wp2_with (with_reducible refine wpList_load_row (o := ⟨some 20, _, _, _, _, _⟩) rfl 35 (.tmp 2) rfl k rfl 35 (rowJ x) (0, 0) _ A4.out.heap Tryd.underlying35 rfl L1.out ?_)
  have hel := encJ_len x HO.out HK.out RX.out
  with_reducible refine (jbytes_any x _ P4.out HO.out HK.out RX.out).mono ?_
  rintro en w5 ⟨C, cb, rfl, h1, h2, h3, hb⟩
  have A5 := hid (A4.out.below hb A4.out.lt)
  have B5 := hid (below_pay B4.out (by have := A4.out.lt; omega) hb)
  have P5 := hid (P4.out.below hb)
  have Q5 := hid (Q4.out.below hb)
  have C5 := hid h3
  have N5 := hid h1
  clear hb A4 B4 P4 Q4 h3 h1
  obtain ⟨ne, hne⟩ : ∃ n, (encJ x).length = n := ⟨_, rfl⟩
  have HNE := hid hne
  rw [hne] at hel h2 ⊢
  clear hne
  go_wp2_with fail
  with_reducible refine (jparse_right C ne cb x _ P5.out HO.out HK.out RX.out HNE.out N5.out C5.out).mono ?_
  rintro en w6 ⟨rfl, hb⟩
  have A6 := hid (A5.out.below hb A5.out.lt)
  have B6 := hid (below_pay B5.out (by have := A5.out.lt; omega) hb)
  have P6 := hid (P5.out.below hb)
  have Q6 := hid (Q5.out.below hb)
  have C6 := hid (C5.out.below hb)
  clear hb A5 B5 P5 Q5 C5
  obtain ⟨y, hy⟩ : ∃ y, w6.heap.size = y := ⟨_, rfl⟩
  have E0 : Hid (Blk (w6.alloc (.cells zrow 35)) y 35 zrow) := hid (by rw [← hy]; exact Blk.new w6 35 zrow)
  have N3 := hid (rowJ_one x)
  go_upto_region 7 with (refine wpList_store_row (o := ⟨none, _, _, _, _, _⟩) rfl 35 (.tmp 6) (.tmp 25) rfl y (rowJ x) rfl ?hy 35 zrow E0.out.heap L1.out rfl N3.out ?_; (case hy => rfl))
  obtain ⟨W7, hW7⟩ : ∃ W7, (w6.alloc (.cells zrow 35)).setRow y (rowJ x) = W7 := ⟨_, rfl⟩
  have hky : k < y := by have := A6.out.lt; omega
  have A7 : Hid (Blk W7 k 35 (rowJ x)) := hid (by rw [← hW7]; exact (A6.out.alloc _).rowFar (by omega) _)
  have G7 : Hid (Blk W7 y 35 (rowJ x)) := hid (by rw [← hW7]; exact E0.out.row _)
  have hBW : Below y w6 W7 := by rw [← hW7]; exact below_setRow_ ((Below.refl y w6).alloc (by omega) _) (Nat.le_refl _)
  have B7 : Hid (Below k w W7) := hid (B6.out.trans (hBW.mono (by omega)))
  have P7 : Hid (PartsIs W7) := hid (P6.out.below (by rw [hy]; exact hBW))
  have Q7 : Hid (Sees .u8 W7 A l) := hid (Q6.out.below (by rw [hy]; exact hBW))
  have C7 : Hid (Sees .u8 W7 C (encJ x)) := hid (C6.out.below (by rw [hy]; exact hBW))
  rw [hW7]
  clear hW7 hBW hy E0 A6 B6 P6 Q6 C6 N3
  obtain ⟨X, hX⟩ : ∃ X, encJ x = X := ⟨_, rfl⟩
  have HX := hid hX
  rw [hX] at C7 HNE
  clear hX
  have hXn : X.length = ne := HNE.out
  have HL2 : Hid ((X ++ l).length ≤ 140737488355328) := hid (by rw [List.length_append]; omega)
  obtain ⟨L, hL⟩ : ∃ L, X ++ l = L := ⟨_, rfl⟩
  rw [hL] at HL2
  have HL : Hid (L = X ++ l) := hid hL.symm
  have hLl := HL2.out
  clear hL
  subst hXn
  have y7 : W7.heap.size ≤ W7.heap.size := Nat.le_refl _
  have D7 : Hid (Below W7.heap.size W7 W7) := hid (Below.refl _ _)
  obtain ⟨z, hz⟩ : ∃ z, W7.heap.size = z := ⟨_, rfl⟩
  have hyz : y < z := by have := G7.out.lt; omega
  have HZ := hid hz
  have QA : Hid (∀ w', Below z W7 w' → Sees .u8 w' A l) := hid (fun w' h => Q7.out.below (by rw [HZ.out]; exact h))
  have QC : Hid (∀ w', Below z W7 w' → Sees .u8 w' C X) := hid (fun w' h => C7.out.below (by rw [HZ.out]; exact h))
  have hzs : z ≤ W7.heap.size := by omega
  clear y7 D7
  clear hz
  go_wp2_with (first
    | ((with_reducible refine wpList_build_none (o := ⟨some 27, _, _, _, _, _⟩) rfl 39 5 rfl Tryd.underlying39 i0 hi z hzs ?_); intro s5 z5 hown5 hb5; have D5 := hid (hb5.mono hzs); have y5 := Nat.le_trans hzs hb5.size)
    | (at_builtin; refine wpList_append_sees rfl (.tmp 27) (.tmp 28) 39 rfl z 5 i0 (.int .u8 0) 1 Tryd.underlying39 hi hz0 hz1 hz2 rfl _ 0 [] rfl hown5 .u8 C cb X rfl N5.out (QC.out _ D5.out) (by unfold maxLen; omega) (by omega) y5 ?_; intro s6 z6 hown6 hg6; simp only [Nat.zero_add, List.nil_append] at hown6; have D6 := hid (D5.out.grown hg6 y5 (fun k hk => (hown5.lt k hk).1)); have y6 := Nat.le_trans y5 hg6.size)
    | (at_builtin; refine wpList_append_sees rfl (.tmp 29) (.tmp 30) 39 rfl z 5 i0 (.int .u8 0) 1 Tryd.underlying39 hi hz0 hz1 hz2 rfl _ _ _ rfl hown6 .u8 A ca l rfl HN.out (QA.out _ D6.out) (by unfold maxLen; omega) (by omega) y6 ?_; intro s7 z7 hown7 hg7; have D7 := hid (D6.out.grown hg7 y6 (fun k hk => (hown6.lt k hk).1)); have y7 := Nat.le_trans y6 hg7.size; obtain ⟨AA, cc, rfl, hn9, _, hs9⟩ := own_slice2 HL.out hown7)
    | (go_at_call 13; (with_reducible refine (newin_any AA L L.length cc _ rfl hLl hn9 hs9).mono ?_); rintro e w10 ⟨g, rfl, hin, hb10, hg10⟩))
  have E10 : Hid (Below z W7 w10) := hid (D7.out.trans (hb10.mono y7))
  have hE := E10.out
  have A8 := hid (A7.out.below hE (by omega))
  have G8 := hid (G7.out.below hE (by omega))
  have P8 := hid (P7.out.below (by rw [HZ.out]; exact hE))
  have B8 := hid (B7.out.trans (hE.mono (by omega)))
  have hyg : y < g := by omega
  have hkg : k < g := by omega
  have I8 : Hid (InAt w10.drew g (encJ x ++ l) 0) := hid (by rw [HX.out, ← HL.out]; exact hin.drew)
  have hl15 := hl
  clear hE hin hb10 hg10 hown5 hown6 hown7 hg6 hg7 hb5 hs9 hn9 D5 D6 D7 y5 y6 y7 QA QC E10 P7 Q7 C7 B7 hzs
  have HBP : Hid (w10.heap.size ≥ 0) := hid (Nat.zero_le _)
  have EG := inst_guard
  have EQ := eq_inst x x true (eqJ_self x)
  clear HBP
  refine wp_region_held_drew (S := (fun w' => Blk w' k 35 (rowJ x) ∧ Blk w' y 35 (rowJ x))) (by kernel_rfl) (by exact ⟨A8.out.drew, G8.out.drew⟩) (fun hHeld => ?_)
  refine wpAnyH_take (i := 0) (oi := _) (v := ?_) rfl (by kernel_rfl) (by kernel_rfl) (by kernel_rfl) (fun _ _ _ h => h) (Or.inl ⟨by kernel_rfl, ?_⟩) hHeld ?_
  rotate_left 1
  focus (intro w' hSw; (try dsimp only at hSw); go_simp; try with_reducible rfl)
  try simp only [Act.put, List.getElem_toArray, List.getElem_cons_zero, List.getElem_cons_succ, List.setIfInBounds_toArray, List.set_cons_zero, List.set_cons_succ]
  refine wpAnyH_take (i := 1) (oi := _) (v := ?_) rfl (by kernel_rfl) (by kernel_rfl) (by kernel_rfl) (fun _ _ _ h => h) (Or.inl ⟨by kernel_rfl, ?_⟩) hHeld ?_
  rotate_left 1
  focus (intro w' hSw; (try dsimp only at hSw); go_simp; try with_reducible rfl)
  try simp only [Act.put, List.getElem_toArray, List.getElem_cons_zero, List.getElem_cons_succ, List.setIfInBounds_toArray, List.set_cons_zero, List.set_cons_succ]
  refine wpAnyH_take (i := 2) (oi := _) (v := ?_) rfl (by kernel_rfl) (by kernel_rfl) (by kernel_rfl) (fun _ _ _ h => h) (Or.inl ⟨by kernel_rfl, ?_⟩) hHeld ?_
  rotate_left 1
  focus (intro w' hSw; (try dsimp only at hSw); go_simp; try with_reducible rfl)
  try simp only [Act.put, List.getElem_toArray, List.getElem_cons_zero, List.getElem_cons_succ, List.setIfInBounds_toArray, List.set_cons_zero, List.set_cons_succ]
  refine wpAnyH_take (i := 3) (oi := _) (v := .agg (rowJ x)) rfl (by kernel_rfl) (by kernel_rfl) (by kernel_rfl) (fun _ _ _ h => h) (yields_row (by kernel_rfl) 35 (.tmp 6) rfl y rfl 35 (rowJ x) (0, 0) _ (fun _ h => Blk.heap (And.right h)) Tryd.underlying35 rfl L1.out) hHeld ?_
  try simp only [Act.put, List.getElem_toArray, List.getElem_cons_zero, List.getElem_cons_succ, List.setIfInBounds_toArray, List.set_cons_zero, List.set_cons_succ]
  refine wpAnyH_take (i := 4) (oi := _) (v := .agg (rowJ x)) rfl (by kernel_rfl) (by kernel_rfl) (by kernel_rfl) (fun _ _ _ h => h) (yields_row (by kernel_rfl) 35 (.tmp 2) rfl k rfl 35 (rowJ x) (0, 0) _ (fun _ h => Blk.heap (And.left h)) Tryd.underlying35 rfl L1.out) hHeld ?_
  try simp only [Act.put, List.getElem_toArray, List.getElem_cons_zero, List.getElem_cons_succ, List.setIfInBounds_toArray, List.set_cons_zero, List.set_cons_succ]
  refine wpAnyH_take (i := 5) (oi := _) (v := ?_) rfl (by kernel_rfl) (by kernel_rfl) (by kernel_rfl) (fun _ _ _ h => h) (Or.inl ⟨by kernel_rfl, ?_⟩) hHeld ?_
  rotate_left 1
  focus (intro w' hSw; (try dsimp only at hSw); go_simp; try with_reducible rfl)
  try simp only [Act.put, List.getElem_toArray, List.getElem_cons_zero, List.getElem_cons_succ, List.setIfInBounds_toArray, List.set_cons_zero, List.set_cons_succ]
  refine wpAnyH_take (i := 6) (oi := _) (v := ?_) rfl (by kernel_rfl) (by kernel_rfl) (by kernel_rfl) (fun _ _ _ h => h) (Or.inl ⟨by kernel_rfl, ?_⟩) hHeld ?_
  rotate_left 1
  focus (intro w' hSw; (try dsimp only at hSw); go_simp; try with_reducible rfl)
  try simp only [Act.put, List.getElem_toArray, List.getElem_cons_zero, List.getElem_cons_succ, List.setIfInBounds_toArray, List.set_cons_zero, List.set_cons_succ]
  refine wpAnyH_take (i := 7) (oi := _) (v := ?_) rfl (by kernel_rfl) (by kernel_rfl) (by kernel_rfl) (fun _ _ _ h => h) (Or.inl ⟨by kernel_rfl, ?_⟩) hHeld ?_
  rotate_left 1
  focus (intro w' hSw; (try dsimp only at hSw); go_simp; try with_reducible rfl)
  try simp only [Act.put, List.getElem_toArray, List.getElem_cons_zero, List.getElem_cons_succ, List.setIfInBounds_toArray, List.set_cons_zero, List.set_cons_succ]
  refine wpAnyH_take (i := 8) (oi := _) (v := ?_) rfl (by kernel_rfl) (by kernel_rfl) (by kernel_rfl) (fun _ _ _ h => h) (Or.inl ⟨by kernel_rfl, ?_⟩) hHeld ?_
  rotate_left 1
  focus (intro w' hSw; (try dsimp only at hSw); go_simp; try with_reducible rfl)
  try simp only [Act.put, List.getElem_toArray, List.getElem_cons_zero, List.getElem_cons_succ, List.setIfInBounds_toArray, List.set_cons_zero, List.set_cons_succ]
  refine wpAnyH_take (i := 10) (oi := _) (v := .agg (rowJ x)) rfl (by kernel_rfl) (by kernel_rfl) (by kernel_rfl) (fun _ _ _ h => h) (yields_row (by kernel_rfl) 35 (.tmp 2) rfl k rfl 35 (rowJ x) (0, 0) _ (fun _ h => Blk.heap (And.left h)) Tryd.underlying35 rfl L1.out) hHeld ?_
  try simp only [Act.put, List.getElem_toArray, List.getElem_cons_zero, List.getElem_cons_succ, List.setIfInBounds_toArray, List.set_cons_zero, List.set_cons_succ]
  refine wpAnyH_ready (rs := [9]) (by kernel_rfl) (by simp) ?_
  refine AllReadyH.cons (o := _) rfl (fun K hK => ?_) AllReadyH.nil
  go_simp
  go_at_call 14
  with_reducible refine (jtake_right g x l _ I8.out (PartsIs.drew P8.out) (by omega) HO.out HK.out RX.out H8.out hl15).mono ?_
  rintro en w11 ⟨rfl, hin, hgr⟩
  have A9 := hid (A8.out.drew.grown hgr (by intro e; injection e with e; omega))
  have G9 := hid (G8.out.drew.grown hgr (by intro e; injection e with e; omega))
  have I9 := hid hin
  have B9 : Hid (Below k w w11) := hid ((below_drew B8.out).trans (below_only (B := k) hgr (by omega) (by have := A8.out.drew.lt; omega)))
  clear hin hgr
  refine hK.out _ _ (by exact ⟨A9.out, G9.out⟩) (fun hHeld => ?_)
  clear hK K
  try simp only [Act.put, List.getElem_toArray, List.getElem_cons_zero, List.getElem_cons_succ, List.setIfInBounds_toArray, List.set_cons_zero, List.set_cons_succ]
  refine wpAnyH_take (i := 11) (oi := _) (v := ?_) rfl (by kernel_rfl) (by kernel_rfl) (by kernel_rfl) (fun _ _ _ h => h) (Or.inl ⟨by kernel_rfl, ?_⟩) hHeld ?_
  rotate_left 1
  focus (intro w' hSw; (try dsimp only at hSw); go_simp; try with_reducible rfl)
  try simp only [Act.put, List.getElem_toArray, List.getElem_cons_zero, List.getElem_cons_succ, List.setIfInBounds_toArray, List.set_cons_zero, List.set_cons_succ]
  refine wpAnyH_take (i := 12) (oi := _) (v := ?_) rfl (by kernel_rfl) (by kernel_rfl) (by kernel_rfl) (fun _ _ _ h => h) (Or.inl ⟨by kernel_rfl, ?_⟩) hHeld ?_
  rotate_left 1
  focus (intro w' hSw; (try dsimp only at hSw); go_simp; try with_reducible rfl)
  try simp only [Act.put, List.getElem_toArray, List.getElem_cons_zero, List.getElem_cons_succ, List.setIfInBounds_toArray, List.set_cons_zero, List.set_cons_succ]
  refine wpAnyH_take (i := 13) (oi := _) (v := ?_) rfl (by kernel_rfl) (by kernel_rfl) (by kernel_rfl) (fun _ _ _ h => h) (Or.inl ⟨by kernel_rfl, ?_⟩) hHeld ?_
  rotate_left 1
  focus (intro w' hSw; (try dsimp only at hSw); go_simp; try with_reducible rfl)
  try simp only [Act.put, List.getElem_toArray, List.getElem_cons_zero, List.getElem_cons_succ, List.setIfInBounds_toArray, List.set_cons_zero, List.set_cons_succ]
  refine wpAnyH_take (i := 14) (oi := _) (v := ?_) rfl (by kernel_rfl) (by kernel_rfl) (by kernel_rfl) (fun _ _ _ h => h) (Or.inl ⟨by kernel_rfl, ?_⟩) hHeld ?_
  rotate_left 1
  focus (intro w' hSw; (try dsimp only at hSw); go_simp; try with_reducible rfl)
  try simp only [Act.put, List.getElem_toArray, List.getElem_cons_zero, List.getElem_cons_succ, List.setIfInBounds_toArray, List.set_cons_zero, List.set_cons_succ]
  refine wpAnyH_take (i := 16) (oi := _) (v := ?_) rfl (by kernel_rfl) (by kernel_rfl) (by kernel_rfl) (fun _ _ _ h => h) (Or.inl ⟨by kernel_rfl, ?_⟩) hHeld ?_
  rotate_left 1
  focus (intro w' hSw; (try dsimp only at hSw); go_simp; try with_reducible rfl)
  try simp only [Act.put, List.getElem_toArray, List.getElem_cons_zero, List.getElem_cons_succ, List.setIfInBounds_toArray, List.set_cons_zero, List.set_cons_succ]
  refine wpAnyH_take (i := 17) (oi := _) (v := ?_) rfl (by kernel_rfl) (by kernel_rfl) (by kernel_rfl) (fun _ _ _ h => h) (Or.inl ⟨by kernel_rfl, ?_⟩) hHeld ?_
  rotate_left 1
  focus (intro w' hSw; (try dsimp only at hSw); go_simp; try with_reducible rfl)
  try simp only [Act.put, List.getElem_toArray, List.getElem_cons_zero, List.getElem_cons_succ, List.setIfInBounds_toArray, List.set_cons_zero, List.set_cons_succ]
  refine wpAnyH_ready (rs := [15]) (by kernel_rfl) (by simp) ?_
  refine AllReadyH.cons (o := _) rfl (fun K hK => ?_) AllReadyH.nil
  go_simp
  go_at_call 15
  with_reducible refine (left_any g l 0 _ I9.out).mono ?_
  rintro en w12 ⟨rfl, rfl⟩
  refine hK.out _ _ (by exact ⟨A9.out, G9.out⟩) (fun hHeld => ?_)
  clear hK K
  try simp only [Act.put, List.getElem_toArray, List.getElem_cons_zero, List.getElem_cons_succ, List.setIfInBounds_toArray, List.set_cons_zero, List.set_cons_succ]
  refine wpAnyH_take (i := 18) (oi := _) (v := ?_) rfl (by kernel_rfl) (by kernel_rfl) (by kernel_rfl) (fun _ _ _ h => h) (Or.inl ⟨by kernel_rfl, ?_⟩) hHeld ?_
  rotate_left 1
  focus (intro w' hSw; (try dsimp only at hSw); go_simp; try with_reducible rfl)
  try simp only [Act.put, List.getElem_toArray, List.getElem_cons_zero, List.getElem_cons_succ, List.setIfInBounds_toArray, List.set_cons_zero, List.set_cons_succ]
  refine wpAnyH_take (i := 19) (oi := _) (v := ?_) rfl (by kernel_rfl) (by kernel_rfl) (by kernel_rfl) (fun _ _ _ h => h) (Or.inl ⟨by kernel_rfl, ?_⟩) hHeld ?_
  rotate_left 1
  focus (intro w' hSw; (try dsimp only at hSw); go_simp; try with_reducible rfl)
  try simp only [Act.put, List.getElem_toArray, List.getElem_cons_zero, List.getElem_cons_succ, List.setIfInBounds_toArray, List.set_cons_zero, List.set_cons_succ]
  refine wpAnyH_take (i := 20) (oi := _) (v := ?_) rfl (by kernel_rfl) (by kernel_rfl) (by kernel_rfl) (fun _ _ _ h => h) (Or.inl ⟨by kernel_rfl, ?_⟩) hHeld ?_
  rotate_left 1
  focus (intro w' hSw; (try dsimp only at hSw); go_simp; try with_reducible rfl)
  try simp only [Act.put, List.getElem_toArray, List.getElem_cons_zero, List.getElem_cons_succ, List.setIfInBounds_toArray, List.set_cons_zero, List.set_cons_succ]
  refine wpAnyH_done (by kernel_rfl) ?_ _
  clear hHeld EG EQ
  go_wp2
  go_ret
  exact ⟨rfl, by rw [HKK.out]; exact B9.out⟩

theorem walk (x : J) (A : Option Addr) (l : List Nat) (ca : Nat) (hok : okJ x) (hK : okK x.c) (wf : ∀ i, i < 8 → (Lit.int .i64 (x.f i)).wf = true) (ws : -9223372036854775808 ≤ x.st ∧ x.st ≤ 9223372036854775807) (hn : A = none → ca = 0) (hl : l.length ≤ ca) (hm : ca ≤ maxLen) (hr : l.length * 1 ≤ 140737488351232) (h8 : ∀ x ∈ l, (Lit.int .u8 (x : Int)).wf = true) (w : World) (hA : Sees .u8 w A l) (hP : PartsIs w) :
    Calls Tryd.prog 4 #[.agg (rowJ x), .slice A l.length ca] w fun e w' => e = .returned (.bool true) ∧ Below w.heap.size w w' :=
  walk_b x A l ca w hok hK hn (by omega) (fun y hy => by have := u8_lt _ (h8 y hy); omega) hA hP

end Go.Proofs.YtapmchkikafpmaaDoor.instBytes

/-
  A command among the arguments, opened; what the three rows' one listed variable gives the walks, and that the door's own run meets it.
-/
namespace Go.Proofs.YtapmchkikafpmaaDoor
open Go.ChangeShapes Go.WideShapes Go.ChangeAt Go.WideMaps Go.WideElems Go.RowKit Go.Lib

theorem i64_of {n : Int} (h : (Lit.int .i64 n).wf = true) : -9223372036854775808 ≤ n ∧ n ≤ 9223372036854775807 := by
  have h1 : IntKind.i64.min = -9223372036854775808 := rfl
  have h2 : IntKind.i64.max = 9223372036854775807 := rfl
  simp only [Lit.wf, Bool.and_eq_true, decide_eq_true_eq] at h
  omega
theorem u64_of {n : Int} (h : (Lit.int .u64 n).wf = true) : 0 ≤ n ∧ n < 18446744073709551616 := by
  have h1 : IntKind.u64.min = 0 := rfl
  have h2 : IntKind.u64.max = 18446744073709551615 := rfl
  simp only [Lit.wf, Bool.and_eq_true, decide_eq_true_eq] at h
  omega

theorem array8 {α : Type} {cs : Array α} (h : cs.size = 8) : ∃ c0 c1 c2 c3 c4 c5 c6 c7, cs = #[c0, c1, c2, c3, c4, c5, c6, c7] := by
  obtain ⟨l⟩ := cs
  match l, h with
  | [c0, c1, c2, c3, c4, c5, c6, c7], _ => exact ⟨c0, c1, c2, c3, c4, c5, c6, c7, rfl⟩

set_option maxRecDepth 100000 in
theorem open_cmd {H : Type} {enc : TypeId × Value → H} {w : World} {base b0 : Nat} {spare : Nat → Bool} {held : Bool} {r : Reach} {v : Value} {d : DataW H} {p : List MemPlace}
    (hv : Value.okWide Tryd.prog w r b0 30 v) (h : DataW.Trod enc Tryd.prog w base spare held 30 v d p) : ∃ c : K, v = val c ∧ okK c ∧ c.foot.size ≤ maxLen ∧ c.path.size ≤ maxLen := by
  obtain ⟨cs, rfl, hsz⟩ := okWide_struct Tryd.underlying30 hv
  obtain ⟨a0, a1, a2, a3, a4, a5, a6, a7, rfl⟩ := array8 (hsz.trans (show Tryd.prog.cellsOf 30 = 8 by kernel_rfl))
  obtain ⟨fuel, hf⟩ := h
  obtain ⟨xs, n, _, _, _, hl, hfs⟩ := DataW.trod_struct Tryd.underlying30 hf
  have c1 : Tryd.prog.cellsOf 3 = 1 := by kernel_rfl
  have c2 : Tryd.prog.cellsOf 26 = 1 := by kernel_rfl
  have c3 : Tryd.prog.cellsOf 9 = 1 := by kernel_rfl
  have c4 : Tryd.prog.cellsOf 28 = 2 := by kernel_rfl
  have e0 := hfs 0 _ rfl
  have e1 := hfs 1 _ rfl
  have e2 := hfs 2 _ rfl
  have e3 := hfs 3 _ rfl
  have e4 := hfs 4 _ rfl
  have e5 := hfs 5 _ rfl
  have e6 := hfs 6 _ rfl
  simp [Value.cells, c1, c2, c3, c4] at e0 e1 e2 e3 e4 e5 e6
  have hx : xs.length = 7 := hl
  have at_ : ∀ i, i < 7 → ∃ y, xs[i]? = some y := fun i hi => ⟨xs[i]'(by omega), List.getElem?_eq_getElem (by omega)⟩
  obtain ⟨y0, z0⟩ := at_ 0 (by omega)
  obtain ⟨y1, z1⟩ := at_ 1 (by omega)
  obtain ⟨y2, z2⟩ := at_ 2 (by omega)
  obtain ⟨y3, z3⟩ := at_ 3 (by omega)
  obtain ⟨y4, z4⟩ := at_ 4 (by omega)
  obtain ⟨y5, z5⟩ := at_ 5 (by omega)
  obtain ⟨y6, z6⟩ := at_ 6 (by omega)
  rw [z0] at e0
  rw [z1] at e1
  rw [z2] at e2
  rw [z3] at e3
  rw [z4] at e4
  rw [z5] at e5
  rw [z6] at e6
  obtain ⟨k, hk, _, wk⟩ := DataW.trod_int Tryd.underlying3 e0
  obtain ⟨q, hq, _, wq⟩ := DataW.trod_int Tryd.underlying26 e2
  obtain ⟨s, hs, _, ws⟩ := DataW.trod_string Tryd.underlying9 e3
  obtain ⟨m, hm, _, wm⟩ := DataW.trod_int Tryd.underlying3 e4
  obtain ⟨nn, hn, _, wn⟩ := DataW.trod_int Tryd.underlying26 e5
  obtain ⟨t, ht, _, wt⟩ := DataW.trod_int Tryd.underlying3 e6
  obtain ⟨xs2, n2, _, _, _, hl2, hfs2⟩ := DataW.trod_struct Tryd.underlying28 e1
  have g0 := hfs2 0 _ rfl
  have g1 := hfs2 1 _ rfl
  simp [c2, c3] at g0 g1
  have hx2 : xs2.length = 2 := hl2
  have x0 : xs2[0]? = some (xs2[0]'(by omega)) := List.getElem?_eq_getElem (by omega)
  have x1 : xs2[1]? = some (xs2[1]'(by omega)) := List.getElem?_eq_getElem (by omega)
  rw [x0] at g0
  rw [x1] at g1
  obtain ⟨u, hu, _, wu⟩ := DataW.trod_int Tryd.underlying26 g0
  obtain ⟨f, hf', _, wf⟩ := DataW.trod_string Tryd.underlying9 g1
  simp only [List.cons.injEq, and_true] at hk hq hs hm hn ht hu hf'
  subst hk hq hs hm hn ht hu hf'
  exact ⟨⟨k, u, f, q, s, m, nn, t⟩, rfl, ⟨u64_of wu, u64_of wq, u64_of wn, i64_of wk, i64_of wm, i64_of wt⟩, wf, ws⟩

/-- The list of the three rows that stand on the table of kinds alone. -/
abbrev laid1 : List (String × DataW Unit) := [("moothill/cmd.parts", Rows.laid_moothill_cmd_parts)]
theorem tParts : (Tryd.prog.globals[0]?).map (·.type) = some 103 := by kernel_rfl
theorem tab_parts : (Rows.laid_moothill_cmd_parts : DataW Unit) = tabData .u8 [0, 51, 3, 35, 15, 15, 7, 23, 33] := by kernel_rfl
theorem of_laid1 {W : World} (h : laidMetH Tryd.prog laid1 W) : PartsIs W := by
  rw [MakeChecks.laidMetH_plain _ _ _ (by kernel_rfl)] at h
  obtain ⟨ps, ⟨g0, t0, cs0, f0, p0, q0, hg0, ht0, hv0, hd0, _, _⟩, _, _⟩ := h
  obtain rfl := Option.some.inj (gParts.symm.trans hg0)
  obtain rfl := Option.some.inj (tParts.symm.trans ht0)
  rw [tab_parts] at hd0
  have e0 := cells_of_tab Tryd.underlying103 Tryd.underlying89 (by kernel_rfl) (by kernel_rfl) hd0
  unfold PartsIs
  rw [hv0]
  congr 1
  exact Array.toList_inj.1 e0

theorem own7 : ownKnob Tryd.prog.godebug = none := by kernel_rfl
theorem laidOut7 : laidOutB Tryd.prog = true := by kernel_rfl

/-- The door's own heap meets the condition. -/
theorem door_met1 (os : Os) (args : Array Value) : laidMetH Tryd.prog laid1 ((World.doorLaid Tryd.prog 400 os).forCall (fun _ _ => 0) ⟨#[], args, []⟩).memory :=
  laidMetH_of_parts3 (fuel := 8) (laidMet_of_run' 8 (by kernel_rfl) (by kernel_rfl)) (by kernel_rfl) (by kernel_rfl)

end Go.Proofs.YtapmchkikafpmaaDoor

/-
  Attributes among the arguments.
-/
namespace Go.Proofs.YtapmchkikafpmaaDoor
open Go.ChangeShapes Go.WideShapes Go.ChangeAt Go.RowKit

theorem arr8 {cs : Array Value} (h : cs.size = 8) : ∃ a0 a1 a2 a3 a4 a5 a6 a7, cs = #[a0, a1, a2, a3, a4, a5, a6, a7] := by
  refine ⟨cs[0], cs[1], cs[2], cs[3], cs[4], cs[5], cs[6], cs[7], ?_⟩
  apply Array.ext
  · simp [h]
  · intro i h1 h2
    have h3 : i < 8 := by simpa using h2
    match i, h3 with
    | 0, _ => rfl
    | 1, _ => rfl
    | 2, _ => rfl
    | 3, _ => rfl
    | 4, _ => rfl
    | 5, _ => rfl
    | 6, _ => rfl
    | 7, _ => rfl

set_option maxRecDepth 100000 in
theorem open_attr {H : Type} {enc : TypeId × Value → H} {w : World} {base b0 : Nat} {spare : Nat → Bool} {held : Bool} {r : Reach} {v : Value} {d : DataW H} {p : List MemPlace}
    (hv : Value.okWide Tryd.prog w r b0 33 v) (h : DataW.Trod enc Tryd.prog w base spare held 33 v d p) : ∃ f : Nat → Int, v = .agg #[.int .i64 (f 0), .int .i64 (f 1), .int .i64 (f 2), .int .i64 (f 3), .int .i64 (f 4), .int .i64 (f 5), .int .i64 (f 6), .int .i64 (f 7)] ∧ ∀ i, i < 8 → (Lit.int .i64 (f i)).wf = true := by
  obtain ⟨cs, rfl, hsz⟩ := okWide_struct Tryd.underlying33 hv
  obtain ⟨a0, a1, a2, a3, a4, a5, a6, a7, rfl⟩ := arr8 (hsz.trans (show Tryd.prog.cellsOf 33 = 8 by kernel_rfl))
  obtain ⟨fuel, hf⟩ := h
  obtain ⟨xs, n, _, _, _, hl, hfs⟩ := DataW.trod_struct Tryd.underlying33 hf
  have c1 : Tryd.prog.cellsOf 3 = 1 := by kernel_rfl
  have c7 : Tryd.prog.cellsOf 31 = 7 := by kernel_rfl
  have e0 := hfs 0 _ rfl
  have e1 := hfs 1 _ rfl
  simp [Value.cells, c1, c7] at e0 e1
  have hx : xs.length = 2 := hl
  have z0 : xs[0]? = some (xs[0]'(by omega)) := List.getElem?_eq_getElem (by omega)
  have z1 : xs[1]? = some (xs[1]'(by omega)) := List.getElem?_eq_getElem (by omega)
  generalize xs[0]'(by omega) = y0 at z0
  generalize xs[1]'(by omega) = y1 at z1
  rw [z0] at e0
  rw [z1] at e1
  obtain ⟨s, hs, _, ws⟩ := DataW.trod_int Tryd.underlying3 e0
  obtain ⟨ys, m, _, _, _, hm, hgs⟩ := DataW.trod_array Tryd.underlying31 e1
  rw [c1] at hgs
  have at_ : ∀ i, i < 7 → ∃ y, ys[i]? = some y := fun i hi => ⟨ys[i]'(by omega), List.getElem?_eq_getElem (by omega)⟩
  have one : ∀ (i : Nat) (a : Value), i < 7 → (([a1, a2, a3, a4, a5, a6, a7] : List Value).drop (i * 1)).take 1 = [a] → ∃ n : Int, a = .int .i64 n ∧ (Lit.int .i64 n).wf = true := by
    intro i a hi ha
    obtain ⟨y, hy⟩ := at_ i hi
    have hg := hgs i hi
    rw [ha, hy] at hg
    obtain ⟨n, hn, _, wn⟩ := DataW.trod_int Tryd.underlying3 hg
    simp at hn
    exact ⟨n, hn, wn⟩
  obtain ⟨n1, rfl, w1⟩ := one 0 a1 (by omega) rfl
  obtain ⟨n2, rfl, w2⟩ := one 1 a2 (by omega) rfl
  obtain ⟨n3, rfl, w3⟩ := one 2 a3 (by omega) rfl
  obtain ⟨n4, rfl, w4⟩ := one 3 a4 (by omega) rfl
  obtain ⟨n5, rfl, w5⟩ := one 4 a5 (by omega) rfl
  obtain ⟨n6, rfl, w6⟩ := one 5 a6 (by omega) rfl
  obtain ⟨n7, rfl, w7⟩ := one 6 a7 (by omega) rfl
  simp at hs
  subst hs
  refine ⟨fun i => match i with | 0 => s | 1 => n1 | 2 => n2 | 3 => n3 | 4 => n4 | 5 => n5 | 6 => n6 | _ => n7, rfl, fun i hi => ?_⟩
  match i, hi with
  | 0, _ => exact ws
  | 1, _ => exact w1
  | 2, _ => exact w2
  | 3, _ => exact w3
  | 4, _ => exact w4
  | 5, _ => exact w5
  | 6, _ => exact w6
  | 7, _ => exact w7

end Go.Proofs.YtapmchkikafpmaaDoor

/-
  A state among the arguments, opened.
-/
namespace Go.Proofs.YtapmchkikafpmaaDoor
open Go.ChangeShapes Go.WideShapes Go.ChangeAt Go.WideMaps Go.WideElems Go.RowKit Go.Lib

set_option maxRecDepth 100000 in
theorem open_cmd8 {H : Type} {enc : TypeId × Value → H} {w : World} {base : Nat} {spare : Nat → Bool} {held : Bool} {d : DataW H} {p : List MemPlace} {fuel : Nat} {a0 a1 a2 a3 a4 a5 a6 a7 : Value}
    (hf : DataW.trod enc Tryd.prog w base spare held fuel 30 [a0, a1, a2, a3, a4, a5, a6, a7] = some (d, p)) : ∃ c : K, #[a0, a1, a2, a3, a4, a5, a6, a7] = cellsOf c ∧ okK c ∧ c.foot.size ≤ maxLen ∧ c.path.size ≤ maxLen := by
  obtain ⟨xs, n, _, _, _, hl, hfs⟩ := DataW.trod_struct Tryd.underlying30 hf
  have c1 : Tryd.prog.cellsOf 3 = 1 := by kernel_rfl
  have c2 : Tryd.prog.cellsOf 26 = 1 := by kernel_rfl
  have c3 : Tryd.prog.cellsOf 9 = 1 := by kernel_rfl
  have c4 : Tryd.prog.cellsOf 28 = 2 := by kernel_rfl
  have e0 := hfs 0 _ rfl
  have e1 := hfs 1 _ rfl
  have e2 := hfs 2 _ rfl
  have e3 := hfs 3 _ rfl
  have e4 := hfs 4 _ rfl
  have e5 := hfs 5 _ rfl
  have e6 := hfs 6 _ rfl
  simp [c1, c2, c3, c4] at e0 e1 e2 e3 e4 e5 e6
  have hx : xs.length = 7 := hl
  have at_ : ∀ i, i < 7 → ∃ y, xs[i]? = some y := fun i hi => ⟨xs[i]'(by omega), List.getElem?_eq_getElem (by omega)⟩
  obtain ⟨y0, z0⟩ := at_ 0 (by omega)
  obtain ⟨y1, z1⟩ := at_ 1 (by omega)
  obtain ⟨y2, z2⟩ := at_ 2 (by omega)
  obtain ⟨y3, z3⟩ := at_ 3 (by omega)
  obtain ⟨y4, z4⟩ := at_ 4 (by omega)
  obtain ⟨y5, z5⟩ := at_ 5 (by omega)
  obtain ⟨y6, z6⟩ := at_ 6 (by omega)
  rw [z0] at e0
  rw [z1] at e1
  rw [z2] at e2
  rw [z3] at e3
  rw [z4] at e4
  rw [z5] at e5
  rw [z6] at e6
  obtain ⟨k, hk, _, wk⟩ := DataW.trod_int Tryd.underlying3 e0
  obtain ⟨q, hq, _, wq⟩ := DataW.trod_int Tryd.underlying26 e2
  obtain ⟨s, hs, _, ws⟩ := DataW.trod_string Tryd.underlying9 e3
  obtain ⟨m, hm, _, wm⟩ := DataW.trod_int Tryd.underlying3 e4
  obtain ⟨nn, hn, _, wn⟩ := DataW.trod_int Tryd.underlying26 e5
  obtain ⟨t, ht, _, wt⟩ := DataW.trod_int Tryd.underlying3 e6
  obtain ⟨xs2, n2, _, _, _, hl2, hfs2⟩ := DataW.trod_struct Tryd.underlying28 e1
  have g0 := hfs2 0 _ rfl
  have g1 := hfs2 1 _ rfl
  simp [c2, c3] at g0 g1
  have hx2 : xs2.length = 2 := hl2
  have x0 : xs2[0]? = some (xs2[0]'(by omega)) := List.getElem?_eq_getElem (by omega)
  have x1 : xs2[1]? = some (xs2[1]'(by omega)) := List.getElem?_eq_getElem (by omega)
  rw [x0] at g0
  rw [x1] at g1
  obtain ⟨u, hu, _, wu⟩ := DataW.trod_int Tryd.underlying26 g0
  obtain ⟨f, hf', _, wf⟩ := DataW.trod_string Tryd.underlying9 g1
  simp only [List.cons.injEq, and_true] at hk hq hs hm hn ht hu hf'
  subst hk hq hs hm hn ht hu hf'
  exact ⟨⟨k, u, f, q, s, m, nn, t⟩, rfl, ⟨u64_of wu, u64_of wq, u64_of wn, i64_of wk, i64_of wm, i64_of wt⟩, wf, ws⟩

set_option maxRecDepth 100000 in
theorem open_attr8 {H : Type} {enc : TypeId × Value → H} {w : World} {base : Nat} {spare : Nat → Bool} {held : Bool} {d : DataW H} {p : List MemPlace} {fuel : Nat} {a0 a1 a2 a3 a4 a5 a6 a7 : Value}
    (hf : DataW.trod enc Tryd.prog w base spare held fuel 33 [a0, a1, a2, a3, a4, a5, a6, a7] = some (d, p)) : ∃ f : Nat → Int, #[a0, a1, a2, a3, a4, a5, a6, a7] = cs8 f ∧ ∀ i, i < 8 → (Lit.int .i64 (f i)).wf = true := by
  obtain ⟨xs, n, _, _, _, hl, hfs⟩ := DataW.trod_struct Tryd.underlying33 hf
  have c1 : Tryd.prog.cellsOf 3 = 1 := by kernel_rfl
  have c7 : Tryd.prog.cellsOf 31 = 7 := by kernel_rfl
  have e0 := hfs 0 _ rfl
  have e1 := hfs 1 _ rfl
  simp [c1, c7] at e0 e1
  have hx : xs.length = 2 := hl
  have z0 : xs[0]? = some (xs[0]'(by omega)) := List.getElem?_eq_getElem (by omega)
  have z1 : xs[1]? = some (xs[1]'(by omega)) := List.getElem?_eq_getElem (by omega)
  generalize xs[0]'(by omega) = y0 at z0
  generalize xs[1]'(by omega) = y1 at z1
  rw [z0] at e0
  rw [z1] at e1
  obtain ⟨s, hs, _, ws⟩ := DataW.trod_int Tryd.underlying3 e0
  obtain ⟨ys, m, _, _, _, hm, hgs⟩ := DataW.trod_array Tryd.underlying31 e1
  rw [c1] at hgs
  have at_ : ∀ i, i < 7 → ∃ y, ys[i]? = some y := fun i hi => ⟨ys[i]'(by omega), List.getElem?_eq_getElem (by omega)⟩
  have one : ∀ (i : Nat) (a : Value), i < 7 → (([a1, a2, a3, a4, a5, a6, a7] : List Value).drop (i * 1)).take 1 = [a] → ∃ n : Int, a = .int .i64 n ∧ (Lit.int .i64 n).wf = true := by
    intro i a hi ha
    obtain ⟨y, hy⟩ := at_ i hi
    have hg := hgs i hi
    rw [ha, hy] at hg
    obtain ⟨n, hn, _, wn⟩ := DataW.trod_int Tryd.underlying3 hg
    simp at hn
    exact ⟨n, hn, wn⟩
  obtain ⟨n1, rfl, w1⟩ := one 0 a1 (by omega) rfl
  obtain ⟨n2, rfl, w2⟩ := one 1 a2 (by omega) rfl
  obtain ⟨n3, rfl, w3⟩ := one 2 a3 (by omega) rfl
  obtain ⟨n4, rfl, w4⟩ := one 3 a4 (by omega) rfl
  obtain ⟨n5, rfl, w5⟩ := one 4 a5 (by omega) rfl
  obtain ⟨n6, rfl, w6⟩ := one 5 a6 (by omega) rfl
  obtain ⟨n7, rfl, w7⟩ := one 6 a7 (by omega) rfl
  simp at hs
  subst hs
  refine ⟨fun i => match i with | 0 => s | 1 => n1 | 2 => n2 | 3 => n3 | 4 => n4 | 5 => n5 | 6 => n6 | _ => n7, rfl, fun i hi => ?_⟩
  match i, hi with
  | 0, _ => exact ws
  | 1, _ => exact w1
  | 2, _ => exact w2
  | 3, _ => exact w3
  | 4, _ => exact w4
  | 5, _ => exact w5
  | 6, _ => exact w6
  | 7, _ => exact w7

theorem u32_of {n : Int} (h : (Lit.int .u32 n).wf = true) : 0 ≤ n ∧ n < 4294967296 := by
  have h1 : IntKind.u32.min = 0 := rfl
  have h2 : IntKind.u32.max = 4294967295 := rfl
  simp only [Lit.wf, Bool.and_eq_true, decide_eq_true_eq] at h
  omega
theorem array22 {α : Type} {cs : Array α} (h : cs.size = 22) : ∃ c0 c1 c2 c3 c4 c5 c6 c7 c8 c9 c10 c11 c12 c13 c14 c15 c16 c17 c18 c19 c20 c21, cs = #[c0, c1, c2, c3, c4, c5, c6, c7, c8, c9, c10, c11, c12, c13, c14, c15, c16, c17, c18, c19, c20, c21] := by
  obtain ⟨l⟩ := cs
  match l, h with
  | [c0, c1, c2, c3, c4, c5, c6, c7, c8, c9, c10, c11, c12, c13, c14, c15, c16, c17, c18, c19, c20, c21], _ => exact ⟨c0, c1, c2, c3, c4, c5, c6, c7, c8, c9, c10, c11, c12, c13, c14, c15, c16, c17, c18, c19, c20, c21, rfl⟩

set_option maxRecDepth 100000 in
theorem open_inst {H : Type} {enc : TypeId × Value → H} {w : World} {base b0 : Nat} {spare : Nat → Bool} {held : Bool} {r : Reach} {v : Value} {d : DataW H} {p : List MemPlace}
    (hv : Value.okWide Tryd.prog w r b0 35 v) (h : DataW.Trod enc Tryd.prog w base spare held 35 v d p) :
    ∃ x : J, v = .agg (rowJ x) ∧ okJ x ∧ okK x.c ∧ (∀ i, i < 8 → (Lit.int .i64 (x.f i)).wf = true) ∧ (-9223372036854775808 ≤ x.st ∧ x.st ≤ 9223372036854775807) := by
  obtain ⟨cs, rfl, hsz⟩ := okWide_struct Tryd.underlying35 hv
  obtain ⟨a0, a1, a2, a3, a4, a5, a6, a7, a8, a9, a10, a11, a12, a13, a14, a15, a16, a17, a18, a19, a20, a21, rfl⟩ := array22 (hsz.trans (show Tryd.prog.cellsOf 35 = 22 by kernel_rfl))
  obtain ⟨fuel, hf⟩ := h
  obtain ⟨xs, n, _, _, _, hl, hfs⟩ := DataW.trod_struct Tryd.underlying35 hf
  have c1 : Tryd.prog.cellsOf 3 = 1 := by kernel_rfl
  have c2 : Tryd.prog.cellsOf 25 = 1 := by kernel_rfl
  have c3 : Tryd.prog.cellsOf 4 = 1 := by kernel_rfl
  have c4 : Tryd.prog.cellsOf 23 = 2 := by kernel_rfl
  have c5 : Tryd.prog.cellsOf 30 = 8 := by kernel_rfl
  have c6 : Tryd.prog.cellsOf 33 = 8 := by kernel_rfl
  have e0 := hfs 0 _ rfl
  have e1 := hfs 1 _ rfl
  have e2 := hfs 2 _ rfl
  have e3 := hfs 3 _ rfl
  have e4 := hfs 4 _ rfl
  have e5 := hfs 5 _ rfl
  have e6 := hfs 6 _ rfl
  simp [Value.cells, c1, c2, c3, c4, c5, c6] at e0 e1 e2 e3 e4 e5 e6
  have hx : xs.length = 7 := hl
  have at_ : ∀ i, i < 7 → ∃ y, xs[i]? = some y := fun i hi => ⟨xs[i]'(by omega), List.getElem?_eq_getElem (by omega)⟩
  obtain ⟨⟨y0, q0⟩, z0⟩ := at_ 0 (by omega)
  rw [z0] at e0
  obtain ⟨⟨y1, q1⟩, z1⟩ := at_ 1 (by omega)
  rw [z1] at e1
  obtain ⟨⟨y2, q2⟩, z2⟩ := at_ 2 (by omega)
  rw [z2] at e2
  obtain ⟨⟨y3, q3⟩, z3⟩ := at_ 3 (by omega)
  rw [z3] at e3
  obtain ⟨⟨y4, q4⟩, z4⟩ := at_ 4 (by omega)
  rw [z4] at e4
  obtain ⟨⟨y5, q5⟩, z5⟩ := at_ 5 (by omega)
  rw [z5] at e5
  obtain ⟨⟨y6, q6⟩, z6⟩ := at_ 6 (by omega)
  rw [z6] at e6
  obtain ⟨st, hst, _, wst⟩ := DataW.trod_int Tryd.underlying3 e1
  obtain ⟨bal, hbal, _, wbal⟩ := DataW.trod_int Tryd.underlying25 e2
  obtain ⟨vote, hvote, _, wvote⟩ := DataW.trod_int Tryd.underlying25 e3
  obtain ⟨sm, hsm, _⟩ := DataW.trod_bool Tryd.underlying4 e4
  obtain ⟨c, hc, wc, _, _⟩ := open_cmd8 e5
  obtain ⟨f, hf8, wf⟩ := open_attr8 e6
  obtain ⟨xs2, n2, _, _, _, hl2, hfs2⟩ := DataW.trod_struct Tryd.underlying23 e0
  have g0 := hfs2 0 _ rfl
  have g1 := hfs2 1 _ rfl
  simp [c1] at g0 g1
  have hx2 : xs2.length = 2 := hl2
  have x0 : xs2[0]? = some (xs2[0]'(by omega)) := List.getElem?_eq_getElem (by omega)
  have x1 : xs2[1]? = some (xs2[1]'(by omega)) := List.getElem?_eq_getElem (by omega)
  rw [x0] at g0
  rw [x1] at g1
  obtain ⟨r, hr, _, wr⟩ := DataW.trod_int Tryd.underlying3 g0
  obtain ⟨s, hs, _, ws⟩ := DataW.trod_int Tryd.underlying3 g1
  simp only [List.cons.injEq, and_true] at hst hbal hvote hsm hr hs
  simp only [cellsOf, cs8, Array.mk.injEq, List.cons.injEq, and_true] at hc hf8
  obtain ⟨h6, h7, h8, h9, h10, h11, h12, h13⟩ := hc
  obtain ⟨h14, h15, h16, h17, h18, h19, h20, h21⟩ := hf8
  subst hst hbal hvote hsm hr hs h6 h7 h8 h9 h10 h11 h12 h13 h14 h15 h16 h17 h18 h19 h20 h21
  exact ⟨⟨r, s, st, bal, vote, sm, c, f⟩, rfl, ⟨u32_of wbal, u32_of wvote⟩, wc, wf, i64_of wst⟩

end Go.Proofs.YtapmchkikafpmaaDoor

/-
  InstBytes, its tied card: for any state and any bytes the law's call returns true: a right state is read from its bytes, whatever follows. The condition: the table of kinds (package cmd) holds what its text lays, which the card ties to the program.
-/
namespace Go.Proofs.YtapmchkikafpmaaDoor.instBytes
open Go.ChangeShapes Go.WideShapes Go.ChangeAt Go.RowKit Go.Lib Go.Joins
set_option linter.unusedVariables false



set_option maxRecDepth 100000 in
theorem lifted (os : Os) (started : os.Started) (H : Type) (enc : TypeId × Value → H) :
    ReturnsInHanded {} Tryd.checked os 4 .any (fun w args => (Rows.instBytesSpec.pre enc Tryd.prog Tryd.f4 [] false w args ∧ laidMetH Tryd.prog laid1 w) ∧ sizedMet enc Tryd.prog Tryd.f4 (OpenSpec.ofChange Rows.instBytesSpec) false w args) (Rows.instBytesSpec.post enc Tryd.prog Tryd.f4 false true false false) := by
  refine returnsInHanded_of_change_and (C := Tryd.checked) (X := fun w _ => laidMetH Tryd.prog laid1 w) (fun _ _ _ hh h => h.of_heap hh) own7 started (by kernel_rfl) Tryd.func4
    (ChangeSpec.witness_shaped (enc := enc) (C := Tryd.checked) (os := os) (X := fun w _ => laidMetH Tryd.prog laid1 w) false (World.doorLaid Tryd.prog 400 os) #[.agg #[.int .i64 0, .int .i64 0, .int .i64 0, .int .u32 0, .int .u32 0, .bool false, .int .i64 0, .int .u64 0, .string ⟨#[]⟩, .int .u64 0, .string ⟨#[]⟩, .int .i64 0, .int .u64 0, .int .i64 0, .int .i64 0, .int .i64 0, .int .i64 0, .int .i64 0, .int .i64 0, .int .i64 0, .int .i64 0, .int .i64 0], .slice none 0 0] 8 rfl (World.shaped_of_RefB (by kernel_rfl) (by kernel_rfl)) (by kernel_rfl) (by kernel_rfl) (by kernel_rfl) (door_met1 os _)) ?_
  intro W base args ds gs before hval0 hW _ hsz0 hL _
  have hsz : (DataW.weightsEach Tryd.prog (Tryd.f4.params.toList ++ Rows.instBytesSpec.plain.varTypes Tryd.prog) (ds ++ gs)).all (· ≤ reachBytes) = true := hsz0
  have hval : ∀ (j : Nat) t v, Tryd.f4.params[j]? = some t → args[j]? = some v → Value.okWide Tryd.prog W .any base t v := hval0
  have hW' := hW
  obtain ⟨p, q, hA0, hV, rfl, _, _⟩ := hW
  have hA : DataW.TrodAll enc Tryd.prog W 0 (fun _ => true) true Tryd.f4.params.toList args.toList ds p := hA0
  rw [Tryd.params4] at hA hval hsz
  have hlt : ∀ x ∈ p, x.block < W.heap.size := fun x hx => by simpa using hW'.lt x (List.mem_append_left _ hx)
  obtain ⟨v0, vs0, d0, ds0, p0, q0, hargs, rfl, rfl, g0, r0⟩ := trodAll_cons hA
  obtain ⟨v1, vs1, d1, ds1, p1, q1, rfl, rfl, rfl, g1, r1⟩ := trodAll_cons r0
  obtain ⟨rfl, rfl, rfl⟩ := trodAll_nil r1
  obtain rfl : args = #[v0, v1] := by cases args; simp_all
  obtain ⟨rfl, rfl⟩ := trodVars_none hV
  obtain ⟨a0, rfl, w0, wk0, wf0, ws0⟩ := open_inst (hval 0 35 v0 rfl rfl) g0
  obtain ⟨A1, c1, l1, rfl, hn1, hl1, hm1, hs1, hw1, hd1⟩ := open_nums Tryd.underlying39 Tryd.underlying5 cells_u8 u8_pos (hval 1 39 v1 rfl rfl) g1 (fun x hx => hlt x <| List.mem_append_right _ <| List.mem_append_left _ hx)
  have hr1 : l1.length * 1 ≤ 140737488351232 := by
    rcases hd1 with rfl | ⟨es, sp, hd, hlen⟩
    · simp
    · have := sized_slice hsz (j := 1) (t := 39) (e := 5) rfl (by rw [hd]; rfl) Tryd.underlying39
      rw [bytes_u8] at this
      simp only [reachBytes] at this
      omega
  refine (walk a0 A1 l1 c1 w0 wk0 wf0 ws0 hn1 hl1 hm1 hr1 hw1 W hs1 (of_laid1 hL)).mono fun e W' ⟨he, hg⟩ => ?_
  subst he
  exact ⟨_, rfl, law_post laidOut7 hW' (by kernel_rfl) rfl rfl Tryd.underlying4 rfl hg⟩

theorem said : Rows.InstBytesSaid :=
  OpenClaim.holds_of_wide 4 Tryd.f4 rfl rfl rfl rfl rfl rfl rfl ⟨rfl, rfl, rfl, rfl, rfl⟩ rfl rfl rfl rfl rfl (by kernel_rfl) Tryd.func4 (by kernel_rfl)
    (of_decide_eq_true (by kernel_rfl)) (by unfold Func.isWrapper; first | (rw [if_pos (by decide +kernel)]; kernel_rfl) | (rw [if_neg (by decide +kernel)]; exact ⟨rfl, rfl⟩))
    (fun os started H enc _ => lifted os started H enc)

set_option maxRecDepth 100000 in
theorem proved : Rows.InstBytesCardSaid :=
  Claim7.holds_tied_plain_at .later [] [.data] true _ false
    said (fun _ h => by cases h) (by kernel_rfl) (fun _ h => by cases h) instBytes_row_tie rfl ⟨rfl, rfl⟩ (by kernel_rfl) rfl
    (fun f fn hf hfn => by
      obtain rfl : f = 4 := Option.some.inj ((show Tryd.prog.funcNamed "moothill/moothilllaw10.InstBytes" = some 4 by kernel_rfl).symm.trans hf) |>.symm
      obtain rfl : fn = Tryd.f4 := (Option.some.inj (Tryd.func4.symm.trans hfn)).symm
      exact ⟨by kernel_rfl, fun j t ht => by
        rw [Tryd.params4] at ht
        have hm : t ∈ [35, 39] := by simpa using Array.mem_of_getElem? ht
        have hall : ([35, 39].all fun u => !Tryd.prog.wantsStandIn u) = true := by kernel_rfl
        exact (show Tryd.prog.wantsStandIn t = false by simpa using List.all_eq_true.1 hall t hm)⟩)
    (by kernel_rfl)
#print axioms proved

end Go.Proofs.YtapmchkikafpmaaDoor.instBytes
