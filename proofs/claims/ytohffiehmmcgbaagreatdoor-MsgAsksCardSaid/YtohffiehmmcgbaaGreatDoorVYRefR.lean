/-
  The document's own Right of a message (moothillref11).
-/
import Derived.Test.YtohffiehmmcgbaaGreatDoorVYRef
namespace Go.Proofs.YtohffiehmmcgbaaGreatDoor
open Go.ChangeShapes Go.WideShapes Go.ChangeAt Go.RowKit Go.Lib
set_option linter.unusedVariables false
set_option linter.unusedSimpArgs false

abbrev wantCells : Array Value := #[.int .i64 0, .int .i64 1, .int .i64 0, .int .i64 2, .int .i64 0, .int .i64 3]
theorem want_ix1 (W : World) : (Instr.index 111 (.agg wantCells) (.int .i64 1)).run Tryz.prog W = .ok (.int .i64 1) W := by kernel_rfl
theorem want_ix3 (W : World) : (Instr.index 111 (.agg wantCells) (.int .i64 3)).run Tryz.prog W = .ok (.int .i64 2) W := by kernel_rfl
theorem want_ix5 (W : World) : (Instr.index 111 (.agg wantCells) (.int .i64 5)).run Tryz.prog W = .ok (.int .i64 3) W := by kernel_rfl

set_option maxRecDepth 100000 in
set_option maxHeartbeats 8000000 in
theorem refmright_any (m : Ms) (hok : okM m) (w : World) (hf : m.x.c.foot.size ≤ 900) (hp : m.x.c.path.size ≤ 900) :
    Calls Tryz.prog 27 #[.agg (rowM m)] w fun e w' => e = .returned (.bool (rightM m)) ∧ Below w.heap.size w w' := by
  rw [← doc_rightM m]
  obtain ⟨nb, hnb⟩ : ∃ a, nameB m.r m.s = a := ⟨_, rfl⟩
  obtain ⟨ba, hba⟩ : ∃ a, balB m.bal = a := ⟨_, rfl⟩
  obtain ⟨ez, hez⟩ : ∃ a, eqJ m.x zeroJ = a := ⟨_, rfl⟩
  obtain ⟨rj, hrj⟩ : ∃ a, rightJ m.x = a := ⟨_, rfl⟩
  obtain ⟨en, hen⟩ : ∃ a, (m.x.r == m.r && m.x.s == m.s) = a := ⟨_, rfl⟩
  obtain ⟨ok, hk0⟩ : ∃ a, m.ok = a := ⟨_, rfl⟩
  obtain ⟨sm, hsm⟩ : ∃ a, m.x.same = a := ⟨_, rfl⟩
  obtain ⟨hb, hhb⟩ : ∃ a, (decide (1 ≤ m.k) && decide (m.k ≤ 7) && decide (0 ≤ m.a) && decide (m.a ≤ 6) && decide (0 ≤ m.b) && decide (m.b ≤ 6) && (m.a != m.b)) = a := ⟨_, rfl⟩
  have HV : Hid (docM m = (hb && nb && ba && (if m.k = 6 then !ok && ez else rj && en && (replyB m.k || (!ok && (m.x.st == statK m.k) && (m.x.bal == m.bal) && (m.x.vote == m.bal) && !sm))))) := hid (by unfold docM; rw [hhb, hnb, hba, hez, hrj, hen, hk0, hsm])
  have HOB := hid hok.1
  have HJX := hid (show okJ m.x ∧ okK m.x.c from hok.2)
  have HH := hid hhb
  have NB := hid hnb
  have BA := hid hba
  have EZ := hid hez
  have RJ := hid hrj
  have EN := hid hen
  have OK := hid hk0
  have SM := hid hsm
  clear hok hhb hnb hba hez hrj hen hk0 hsm
  go_enter Tryz.func27, Tryz.ntmps27
  go_upto_region 1 with fail
  obtain ⟨W, hW⟩ : ∃ W, w.alloc (.cells (rowM m) 67) = W := ⟨_, rfl⟩
  rw [hW]
  obtain ⟨K0, KB⟩ := one_new hW
  clear hW
  obtain ⟨g, hg⟩ : ∃ k, w.heap.size = k := ⟨_, rfl⟩
  rw [hg] at K0 KB
  rw [hg]
  have HG := hid hg
  clear hg
  have L2 := hid (show (Tryz.prog.info? 48).map (·.size) = some 22 from info_refx)
  have c0 := K0.out.m0
  have c1 := K0.out.m1
  have c2 := K0.out.m2
  have c3 := K0.out.m3
  have c4 := K0.out.m4
  have c5 := K0.out.m5
  cases hb
  · have hneg : m.k < 1 ∨ 7 < m.k ∨ m.a < 0 ∨ 6 < m.a ∨ m.b < 0 ∨ 6 < m.b ∨ m.a = m.b := by
      have := HH.out
      simp only [Bool.and_eq_false_iff, decide_eq_false_iff_not, bne_eq_false_iff_eq] at this
      omega
    clear c3 c4 c5
    by_cases t0 : m.k < 1
    · go_wp2
      go_ret
      exact ⟨ret_bool (by rw [HV.out]; simp), by rw [HG.out]; exact KB.out⟩
    by_cases t1 : 7 < m.k
    · go_wp2
      go_ret
      exact ⟨ret_bool (by rw [HV.out]; simp), by rw [HG.out]; exact KB.out⟩
    by_cases t2 : m.a < 0
    · go_wp2
      go_ret
      exact ⟨ret_bool (by rw [HV.out]; simp), by rw [HG.out]; exact KB.out⟩
    by_cases t3 : 6 < m.a
    · go_wp2
      go_ret
      exact ⟨ret_bool (by rw [HV.out]; simp), by rw [HG.out]; exact KB.out⟩
    by_cases t4 : m.b < 0
    · go_wp2
      go_ret
      exact ⟨ret_bool (by rw [HV.out]; simp), by rw [HG.out]; exact KB.out⟩
    by_cases t5 : 6 < m.b
    · go_wp2
      go_ret
      exact ⟨ret_bool (by rw [HV.out]; simp), by rw [HG.out]; exact KB.out⟩
    have t6 : m.a = m.b := by omega
    have t6b : (m.a == m.b) = true := beq_iff_eq.2 t6
    go_wp2
    go_ret
    exact ⟨ret_bool (by rw [HV.out]; simp), by rw [HG.out]; exact KB.out⟩
  have hpos : 1 ≤ m.k ∧ m.k ≤ 7 ∧ 0 ≤ m.a ∧ m.a ≤ 6 ∧ 0 ≤ m.b ∧ m.b ≤ 6 ∧ m.a ≠ m.b := by
    have := HH.out
    simp only [Bool.and_eq_true, decide_eq_true_eq, bne_iff_ne] at this
    obtain ⟨⟨⟨⟨⟨⟨h1, h2⟩, h3⟩, h4⟩, h5⟩, h6⟩, h7⟩ := this
    exact ⟨h1, h2, h3, h4, h5, h6, h7⟩
  obtain ⟨p1, p2, p3, p4, p5, p6, p7⟩ := hpos
  have t0 : ¬ m.k < 1 := by omega
  have t1 : ¬ 7 < m.k := by omega
  have t2 : ¬ m.a < 0 := by omega
  have t3 : ¬ 6 < m.a := by omega
  have t4 : ¬ m.b < 0 := by omega
  have t5 : ¬ 6 < m.b := by omega
  have t6 : (m.a == m.b) = false := beq_eq_false_iff_ne.2 p7
  go_wp2_with fail
  with_reducible refine (nrefright_any m.r m.s _).mono ?_
  rw [NB.out]
  rintro e w1 ⟨rfl, hb⟩
  have E0 := hid (K0.out.below hb K0.out.lt)
  have EB := hid (below_pay KB.out (by have := K0.out.lt; omega) hb)
  clear hb c0 c1 c2 c3 c4 c5 K0 KB t0 t1 t2 t3 t4 t5 t6
  cases nb
  · go_wp2
    go_ret
    exact ⟨ret_bool (by rw [HV.out]; simp), by rw [HG.out]; exact EB.out⟩
  have c0 := E0.out.m0
  have c5 := E0.out.m5
  have c6 := E0.out.m6
  rw [OK.out] at c6
  go_wp2_with fail
  with_reducible refine (refballot_int m.bal _ HOB.out).mono ?_
  rw [BA.out]
  rintro e w2 ⟨rfl, rfl⟩
  cases ba
  · go_wp2
    go_ret
    exact ⟨ret_bool (by rw [HV.out]; simp), by rw [HG.out]; exact EB.out⟩
  rcases Decidable.em (m.k = 6) with h6 | h6
  · have h6b : (m.k == 6) = true := beq_iff_eq.2 h6
    have H6 := hid h6
    clear h6
    have EQ := eq_refx_zero m.x ez EZ.out
    have EG := refx_guard
    cases ok
    · go_wp2_with (with_reducible refine wpList_load_knowng (op := ⟨some 59, _, _, _, _, _⟩) (by kernel_rfl) 48 (.tmp 58) rfl g rfl E0.out _ Tryz.underlying48 rfl L2.out ?_)
      go_ret
      exact ⟨ret_bool (by rw [HV.out, if_pos H6.out]; simp), by rw [HG.out]; exact EB.out⟩
    · clear EQ EG
      go_wp2
      go_ret
      exact ⟨ret_bool (by rw [HV.out, if_pos H6.out]; simp), by rw [HG.out]; exact EB.out⟩
  have h6b : (m.k == 6) = false := beq_eq_false_iff_ne.2 h6
  have H6 := hid h6
  go_wp2_with (with_reducible refine wpList_load_known (op := ⟨some 64, _, _, _, _, _⟩) rfl 48 (.tmp 63) rfl g rfl E0.out _ Tryz.underlying48 rfl L2.out ?_)
  with_reducible refine (refxright_any m.x HJX.out.1 HJX.out.2 _ hf hp).mono ?_
  rw [RJ.out]
  rintro e w4 ⟨rfl, hb⟩
  have F0 := hid (E0.out.below hb E0.out.lt)
  have FB := hid (below_pay EB.out (by have := E0.out.lt; omega) hb)
  clear hb c0 c5 c6 E0 EB h6b
  cases rj
  · go_wp2
    go_ret
    exact ⟨ret_bool (by rw [HV.out, if_neg H6.out]; simp), by rw [HG.out]; exact FB.out⟩
  have c3 := F0.out.m3
  have c4 := F0.out.m4
  have c7 := F0.out.m7
  have c8 := F0.out.m8
  have EQN := eq_refnameT m.x.r m.x.s m.r m.s en EN.out
  have EGN := refname_guard
  cases en
  · go_wp2
    go_ret
    exact ⟨ret_bool (by rw [HV.out, if_neg H6.out]; simp), by rw [HG.out]; exact FB.out⟩
  have hk : m.k = 1 ∨ m.k = 2 ∨ m.k = 3 ∨ m.k = 4 ∨ m.k = 5 ∨ m.k = 7 := by omega
  have HVV : Hid (docM m = (replyB m.k || (!ok && (m.x.st == statK m.k) && (m.x.bal == m.bal) && (m.x.vote == m.bal) && !sm))) := hid (by rw [HV.out, if_neg H6.out]; simp)
  clear h6 p1 p2 p3 p4 p5 p6 p7 HV H6
  have c0 := F0.out.m0
  rcases hk with hk | hk | hk | hk | hk | hk
  · rw [hk] at c0
    have IX := want_ix1
    have c5 := F0.out.m5
    have c6 := F0.out.m6
    have c9 := F0.out.m9
    have c10 := F0.out.m10
    have c11 := F0.out.m11
    have c12 := F0.out.m12
    rw [OK.out] at c6
    rw [SM.out] at c12
    have HW : Hid (docM m = (!ok && (m.x.st == 1) && (m.x.bal == m.bal) && (m.x.vote == m.bal) && !sm)) := hid (by rw [HVV.out, hk]; simp [replyB, statK])
    clear HVV
    obtain ⟨b1, h1⟩ : ∃ a, (m.x.st == 1) = a := ⟨_, rfl⟩
    obtain ⟨b2, h2⟩ : ∃ a, (m.x.bal == m.bal) = a := ⟨_, rfl⟩
    obtain ⟨b3, h3⟩ : ∃ a, (m.x.vote == m.bal) = a := ⟨_, rfl⟩
    have HW : Hid (docM m = (!ok && b1 && b2 && b3 && !sm)) := hid (by rw [HW.out, h1, h2, h3])
    cases ok
    · cases b1
      · go_wp2
        go_ret
        exact ⟨ret_bool (by rw [HW.out]; simp), by rw [HG.out]; exact FB.out⟩
      cases b2
      · go_wp2
        go_ret
        exact ⟨ret_bool (by rw [HW.out]; simp), by rw [HG.out]; exact FB.out⟩
      cases b3
      · go_wp2
        go_ret
        exact ⟨ret_bool (by rw [HW.out]; simp), by rw [HG.out]; exact FB.out⟩
      go_wp2
      go_ret
      exact ⟨ret_bool (by rw [HW.out]; simp), by rw [HG.out]; exact FB.out⟩
    · go_wp2
      go_ret
      exact ⟨ret_bool (by rw [HW.out]; simp), by rw [HG.out]; exact FB.out⟩
  · rw [hk] at c0
    go_wp2
    go_ret
    exact ⟨ret_bool (by rw [HVV.out, hk]; simp [replyB]), by rw [HG.out]; exact FB.out⟩
  · rw [hk] at c0
    have IX := want_ix3
    have c5 := F0.out.m5
    have c6 := F0.out.m6
    have c9 := F0.out.m9
    have c10 := F0.out.m10
    have c11 := F0.out.m11
    have c12 := F0.out.m12
    rw [OK.out] at c6
    rw [SM.out] at c12
    have HW : Hid (docM m = (!ok && (m.x.st == 2) && (m.x.bal == m.bal) && (m.x.vote == m.bal) && !sm)) := hid (by rw [HVV.out, hk]; simp [replyB, statK])
    clear HVV
    obtain ⟨b1, h1⟩ : ∃ a, (m.x.st == 2) = a := ⟨_, rfl⟩
    obtain ⟨b2, h2⟩ : ∃ a, (m.x.bal == m.bal) = a := ⟨_, rfl⟩
    obtain ⟨b3, h3⟩ : ∃ a, (m.x.vote == m.bal) = a := ⟨_, rfl⟩
    have HW : Hid (docM m = (!ok && b1 && b2 && b3 && !sm)) := hid (by rw [HW.out, h1, h2, h3])
    cases ok
    · cases b1
      · go_wp2
        go_ret
        exact ⟨ret_bool (by rw [HW.out]; simp), by rw [HG.out]; exact FB.out⟩
      cases b2
      · go_wp2
        go_ret
        exact ⟨ret_bool (by rw [HW.out]; simp), by rw [HG.out]; exact FB.out⟩
      cases b3
      · go_wp2
        go_ret
        exact ⟨ret_bool (by rw [HW.out]; simp), by rw [HG.out]; exact FB.out⟩
      go_wp2
      go_ret
      exact ⟨ret_bool (by rw [HW.out]; simp), by rw [HG.out]; exact FB.out⟩
    · go_wp2
      go_ret
      exact ⟨ret_bool (by rw [HW.out]; simp), by rw [HG.out]; exact FB.out⟩
  · rw [hk] at c0
    go_wp2
    go_ret
    exact ⟨ret_bool (by rw [HVV.out, hk]; simp [replyB]), by rw [HG.out]; exact FB.out⟩
  · rw [hk] at c0
    have IX := want_ix5
    have c5 := F0.out.m5
    have c6 := F0.out.m6
    have c9 := F0.out.m9
    have c10 := F0.out.m10
    have c11 := F0.out.m11
    have c12 := F0.out.m12
    rw [OK.out] at c6
    rw [SM.out] at c12
    have HW : Hid (docM m = (!ok && (m.x.st == 3) && (m.x.bal == m.bal) && (m.x.vote == m.bal) && !sm)) := hid (by rw [HVV.out, hk]; simp [replyB, statK])
    clear HVV
    obtain ⟨b1, h1⟩ : ∃ a, (m.x.st == 3) = a := ⟨_, rfl⟩
    obtain ⟨b2, h2⟩ : ∃ a, (m.x.bal == m.bal) = a := ⟨_, rfl⟩
    obtain ⟨b3, h3⟩ : ∃ a, (m.x.vote == m.bal) = a := ⟨_, rfl⟩
    have HW : Hid (docM m = (!ok && b1 && b2 && b3 && !sm)) := hid (by rw [HW.out, h1, h2, h3])
    cases ok
    · cases b1
      · go_wp2
        go_ret
        exact ⟨ret_bool (by rw [HW.out]; simp), by rw [HG.out]; exact FB.out⟩
      cases b2
      · go_wp2
        go_ret
        exact ⟨ret_bool (by rw [HW.out]; simp), by rw [HG.out]; exact FB.out⟩
      cases b3
      · go_wp2
        go_ret
        exact ⟨ret_bool (by rw [HW.out]; simp), by rw [HG.out]; exact FB.out⟩
      go_wp2
      go_ret
      exact ⟨ret_bool (by rw [HW.out]; simp), by rw [HG.out]; exact FB.out⟩
    · go_wp2
      go_ret
      exact ⟨ret_bool (by rw [HW.out]; simp), by rw [HG.out]; exact FB.out⟩
  · rw [hk] at c0
    go_wp2
    go_ret
    exact ⟨ret_bool (by rw [HVV.out, hk]; simp [replyB]), by rw [HG.out]; exact FB.out⟩

end Go.Proofs.YtohffiehmmcgbaaGreatDoor
