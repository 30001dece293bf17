/-
  A message is read off its text; the contract of Read (package msg).
-/
import Derived.Test.YtohffiehmmcgbaaGreatDoorXYuGuess
namespace Go.Proofs.YtohffiehmmcgbaaGreatDoor
open Go.ChangeShapes Go.WideShapes Go.ChangeAt Go.RowKit Go.Lib
set_option linter.unusedVariables false
set_option linter.unusedSimpArgs false
theorem textM_congr {m n : Ms} (h : eqM m n = true) (hx : m.k ≠ 6 → m.x.st ≠ 0 → okB m.x.f = true) : textM m = textM n := by
  unfold eqM at h
  simp only [Bool.and_eq_true, beq_iff_eq] at h
  obtain ⟨h1, h2, h3, ⟨h4, h5⟩, h6, h7, h8⟩ := h
  rw [head_textU, head_textU]
  unfold headU
  by_cases h0 : m.k = 6
  · rw [if_pos h0, if_pos (h1 ▸ h0), h1, h2, h3, h4, h5, h6, h7]
  · rw [if_neg h0, if_neg (h1 ▸ h0), textJ_congr h8 (hx h0), h1, h2, h3, h4, h5, h6, h7]
theorem rightM_x {m : Ms} (hr : rightM m = true) (h : m.k ≠ 6) : rightJ m.x = true := by
  unfold rightM knownB at hr
  rw [if_neg h] at hr
  simp only [Bool.and_eq_true] at hr
  exact hr.2.1.1
theorem eqJ_trans' {x y z : J} (h : eqJ x y = true) (g : eqJ y z = true) : eqJ x z = true := by
  unfold eqJ at *
  simp only [Bool.and_eq_true, beq_iff_eq, decide_eq_true_eq, eqA_iff] at *
  obtain ⟨⟨h1, h2⟩, h3, h4, h5, h6, h7, h8⟩ := h
  obtain ⟨⟨g1, g2⟩, g3, g4, g5, g6, g7, g8⟩ := g
  exact ⟨⟨h1.trans g1, h2.trans g2⟩, h3.trans g3, h4.trans g4, h5.trans g5, h6.trans g6, h7.trans g7, fun i hi => (h8 i hi).trans (g8 i hi)⟩
theorem rightM_congr {m n : Ms} (h : eqM m n = true) : rightM m = rightM n := by
  have h' := h
  unfold eqM at h
  simp only [Bool.and_eq_true, beq_iff_eq] at h
  obtain ⟨h1, h2, h3, ⟨h4, h5⟩, h6, h7, h8⟩ := h
  have e1 : rightJ m.x = rightJ n.x := rightJ_congr h8
  have hj := h8
  unfold eqJ at hj
  simp only [Bool.and_eq_true, beq_iff_eq, decide_eq_true_eq] at hj
  obtain ⟨⟨j1, j2⟩, j3, j4, j5, j6, j7, j8⟩ := hj
  rw [← doc_rightM, ← doc_rightM]
  have e2 : eqJ m.x zeroJ = eqJ n.x zeroJ := by
    rw [Bool.eq_iff_iff]
    exact ⟨fun h => eqJ_trans' (eqJ_sym h8) h, fun h => eqJ_trans' h8 h⟩
  unfold docM
  rw [e1, e2, h1, h2, h3, h4, h5, h6, h7, j1, j2, j3, j4, j5, j6]
def ReaU (w0 : World) (k m : Nat) (w : World) (x : Ms) : Prop := Blk w k 64 (rowM zeroM) ∧ Blk w m 64 (rowM x) ∧ Below k w0 w ∧ All11 w ∧ k < m
section
variable {w0 w w' : World} {k m : Nat} {x : Ms}
theorem ReaU.on (h : ReaU w0 k m w x) (hb : Below w.heap.size w w') : ReaU w0 k m w' x := by
  obtain ⟨h1, h2, h3, h4, h5⟩ := h
  exact ⟨h1.below hb h1.lt, h2.below hb h2.lt, below_pay h3 (by have := h1.lt; omega) hb, h4.below hb, h5⟩
theorem ReaU.res (h : ReaU w0 k m w x) : Blk w k 64 (rowM zeroM) := h.1
theorem ReaU.box (h : ReaU w0 k m w x) : Blk w m 64 (rowM x) := h.2.1
theorem ReaU.bel (h : ReaU w0 k m w x) : Below k w0 w := h.2.2.1
theorem ReaU.all (h : ReaU w0 k m w x) : All11 w := h.2.2.2.1
end
def ReadU (t : ByteArray) (e : Ending) : Prop := ∃ x : Ms, GuessM (wordsM t) x ∧ ((rightM x = true ∧ textM x = Sb t ∧ e = .returned (.tuple #[.agg (rowM x), .int .i64 0])) ∨ (¬ (rightM x = true ∧ textM x = Sb t) ∧ e = .returned (.tuple #[.agg (rowM zeroM), .int .i64 10])))
set_option maxRecDepth 100000 in
set_option maxHeartbeats 4000000 in
theorem mread_any (t : ByteArray) (w : World) (hz : t.size ≤ 100000) (hL : All11 w) :
    Calls Tryz.prog 38 #[.string t] w fun e w' => ReadU t e ∧ Below w.heap.size w w' := by
  have HL := hid hL
  clear hL
  go_enter Tryz.func38, Tryz.ntmps38
  go_upto_region 1 with fail
  obtain ⟨W, hW⟩ : ∃ W, w.alloc (.cells mrowZ 64) = W := ⟨_, rfl⟩
  rw [hW]
  obtain ⟨K0, KB⟩ := one_new hW
  rw [mrowZ_is] at K0
  have LW := hid (HL.out.below KB.out)
  clear hW HL
  obtain ⟨k, hk⟩ : ∃ k, w.heap.size = k := ⟨_, rfl⟩
  rw [hk] at K0 KB
  rw [hk]
  have HK := hid hk
  clear hk
  go_wp2_with fail
  with_reducible refine (mguess_any t _ hz LW.out).mono ?_
  rintro e w1 ⟨⟨x, rfl, hg⟩, hb⟩
  have G := hid hg
  have K1 := hid (K0.out.below hb K0.out.lt)
  have B1 := hid (below_pay KB.out (by have := K0.out.lt; omega) hb)
  have L1 := hid (LW.out.below hb)
  clear hg hb K0 KB LW
  obtain ⟨m, hm⟩ : ∃ m, w1.heap.size = m := ⟨_, rfl⟩
  have hkm : k < m := by have := K1.out.lt; omega
  have E0 : Hid (Blk (w1.alloc (.cells mrowZ 64)) m 64 mrowZ) := hid (by rw [← hm]; exact Blk.new w1 64 mrowZ)
  have N1 := hid (len_msg x)
  have N3 := hid (rowM_one x)
  go_upto_region 2 with (refine wpList_store_row (o := ⟨none, _, _, _, _, _⟩) rfl 64 (.tmp 4) (.tmp 8) rfl m (rowM x) rfl rfl 64 mrowZ E0.out.heap N1.out rfl N3.out ?_)
  obtain ⟨W2, hW2⟩ : ∃ W2, (w1.alloc (.cells mrowZ 64)).setRow m (rowM x) = W2 := ⟨_, rfl⟩
  have A0 : Hid (ReaU w k m W2 x) := hid (by
    rw [← hW2]
    have hbb : Below m w1 ((w1.alloc (.cells mrowZ 64)).setRow m (rowM x)) := below_setRow_ ((Below.refl m w1).alloc (by omega) _) (Nat.le_refl _)
    exact ⟨(K1.out.alloc _).rowFar (by omega) _, E0.out.row _, B1.out.trans (hbb.mono (by omega)), L1.out.below (by rw [hm]; exact hbb), hkm⟩)
  rw [hW2]
  clear hW2 hm E0 K1 B1 L1
  have hkn := known_ok G.out.2.2.2.2.2.2
  have OKX : Hid (okM x) := hid ⟨G.out.1, hkn.1, hkn.2.1⟩
  have hsz := hkn.2.2
  have HSF := hid (show x.x.c.foot.size ≤ 4611686018427387903 by omega)
  have HSP := hid (show x.x.c.path.size ≤ 4611686018427387903 by omega)
  have Z1 := hid (len_msg zeroM)
  have Z3 := hid (rowM_one zeroM)
  clear hsz hkn
  obtain ⟨rr, hr⟩ : ∃ b, rightM x = b := ⟨_, rfl⟩
  have RR := hid hr
  clear hr
  cases rr
  · go_wp2_with (with_reducible refine wpList_load_row (o := ⟨some 10, _, _, _, _, _⟩) rfl 64 (.tmp 4) rfl m rfl 64 (rowM x) (0, 0) _ A0.out.box.heap Tryz.underlying64 rfl N1.out ?_)
    with_reducible refine (mshow_no x _ A0.out.all OKX.out RR.out HSF.out HSP.out).mono ?_
    rintro e w3 ⟨rfl, hb⟩
    have A1 := hid (A0.out.on hb)
    clear hb A0
    have TF : Hid (Below k w (w3.setRow k (rowM zeroM))) := hid (below_setRow_ A1.out.bel (Nat.le_refl _))
    have RJ : Hid (ReadU t (.returned (.tuple #[.agg (rowM zeroM), .int .i64 10]))) := hid ⟨x, G.out, .inr ⟨fun h => Bool.noConfusion (RR.out.symm.trans h.1), rfl⟩⟩
    go_wp2_with (refine wpList_store_row (o := ⟨none, _, _, _, _, _⟩) rfl 64 (.tmp 2) (.tmp 21) rfl k (rowM zeroM) (by rfl) ?hy 64 (rowM zeroM) A1.out.res.heap Z1.out (size_msg _ _) Z3.out ?_; (case hy => rfl))
    exact bodyPost_ret (v := .tuple #[.agg (rowM zeroM), .int .i64 10]) (results_row_num (p := 2) (q := 3) (ty := 64) (by kernel_rfl) _ _ k 64 (rowM zeroM) (0, 0) _ _ rfl rfl (setRow_heap w3 k _ (rowM zeroM) _ _ A1.out.res.heap) Tryz.underlying64 rfl Z1.out) rfl ⟨RJ.out, by rw [HK.out]; exact TF.out⟩
  · go_wp2_with (with_reducible refine wpList_load_row (o := ⟨some 10, _, _, _, _, _⟩) rfl 64 (.tmp 4) rfl m rfl 64 (rowM x) (0, 0) _ A0.out.box.heap Tryz.underlying64 rfl N1.out ?_)
    with_reducible refine (mshow_yes x _ A0.out.all OKX.out RR.out HSF.out HSP.out).mono ?_
    rintro e w3 ⟨⟨q, rfl, hq⟩, hb⟩
    have HQ := hid hq
    have A1 := hid (A0.out.on hb)
    clear hb hq A0
    by_cases ht : q = t
    · subst ht
      have TF : Hid (Below k w (w3.setRow k (rowM x))) := hid (below_setRow_ A1.out.bel (Nat.le_refl _))
      have RJ : Hid (ReadU q (.returned (.tuple #[.agg (rowM x), .int .i64 0]))) := hid ⟨x, G.out, .inl ⟨RR.out, HQ.out.symm, rfl⟩⟩
      go_wp2_with (first
        | (with_reducible refine wpList_load_row (o := ⟨some 22, _, _, _, _, _⟩) rfl 64 (.tmp 4) rfl m rfl 64 (rowM x) (0, 0) _ A1.out.box.heap Tryz.underlying64 rfl N1.out ?_)
        | (with_reducible refine wpList_store_row (o := ⟨none, _, _, _, _, _⟩) rfl 64 (.tmp 2) (.tmp 22) rfl k (rowM x) rfl rfl 64 (rowM zeroM) A1.out.res.heap N1.out (size_msg _ _) N3.out ?_))
      exact bodyPost_ret (v := .tuple #[.agg (rowM x), .int .i64 0]) (results_row_num (p := 2) (q := 3) (ty := 64) (by kernel_rfl) _ _ k 64 (rowM x) (0, 0) _ _ rfl rfl (setRow_heap w3 k _ (rowM x) _ _ A1.out.res.heap) Tryz.underlying64 rfl N1.out) rfl ⟨RJ.out, by rw [HK.out]; exact TF.out⟩
    · have hq2 : (q.toList == t.toList) = false := by rw [Sb_eq]; exact decide_eq_false fun h => ht (Sb_inj.1 h)
      have TF : Hid (Below k w (w3.setRow k (rowM zeroM))) := hid (below_setRow_ A1.out.bel (Nat.le_refl _))
      have RJ : Hid (ReadU t (.returned (.tuple #[.agg (rowM zeroM), .int .i64 10]))) := hid ⟨x, G.out, .inr ⟨fun h => ht (Sb_inj.1 (HQ.out.trans h.2)), rfl⟩⟩
      go_wp2_with (refine wpList_store_row (o := ⟨none, _, _, _, _, _⟩) rfl 64 (.tmp 2) (.tmp 21) rfl k (rowM zeroM) (by rfl) ?hy 64 (rowM zeroM) A1.out.res.heap Z1.out (size_msg _ _) Z3.out ?_; (case hy => rfl))
      exact bodyPost_ret (v := .tuple #[.agg (rowM zeroM), .int .i64 10]) (results_row_num (p := 2) (q := 3) (ty := 64) (by kernel_rfl) _ _ k 64 (rowM zeroM) (0, 0) _ _ rfl rfl (setRow_heap w3 k _ (rowM zeroM) _ _ A1.out.res.heap) Tryz.underlying64 rfl Z1.out) rfl ⟨RJ.out, by rw [HK.out]; exact TF.out⟩
theorem mread_right (t : ByteArray) (m : Ms) (w : World) (hz : t.size ≤ 100000) (hL : All11 w) (hok : okM m) (hr : rightM m = true) (ht : Sb t = textM m) :
    Calls Tryz.prog 38 #[.string t] w fun e w' => e = .returned (.tuple #[.agg (rowM m), .int .i64 0]) ∧ Below w.heap.size w w' := by
  refine (mread_any t w hz hL).mono ?_
  rintro e w1 ⟨⟨y, hg, ⟨h1, h2, rfl⟩ | ⟨hn, rfl⟩⟩, hb⟩
  · have he := guessM_text hok hr ht hg
    exact ⟨by rw [rowM_congr he], hb⟩
  · have he := guessM_text hok hr ht hg
    have hry := (rightM_congr he).trans hr
    refine absurd ⟨hry, ?_⟩ hn
    rw [ht]
    refine textM_congr he fun h6 h => ?_
    exact (right_ok (known_ok hg.2.2.2.2.2.2).1 (rightM_x hry h6) h).2
end Go.Proofs.YtohffiehmmcgbaaGreatDoor
