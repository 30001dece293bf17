/-
  A state is read off its text: what is guessed off a right state's text; the contract of Read (package inst).
-/
import Derived.Test.YtohffiehmmcgbaaGreatDoorXJuGuess
import Derived.Test.YtohffiehmmcgbaaGreatDoorXJPut
namespace Go.Proofs.YtohffiehmmcgbaaGreatDoor
open Go.ChangeShapes Go.WideShapes Go.ChangeAt Go.RowKit Go.Lib
set_option linter.unusedVariables false
set_option linter.unusedSimpArgs false
theorem name_text {r s : Int} (h : nameB r s = true) : (nameOf (textOf r s)).1 = (r, s) := by
  obtain ⟨⟨h1, h2⟩, h3, h4⟩ := name_bounds h
  unfold nameOf
  rw [read_text (by omega) (by omega) (by omega) (by omega)]
  simp only [ofN]
  rw [if_pos h]
theorem ballot_text {b : Nat} (hb : b < 4294967296) (h : ballotB b = true) : (ballotOf (balT b)).1 = b := by
  unfold ballotOf balT
  rw [read_text (by omega) (by omega) (by omega) (by omega)]
  simp only
  rw [if_pos (by rw [parts_ballot]; exact h)]
  simp only [Int.toNat_natCast]
  omega
theorem words_none {s : ByteArray} {A B C : List UInt8} (hs : Sb s = Lib.join [A, B, C] [32]) (hA : ∀ d ∈ A, d ≠ 32) (hB : ∀ d ∈ B, d ≠ 32) (hC : ∀ d ∈ C, d ≠ 32) : (wordsJ s).map Sb = [A, B, C] := by
  rw [wordsJ_sb, hs]
  have hl : 2 ≤ s.size := by
    rw [← Sb_length, hs, join_more, join_more]
    simp only [List.length_append, List.length_cons]
    omega
  exact split_join [A, B] C _ (by intro p hp; simp at hp; rcases hp with rfl | rfl; exact hA; exact hB) (.inr ⟨by simp only [List.length_cons, List.length_nil]; omega, hC⟩)
theorem words_some {s : ByteArray} {A B C D E F G : List UInt8} (hs : Sb s = Lib.join [A, B, C, D, E, F, G] [32]) (hA : ∀ d ∈ A, d ≠ 32) (hB : ∀ d ∈ B, d ≠ 32) (hC : ∀ d ∈ C, d ≠ 32) (hD : ∀ d ∈ D, d ≠ 32) (hE : ∀ d ∈ E, d ≠ 32) (hF : ∀ d ∈ F, d ≠ 32) : (wordsJ s).map Sb = [A, B, C, D, E, F, G] := by
  rw [wordsJ_sb, hs]
  have hl : 6 ≤ s.size := by
    rw [← Sb_length, hs, join_more, join_more, join_more, join_more, join_more, join_more]
    simp only [List.length_append, List.length_cons]
    omega
  exact split_join [A, B, C, D, E, F] G _ (by intro p hp; simp at hp; rcases hp with rfl | rfl | rfl | rfl | rfl | rfl; exact hA; exact hB; exact hC; exact hD; exact hE; exact hF) (.inl (by simp only [List.length_cons, List.length_nil]; omega))
theorem guess_text {s : ByteArray} {x y : J} (hok : okJ y) (hK : okK y.c) (hr : rightJ y = true) (hs : Sb s = textJ y) (hg : GuessJ (wordsJ s) x) : eqJ x y = true := by
  obtain ⟨a, b, v, u, t, ha, hb, hv, hu, ht, ha7, hb10, hvv, hvb, huu, hub, ht3, hn0, hz0⟩ := rightJ_in hok hr
  obtain ⟨r, s', st, bal, vote, sm, c, f⟩ := y
  simp only at ha hb hv hu ht hn0 hz0 hK
  subst ha hb hv hu ht
  obtain ⟨g0, g1, g2, gn, gb, gs, gz, gx⟩ := hg
  have hnm : nameB (a : Int) (b : Int) = true := by unfold nameB; exact decide_eq_true ⟨by omega, by omega, by omega, by omega⟩
  unfold textJ partsJ headW at hs
  simp only [Int.toNat_natCast] at hs
  by_cases h0 : t = 0
  · rw [if_pos (by omega)] at hs
    have hw := words_none hs (textOf_no32 _ _) (balT_no32 _) (statL_no32 _ (by omega))
    rw [pB_sb, hw] at gn gb gs
    have e0 : x.r = a ∧ x.s = b := by
      have h1 : (x.r, x.s) = (nameOf (textOf a b)).1 := gn
      rw [name_text hnm] at h1
      injection h1 with h1 h2
      exact ⟨h1, h2⟩
    have e1 : x.bal = (v : Int) := by
      have h1 : x.bal = ((ballotOf (balT v)).1 : Nat) := gb
      rw [ballot_text hvv hvb] at h1
      exact h1
    have e2 : x.st = (t : Int) := by
      have h1 : x.st = statOf (statL t) := gs
      rw [statOf_at rfl (by omega)] at h1
      exact h1
    obtain ⟨k1, k2, k3, k4⟩ := gz (by rw [e2]; omega)
    obtain ⟨m1, m2, m3, m4⟩ := hz0 h0
    exact eqJ_of e0.1 e0.2 e2 e1 (k1.trans m1.symm) (k2.trans m2.symm) (k3.trans m3.symm) (by rw [k4, eqA_iff]; exact fun i hi => (m4 i hi).symm)
  · rw [if_neg (by omega)] at hs
    have hw := words_some hs (textOf_no32 _ _) (balT_no32 _) (statL_no32 _ (by omega)) (balT_no32 _) (whoL_no32 _) (textA_no32 _)
    rw [pB_sb, hw] at gn gb gs
    have e0 : x.r = a ∧ x.s = b := by
      have h1 : (x.r, x.s) = (nameOf (textOf a b)).1 := gn
      rw [name_text hnm] at h1
      injection h1 with h1 h2
      exact ⟨h1, h2⟩
    have e1 : x.bal = (v : Int) := by
      have h1 : x.bal = ((ballotOf (balT v)).1 : Nat) := gb
      rw [ballot_text hvv hvb] at h1
      exact h1
    have e2 : x.st = (t : Int) := by
      have h1 : x.st = statOf (statL t) := gs
      rw [statOf_at rfl (by omega)] at h1
      exact h1
    obtain ⟨k1, k2, k3, k4⟩ := gx (by rw [e2]; omega)
    obtain ⟨n1, n2⟩ := hn0 h0
    have e3 : x.vote = (u : Int) := by
      rw [pB_sb, hw] at k1
      have h1 : x.vote = ((ballotOf (balT u)).1 : Nat) := k1
      rw [ballot_text huu hub] at h1
      exact h1
    have p4 : Sb (pB (wordsJ s) 4) = whoL sm := by rw [pB_sb, hw]; rfl
    have e4 : x.same = sm := by
      rw [k2]
      cases sm
      · refine decide_eq_false fun h => ?_
        rw [h] at p4
        exact absurd p4 (by decide)
      · exact decide_eq_true (Sb_inj.1 (by rw [p4]; rfl))
    have p5 : Sb (pB (wordsJ s) 5) = textA f := by rw [pB_sb, hw]; rfl
    have e5 := k3 f n2 p5.symm
    have p6 : L (pB (wordsJ s) 6) = txt c := by
      have h1 : Sb (pB (wordsJ s) 6) = txt c := by rw [pB_sb, hw]; rfl
      exact h1
    have e6 : x.c = c := by
      obtain ⟨r1, r2, r3, _, _⟩ := right_in c hK n1
      have h1 : gOf (txt c) = c := gOf_txt c hK n1 ⟨r1, r2, r3⟩
      rw [k4, p6]
      unfold readOK
      rw [h1, n1]
      simp
    exact eqJ_of e0.1 e0.2 e2 e1 e3 e4 e6 e5
theorem textJ_congr {x y : J} (h : eqJ x y = true) (hx : x.st ≠ 0 → okB x.f = true) : textJ x = textJ y := by
  unfold eqJ at h
  simp only [Bool.and_eq_true, beq_iff_eq, decide_eq_true_eq] at h
  obtain ⟨⟨h1, h2⟩, h3, h4, h5, h6, h7, h8⟩ := h
  unfold textJ partsJ headW
  rw [h1, h2, h3, h4, h5, h6, h7, textA_congr (eqA_iff.1 h8)]
def ReaJ (w0 : World) (k m : Nat) (w : World) (x : J) : Prop := Blk w k 37 (rowJ zeroJ) ∧ Blk w m 37 (rowJ x) ∧ Below k w0 w ∧ All10 w ∧ k < m
section
variable {w0 w w' : World} {k m : Nat} {x : J}
theorem ReaJ.on (h : ReaJ w0 k m w x) (hb : Below w.heap.size w w') : ReaJ w0 k m w' x := by
  obtain ⟨h1, h2, h3, h4, h5⟩ := h
  exact ⟨h1.below hb h1.lt, h2.below hb h2.lt, below_pay h3 (by have := h1.lt; omega) hb, h4.below hb, h5⟩
theorem ReaJ.res (h : ReaJ w0 k m w x) : Blk w k 37 (rowJ zeroJ) := h.1
theorem ReaJ.box (h : ReaJ w0 k m w x) : Blk w m 37 (rowJ x) := h.2.1
theorem ReaJ.bel (h : ReaJ w0 k m w x) : Below k w0 w := h.2.2.1
theorem ReaJ.all (h : ReaJ w0 k m w x) : All10 w := h.2.2.2.1
end
def ReadJ (t : ByteArray) (e : Ending) : Prop := ∃ x : J, GuessJ (wordsJ t) x ∧ ((rightJ x = true ∧ textJ x = Sb t ∧ e = .returned (.tuple #[.agg (rowJ x), .int .i64 0])) ∨ (¬ (rightJ x = true ∧ textJ x = Sb t) ∧ e = .returned (.tuple #[.agg (rowJ zeroJ), .int .i64 10])))
set_option maxRecDepth 100000 in
set_option maxHeartbeats 4000000 in
theorem jread_any (t : ByteArray) (w : World) (hz : t.size ≤ 100000) (hL : All10 w) :
    Calls Tryz.prog 23 #[.string t] w fun e w' => ReadJ t e ∧ Below w.heap.size w w' := by
  have HL := hid hL
  clear hL
  go_enter Tryz.func23, Tryz.ntmps23
  go_upto_region 1 with fail
  obtain ⟨W, hW⟩ : ∃ W, w.alloc (.cells zrow 37) = W := ⟨_, rfl⟩
  rw [hW]
  obtain ⟨K0, KB⟩ := one_new hW
  rw [zrow_is] at K0
  have LW := hid (HL.out.below KB.out)
  clear hW HL
  obtain ⟨k, hk⟩ : ∃ k, w.heap.size = k := ⟨_, rfl⟩
  rw [hk] at K0 KB
  rw [hk]
  have HK := hid hk
  clear hk
  go_wp2_with fail
  with_reducible refine (jguess_any t _ hz LW.out).mono ?_
  rintro e w1 ⟨⟨x, rfl, hg⟩, hb⟩
  have G := hid hg
  have K1 := hid (K0.out.below hb K0.out.lt)
  have B1 := hid (below_pay KB.out (by have := K0.out.lt; omega) hb)
  have L1 := hid (LW.out.below hb)
  clear hg hb K0 KB LW
  obtain ⟨m, hm⟩ : ∃ m, w1.heap.size = m := ⟨_, rfl⟩
  have hkm : k < m := by have := K1.out.lt; omega
  have E0 : Hid (Blk (w1.alloc (.cells zrow 37)) m 37 zrow) := hid (by rw [← hm]; exact Blk.new w1 37 zrow)
  have N1 := hid (len_inst x)
  have N3 := hid (rowJ_one x)
  go_upto_region 2 with (refine wpList_store_row (o := ⟨none, _, _, _, _, _⟩) rfl 37 (.tmp 4) (.tmp 8) rfl m (rowJ x) rfl rfl 37 zrow E0.out.heap N1.out rfl N3.out ?_)
  obtain ⟨W2, hW2⟩ : ∃ W2, (w1.alloc (.cells zrow 37)).setRow m (rowJ x) = W2 := ⟨_, rfl⟩
  have A0 : Hid (ReaJ w k m W2 x) := hid (by
    rw [← hW2]
    have hbb : Below m w1 ((w1.alloc (.cells zrow 37)).setRow m (rowJ x)) := below_setRow_ ((Below.refl m w1).alloc (by omega) _) (Nat.le_refl _)
    exact ⟨(K1.out.alloc _).rowFar (by omega) _, E0.out.row _, B1.out.trans (hbb.mono (by omega)), L1.out.below (by rw [hm]; exact hbb), hkm⟩)
  rw [hW2]
  clear hW2 hm E0 K1 B1 L1
  have hsz := G.out.2.2.1
  have OKX := hid G.out.1
  have OKC := hid G.out.2.1
  have HSF := hid (show x.c.foot.size ≤ 4611686018427387903 by omega)
  have HSP := hid (show x.c.path.size ≤ 4611686018427387903 by omega)
  have Z1 := hid (len_inst zeroJ)
  have Z3 := hid (rowJ_one zeroJ)
  clear hsz
  obtain ⟨rr, hr⟩ : ∃ b, rightJ x = b := ⟨_, rfl⟩
  have RR := hid hr
  clear hr
  cases rr
  · go_wp2_with (with_reducible refine wpList_load_row (o := ⟨some 10, _, _, _, _, _⟩) rfl 37 (.tmp 4) rfl m rfl 37 (rowJ x) (0, 0) _ A0.out.box.heap Tryz.underlying37 rfl N1.out ?_)
    with_reducible refine (jshow_no x _ A0.out.all OKX.out RR.out HSF.out HSP.out).mono ?_
    rintro e w3 ⟨rfl, hb⟩
    have A1 := hid (A0.out.on hb)
    clear hb A0
    have TF : Hid (Below k w (w3.setRow k (rowJ zeroJ))) := hid (below_setRow_ A1.out.bel (Nat.le_refl _))
    have RJ : Hid (ReadJ t (.returned (.tuple #[.agg (rowJ zeroJ), .int .i64 10]))) := hid ⟨x, G.out, .inr ⟨fun h => Bool.noConfusion (RR.out.symm.trans h.1), rfl⟩⟩
    go_wp2_with (refine wpList_store_row (o := ⟨none, _, _, _, _, _⟩) rfl 37 (.tmp 2) (.tmp 21) rfl k (rowJ zeroJ) (by rfl) ?hy 37 (rowJ zeroJ) A1.out.res.heap Z1.out (size_inst _ _) Z3.out ?_; (case hy => rfl))
    exact bodyPost_ret (v := .tuple #[.agg (rowJ zeroJ), .int .i64 10]) (results_row_num (p := 2) (q := 3) (ty := 37) (by kernel_rfl) _ _ k 37 (rowJ zeroJ) (0, 0) _ _ rfl rfl (setRow_heap w3 k _ (rowJ zeroJ) _ _ A1.out.res.heap) Tryz.underlying37 rfl Z1.out) rfl ⟨RJ.out, by rw [HK.out]; exact TF.out⟩
  · go_wp2_with (with_reducible refine wpList_load_row (o := ⟨some 10, _, _, _, _, _⟩) rfl 37 (.tmp 4) rfl m rfl 37 (rowJ x) (0, 0) _ A0.out.box.heap Tryz.underlying37 rfl N1.out ?_)
    with_reducible refine (jshow_yes x _ A0.out.all OKX.out OKC.out RR.out HSF.out HSP.out).mono ?_
    rintro e w3 ⟨⟨q, rfl, hq⟩, hb⟩
    have HQ := hid hq
    have A1 := hid (A0.out.on hb)
    clear hb hq A0
    by_cases ht : q = t
    · subst ht
      have TF : Hid (Below k w (w3.setRow k (rowJ x))) := hid (below_setRow_ A1.out.bel (Nat.le_refl _))
      have RJ : Hid (ReadJ q (.returned (.tuple #[.agg (rowJ x), .int .i64 0]))) := hid ⟨x, G.out, .inl ⟨RR.out, HQ.out.symm, rfl⟩⟩
      go_wp2_with (first
        | (with_reducible refine wpList_load_row (o := ⟨some 22, _, _, _, _, _⟩) rfl 37 (.tmp 4) rfl m rfl 37 (rowJ x) (0, 0) _ A1.out.box.heap Tryz.underlying37 rfl N1.out ?_)
        | (with_reducible refine wpList_store_row (o := ⟨none, _, _, _, _, _⟩) rfl 37 (.tmp 2) (.tmp 22) rfl k (rowJ x) rfl rfl 37 (rowJ zeroJ) A1.out.res.heap N1.out (size_inst _ _) N3.out ?_))
      exact bodyPost_ret (v := .tuple #[.agg (rowJ x), .int .i64 0]) (results_row_num (p := 2) (q := 3) (ty := 37) (by kernel_rfl) _ _ k 37 (rowJ x) (0, 0) _ _ rfl rfl (setRow_heap w3 k _ (rowJ x) _ _ A1.out.res.heap) Tryz.underlying37 rfl N1.out) rfl ⟨RJ.out, by rw [HK.out]; exact TF.out⟩
    · have hq2 : (q.toList == t.toList) = false := by rw [Sb_eq]; exact decide_eq_false fun h => ht (Sb_inj.1 h)
      have TF : Hid (Below k w (w3.setRow k (rowJ zeroJ))) := hid (below_setRow_ A1.out.bel (Nat.le_refl _))
      have RJ : Hid (ReadJ t (.returned (.tuple #[.agg (rowJ zeroJ), .int .i64 10]))) := hid ⟨x, G.out, .inr ⟨fun h => ht (Sb_inj.1 (HQ.out.trans h.2)), rfl⟩⟩
      go_wp2_with (refine wpList_store_row (o := ⟨none, _, _, _, _, _⟩) rfl 37 (.tmp 2) (.tmp 21) rfl k (rowJ zeroJ) (by rfl) ?hy 37 (rowJ zeroJ) A1.out.res.heap Z1.out (size_inst _ _) Z3.out ?_; (case hy => rfl))
      exact bodyPost_ret (v := .tuple #[.agg (rowJ zeroJ), .int .i64 10]) (results_row_num (p := 2) (q := 3) (ty := 37) (by kernel_rfl) _ _ k 37 (rowJ zeroJ) (0, 0) _ _ rfl rfl (setRow_heap w3 k _ (rowJ zeroJ) _ _ A1.out.res.heap) Tryz.underlying37 rfl Z1.out) rfl ⟨RJ.out, by rw [HK.out]; exact TF.out⟩
end Go.Proofs.YtohffiehmmcgbaaGreatDoor
