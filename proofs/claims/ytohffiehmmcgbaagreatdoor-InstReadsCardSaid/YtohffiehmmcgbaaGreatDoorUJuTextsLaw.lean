/-
  The law InstTexts, walked.
-/
import Derived.Test.YtohffiehmmcgbaaGreatDoorUJuRead
import Derived.Test.YtohffiehmmcgbaaGreatDoorUJuTell
namespace Go.Proofs.YtohffiehmmcgbaaGreatDoor
open Go.ChangeShapes Go.WideShapes Go.ChangeAt Go.RowKit Go.Lib
set_option linter.unusedVariables false
set_option linter.unusedSimpArgs false
theorem rightJ_congr {x y : J} (h : eqJ x y = true) : rightJ x = rightJ y := by
  unfold eqJ at h
  simp only [Bool.and_eq_true, beq_iff_eq, decide_eq_true_eq] at h
  obtain ⟨⟨h1, h2⟩, h3, h4, h5, h6, h7, h8⟩ := h
  have e : x = ⟨y.r, y.s, y.st, y.bal, y.vote, y.same, y.c, x.f⟩ := by
    obtain ⟨a, b, c, d, e, f, g, i⟩ := x
    simp only at h1 h2 h3 h4 h5 h6 h7
    subst h1 h2 h3 h4 h5 h6 h7
    rfl
  rw [e]
  exact rightJ_att y x.f h8
theorem right_ok {x : J} (hok : okJ x) (hr : rightJ x = true) (h : x.st ≠ 0) : rightK x.c = true ∧ okB x.f = true := by
  obtain ⟨a, b, v, u, t, _, _, _, _, ht, _, _, _, _, _, _, _, hn0, _⟩ := rightJ_in hok hr
  exact hn0 (by omega)
theorem jread_right (t : ByteArray) (x : J) (w : World) (hz : t.size ≤ 100000) (hL : All10 w) (hok : okJ x) (hK : okK x.c) (hr : rightJ x = true) (ht : Sb t = textJ x) :
    Calls Tryz.prog 23 #[.string t] w fun e w' => e = .returned (.tuple #[.agg (rowJ x), .int .i64 0]) ∧ Below w.heap.size w w' := by
  refine (jread_any t w hz hL).mono ?_
  rintro e w1 ⟨⟨y, hg, ⟨h1, h2, rfl⟩ | ⟨hn, rfl⟩⟩, hb⟩
  · have he := guess_text hok hK hr ht hg
    exact ⟨by rw [rowJ_congr he], hb⟩
  · have he := guess_text hok hK hr ht hg
    refine absurd ⟨(rightJ_congr he).trans hr, ?_⟩ hn
    rw [ht]
    refine textJ_congr he fun h => ?_
    refine (right_ok hg.1 ((rightJ_congr he).trans hr) h).2
theorem textJ_size {x : J} {t : ByteArray} (hok : okJ x) (hK : okK x.c) (hr : rightJ x = true) (hh : (headT x).length ≤ 1000) (ht : Sb t = textJ x) : t.size ≤ 8000 := by
  have h := congrArg List.length ht
  rw [Sb_length, head_textJ, List.length_append] at h
  by_cases h0 : x.st = 0
  · rw [if_pos h0] at h
    simp at h
    omega
  · rw [if_neg h0] at h
    have := txtj_len x.c hK (right_ok hok hr h0).1
    omega
end Go.Proofs.YtohffiehmmcgbaaGreatDoor
namespace Go.Proofs.YtohffiehmmcgbaaGreatDoor.instTexts
open Go.ChangeShapes Go.WideShapes Go.ChangeAt Go.RowKit Go.Lib
set_option linter.unusedVariables false
set_option linter.unusedSimpArgs false
def Both (w0 : World) (k g : Nat) (w : World) (x : J) : Prop := Blk w k 37 (rowJ x) ∧ Blk w g 37 (rowJ x) ∧ Below k w0 w
theorem Both.one {w0 w : World} {k g : Nat} {x : J} (h : Both w0 k g w x) : Blk w k 37 (rowJ x) := h.1
theorem Both.two {w0 w : World} {k g : Nat} {x : J} (h : Both w0 k g w x) : Blk w g 37 (rowJ x) := h.2.1
theorem Both.bel {w0 w : World} {k g : Nat} {x : J} (h : Both w0 k g w x) : Below k w0 w := h.2.2
set_option maxRecDepth 100000 in
set_option maxHeartbeats 8000000 in
theorem walk_b (x : J) (w : World) (hok : okJ x) (hK : okK x.c) (hL : All10 w) :
    Calls Tryz.prog 4 #[.agg (rowJ x)] w fun e w' => e = .returned (.bool true) ∧ Below w.heap.size w w' := by
  obtain ⟨sx, hsx⟩ : ∃ a, smallJ x = a := ⟨_, rfl⟩
  obtain ⟨rx, hrx⟩ : ∃ a, rightJ x = a := ⟨_, rfl⟩
  have SX := hid hsx
  have RX := hid hrx
  have HO := hid hok
  have HK := hid hK
  have HL := hid hL
  clear hsx hrx hok hK hL
  go_enter Tryz.func4, Tryz.ntmps4
  go_upto_region 1 with fail
  obtain ⟨W, hW⟩ : ∃ W, w.alloc (.cells (rowJ x) 37) = W := ⟨_, rfl⟩
  rw [hW]
  obtain ⟨K0, KB⟩ := one_new hW
  have LW := hid (HL.out.below KB.out)
  clear hW HL
  obtain ⟨k, hk⟩ : ∃ k, w.heap.size = k := ⟨_, rfl⟩
  rw [hk] at K0 KB
  rw [hk]
  have HKK := hid hk
  clear hk
  have S0 : Hid (ShowJ w k W x) := hid ⟨K0.out, KB.out, LW.out⟩
  clear K0 KB LW
  have L1 := hid (len_inst x)
  have L3 := hid (rowJ_one x)
  go_wp2_with fail
  with_reducible refine (anchor10 _).mono ?_
  rintro e w1 ⟨rfl, hb⟩
  have S1 := hid (S0.out.on hb)
  clear hb S0
  go_wp2_with (with_reducible refine wpList_load_row (o := ⟨some 13, _, _, _, _, _⟩) rfl 37 (.tmp 1) rfl k rfl 37 (rowJ x) (0, 0) _ S1.out.blk.heap Tryz.underlying37 rfl L1.out ?_)
  with_reducible refine (small10 x _).mono ?_
  rw [SX.out]
  rintro e w2 ⟨rfl, hb⟩
  have S2 := hid (S1.out.on hb)
  clear hb S1
  cases sx
  · go_wp2
    go_ret
    exact ⟨rfl, by rw [HKK.out]; exact S2.out.bel⟩
  have hsf := smallJ_in SX.out
  have HF1 := hid (show x.c.foot.size ≤ 4611686018427387903 by omega)
  have HF2 := hid (show x.c.path.size ≤ 4611686018427387903 by omega)
  have HS1 := hid (show x.c.foot.size ≤ 900 by omega)
  have HS2 := hid (show x.c.path.size ≤ 900 by omega)
  clear hsf
  cases rx
  · go_wp2_with (with_reducible refine wpList_load_row (o := ⟨some 17, _, _, _, _, _⟩) rfl 37 (.tmp 1) rfl k rfl 37 (rowJ x) (0, 0) _ S2.out.blk.heap Tryz.underlying37 rfl L1.out ?_)
    with_reducible refine (jshow_no x _ S2.out.all HO.out RX.out HF1.out HF2.out).mono ?_
    rintro e w3 ⟨rfl, hb⟩
    have S3 := hid (S2.out.on hb)
    clear hb S2
    go_wp2_with (with_reducible refine wpList_load_row (o := ⟨some 21, _, _, _, _, _⟩) rfl 37 (.tmp 1) rfl k rfl 37 (rowJ x) (0, 0) _ S3.out.blk.heap Tryz.underlying37 rfl L1.out ?_)
    with_reducible refine (of10 x _).mono ?_
    rintro e w4 ⟨rfl, hb⟩
    have S4 := hid (S3.out.on hb)
    clear hb S3
    go_wp2_with fail
    with_reducible refine (refxright_any x HO.out HK.out _ HS1.out HS2.out).mono ?_
    rw [RX.out]
    rintro e w5 ⟨rfl, hb⟩
    have S5 := hid (S4.out.on hb)
    clear hb S4
    go_wp2
    go_ret
    exact ⟨rfl, by rw [HKK.out]; exact S5.out.bel⟩
  go_wp2_with (with_reducible refine wpList_load_row (o := ⟨some 17, _, _, _, _, _⟩) rfl 37 (.tmp 1) rfl k rfl 37 (rowJ x) (0, 0) _ S2.out.blk.heap Tryz.underlying37 rfl L1.out ?_)
  with_reducible refine (jshow_yes x _ S2.out.all HO.out HK.out RX.out HF1.out HF2.out).mono ?_
  rintro e w3 ⟨⟨r, rfl, hr⟩, hb⟩
  have HR := hid hr
  have S3 := hid (S2.out.on hb)
  clear hb S2 hr
  go_wp2_with (with_reducible refine wpList_load_row (o := ⟨some 21, _, _, _, _, _⟩) rfl 37 (.tmp 1) rfl k rfl 37 (rowJ x) (0, 0) _ S3.out.blk.heap Tryz.underlying37 rfl L1.out ?_)
  with_reducible refine (of10 x _).mono ?_
  rintro e w4 ⟨rfl, hb⟩
  have S4 := hid (S3.out.on hb)
  clear hb S3
  go_wp2_with fail
  with_reducible refine (refxright_any x HO.out HK.out _ HS1.out HS2.out).mono ?_
  rw [RX.out]
  rintro e w5 ⟨rfl, hb⟩
  have S5 := hid (S4.out.on hb)
  clear hb S4
  go_wp2_with (with_reducible refine wpList_load_row (o := ⟨some 32, _, _, _, _, _⟩) rfl 37 (.tmp 1) rfl k rfl 37 (rowJ x) (0, 0) _ S5.out.blk.heap Tryz.underlying37 rfl L1.out ?_)
  with_reducible refine (of10 x _).mono ?_
  rintro e w6 ⟨rfl, hb⟩
  have S6 := hid (S5.out.on hb)
  clear hb S5
  go_wp2_with fail
  with_reducible refine (jtell_any x _ HO.out RX.out).mono ?_
  rintro e w7 ⟨⟨t, rfl, ht, htz⟩, hb⟩
  have HT := hid ht
  have S7 := hid (S6.out.on hb)
  clear hb S6 ht
  have HRZ : Hid (r.size ≤ 8000) := hid (textJ_size HO.out HK.out RX.out (by have := congrArg List.length HT.out; rw [Sb_length] at this; omega) HR.out)
  by_cases h0 : x.st = 0
  · have hd : decide (x.st ≠ 0) = false := by simp [h0]
    obtain rfl : t = r := Sb_inj.1 (by rw [HT.out, HR.out, head_textJ, if_pos h0, List.append_nil])
    rw [hd]
    clear hd h0 htz HT
    go_wp2_with fail
    have hrz := HRZ.out
    with_reducible refine (jread_right t x _ (by omega) S7.out.all HO.out HK.out RX.out HR.out).mono ?_
    rintro e w8 ⟨rfl, hb⟩
    have S8 := hid (S7.out.on hb)
    clear hb S7
    obtain ⟨g, hg⟩ : ∃ g, w8.heap.size = g := ⟨_, rfl⟩
    have E0 : Hid (Blk (w8.alloc (.cells zrow 37)) g 37 zrow) := hid (by rw [← hg]; exact Blk.new w8 37 zrow)
    go_upto_region 15 with (refine wpList_store_row (o := ⟨none, _, _, _, _, _⟩) rfl 37 (.tmp 9) (.tmp 52) rfl g (rowJ x) rfl ?hy 37 zrow E0.out.heap L1.out rfl L3.out ?_; (case hy => rfl))
    obtain ⟨W9, hW9⟩ : ∃ W9, (w8.alloc (.cells zrow 37)).setRow g (rowJ x) = W9 := ⟨_, rfl⟩
    have hkg : k < g := by have := S8.out.blk.lt; omega
    have D9 : Hid (Both w k g W9 x) := hid (by
      rw [← hW9]
      have hbb : Below g w8 ((w8.alloc (.cells zrow 37)).setRow g (rowJ x)) := below_setRow_ ((Below.refl g w8).alloc (by omega) _) (Nat.le_refl _)
      exact ⟨(S8.out.blk.alloc _).rowFar (by omega) _, E0.out.row _, S8.out.bel.trans (hbb.mono (by omega))⟩)
    rw [hW9]
    clear hW9 hg E0 S8
    have EG := inst_guard
    have EQ := eq_inst x x true (eqJ_self x)
    go_wp2_with (first
      | (with_reducible refine wpList_load_rowg (o := ⟨some 66, _, _, _, _, _⟩) (by kernel_rfl) 37 (.tmp 9) rfl g rfl 37 (rowJ x) (0, 0) _ D9.out.two.heap Tryz.underlying37 rfl L1.out ?_)
      | (with_reducible refine wpList_load_rowg (o := ⟨some 67, _, _, _, _, _⟩) (by kernel_rfl) 37 (.tmp 1) rfl k rfl 37 (rowJ x) (0, 0) _ D9.out.one.heap Tryz.underlying37 rfl L1.out ?_))
    go_ret
    exact ⟨rfl, by rw [HKK.out]; exact D9.out.bel⟩
  · have hd : decide (x.st ≠ 0) = true := by simp [h0]
    have HN := hid h0
    rw [hd]
    clear hd h0
    have RC := S7.out.blk.jc
    have I1 := hid (info_cmd8 x.c)
    have HRK := hid (right_ok HO.out RX.out HN.out).1
    go_wp2_with (with_reducible refine wpList_load_mid (op := ⟨some 40, _, _, _, _, _⟩) rfl 32 (.tmp 39) rfl k 6 rfl (lsK x.c) _ RC Tryz.underlying32 rfl I1.out ?_)
    clear RC I1
    with_reducible refine (cshow8 x.c _ S7.out.all.seven HK.out HRK.out).mono ?_
    rintro e w8 ⟨⟨c, rfl, hc⟩, hb⟩
    have HC := hid hc
    have S8 := hid (S7.out.on hb)
    clear hb hc S7
    have hcz : c.size ≤ 7000 := by
      have h1 := txtj_len x.c HK.out HRK.out
      rw [← HC.out, Sb_length] at h1
      exact h1
    obtain ⟨q, hq⟩ : ∃ q, t ++ c = q := ⟨_, rfl⟩
    obtain rfl : q = r := Sb_inj.1 (by rw [← hq, Sb_append, HT.out, HC.out, HR.out, head_textJ, if_neg HN.out])
    have HQ := hid hq
    clear hq
    go_upto_region 14 with fail
    try rw [HQ.out]
    go_wp2_with fail
    have hrz := HRZ.out
    with_reducible refine (jread_right q x _ (by omega) S8.out.all HO.out HK.out RX.out HR.out).mono ?_
    rintro e w9 ⟨rfl, hb⟩
    have S9 := hid (S8.out.on hb)
    clear hb S8
    obtain ⟨g, hg⟩ : ∃ g, w9.heap.size = g := ⟨_, rfl⟩
    have E0 : Hid (Blk (w9.alloc (.cells zrow 37)) g 37 zrow) := hid (by rw [← hg]; exact Blk.new w9 37 zrow)
    go_upto_region 15 with (refine wpList_store_row (o := ⟨none, _, _, _, _, _⟩) rfl 37 (.tmp 9) (.tmp 52) rfl g (rowJ x) rfl ?hy 37 zrow E0.out.heap L1.out rfl L3.out ?_; (case hy => rfl))
    obtain ⟨W9, hW9⟩ : ∃ W9, (w9.alloc (.cells zrow 37)).setRow g (rowJ x) = W9 := ⟨_, rfl⟩
    have hkg : k < g := by have := S9.out.blk.lt; omega
    have D9 : Hid (Both w k g W9 x) := hid (by
      rw [← hW9]
      have hbb : Below g w9 ((w9.alloc (.cells zrow 37)).setRow g (rowJ x)) := below_setRow_ ((Below.refl g w9).alloc (by omega) _) (Nat.le_refl _)
      exact ⟨(S9.out.blk.alloc _).rowFar (by omega) _, E0.out.row _, S9.out.bel.trans (hbb.mono (by omega))⟩)
    rw [hW9]
    clear hW9 hg E0 S9
    have EG := inst_guard
    have EQ := eq_inst x x true (eqJ_self x)
    go_wp2_with (first
      | (with_reducible refine wpList_load_rowg (o := ⟨some 66, _, _, _, _, _⟩) (by kernel_rfl) 37 (.tmp 9) rfl g rfl 37 (rowJ x) (0, 0) _ D9.out.two.heap Tryz.underlying37 rfl L1.out ?_)
      | (with_reducible refine wpList_load_rowg (o := ⟨some 67, _, _, _, _, _⟩) (by kernel_rfl) 37 (.tmp 1) rfl k rfl 37 (rowJ x) (0, 0) _ D9.out.one.heap Tryz.underlying37 rfl L1.out ?_))
    go_ret
    exact ⟨rfl, by rw [HKK.out]; exact D9.out.bel⟩
end Go.Proofs.YtohffiehmmcgbaaGreatDoor.instTexts
