/-
  The law MsgTexts, walked.
-/
import Derived.Test.YtohffiehmmcgbaaGreatDoorXYuRead
import Derived.Test.YtohffiehmmcgbaaGreatDoorXYuTell
import Derived.Test.YtohffiehmmcgbaaGreatDoorXYRefR
import Derived.Test.YtohffiehmmcgbaaGreatDoorXYAnchor
namespace Go.Proofs.YtohffiehmmcgbaaGreatDoor.msgTexts
open Go.ChangeShapes Go.WideShapes Go.ChangeAt Go.RowKit Go.Lib
set_option linter.unusedVariables false
set_option linter.unusedSimpArgs false
def Both (w0 : World) (k g : Nat) (w : World) (x : Ms) : Prop := Blk w k 64 (rowM x) ∧ Blk w g 64 (rowM x) ∧ Below k w0 w
theorem Both.one {w0 w : World} {k g : Nat} {x : Ms} (h : Both w0 k g w x) : Blk w k 64 (rowM x) := h.1
theorem Both.two {w0 w : World} {k g : Nat} {x : Ms} (h : Both w0 k g w x) : Blk w g 64 (rowM x) := h.2.1
theorem Both.bel {w0 w : World} {k g : Nat} {x : Ms} (h : Both w0 k g w x) : Below k w0 w := h.2.2
set_option maxRecDepth 100000 in
set_option maxHeartbeats 8000000 in
theorem walk_b (x : Ms) (w : World) (hok : okM x) (hL : All11 w) :
    Calls Tryz.prog 9 #[.agg (rowM x)] w fun e w' => e = .returned (.bool true) ∧ Below w.heap.size w w' := by
  obtain ⟨sx, hsx⟩ : ∃ a, smallM x = a := ⟨_, rfl⟩
  obtain ⟨rx, hrx⟩ : ∃ a, rightM x = a := ⟨_, rfl⟩
  have SX := hid hsx
  have RX := hid hrx
  have HO := hid hok
  have HL := hid hL
  clear hsx hrx hok hL
  go_enter Tryz.func9, Tryz.ntmps9
  go_upto_region 1 with fail
  obtain ⟨W, hW⟩ : ∃ W, w.alloc (.cells (rowM x) 64) = W := ⟨_, rfl⟩
  rw [hW]
  obtain ⟨K0, KB⟩ := one_new hW
  have LW := hid (HL.out.below KB.out)
  clear hW HL
  obtain ⟨k, hk⟩ : ∃ k, w.heap.size = k := ⟨_, rfl⟩
  rw [hk] at K0 KB
  rw [hk]
  have HKK := hid hk
  clear hk
  have S0 : Hid (ShowM w k W x) := hid ⟨K0.out, KB.out, LW.out⟩
  clear K0 KB LW
  have L1 := hid (len_msg x)
  have L3 := hid (rowM_one x)
  go_wp2_with fail
  with_reducible refine (anchor11 _ S0.out.all.ten.parts).mono ?_
  rintro e w1 ⟨rfl, hb⟩
  have S1 := hid (S0.out.on hb)
  clear hb S0
  go_wp2_with (with_reducible refine wpList_load_row (o := ⟨some 12, _, _, _, _, _⟩) rfl 64 (.tmp 1) rfl k rfl 64 (rowM x) (0, 0) _ S1.out.blk.heap Tryz.underlying64 rfl L1.out ?_)
  with_reducible refine (small11 x _).mono ?_
  rw [SX.out]
  rintro e w2 ⟨rfl, hb⟩
  have S2 := hid (S1.out.on hb)
  clear hb S1
  cases sx
  · go_wp2
    go_ret
    exact ⟨rfl, by rw [HKK.out]; exact S2.out.bel⟩
  have hsf := smallM_in SX.out
  have HF1 := hid (show x.x.c.foot.size ≤ 4611686018427387903 by omega)
  have HF2 := hid (show x.x.c.path.size ≤ 4611686018427387903 by omega)
  have HS1 := hid (show x.x.c.foot.size ≤ 900 by omega)
  have HS2 := hid (show x.x.c.path.size ≤ 900 by omega)
  clear hsf
  cases rx
  · go_wp2_with (with_reducible refine wpList_load_row (o := ⟨some 16, _, _, _, _, _⟩) rfl 64 (.tmp 1) rfl k rfl 64 (rowM x) (0, 0) _ S2.out.blk.heap Tryz.underlying64 rfl L1.out ?_)
    with_reducible refine (mshow_no x _ S2.out.all HO.out RX.out HF1.out HF2.out).mono ?_
    rintro e w3 ⟨rfl, hb⟩
    have S3 := hid (S2.out.on hb)
    clear hb S2
    go_wp2_with (with_reducible refine wpList_load_row (o := ⟨some 20, _, _, _, _, _⟩) rfl 64 (.tmp 1) rfl k rfl 64 (rowM x) (0, 0) _ S3.out.blk.heap Tryz.underlying64 rfl L1.out ?_)
    with_reducible refine (of11 x _).mono ?_
    rintro e w4 ⟨rfl, hb⟩
    have S4 := hid (S3.out.on hb)
    clear hb S3
    go_wp2_with fail
    with_reducible refine (refmright_any x HO.out _ HS1.out HS2.out).mono ?_
    rw [RX.out]
    rintro e w5 ⟨rfl, hb⟩
    have S5 := hid (S4.out.on hb)
    clear hb S4
    go_wp2
    go_ret
    exact ⟨rfl, by rw [HKK.out]; exact S5.out.bel⟩
  go_wp2_with (with_reducible refine wpList_load_row (o := ⟨some 16, _, _, _, _, _⟩) rfl 64 (.tmp 1) rfl k rfl 64 (rowM x) (0, 0) _ S2.out.blk.heap Tryz.underlying64 rfl L1.out ?_)
  with_reducible refine (mshow_yes x _ S2.out.all HO.out RX.out HF1.out HF2.out).mono ?_
  rintro e w3 ⟨⟨r, rfl, hr⟩, hb⟩
  have HR := hid hr
  have S3 := hid (S2.out.on hb)
  clear hb S2 hr
  go_wp2_with (with_reducible refine wpList_load_row (o := ⟨some 20, _, _, _, _, _⟩) rfl 64 (.tmp 1) rfl k rfl 64 (rowM x) (0, 0) _ S3.out.blk.heap Tryz.underlying64 rfl L1.out ?_)
  with_reducible refine (of11 x _).mono ?_
  rintro e w4 ⟨rfl, hb⟩
  have S4 := hid (S3.out.on hb)
  clear hb S3
  go_wp2_with fail
  with_reducible refine (refmright_any x HO.out _ HS1.out HS2.out).mono ?_
  rw [RX.out]
  rintro e w5 ⟨rfl, hb⟩
  have S5 := hid (S4.out.on hb)
  clear hb S4
  go_wp2_with (with_reducible refine wpList_load_row (o := ⟨some 30, _, _, _, _, _⟩) rfl 64 (.tmp 1) rfl k rfl 64 (rowM x) (0, 0) _ S5.out.blk.heap Tryz.underlying64 rfl L1.out ?_)
  with_reducible refine (of11 x _).mono ?_
  rintro e w6 ⟨rfl, hb⟩
  have S6 := hid (S5.out.on hb)
  clear hb S5
  go_wp2_with fail
  with_reducible refine (mtell_any x _ HO.out RX.out).mono ?_
  rintro e w7 ⟨⟨t, rfl, ht, htz⟩, hb⟩
  have HT := hid ht
  have S7 := hid (S6.out.on hb)
  clear hb S6 ht
  have HJ := hid (And.right HO.out)
  have HRZ : Hid (r.size ≤ 9000) := hid (textM_size HO.out RX.out HR.out (fun h => textJ_len x.x HJ.out.1 HJ.out.2 (rightM_x RX.out h)))
  have hrz := HRZ.out
  have c0 := S7.out.blk.m0
  by_cases h6 : x.k = 6
  · have hb6 : (x.k != 6) = false := by rw [h6]; rfl
    obtain rfl : t = r := Sb_inj.1 (by rw [HT.out, HR.out, head_textU, if_pos h6, List.append_nil])
    go_wp2_with fail
    with_reducible refine (mread_right t x _ (by omega) S7.out.all HO.out RX.out HR.out).mono ?_
    rintro e w8 ⟨rfl, hb⟩
    have S8 := hid (S7.out.on hb)
    clear hb S7 c0 hb6 h6
    obtain ⟨g, hg⟩ : ∃ g, w8.heap.size = g := ⟨_, rfl⟩
    have E0 : Hid (Blk (w8.alloc (.cells mrowZ 64)) g 64 mrowZ) := hid (by rw [← hg]; exact Blk.new w8 64 mrowZ)
    go_upto_region 15 with (refine wpList_store_row (o := ⟨none, _, _, _, _, _⟩) rfl 64 (.tmp 8) (.tmp 51) rfl g (rowM x) rfl ?hy 64 mrowZ E0.out.heap L1.out rfl L3.out ?_; (case hy => rfl))
    obtain ⟨W9, hW9⟩ : ∃ W9, (w8.alloc (.cells mrowZ 64)).setRow g (rowM x) = W9 := ⟨_, rfl⟩
    have hkg : k < g := by have := S8.out.blk.lt; omega
    have D9 : Hid (Both w k g W9 x) := hid (by
      rw [← hW9]
      have hbb : Below g w8 ((w8.alloc (.cells mrowZ 64)).setRow g (rowM x)) := below_setRow_ ((Below.refl g w8).alloc (by omega) _) (Nat.le_refl _)
      exact ⟨(S8.out.blk.alloc _).rowFar (by omega) _, E0.out.row _, S8.out.bel.trans (hbb.mono (by omega))⟩)
    rw [hW9]
    clear hW9 hg E0 S8
    have EG := msg_guard
    have EQ := eq_msg x x true (eqM_self x)
    go_wp2_with (first
      | (with_reducible refine wpList_load_rowg (o := ⟨some 65, _, _, _, _, _⟩) (by kernel_rfl) 64 (.tmp 8) rfl g rfl 64 (rowM x) (0, 0) _ D9.out.two.heap Tryz.underlying64 rfl L1.out ?_)
      | (with_reducible refine wpList_load_rowg (o := ⟨some 66, _, _, _, _, _⟩) (by kernel_rfl) 64 (.tmp 1) rfl k rfl 64 (rowM x) (0, 0) _ D9.out.one.heap Tryz.underlying64 rfl L1.out ?_))
    go_ret
    exact ⟨rfl, by rw [HKK.out]; exact D9.out.bel⟩
  · have hb6 : (x.k != 6) = true := by rw [bne_iff_ne]; exact h6
    have HX := hid (rightM_x RX.out h6)
    go_wp2_with (with_reducible refine wpList_load_known (op := ⟨some 38, _, _, _, _, _⟩) rfl 37 (.tmp 37) rfl k rfl S7.out.blk _ Tryz.underlying37 rfl info_inst ?_)
    with_reducible refine (jshow_yes x.x _ S7.out.all.ten HJ.out.1 HJ.out.2 HX.out HF1.out HF2.out).mono ?_
    rintro e w8 ⟨⟨c, rfl, hc⟩, hb⟩
    have HC := hid hc
    have S8 := hid (S7.out.on hb)
    have hcz : c.size ≤ 8000 := by rw [sb_size hc]; exact textJ_len x.x HJ.out.1 HJ.out.2 HX.out
    clear hb hc S7 c0 hb6
    obtain ⟨q, hq⟩ : ∃ q, t ++ (⟨#[32]⟩ ++ c) = q := ⟨_, rfl⟩
    obtain rfl : q = r := Sb_inj.1 (by rw [← hq, Sb_append, Sb_append, HT.out, HC.out, HR.out, head_textU, if_neg h6, show Sb ⟨#[32]⟩ = [32] from rfl]; rfl)
    have HQ := hid hq
    clear hq h6
    go_upto_region 14 with fail
    try rw [HQ.out]
    go_wp2_with fail
    with_reducible refine (mread_right q x _ (by omega) S8.out.all HO.out RX.out HR.out).mono ?_
    rintro e w9 ⟨rfl, hb⟩
    have S9 := hid (S8.out.on hb)
    clear hb S8
    obtain ⟨g, hg⟩ : ∃ g, w9.heap.size = g := ⟨_, rfl⟩
    have E0 : Hid (Blk (w9.alloc (.cells mrowZ 64)) g 64 mrowZ) := hid (by rw [← hg]; exact Blk.new w9 64 mrowZ)
    go_upto_region 15 with (refine wpList_store_row (o := ⟨none, _, _, _, _, _⟩) rfl 64 (.tmp 8) (.tmp 51) rfl g (rowM x) rfl ?hy 64 mrowZ E0.out.heap L1.out rfl L3.out ?_; (case hy => rfl))
    obtain ⟨W9, hW9⟩ : ∃ W9, (w9.alloc (.cells mrowZ 64)).setRow g (rowM x) = W9 := ⟨_, rfl⟩
    have hkg : k < g := by have := S9.out.blk.lt; omega
    have D9 : Hid (Both w k g W9 x) := hid (by
      rw [← hW9]
      have hbb : Below g w9 ((w9.alloc (.cells mrowZ 64)).setRow g (rowM x)) := below_setRow_ ((Below.refl g w9).alloc (by omega) _) (Nat.le_refl _)
      exact ⟨(S9.out.blk.alloc _).rowFar (by omega) _, E0.out.row _, S9.out.bel.trans (hbb.mono (by omega))⟩)
    rw [hW9]
    clear hW9 hg E0 S9
    have EG := msg_guard
    have EQ := eq_msg x x true (eqM_self x)
    go_wp2_with (first
      | (with_reducible refine wpList_load_rowg (o := ⟨some 65, _, _, _, _, _⟩) (by kernel_rfl) 64 (.tmp 8) rfl g rfl 64 (rowM x) (0, 0) _ D9.out.two.heap Tryz.underlying64 rfl L1.out ?_)
      | (with_reducible refine wpList_load_rowg (o := ⟨some 66, _, _, _, _, _⟩) (by kernel_rfl) 64 (.tmp 1) rfl k rfl 64 (rowM x) (0, 0) _ D9.out.one.heap Tryz.underlying64 rfl L1.out ?_))
    go_ret
    exact ⟨rfl, by rw [HKK.out]; exact D9.out.bel⟩
end Go.Proofs.YtohffiehmmcgbaaGreatDoor.msgTexts
