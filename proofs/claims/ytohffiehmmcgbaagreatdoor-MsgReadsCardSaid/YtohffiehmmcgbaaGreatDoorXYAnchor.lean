/-
  The document's example of a message's frame.
-/
import Derived.Test.YtohffiehmmcgbaaGreatDoorXYOpen
import Derived.Test.YtohffiehmmcgbaaGreatDoorXYAsk
namespace Go.Proofs.YtohffiehmmcgbaaGreatDoor
open Go.ChangeShapes Go.WideShapes Go.ChangeAt Go.RowKit Go.Lib
set_option linter.unusedVariables false
set_option linter.unusedSimpArgs false
def m11 : Ms := ⟨6, 2, 0, 1, 9, 10, false, zeroJ⟩
theorem m11_is : askM 6 2 0 10 (newJ 1 9) = m11 := rfl
theorem m11_right : rightM m11 = true := by decide +kernel
theorem m11_ok : okM m11 := ⟨by decide, ⟨by decide, by decide⟩, zeroK_ok⟩
theorem m11_len : (encM m11).length = 7 := by
  have e : encM m11 = [6, 2, 0, 1] ++ shortN 9 ++ shortN 10 ++ [0] ++ [] := rfl
  rw [e, shortN_lo (by decide), shortN_lo (by decide)]
  rfl
theorem m11_eq : eqM m11 m11 = true := eqM_self m11
set_option maxRecDepth 100000 in
set_option maxHeartbeats 4000000 in
theorem anchor11 (w : World) (hP : PartsIs w) :
    Calls Tryz.prog 24 #[] w fun e w' => e = .returned (.bool true) ∧ Below w.heap.size w w' := by
  have HP := hid hP
  have L1 := hid (len_msg m11)
  have L3 := hid (rowM_one m11)
  have HF := hid (show m11.x.c.foot.size ≤ 4611686018427387903 by decide)
  have HQ := hid (show m11.x.c.path.size ≤ 4611686018427387903 by decide)
  have EQ := eq_msg m11 m11 true m11_eq
  have EG := msg_guard
  clear hP
  go_enter Tryz.func24, Tryz.ntmps24
  go_wp2_with fail
  with_reducible refine (new_any 1 9 _).mono ?_
  rintro en w1 ⟨rfl, hb⟩
  have B1 := hid hb
  have P1 := hid (HP.out.below hb)
  clear hb HP
  go_wp2_with fail
  with_reducible refine (ask_any 6 2 0 10 (newJ 1 9) _ (by decide) (by decide) (by decide)).mono ?_
  rw [m11_is]
  rintro en w2 ⟨rfl, hb⟩
  have B2 := hid (below_pay B1.out B1.out.size hb)
  have P2 := hid (P1.out.below hb)
  clear hb B1 P1
  obtain ⟨n, hn⟩ : ∃ n, w2.heap.size = n := ⟨_, rfl⟩
  have E0 : Hid (Blk (w2.alloc (.cells zrowM 64)) n 64 zrowM) := hid (by rw [← hn]; exact Blk.new w2 64 zrowM)
  go_upto_region 2 with (refine wpList_store_row (o := ⟨none, _, _, _, _, _⟩) rfl 64 (.tmp 1) (.tmp 7) rfl n (rowM m11) rfl rfl 64 zrowM E0.out.heap L1.out rfl L3.out ?_)
  obtain ⟨W3, hW3⟩ : ∃ W3, (w2.alloc (.cells zrowM 64)).setRow n (rowM m11) = W3 := ⟨_, rfl⟩
  have hwn : w.heap.size ≤ n := by have := B2.out.size; omega
  have F0 : Hid (Blk W3 n 64 (rowM m11)) := hid (by rw [← hW3]; exact E0.out.row _)
  have FB : Hid (Below w.heap.size w W3) := hid (by rw [← hW3]; exact below_setRow_ (B2.out.trans ((Below.refl _ w2).alloc B2.out.size _)) hwn)
  have FP : Hid (PartsIs W3) := hid (by rw [← hW3]; exact var_under gParts (P2.out.alloc (.cells zrowM 64)) (base := n) (by have := P2.out.lt; omega) (below_setRow_ (Below.refl _ _) (Nat.le_refl _)))
  rw [hW3]
  clear hW3 hn E0 B2 P2
  go_wp2_with (with_reducible refine wpList_load_row (o := ⟨some 8, _, _, _, _, _⟩) rfl 64 (.tmp 1) rfl n rfl 64 (rowM m11) (0, 0) _ F0.out.heap Tryz.underlying64 rfl L1.out ?_)
  with_reducible refine (frame_any m11 _ FP.out m11_ok m11_right rfl 7 m11_len HF.out HQ.out).mono ?_
  rintro en w4 ⟨g2, cap, rfl, hg2, hcap, hown, hb⟩
  have G0 := hid (F0.out.below hb F0.out.lt)
  have GB := hid (below_pay FB.out FB.out.size hb)
  have GP := hid (FP.out.below hb)
  have GS : Hid (Sees .u8 w4 (some ⟨g2, 0, none⟩) (sealed (encM m11))) := hid (Sees.of_own hown)
  clear hb hown F0 FB FP hg2
  go_wp2_with fail
  with_reducible refine (mopen_ok g2 0 m11 7 cap _ rfl GP.out m11_ok m11_right m11_len hcap GS.out HF.out HQ.out).mono ?_
  rintro en w5 ⟨rfl, hb⟩
  have H0 := hid (G0.out.below hb G0.out.lt)
  have HB := hid (below_pay GB.out GB.out.size hb)
  have HP5 := hid (GP.out.below hb)
  clear hb G0 GB GP GS
  obtain ⟨q, hq⟩ : ∃ q, w5.heap.size = q := ⟨_, rfl⟩
  have hnq : n < q := by have := H0.out.lt; omega
  have E0 : Hid (Blk (w5.alloc (.cells zrowM 64)) q 64 zrowM) := hid (by rw [← hq]; exact Blk.new w5 64 zrowM)
  go_upto_region 4 with (refine wpList_store_row (o := ⟨none, _, _, _, _, _⟩) rfl 64 (.tmp 3) (.tmp 13) rfl q (rowM m11) rfl rfl 64 zrowM E0.out.heap L1.out rfl L3.out ?_)
  obtain ⟨W6, hW6⟩ : ∃ W6, (w5.alloc (.cells zrowM 64)).setRow q (rowM m11) = W6 := ⟨_, rfl⟩
  have I0 : Hid (Blk W6 n 64 (rowM m11)) := hid (by rw [← hW6]; exact (H0.out.alloc _).rowFar (by omega) _)
  have I1 : Hid (Blk W6 q 64 (rowM m11)) := hid (by rw [← hW6]; exact E0.out.row _)
  have IB : Hid (Below w.heap.size w W6) := hid (by rw [← hW6]; exact below_setRow_ (HB.out.trans ((Below.refl _ w5).alloc HB.out.size _)) (by omega))
  have IP : Hid (PartsIs W6) := hid (by rw [← hW6]; exact var_under gParts (HP5.out.alloc (.cells zrowM 64)) (base := q) (by have := HP5.out.lt; omega) (below_setRow_ (Below.refl _ _) (Nat.le_refl _)))
  rw [hW6]
  clear hW6 hq E0 H0 HB HP5
  go_wp2_with (with_reducible refine wpList_load_row (o := ⟨some 15, _, _, _, _, _⟩) rfl 64 (.tmp 1) rfl n rfl 64 (rowM m11) (0, 0) _ I0.out.heap Tryz.underlying64 rfl L1.out ?_)
  with_reducible refine (mright_any m11 m11_ok _ IP.out HF.out HQ.out).mono ?_
  rw [m11_right]
  rintro en w7 ⟨rfl, hb⟩
  have J0 := hid (I0.out.below hb I0.out.lt)
  have J1 := hid (I1.out.below hb I1.out.lt)
  have JB := hid (below_pay IB.out IB.out.size hb)
  clear hb I0 I1 IB IP
  go_wp2_with (first
    | (with_reducible refine wpList_load_rowg (o := ⟨some 23, _, _, _, _, _⟩) (by kernel_rfl) 64 (.tmp 3) rfl q rfl 64 (rowM m11) (0, 0) _ J1.out.heap Tryz.underlying64 rfl L1.out ?_)
    | (with_reducible refine wpList_load_rowg (o := ⟨some 24, _, _, _, _, _⟩) (by kernel_rfl) 64 (.tmp 1) rfl n rfl 64 (rowM m11) (0, 0) _ J0.out.heap Tryz.underlying64 rfl L1.out ?_))
  go_ret
  exact ⟨rfl, JB.out⟩
end Go.Proofs.YtohffiehmmcgbaaGreatDoor
