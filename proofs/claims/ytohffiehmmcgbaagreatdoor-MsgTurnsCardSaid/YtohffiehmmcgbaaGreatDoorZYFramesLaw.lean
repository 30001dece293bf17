/-
  The law MsgFrames, walked.
-/
import Derived.Test.YtohffiehmmcgbaaGreatDoorZYAnchor
import Derived.Test.YtohffiehmmcgbaaGreatDoorZYRefR
namespace Go.Proofs.YtohffiehmmcgbaaGreatDoor
open Go.ChangeShapes Go.WideShapes Go.ChangeAt Go.RowKit Go.Lib
set_option linter.unusedVariables false
set_option linter.unusedSimpArgs false

/-- The law's own box, the frame, the table. -/
def OneM (w0 : World) (k : Nat) (w : World) (m : Ms) : Prop := Blk w k 64 (rowM m) ∧ Below k w0 w ∧ PartsIs w
theorem OneM.on {w0 w w' : World} {k : Nat} {m : Ms} (h : OneM w0 k w m) (hb : Below w.heap.size w w') : OneM w0 k w' m :=
  ⟨h.1.below hb h.1.lt, below_pay h.2.1 (by have := h.1.lt; omega) hb, h.2.2.below hb⟩

theorem OneM.blk {w0 w : World} {k : Nat} {m : Ms} (h : OneM w0 k w m) : Blk w k 64 (rowM m) := h.1
theorem OneM.bel {w0 w : World} {k : Nat} {m : Ms} (h : OneM w0 k w m) : Below k w0 w := h.2.1
theorem OneM.parts {w0 w : World} {k : Nat} {m : Ms} (h : OneM w0 k w m) : PartsIs w := h.2.2

end Go.Proofs.YtohffiehmmcgbaaGreatDoor
namespace Go.Proofs.YtohffiehmmcgbaaGreatDoor.msgFrames
open Go.ChangeShapes Go.WideShapes Go.ChangeAt Go.RowKit Go.Lib
set_option linter.unusedVariables false
set_option linter.unusedSimpArgs false

set_option maxRecDepth 100000 in
set_option maxHeartbeats 8000000 in
theorem walk (m : Ms) (hok : okM m) (w : World) (hP : PartsIs w) :
    Calls Tryz.prog 6 #[.agg (rowM m)] w fun e w' => e = .returned (.bool true) ∧ Below w.heap.size w w' := by
  obtain ⟨sx, hsx⟩ : ∃ a, smallM m = a := ⟨_, rfl⟩
  obtain ⟨rx, hrx⟩ : ∃ a, rightM m = a := ⟨_, rfl⟩
  have SX := hid hsx
  have RX := hid hrx
  have HO := hid hok
  have HP := hid hP
  have L1 := hid (len_msg m)
  have L3 := hid (rowM_one m)
  clear hsx hrx hok hP
  go_enter Tryz.func6, Tryz.ntmps6
  go_upto_region 1 with fail
  obtain ⟨W, hW⟩ : ∃ W, w.alloc (.cells (rowM m) 64) = W := ⟨_, rfl⟩
  rw [hW]
  obtain ⟨K0, KB⟩ := one_new hW
  have PW := hid (HP.out.below KB.out)
  clear hW HP
  obtain ⟨k, hk⟩ : ∃ k, w.heap.size = k := ⟨_, rfl⟩
  rw [hk] at K0 KB
  rw [hk]
  have A0 : Hid (OneM w k W m) := hid ⟨K0.out, KB.out, PW.out⟩
  have HK := hid hk
  clear hk K0 KB PW
  go_wp2_with fail
  with_reducible refine (anchor11 _ A0.out.parts).mono ?_
  rintro e w1 ⟨rfl, hb⟩
  have A1 := hid (A0.out.on hb)
  clear hb A0
  go_wp2_with (with_reducible refine wpList_load_row (o := ⟨some 9, _, _, _, _, _⟩) rfl 64 (.tmp 1) rfl k rfl 64 (rowM m) (0, 0) _ A1.out.blk.heap Tryz.underlying64 rfl L1.out ?_)
  with_reducible refine (small11 m _).mono ?_
  rw [SX.out]
  rintro e w2 ⟨rfl, hb⟩
  have A2 := hid (A1.out.on hb)
  clear hb A1
  cases sx
  · go_wp2
    go_ret
    exact ⟨rfl, by rw [HK.out]; exact A2.out.bel⟩
  have hsf := smallM_in SX.out
  have HF := hid (show m.x.c.foot.size ≤ 4611686018427387903 by omega)
  have HQ := hid (show m.x.c.path.size ≤ 4611686018427387903 by omega)
  go_wp2_with (with_reducible refine wpList_load_row (o := ⟨some 12, _, _, _, _, _⟩) rfl 64 (.tmp 1) rfl k rfl 64 (rowM m) (0, 0) _ A2.out.blk.heap Tryz.underlying64 rfl L1.out ?_)
  with_reducible refine (of11 m _).mono ?_
  rintro e w3 ⟨rfl, hb⟩
  have A3 := hid (A2.out.on hb)
  clear hb A2
  go_wp2_with fail
  with_reducible refine (refmright_any m HO.out _ (by omega) (by omega)).mono ?_
  rw [RX.out]
  rintro e w4 ⟨rfl, hb⟩
  have A4 := hid (A3.out.on hb)
  clear hb A3 hsf
  cases rx
  · go_wp2_with (with_reducible refine wpList_load_row (o := ⟨some 15, _, _, _, _, _⟩) rfl 64 (.tmp 1) rfl k rfl 64 (rowM m) (0, 0) _ A4.out.blk.heap Tryz.underlying64 rfl L1.out ?_)
    with_reducible refine (frame_no m HO.out RX.out _ A4.out.parts HF.out HQ.out).mono ?_
    rintro e w5 ⟨rfl, hb⟩
    have A5 := hid (A4.out.on hb)
    clear hb A4
    go_wp2_with (with_reducible refine wpList_load_row (o := ⟨some 17, _, _, _, _, _⟩) rfl 64 (.tmp 1) rfl k rfl 64 (rowM m) (0, 0) _ A5.out.blk.heap Tryz.underlying64 rfl L1.out ?_)
    with_reducible refine (mright_any m HO.out _ A5.out.parts HF.out HQ.out).mono ?_
    rw [RX.out]
    rintro e w6 ⟨rfl, hb⟩
    have A6 := hid (A5.out.on hb)
    clear hb A5
    go_wp2_with (with_reducible refine wpList_load_row (o := ⟨some 25, _, _, _, _, _⟩) rfl 64 (.tmp 1) rfl k rfl 64 (rowM m) (0, 0) _ A6.out.blk.heap Tryz.underlying64 rfl L1.out ?_)
    with_reducible refine (mright_any m HO.out _ A6.out.parts HF.out HQ.out).mono ?_
    rw [RX.out]
    rintro e w7 ⟨rfl, hb⟩
    have A7 := hid (A6.out.on hb)
    clear hb A6
    go_wp2
    go_ret
    exact ⟨rfl, by rw [HK.out]; exact A7.out.bel⟩
  obtain ⟨n, hn⟩ : ∃ n, (encM m).length = n := ⟨_, rfl⟩
  have hlen := encM_len m HO.out RX.out
  have hnl : n ≤ 440 := by omega
  have HN := hid hn
  clear hn hlen
  have EQ := eq_msg m m true (eqM_self m)
  have EG := msg_guard
  go_wp2_with (with_reducible refine wpList_load_row (o := ⟨some 15, _, _, _, _, _⟩) rfl 64 (.tmp 1) rfl k rfl 64 (rowM m) (0, 0) _ A4.out.blk.heap Tryz.underlying64 rfl L1.out ?_)
  with_reducible refine (frame_any m _ A4.out.parts HO.out RX.out n HN.out HF.out HQ.out).mono ?_
  rintro e w5 ⟨g2, cap, rfl, hg2, hcap, hown, hb⟩
  have A5 := hid (A4.out.on hb)
  have S5 : Hid (Sees .u8 w5 (some ⟨g2, 0, none⟩) (sealed (encM m))) := hid (Sees.of_own hown)
  clear hb hown hg2 A4
  go_wp2_with (with_reducible refine wpList_load_row (o := ⟨some 17, _, _, _, _, _⟩) rfl 64 (.tmp 1) rfl k rfl 64 (rowM m) (0, 0) _ A5.out.blk.heap Tryz.underlying64 rfl L1.out ?_)
  with_reducible refine (mright_any m HO.out _ A5.out.parts HF.out HQ.out).mono ?_
  rw [RX.out]
  rintro e w6 ⟨rfl, hb⟩
  have A6 := hid (A5.out.on hb)
  have S6 := hid (S5.out.below hb)
  clear hb A5 S5
  go_wp2_with fail
  with_reducible refine (mopen_ok g2 0 m n cap _ A6.out.parts HO.out RX.out HN.out hcap S6.out HF.out HQ.out).mono ?_
  rintro en w7 ⟨rfl, hb⟩
  have A7 := hid (A6.out.on hb)
  clear hb A6 S6
  obtain ⟨q, hq⟩ : ∃ q, w7.heap.size = q := ⟨_, rfl⟩
  have hkq : k < q := by have := A7.out.blk.lt; omega
  have E0 : Hid (Blk (w7.alloc (.cells zrowM 64)) q 64 zrowM) := hid (by rw [← hq]; exact Blk.new w7 64 zrowM)
  go_upto_region 10 with (refine wpList_store_row (o := ⟨none, _, _, _, _, _⟩) rfl 64 (.tmp 5) (.tmp 37) rfl q (rowM m) rfl rfl 64 zrowM E0.out.heap L1.out rfl L3.out ?_)
  obtain ⟨W8, hW8⟩ : ∃ W8, (w7.alloc (.cells zrowM 64)).setRow q (rowM m) = W8 := ⟨_, rfl⟩
  have I0 : Hid (Blk W8 k 64 (rowM m)) := hid (by rw [← hW8]; exact (A7.out.blk.alloc _).rowFar (by omega) _)
  have I1 : Hid (Blk W8 q 64 (rowM m)) := hid (by rw [← hW8]; exact E0.out.row _)
  have IB : Hid (Below k w W8) := hid (by rw [← hW8]; exact below_setRow_ (A7.out.bel.trans ((Below.refl _ w7).alloc (by omega) _)) (by omega))
  rw [hW8]
  clear hW8 hq E0 A7
  go_wp2_with (first
    | (with_reducible refine wpList_load_rowg (o := ⟨some 42, _, _, _, _, _⟩) (by kernel_rfl) 64 (.tmp 5) rfl q rfl 64 (rowM m) (0, 0) _ I1.out.heap Tryz.underlying64 rfl L1.out ?_)
    | (with_reducible refine wpList_load_rowg (o := ⟨some 43, _, _, _, _, _⟩) (by kernel_rfl) 64 (.tmp 1) rfl k rfl 64 (rowM m) (0, 0) _ I0.out.heap Tryz.underlying64 rfl L1.out ?_))
  go_ret
  exact ⟨ret_bool (decide_eq_true (by omega)), by rw [HK.out]; exact IB.out⟩

end Go.Proofs.YtohffiehmmcgbaaGreatDoor.msgFrames
