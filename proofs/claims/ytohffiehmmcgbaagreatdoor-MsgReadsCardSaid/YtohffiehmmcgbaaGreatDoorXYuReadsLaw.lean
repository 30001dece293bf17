/-
  The law MsgReads, walked.
-/
import Derived.Test.YtohffiehmmcgbaaGreatDoorXYuRead
import Derived.Test.YtohffiehmmcgbaaGreatDoorXYuTell
import Derived.Test.YtohffiehmmcgbaaGreatDoorXYRefR
import Derived.Test.YtohffiehmmcgbaaGreatDoorXYAnchor
namespace Go.Proofs.YtohffiehmmcgbaaGreatDoor.msgReads
open Go.ChangeShapes Go.WideShapes Go.ChangeAt Go.RowKit Go.Lib
set_option linter.unusedVariables false
set_option linter.unusedSimpArgs false
theorem right_sizesX {x : J} (hok : okJ x) (hK : okK x.c) (hr : rightJ x = true) : x.c.foot.size ≤ 64 ∧ x.c.path.size ≤ 64 := by
  by_cases h0 : x.st = 0
  · obtain ⟨a, b, v, u, t, _, _, _, _, ht, _, _, _, _, _, _, _, _, hz⟩ := rightJ_in hok hr
    rw [(hz (by omega)).2.2.1]
    exact ⟨by decide, by decide⟩
  · obtain ⟨_, _, _, h1, h2⟩ := right_in x.c hK (right_ok hok hr h0).1
    exact ⟨h1, h2⟩
theorem head_cut {s t : ByteArray} {m : List UInt8} (h : Sb s = Sb t ++ m) : t.size ≤ s.size ∧ s.extract 0 t.size = t := by
  have hl := congrArg List.length h
  rw [List.length_append, Sb_length, Sb_length] at hl
  refine ⟨by omega, Sb_inj.1 ?_⟩
  rw [Sb_extract, h, ← Sb_length t]
  simp
theorem eq_zero11 (w : World) : (Op.equalIn 10000 64 (.agg (rowM zeroM)) (.agg #[.int .i64 0, .int .i64 0, .int .i64 0, .int .i64 0, .int .i64 0, .int .u32 0, .bool false, .int .i64 0, .int .i64 0, .int .i64 0, .int .u32 0, .int .u32 0, .bool false, .int .i64 0, .int .u64 0, .string ⟨#[]⟩, .int .u64 0, .string ⟨#[]⟩, .int .i64 0, .int .u64 0, .int .i64 0, .int .i64 0, .int .i64 0, .int .i64 0, .int .i64 0, .int .i64 0, .int .i64 0, .int .i64 0, .int .i64 0])).run Tryz.prog w = .ok true w := eq_msg zeroM zeroM true (eqM_self zeroM) w
def ReaL (w0 : World) (k : Nat) (w : World) (x : Ms) : Prop := Blk w k 64 (rowM x) ∧ Below w0.heap.size w0 w ∧ All11 w ∧ w0.heap.size ≤ k
section
variable {w0 w w' : World} {k : Nat} {x : Ms}
theorem ReaL.on (h : ReaL w0 k w x) (hb : Below w.heap.size w w') : ReaL w0 k w' x := ⟨h.1.below hb h.1.lt, h.2.1.trans (hb.mono h.2.1.size), h.2.2.1.below hb, h.2.2.2⟩
theorem ReaL.box (h : ReaL w0 k w x) : Blk w k 64 (rowM x) := h.1
theorem ReaL.bel (h : ReaL w0 k w x) : Below w0.heap.size w0 w := h.2.1
theorem ReaL.drew (h : ReaL w0 k w x) : ReaL w0 k w.drew x := ⟨h.1.drew, below_drew h.2.1, h.2.2⟩
theorem ReaL.all (h : ReaL w0 k w x) : All11 w := h.2.2.1
end
theorem right_sizesM {m : Ms} (hok : okM m) (hr : rightM m = true) : m.x.c.foot.size ≤ 64 ∧ m.x.c.path.size ≤ 64 := by
  by_cases h6 : m.k = 6
  · obtain ⟨k, a, b, r, s, v, hk, _, _, _, _, _, _, _, _, _, _, _, _, _, hz, _⟩ := rightM_in hok hr
    have h := (hz (by omega)).2
    unfold eqJ at h
    simp only [Bool.and_eq_true, beq_iff_eq, decide_eq_true_eq] at h
    rw [h.2.2.2.2.2.1]
    exact ⟨by decide, by decide⟩
  · exact right_sizesX (And.left (And.right hok)) (And.right (And.right hok)) (rightM_x hr h6)
set_option maxRecDepth 100000 in
set_option maxHeartbeats 8000000 in
theorem walk_b (s : ByteArray) (w : World) (hL : All11 w) :
    Calls Tryz.prog 10 #[.string s] w fun e w' => e = .returned (.bool true) ∧ Below w.heap.size w w' := by
  have HL := hid hL
  clear hL
  go_enter Tryz.func10, Tryz.ntmps10
  go_wp2_with fail
  with_reducible refine (anchor11 _ HL.out.ten.parts).mono ?_
  rintro e w1 ⟨rfl, hb⟩
  have L1 := hid (HL.out.below hb)
  have B1 := hid hb
  clear hb HL
  rcases (show 600 < s.size ∨ s.size ≤ 600 by omega) with hz | hz
  · go_wp2
    go_ret
    exact ⟨rfl, B1.out⟩
  have hz1 : ¬ ((600 : Int) < (s.size : Int)) := by omega
  go_wp2_with fail
  with_reducible refine (mread_any s _ (by omega) L1.out).mono ?_
  rintro e w2 ⟨⟨x, hg, hx⟩, hb⟩
  have G := hid hg
  have L2 := hid (L1.out.below hb)
  have B2 := hid (B1.out.trans (hb.mono B1.out.size))
  clear hb hg L1 B1
  obtain ⟨k, hk⟩ : ∃ k, w2.heap.size = k := ⟨_, rfl⟩
  have hwk : w.heap.size ≤ k := by have := B2.out.size; omega
  have E0 : Hid (Blk (w2.alloc (.cells mrowZ 64)) k 64 mrowZ) := hid (by rw [← hk]; exact Blk.new w2 64 mrowZ)
  rcases hx with ⟨hr, ht, rfl⟩ | ⟨hn, rfl⟩
  case inr =>
    have LX := hid (len_msg zeroM)
    have OX := hid (rowM_one zeroM)
    have EG := msg_guard
    have EQ := eq_zero11
    go_upto_region 6 with (refine wpList_store_row (o := ⟨none, _, _, _, _, _⟩) rfl 64 (.tmp 3) (.tmp 15) rfl k (rowM zeroM) rfl ?hy 64 mrowZ E0.out.heap LX.out rfl OX.out ?_; (case hy => rfl))
    obtain ⟨W3, hW3⟩ : ∃ W3, (w2.alloc (.cells mrowZ 64)).setRow k (rowM zeroM) = W3 := ⟨_, rfl⟩
    have R3 : Hid (ReaL w k W3 zeroM) := hid (by
      rw [← hW3]
      have hbb : Below k w2 ((w2.alloc (.cells mrowZ 64)).setRow k (rowM zeroM)) := below_setRow_ ((Below.refl k w2).alloc (by omega) _) (Nat.le_refl _)
      exact ⟨E0.out.row _, B2.out.trans (hbb.mono hwk), L2.out.below (by rw [hk]; exact hbb), hwk⟩)
    rw [hW3]
    clear hW3 hk E0 B2 L2
    go_wp2_with (with_reducible refine wpList_load_rowg (o := ⟨some 22, _, _, _, _, _⟩) (by kernel_rfl) 64 (.tmp 3) rfl k rfl 64 (rowM zeroM) (0, 0) _ R3.out.box.heap Tryz.underlying64 rfl LX.out ?_)
    go_ret
    exact ⟨rfl, R3.out.bel⟩
  have RX := hid hr
  have HT := hid ht
  have hkn := known_ok G.out.2.2.2.2.2.2
  have HO : Hid (okM x) := hid ⟨G.out.1, hkn.1, hkn.2.1⟩
  have HZ := right_sizesM HO.out RX.out
  clear hkn
  have HF1 := hid (show x.x.c.foot.size ≤ 4611686018427387903 by omega)
  have HF2 := hid (show x.x.c.path.size ≤ 4611686018427387903 by omega)
  have HS1 := hid (show x.x.c.foot.size ≤ 900 by omega)
  have HS2 := hid (show x.x.c.path.size ≤ 900 by omega)
  clear HZ G hr ht
  have LX := hid (len_msg x)
  have OX := hid (rowM_one x)
  go_upto_region 6 with (refine wpList_store_row (o := ⟨none, _, _, _, _, _⟩) rfl 64 (.tmp 3) (.tmp 15) rfl k (rowM x) rfl ?hy 64 mrowZ E0.out.heap LX.out rfl OX.out ?_; (case hy => rfl))
  obtain ⟨W3, hW3⟩ : ∃ W3, (w2.alloc (.cells mrowZ 64)).setRow k (rowM x) = W3 := ⟨_, rfl⟩
  have R3 : Hid (ReaL w k W3 x) := hid (by
    rw [← hW3]
    have hbb : Below k w2 ((w2.alloc (.cells mrowZ 64)).setRow k (rowM x)) := below_setRow_ ((Below.refl k w2).alloc (by omega) _) (Nat.le_refl _)
    exact ⟨E0.out.row _, B2.out.trans (hbb.mono hwk), L2.out.below (by rw [hk]; exact hbb), hwk⟩)
  rw [hW3]
  clear hW3 hk E0 B2 L2
  go_wp2_with (with_reducible refine wpList_load_row (o := ⟨some 27, _, _, _, _, _⟩) rfl 64 (.tmp 3) rfl k rfl 64 (rowM x) (0, 0) _ R3.out.box.heap Tryz.underlying64 rfl LX.out ?_)
  with_reducible refine (mshow_yes x _ R3.out.all HO.out RX.out HF1.out HF2.out).mono ?_
  rintro e w4 ⟨⟨q, rfl, hq⟩, hb⟩
  have R4 := hid (R3.out.on hb)
  clear hb R3
  obtain rfl : q = s := Sb_inj.1 (hq.trans HT.out)
  clear hq
  go_upto_region 9 with fail
  refine wp_region_held_drew (S := (fun w' => ReaL w k w' x)) (by kernel_rfl) (by exact R4.out.drew) (fun hHeld => ?_)
  refine wpAnyH_take (i := 0) (oi := _) (v := .agg (rowM x)) rfl (by kernel_rfl) (by kernel_rfl) (by kernel_rfl) (fun _ _ _ h => h) (yields_row (by kernel_rfl) 64 (.tmp 3) rfl k rfl 64 (rowM x) (0, 0) _ (fun _ h => Blk.heap (And.left h)) Tryz.underlying64 rfl LX.out) hHeld ?_
  try simp only [Act.put, List.getElem_toArray, List.getElem_cons_zero, List.getElem_cons_succ, List.setIfInBounds_toArray, List.set_cons_zero, List.set_cons_succ]
  refine wpAnyH_ready (rs := [1]) (by kernel_rfl) (by simp) ?_
  refine AllReadyH.cons (o := _) rfl (fun K hK => ?_) AllReadyH.nil
  go_simp
  go_at_call 26
  with_reducible refine (of11 x _).mono ?_
  rintro e w5 ⟨rfl, hb⟩
  have R5 := hid (R4.out.drew.on hb)
  clear hb R4
  refine hK.out _ _ (by exact R5.out) (fun hHeld => ?_)
  clear hK K
  try simp only [Act.put, List.getElem_toArray, List.getElem_cons_zero, List.getElem_cons_succ, List.setIfInBounds_toArray, List.set_cons_zero, List.set_cons_succ]
  refine wpAnyH_ready (rs := [2]) (by kernel_rfl) (by simp) ?_
  refine AllReadyH.cons (o := _) rfl (fun K hK => ?_) AllReadyH.nil
  go_simp
  go_at_call 27
  with_reducible refine (refmright_any x HO.out _ HS1.out HS2.out).mono ?_
  rw [RX.out]
  rintro e w6 ⟨rfl, hb⟩
  have R6 := hid (R5.out.on hb)
  clear hb R5
  refine hK.out _ _ (by exact R6.out) (fun hHeld => ?_)
  clear hK K
  try simp only [Act.put, List.getElem_toArray, List.getElem_cons_zero, List.getElem_cons_succ, List.setIfInBounds_toArray, List.set_cons_zero, List.set_cons_succ]
  refine wpAnyH_take (i := 3) (oi := _) (v := ?_) rfl (by kernel_rfl) (by kernel_rfl) (by kernel_rfl) (fun _ _ _ h => h) (Or.inl ⟨by kernel_rfl, ?_⟩) hHeld ?_
  rotate_left 1
  focus (intro w' hSw; (try dsimp only at hSw); go_simp; try with_reducible rfl)
  try simp only [Act.put, List.getElem_toArray, List.getElem_cons_zero, List.getElem_cons_succ, List.setIfInBounds_toArray, List.set_cons_zero, List.set_cons_succ]
  refine wpAnyH_take (i := 4) (oi := _) (v := ?_) rfl (by kernel_rfl) (by kernel_rfl) (by kernel_rfl) (fun _ _ _ h => h) (Or.inl ⟨by kernel_rfl, ?_⟩) hHeld ?_
  rotate_left 1
  focus (intro w' hSw; (try dsimp only at hSw); go_simp; try with_reducible rfl)
  try simp only [Act.put, List.getElem_toArray, List.getElem_cons_zero, List.getElem_cons_succ, List.setIfInBounds_toArray, List.set_cons_zero, List.set_cons_succ]
  refine wpAnyH_take (i := 5) (oi := _) (v := ?_) rfl (by kernel_rfl) (by kernel_rfl) (by kernel_rfl) (fun _ _ _ h => h) (Or.inl ⟨by kernel_rfl, ?_⟩) hHeld ?_
  rotate_left 1
  focus (intro w' hSw; (try dsimp only at hSw); go_simp; try with_reducible rfl)
  try simp only [Act.put, List.getElem_toArray, List.getElem_cons_zero, List.getElem_cons_succ, List.setIfInBounds_toArray, List.set_cons_zero, List.set_cons_succ]
  refine wpAnyH_take (i := 6) (oi := _) (v := ?_) rfl (by kernel_rfl) (by kernel_rfl) (by kernel_rfl) (fun _ _ _ h => h) (Or.inl ⟨by kernel_rfl, ?_⟩) hHeld ?_
  rotate_left 1
  focus (intro w' hSw; (try dsimp only at hSw); go_simp; try with_reducible rfl)
  try simp only [Act.put, List.getElem_toArray, List.getElem_cons_zero, List.getElem_cons_succ, List.setIfInBounds_toArray, List.set_cons_zero, List.set_cons_succ]
  refine wpAnyH_take (i := 7) (oi := _) (v := ?_) rfl (by kernel_rfl) (by kernel_rfl) (by kernel_rfl) (fun _ _ _ h => h) (Or.inl ⟨by kernel_rfl, ?_⟩) hHeld ?_
  rotate_left 1
  focus (intro w' hSw; (try dsimp only at hSw); go_simp; try with_reducible rfl)
  try simp only [Act.put, List.getElem_toArray, List.getElem_cons_zero, List.getElem_cons_succ, List.setIfInBounds_toArray, List.set_cons_zero, List.set_cons_succ]
  refine wpAnyH_take (i := 8) (oi := _) (v := ?_) rfl (by kernel_rfl) (by kernel_rfl) (by kernel_rfl) (fun _ _ _ h => h) (Or.inl ⟨by kernel_rfl, ?_⟩) hHeld ?_
  rotate_left 1
  focus (intro w' hSw; (try dsimp only at hSw); go_simp; try with_reducible rfl)
  try simp only [Act.put, List.getElem_toArray, List.getElem_cons_zero, List.getElem_cons_succ, List.setIfInBounds_toArray, List.set_cons_zero, List.set_cons_succ]
  refine wpAnyH_take (i := 9) (oi := _) (v := ?_) rfl (by kernel_rfl) (by kernel_rfl) (by kernel_rfl) (fun _ _ _ h => h) (Or.inl ⟨by kernel_rfl, ?_⟩) hHeld ?_
  rotate_left 1
  focus (intro w' hSw; (try dsimp only at hSw); go_simp; try with_reducible rfl)
  try simp only [Act.put, List.getElem_toArray, List.getElem_cons_zero, List.getElem_cons_succ, List.setIfInBounds_toArray, List.set_cons_zero, List.set_cons_succ]
  refine wpAnyH_take (i := 10) (oi := _) (v := ?_) rfl (by kernel_rfl) (by kernel_rfl) (by kernel_rfl) (fun _ _ _ h => h) (Or.inl ⟨by kernel_rfl, ?_⟩) hHeld ?_
  rotate_left 1
  focus (intro w' hSw; (try dsimp only at hSw); go_simp; try with_reducible rfl)
  try simp only [Act.put, List.getElem_toArray, List.getElem_cons_zero, List.getElem_cons_succ, List.setIfInBounds_toArray, List.set_cons_zero, List.set_cons_succ]
  refine wpAnyH_take (i := 11) (oi := _) (v := ?_) rfl (by kernel_rfl) (by kernel_rfl) (by kernel_rfl) (fun _ _ _ h => h) (Or.inl ⟨by kernel_rfl, ?_⟩) hHeld ?_
  rotate_left 1
  focus (intro w' hSw; (try dsimp only at hSw); go_simp; try with_reducible rfl)
  try simp only [Act.put, List.getElem_toArray, List.getElem_cons_zero, List.getElem_cons_succ, List.setIfInBounds_toArray, List.set_cons_zero, List.set_cons_succ]
  refine wpAnyH_take (i := 12) (oi := _) (v := ?_) rfl (by kernel_rfl) (by kernel_rfl) (by kernel_rfl) (fun _ _ _ h => h) (Or.inl ⟨by kernel_rfl, ?_⟩) hHeld ?_
  rotate_left 1
  focus (intro w' hSw; (try dsimp only at hSw); go_simp; try with_reducible rfl)
  try simp only [Act.put, List.getElem_toArray, List.getElem_cons_zero, List.getElem_cons_succ, List.setIfInBounds_toArray, List.set_cons_zero, List.set_cons_succ]
  refine wpAnyH_take (i := 13) (oi := _) (v := ?_) rfl (by kernel_rfl) (by kernel_rfl) (by kernel_rfl) (fun _ _ _ h => h) (Or.inl ⟨by kernel_rfl, ?_⟩) hHeld ?_
  rotate_left 1
  focus (intro w' hSw; (try dsimp only at hSw); go_simp; try with_reducible rfl)
  try simp only [Act.put, List.getElem_toArray, List.getElem_cons_zero, List.getElem_cons_succ, List.setIfInBounds_toArray, List.set_cons_zero, List.set_cons_succ]
  refine wpAnyH_take (i := 14) (oi := _) (v := ?_) rfl (by kernel_rfl) (by kernel_rfl) (by kernel_rfl) (fun _ _ _ h => h) (Or.inl ⟨by kernel_rfl, ?_⟩) hHeld ?_
  rotate_left 1
  focus (intro w' hSw; (try dsimp only at hSw); go_simp; try with_reducible rfl)
  try simp only [Act.put, List.getElem_toArray, List.getElem_cons_zero, List.getElem_cons_succ, List.setIfInBounds_toArray, List.set_cons_zero, List.set_cons_succ]
  refine wpAnyH_take (i := 15) (oi := _) (v := .agg (rowM x)) rfl (by kernel_rfl) (by kernel_rfl) (by kernel_rfl) (fun _ _ _ h => h) (yields_row (by kernel_rfl) 64 (.tmp 3) rfl k rfl 64 (rowM x) (0, 0) _ (fun _ h => Blk.heap (And.left h)) Tryz.underlying64 rfl LX.out) hHeld ?_
  try simp only [Act.put, List.getElem_toArray, List.getElem_cons_zero, List.getElem_cons_succ, List.setIfInBounds_toArray, List.set_cons_zero, List.set_cons_succ]
  refine wpAnyH_ready (rs := [16]) (by kernel_rfl) (by simp) ?_
  refine AllReadyH.cons (o := _) rfl (fun K hK => ?_) AllReadyH.nil
  go_simp
  go_at_call 26
  with_reducible refine (of11 x _).mono ?_
  rintro e w7 ⟨rfl, hb⟩
  have R7 := hid (R6.out.on hb)
  clear hb R6
  refine hK.out _ _ (by exact R7.out) (fun hHeld => ?_)
  clear hK K
  try simp only [Act.put, List.getElem_toArray, List.getElem_cons_zero, List.getElem_cons_succ, List.setIfInBounds_toArray, List.set_cons_zero, List.set_cons_succ]
  refine wpAnyH_ready (rs := [17]) (by kernel_rfl) (by simp) ?_
  refine AllReadyH.cons (o := _) rfl (fun K hK => ?_) AllReadyH.nil
  go_simp
  go_at_call 37
  with_reducible refine (mtell_any x _ HO.out RX.out).mono ?_
  rintro e w8 ⟨⟨t1, rfl, ht1, hzt1⟩, hb⟩
  have R8 := hid (R7.out.on hb)
  clear hb R7
  obtain ⟨hle, hex⟩ := head_cut (s := q) (t := t1) (by rw [← HT.out, head_textU, ht1])
  have hle1 : (t1.size : Int) ≤ (q.size : Int) := by omega
  refine hK.out _ _ (by exact R8.out) (fun hHeld => ?_)
  clear hK K
  try simp only [Act.put, List.getElem_toArray, List.getElem_cons_zero, List.getElem_cons_succ, List.setIfInBounds_toArray, List.set_cons_zero, List.set_cons_succ]
  refine wpAnyH_take (i := 18) (oi := _) (v := ?_) rfl (by kernel_rfl) (by kernel_rfl) (by kernel_rfl) (fun _ _ _ h => h) (Or.inl ⟨by kernel_rfl, ?_⟩) hHeld ?_
  rotate_left 1
  focus (intro w' hSw; (try dsimp only at hSw); go_simp; try with_reducible rfl)
  try simp only [Act.put, List.getElem_toArray, List.getElem_cons_zero, List.getElem_cons_succ, List.setIfInBounds_toArray, List.set_cons_zero, List.set_cons_succ]
  refine wpAnyH_take (i := 19) (oi := _) (v := ?_) rfl (by kernel_rfl) (by kernel_rfl) (by kernel_rfl) (fun _ _ _ h => h) (Or.inl ⟨by kernel_rfl, ?_⟩) hHeld ?_
  rotate_left 1
  focus (intro w' hSw; (try dsimp only at hSw); go_simp; try with_reducible rfl)
  try simp only [Act.put, List.getElem_toArray, List.getElem_cons_zero, List.getElem_cons_succ, List.setIfInBounds_toArray, List.set_cons_zero, List.set_cons_succ]
  refine wpAnyH_take (i := 20) (oi := _) (v := ?_) rfl (by kernel_rfl) (by kernel_rfl) (by kernel_rfl) (fun _ _ _ h => h) (Or.inl ⟨by kernel_rfl, ?_⟩) hHeld ?_
  rotate_left 1
  focus (intro w' hSw; (try dsimp only at hSw); go_simp; try with_reducible rfl)
  try simp only [Act.put, List.getElem_toArray, List.getElem_cons_zero, List.getElem_cons_succ, List.setIfInBounds_toArray, List.set_cons_zero, List.set_cons_succ]
  refine wpAnyH_take (i := 21) (oi := _) (v := ?_) rfl (by kernel_rfl) (by kernel_rfl) (by kernel_rfl) (fun _ _ _ h => h) (Or.inl ⟨by kernel_rfl, ?_⟩) hHeld ?_
  rotate_left 1
  focus (intro w' hSw; (try dsimp only at hSw); go_simp; try with_reducible rfl)
  try simp only [Act.put, List.getElem_toArray, List.getElem_cons_zero, List.getElem_cons_succ, List.setIfInBounds_toArray, List.set_cons_zero, List.set_cons_succ]
  refine wpAnyH_take (i := 22) (oi := _) (v := ?_) rfl (by kernel_rfl) (by kernel_rfl) (by kernel_rfl) (fun _ _ _ h => h) (Or.inl ⟨by kernel_rfl, ?_⟩) hHeld ?_
  rotate_left 1
  focus (intro w' hSw; (try dsimp only at hSw); go_simp; try with_reducible rfl)
  try simp only [Act.put, List.getElem_toArray, List.getElem_cons_zero, List.getElem_cons_succ, List.setIfInBounds_toArray, List.set_cons_zero, List.set_cons_succ]
  refine wpAnyH_take (i := 23) (oi := _) (v := .agg (rowM x)) rfl (by kernel_rfl) (by kernel_rfl) (by kernel_rfl) (fun _ _ _ h => h) (yields_row (by kernel_rfl) 64 (.tmp 3) rfl k rfl 64 (rowM x) (0, 0) _ (fun _ h => Blk.heap (And.left h)) Tryz.underlying64 rfl LX.out) hHeld ?_
  try simp only [Act.put, List.getElem_toArray, List.getElem_cons_zero, List.getElem_cons_succ, List.setIfInBounds_toArray, List.set_cons_zero, List.set_cons_succ]
  refine wpAnyH_take (i := 28) (oi := _) (v := .agg (rowM x)) rfl (by kernel_rfl) (by kernel_rfl) (by kernel_rfl) (fun _ _ _ h => h) (yields_row (by kernel_rfl) 64 (.tmp 3) rfl k rfl 64 (rowM x) (0, 0) _ (fun _ h => Blk.heap (And.left h)) Tryz.underlying64 rfl LX.out) hHeld ?_
  try simp only [Act.put, List.getElem_toArray, List.getElem_cons_zero, List.getElem_cons_succ, List.setIfInBounds_toArray, List.set_cons_zero, List.set_cons_succ]
  refine wpAnyH_ready (rs := [24]) (by kernel_rfl) (by simp) ?_
  refine AllReadyH.cons (o := _) rfl (fun K hK => ?_) AllReadyH.nil
  go_simp
  go_at_call 26
  with_reducible refine (of11 x _).mono ?_
  rintro e w9 ⟨rfl, hb⟩
  have R9 := hid (R8.out.on hb)
  clear hb R8
  refine hK.out _ _ (by exact R9.out) (fun hHeld => ?_)
  clear hK K
  try simp only [Act.put, List.getElem_toArray, List.getElem_cons_zero, List.getElem_cons_succ, List.setIfInBounds_toArray, List.set_cons_zero, List.set_cons_succ]
  refine wpAnyH_ready (rs := [25]) (by kernel_rfl) (by simp) ?_
  refine AllReadyH.cons (o := _) rfl (fun K hK => ?_) AllReadyH.nil
  go_simp
  go_at_call 37
  with_reducible refine (mtell_any x _ HO.out RX.out).mono ?_
  rintro e w10 ⟨⟨t2, rfl, ht2, hzt2⟩, hb⟩
  have R10 := hid (R9.out.on hb)
  clear hb R9
  obtain rfl : t2 = t1 := Sb_inj.1 (ht2.trans ht1.symm)
  refine hK.out _ _ (by exact R10.out) (fun hHeld => ?_)
  clear hK K
  try simp only [Act.put, List.getElem_toArray, List.getElem_cons_zero, List.getElem_cons_succ, List.setIfInBounds_toArray, List.set_cons_zero, List.set_cons_succ]
  refine wpAnyH_take (i := 26) (oi := _) (v := ?_) rfl (by kernel_rfl) (by kernel_rfl) (by kernel_rfl) (fun _ _ _ h => h) (Or.inl ⟨by kernel_rfl, ?_⟩) hHeld ?_
  rotate_left 1
  focus (intro w' hSw; (try dsimp only at hSw); go_simp; try with_reducible rfl)
  try simp only [Act.put, List.getElem_toArray, List.getElem_cons_zero, List.getElem_cons_succ, List.setIfInBounds_toArray, List.set_cons_zero, List.set_cons_succ]
  refine wpAnyH_take (i := 27) (oi := _) (v := ?_) rfl (by kernel_rfl) (by kernel_rfl) (by kernel_rfl) (fun _ _ _ h => h) (Or.inl ⟨by kernel_rfl, ?_⟩) hHeld ?_
  rotate_left 1
  focus (intro w' hSw; (try dsimp only at hSw); go_simp; try with_reducible rfl)
  try simp only [Act.put, List.getElem_toArray, List.getElem_cons_zero, List.getElem_cons_succ, List.setIfInBounds_toArray, List.set_cons_zero, List.set_cons_succ]
  refine wpAnyH_ready (rs := [29]) (by kernel_rfl) (by simp) ?_
  refine AllReadyH.cons (o := _) rfl (fun K hK => ?_) AllReadyH.nil
  go_simp
  go_at_call 26
  with_reducible refine (of11 x _).mono ?_
  rintro e w11 ⟨rfl, hb⟩
  have R11 := hid (R10.out.on hb)
  clear hb R10
  refine hK.out _ _ (by exact R11.out) (fun hHeld => ?_)
  clear hK K
  try simp only [Act.put, List.getElem_toArray, List.getElem_cons_zero, List.getElem_cons_succ, List.setIfInBounds_toArray, List.set_cons_zero, List.set_cons_succ]
  refine wpAnyH_ready (rs := [30]) (by kernel_rfl) (by simp) ?_
  refine AllReadyH.cons (o := _) rfl (fun K hK => ?_) AllReadyH.nil
  go_simp
  go_at_call 37
  with_reducible refine (mtell_any x _ HO.out RX.out).mono ?_
  rintro e w12 ⟨⟨t3, rfl, ht3, hzt3⟩, hb⟩
  have R12 := hid (R11.out.on hb)
  clear hb R11
  obtain rfl : t3 = t2 := Sb_inj.1 (ht3.trans ht1.symm)
  refine hK.out _ _ (by exact R12.out) (fun hHeld => ?_)
  clear hK K
  try simp only [Act.put, List.getElem_toArray, List.getElem_cons_zero, List.getElem_cons_succ, List.setIfInBounds_toArray, List.set_cons_zero, List.set_cons_succ]
  refine wpAnyH_take (i := 31) (oi := _) (v := ?_) rfl (by kernel_rfl) (by kernel_rfl) (by kernel_rfl) (fun _ _ _ h => h) (Or.inl ⟨by kernel_rfl, ?_⟩) hHeld ?_
  rotate_left 1
  focus (intro w' hSw; (try dsimp only at hSw); have q0 := hex; go_simp; try with_reducible rfl)
  try simp only [Act.put, List.getElem_toArray, List.getElem_cons_zero, List.getElem_cons_succ, List.setIfInBounds_toArray, List.set_cons_zero, List.set_cons_succ]
  refine wpAnyH_take (i := 32) (oi := _) (v := ?_) rfl (by kernel_rfl) (by kernel_rfl) (by kernel_rfl) (fun _ _ _ h => h) (Or.inl ⟨by kernel_rfl, ?_⟩) hHeld ?_
  rotate_left 1
  focus (intro w' hSw; (try dsimp only at hSw); go_simp; try with_reducible rfl)
  try simp only [Act.put, List.getElem_toArray, List.getElem_cons_zero, List.getElem_cons_succ, List.setIfInBounds_toArray, List.set_cons_zero, List.set_cons_succ]
  refine wpAnyH_take (i := 33) (oi := _) (v := ?_) rfl (by kernel_rfl) (by kernel_rfl) (by kernel_rfl) (fun _ _ _ h => h) (Or.inl ⟨by kernel_rfl, ?_⟩) hHeld ?_
  rotate_left 1
  focus (intro w' hSw; (try dsimp only at hSw); go_simp; try with_reducible rfl)
  try simp only [Act.put, List.getElem_toArray, List.getElem_cons_zero, List.getElem_cons_succ, List.setIfInBounds_toArray, List.set_cons_zero, List.set_cons_succ]
  refine wpAnyH_done (by kernel_rfl) ?_ _
  clear hHeld
  go_wp2
  go_ret
  exact ⟨rfl, R12.out.bel⟩
end Go.Proofs.YtohffiehmmcgbaaGreatDoor.msgReads
