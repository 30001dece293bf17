/-
  The law InstReads, walked.
-/
import Derived.Test.YtohffiehmmcgbaaGreatDoorUJuTextsLaw
namespace Go.Proofs.YtohffiehmmcgbaaGreatDoor.instReads
open Go.ChangeShapes Go.WideShapes Go.ChangeAt Go.RowKit Go.Lib
set_option linter.unusedVariables false
set_option linter.unusedSimpArgs false
theorem head_cut {s t : ByteArray} {m : List UInt8} (h : Sb s = Sb t ++ m) : t.size ≤ s.size ∧ s.extract 0 t.size = t := by
  have hl := congrArg List.length h
  rw [List.length_append, Sb_length, Sb_length] at hl
  refine ⟨by omega, Sb_inj.1 ?_⟩
  rw [Sb_extract, h, ← Sb_length t]
  simp
theorem eq_zero10 (w : World) : (Op.equalIn 10000 37 (.agg (rowJ zeroJ)) (.agg #[.int .i64 0, .int .i64 0, .int .i64 0, .int .u32 0, .int .u32 0, .bool false, .int .i64 0, .int .u64 0, .string ⟨#[]⟩, .int .u64 0, .string ⟨#[]⟩, .int .i64 0, .int .u64 0, .int .i64 0, .int .i64 0, .int .i64 0, .int .i64 0, .int .i64 0, .int .i64 0, .int .i64 0, .int .i64 0, .int .i64 0])).run Tryz.prog w = .ok true w := eq_inst zeroJ zeroJ true (eqJ_self zeroJ) w
def ReaL (w0 : World) (k : Nat) (w : World) (x : J) : Prop := Blk w k 37 (rowJ x) ∧ Below w0.heap.size w0 w ∧ All10 w ∧ w0.heap.size ≤ k
section
variable {w0 w w' : World} {k : Nat} {x : J}
theorem ReaL.on (h : ReaL w0 k w x) (hb : Below w.heap.size w w') : ReaL w0 k w' x := ⟨h.1.below hb h.1.lt, h.2.1.trans (hb.mono h.2.1.size), h.2.2.1.below hb, h.2.2.2⟩
theorem ReaL.box (h : ReaL w0 k w x) : Blk w k 37 (rowJ x) := h.1
theorem ReaL.bel (h : ReaL w0 k w x) : Below w0.heap.size w0 w := h.2.1
theorem ReaL.all (h : ReaL w0 k w x) : All10 w := h.2.2.1
end
theorem right_sizes {x : J} (hok : okJ x) (hK : okK x.c) (hr : rightJ x = true) : x.c.foot.size ≤ 64 ∧ x.c.path.size ≤ 64 := by
  by_cases h0 : x.st = 0
  · obtain ⟨a, b, v, u, t, _, _, _, _, ht, _, _, _, _, _, _, _, _, hz⟩ := rightJ_in hok hr
    rw [(hz (by omega)).2.2.1]
    exact ⟨by decide, by decide⟩
  · obtain ⟨_, _, _, h1, h2⟩ := right_in x.c hK (right_ok hok hr h0).1
    exact ⟨h1, h2⟩
set_option maxRecDepth 100000 in
set_option maxHeartbeats 8000000 in
theorem walk_b (s : ByteArray) (w : World) (hL : All10 w) :
    Calls Tryz.prog 5 #[.string s] w fun e w' => e = .returned (.bool true) ∧ Below w.heap.size w w' := by
  have HL := hid hL
  clear hL
  go_enter Tryz.func5, Tryz.ntmps5
  go_wp2_with fail
  with_reducible refine (anchor10 _).mono ?_
  rintro e w1 ⟨rfl, hb⟩
  have L1 := hid (HL.out.below hb)
  have B1 := hid hb
  clear hb HL
  rcases (show 600 < s.size ∨ s.size ≤ 600 by omega) with hz | hz
  · go_wp2
    go_ret
    exact ⟨rfl, B1.out⟩
  have hz1 : ¬ ((600 : Int) < (s.size : Int)) := by omega
  go_wp2_with fail
  with_reducible refine (jread_any s _ (by omega) L1.out).mono ?_
  rintro e w2 ⟨⟨x, hg, hx⟩, hb⟩
  have G := hid hg
  have L2 := hid (L1.out.below hb)
  have B2 := hid (B1.out.trans (hb.mono B1.out.size))
  clear hb hg L1 B1
  obtain ⟨k, hk⟩ : ∃ k, w2.heap.size = k := ⟨_, rfl⟩
  have hwk : w.heap.size ≤ k := by have := B2.out.size; omega
  have E0 : Hid (Blk (w2.alloc (.cells zrow 37)) k 37 zrow) := hid (by rw [← hk]; exact Blk.new w2 37 zrow)
  rcases hx with ⟨hr, ht, rfl⟩ | ⟨hn, rfl⟩
  case inr =>
    have LX := hid (len_inst zeroJ)
    have OX := hid (rowJ_one zeroJ)
    have EG := inst_guard
    have EQ := eq_zero10
    go_upto_region 6 with (refine wpList_store_row (o := ⟨none, _, _, _, _, _⟩) rfl 37 (.tmp 3) (.tmp 17) rfl k (rowJ zeroJ) rfl ?hy 37 zrow E0.out.heap LX.out rfl OX.out ?_; (case hy => rfl))
    obtain ⟨W3, hW3⟩ : ∃ W3, (w2.alloc (.cells zrow 37)).setRow k (rowJ zeroJ) = W3 := ⟨_, rfl⟩
    have R3 : Hid (ReaL w k W3 zeroJ) := hid (by
      rw [← hW3]
      have hbb : Below k w2 ((w2.alloc (.cells zrow 37)).setRow k (rowJ zeroJ)) := below_setRow_ ((Below.refl k w2).alloc (by omega) _) (Nat.le_refl _)
      exact ⟨E0.out.row _, B2.out.trans (hbb.mono hwk), L2.out.below (by rw [hk]; exact hbb), hwk⟩)
    rw [hW3]
    clear hW3 hk E0 B2 L2
    go_wp2_with (with_reducible refine wpList_load_rowg (o := ⟨some 24, _, _, _, _, _⟩) (by kernel_rfl) 37 (.tmp 3) rfl k rfl 37 (rowJ zeroJ) (0, 0) _ R3.out.box.heap Tryz.underlying37 rfl LX.out ?_)
    go_ret
    exact ⟨rfl, R3.out.bel⟩
  have RX := hid hr
  have HT := hid ht
  have HO := hid G.out.1
  have HK := hid G.out.2.1
  have HZ := right_sizes HO.out HK.out RX.out
  have HF1 := hid (show x.c.foot.size ≤ 4611686018427387903 by omega)
  have HF2 := hid (show x.c.path.size ≤ 4611686018427387903 by omega)
  have HS1 := hid (show x.c.foot.size ≤ 900 by omega)
  have HS2 := hid (show x.c.path.size ≤ 900 by omega)
  clear HZ G hr ht
  have LX := hid (len_inst x)
  have OX := hid (rowJ_one x)
  go_upto_region 6 with (refine wpList_store_row (o := ⟨none, _, _, _, _, _⟩) rfl 37 (.tmp 3) (.tmp 17) rfl k (rowJ x) rfl ?hy 37 zrow E0.out.heap LX.out rfl OX.out ?_; (case hy => rfl))
  obtain ⟨W3, hW3⟩ : ∃ W3, (w2.alloc (.cells zrow 37)).setRow k (rowJ x) = W3 := ⟨_, rfl⟩
  have R3 : Hid (ReaL w k W3 x) := hid (by
    rw [← hW3]
    have hbb : Below k w2 ((w2.alloc (.cells zrow 37)).setRow k (rowJ x)) := below_setRow_ ((Below.refl k w2).alloc (by omega) _) (Nat.le_refl _)
    exact ⟨E0.out.row _, B2.out.trans (hbb.mono hwk), L2.out.below (by rw [hk]; exact hbb), hwk⟩)
  rw [hW3]
  clear hW3 hk E0 B2 L2
  go_wp2_with (with_reducible refine wpList_load_row (o := ⟨some 29, _, _, _, _, _⟩) rfl 37 (.tmp 3) rfl k rfl 37 (rowJ x) (0, 0) _ R3.out.box.heap Tryz.underlying37 rfl LX.out ?_)
  with_reducible refine (jshow_yes x _ R3.out.all HO.out HK.out RX.out HF1.out HF2.out).mono ?_
  rintro e w4 ⟨⟨q, rfl, hq⟩, hb⟩
  have R4 := hid (R3.out.on hb)
  clear hb R3
  obtain rfl : q = s := Sb_inj.1 (hq.trans HT.out)
  clear hq
  go_wp2_with (with_reducible refine wpList_load_row (o := ⟨some 34, _, _, _, _, _⟩) rfl 37 (.tmp 3) rfl k rfl 37 (rowJ x) (0, 0) _ R4.out.box.heap Tryz.underlying37 rfl LX.out ?_)
  with_reducible refine (of10 x _).mono ?_
  rintro e w5 ⟨rfl, hb⟩
  have R5 := hid (R4.out.on hb)
  clear hb R4
  go_wp2_with fail
  with_reducible refine (jtell_any x _ HO.out RX.out).mono ?_
  rintro e w6 ⟨⟨t, rfl, ht, htz⟩, hb⟩
  have R6 := hid (R5.out.on hb)
  clear hb R5
  obtain ⟨hle, hex⟩ := head_cut (s := q) (t := t) (by rw [← HT.out, head_textJ, ht])
  have hle1 : (t.size : Int) ≤ (q.size : Int) := by omega
  clear ht
  go_wp2_with (with_reducible refine wpList_load_row (o := ⟨some 39, _, _, _, _, _⟩) rfl 37 (.tmp 3) rfl k rfl 37 (rowJ x) (0, 0) _ R6.out.box.heap Tryz.underlying37 rfl LX.out ?_)
  with_reducible refine (of10 x _).mono ?_
  rintro e w7 ⟨rfl, hb⟩
  have R7 := hid (R6.out.on hb)
  clear hb R6
  go_wp2_with fail
  with_reducible refine (refxright_any x HO.out HK.out _ HS1.out HS2.out).mono ?_
  rw [RX.out]
  rintro e w8 ⟨rfl, hb⟩
  have R8 := hid (R7.out.on hb)
  clear hb R7
  go_wp2
  go_ret
  exact ⟨rfl, R8.out.bel⟩
end Go.Proofs.YtohffiehmmcgbaaGreatDoor.instReads
