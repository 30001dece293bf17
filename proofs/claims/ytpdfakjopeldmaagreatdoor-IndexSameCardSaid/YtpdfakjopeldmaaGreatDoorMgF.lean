/-
  A slice of steps; the law's fits; a step, whatever it is.
-/
import Derived.Test.YtpdfakjopeldmaaGreatDoorMgE
import Derived.Deep.MidRow
import Derived.Test.YtpdfakjopeldmaaGreatDoorKOpen
import Derived.Deep.Slices
import Derived.ChangeSame
namespace Go.Proofs.YtpdfakjopeldmaaGreatDoor
open Go.ChangeShapes Go.WideShapes Go.ChangeAt Go.RowKit Go.Maps Go.WideMaps
set_option linter.unusedVariables false
set_option linter.unusedSimpArgs false

/-- A slice that reads as a list of steps, below a block. -/
def SeesO (n0 : Nat) (w : World) (A : Option Addr) (l : List OpV) : Prop := ∀ (j : Nat) (h : j < l.length), ∃ b o, A = some ⟨b, o, none⟩ ∧ b < n0 ∧ w.rangeAt b (o + j * 22) (opC l[j]).toList
theorem SeesO.below {n0 : Nat} {w w' : World} {A : Option Addr} {l : List OpV} (h : SeesO n0 w A l) (hb : Below n0 w w') : SeesO n0 w' A l := fun j hj => by
  obtain ⟨b, o, hA, hlt, h0⟩ := h j hj
  exact ⟨b, o, hA, hlt, fun i v hv => (hb.cell (by exact hlt)).trans (h0 i v hv)⟩
theorem rangeAt_grown {w w' : World} {b o : Nat} {cs : List Value} {row : Option Nat} (h : w.rangeAt b o cs) (hlt : b < w.heap.size) (hg : w.grownBy w' row) (hne : some b ≠ row) : w'.rangeAt b o cs := fun i v hv => by
  have e := hg.block b hlt hne
  rw [← h i v hv]
  exact World.cell?_of_block (w := w) (by simpa using e)
theorem SeesO.grown {n0 : Nat} {w w' : World} {A : Option Addr} {l : List OpV} (h : SeesO n0 w A l) (hn : n0 ≤ w.heap.size) {row : Option Nat} (hg : w.grownBy w' row) (hne : ∀ k, row = some k → n0 ≤ k) : SeesO n0 w' A l := fun j hj => by
  obtain ⟨b, o, hA, hlt, h0⟩ := h j hj
  exact ⟨b, o, hA, hlt, rangeAt_grown h0 (by omega) hg (fun e => by have := hne b e.symm; omega)⟩
theorem SeesO.mono {n0 n1 : Nat} {w : World} {A : Option Addr} {l : List OpV} (h : SeesO n0 w A l) (hn : n0 ≤ n1) : SeesO n1 w A l := fun j hj => by
  obtain ⟨b, o, hA, hlt, h0⟩ := h j hj
  exact ⟨b, o, hA, by omega, h0⟩
theorem len_op : (Tryz.prog.info? 43).map (·.size) = some 22 := by kernel_rfl
theorem len_opC (o : OpV) : (Tryz.prog.info? 43).map (·.size) = some (opC o).toList.length := len_op

theorem opC_size (o : OpV) : (opC o).size = 22 := rfl
theorem opC_one (o : OpV) : (opC o).all (·.oneCell') = true := by simp [opC, Value.oneCell']
theorem opC_list (o : OpV) : (opC o).toList.toArray = opC o := rfl
theorem len_opA (o : OpV) : (Tryz.prog.info? 43).map (·.size) = some (opC o).size := len_op
theorem op_store (o : OpV) (w : World) : (storeCells ⟨w.heap.size, 0, none⟩ (opC o).toList).run Tryz.prog (w.alloc (.cells #[.int .i64 0, .int .i64 0, .int .u64 0, .string ⟨#[]⟩, .int .u64 0, .string ⟨#[]⟩, .int .i64 0, .int .u64 0, .int .i64 0, .int .i64 0, .int .i64 0, .int .i64 0, .string ⟨#[]⟩, .int .u64 0, .int .i64 0, .int .i64 0, .int .i64 0, .int .i64 0, .int .i64 0, .int .i64 0, .int .i64 0, .int .i64 0] 43)) = .ok () ((w.alloc (.cells #[.int .i64 0, .int .i64 0, .int .u64 0, .string ⟨#[]⟩, .int .u64 0, .string ⟨#[]⟩, .int .i64 0, .int .u64 0, .int .i64 0, .int .i64 0, .int .i64 0, .int .i64 0, .string ⟨#[]⟩, .int .u64 0, .int .i64 0, .int .i64 0, .int .i64 0, .int .i64 0, .int .i64 0, .int .i64 0, .int .i64 0, .int .i64 0] 43)).setRow w.heap.size (opC o)) :=
  store_cells (Blk.new w _ _) (opC o) rfl (opC_one o)
/-- A fresh box of a step: made, then filled. -/
theorem op_box {w W : World} {z : Array Value} {o : OpV} (h : (w.alloc (.cells z 43)).setRow w.heap.size (opC o) = W) : Hid (Blk W w.heap.size 43 (opC o)) ∧ Hid (Below w.heap.size w W) := by
  subst h
  exact ⟨hid (Blk.rowAt (Blk.new w _ z)), hid (below_setRow_ ((Below.refl _ w).alloc (Nat.le_refl _) _) (Nat.le_refl _))⟩

/-- A step, whatever it is. -/
theorem step_any (x m : Nat) (l ld : List Nt) (v : Value) (o : OpV) (w : World) (h : Ix w x m l) (hv : DocV w v ld) (hP : PartsIs w) (hm : Made o) (hf : fitsO o = true) (hlen : l.length < 1000) (hlend : ld.length < 1000) :
    Calls Tryz.prog 8 #[.pointer (some ⟨x, 0, none⟩), v, .agg (opC o)] w fun e w' => ∃ v', e = .returned (.tuple #[v', .bool true]) ∧ Ix w' x m (stepL l o) ∧ DocV w' v' (stepL ld o) ∧ w.grownBy w' (some m) := by
  obtain ⟨kd, ⟨k, u, f, q, s, m', n, t⟩, r, i, sq, ⟨ef, eu, ea⟩⟩ := o
  obtain ⟨hm1, hm2, hm3, hm4⟩ := hm
  unfold fitsO smallK at hf
  simp at hf
  simp only at hm1 hm2 hm3 hm4
  by_cases h1 : kd = 1
  · have e1 : ∀ L, stepL L ⟨kd, ⟨k, u, f, q, s, m', n, t⟩, r, i, sq, ⟨ef, eu, ea⟩⟩ = noteL L ⟨k, u, f, q, s, m', n, t⟩ r i sq := fun L => by unfold stepL; rw [if_pos h1]
    rw [e1, e1]
    exact step_note x m l ld v kd k u f q s m' n t r i sq ef eu ea w h hv hP hm1 (by omega) (by omega) hlen hlend h1
  · by_cases h2 : kd = 2
    · have e1 : ∀ L, stepL L ⟨kd, ⟨k, u, f, q, s, m', n, t⟩, r, i, sq, ⟨ef, eu, ea⟩⟩ = addL L ⟨ef, eu, ea⟩ := fun L => by unfold stepL; rw [if_neg h1, if_pos h2]
      rw [e1, e1]
      exact step_add x m l ld v kd k u f q s m' n t r i sq ef eu ea w h hv ⟨hm2, hm3, hm4, by simp only; omega⟩ hlen hlend h2
    · have e1 : ∀ L, stepL L ⟨kd, ⟨k, u, f, q, s, m', n, t⟩, r, i, sq, ⟨ef, eu, ea⟩⟩ = L := fun L => by unfold stepL; rw [if_neg h1, if_neg h2]
      rw [e1, e1]
      exact step_none x m l ld v kd k u f q s m' n t r i sq ef eu ea w h hv h1 h2

/-- All that a list of steps notes. -/
def playL (l : List Nt) (os : List OpV) : List Nt := os.foldl stepL l
theorem playL_len (l : List Nt) : ∀ os : List OpV, (playL l os).length ≤ l.length + os.length := by
  intro os
  induction os generalizing l with
  | nil => exact Nat.le_refl _
  | cons o os ih =>
    have h1 := ih (stepL l o)
    have h2 := stepL_len l o
    show (playL (stepL l o) os).length ≤ _
    simp only [List.length_cons]
    omega
theorem playL_take (l : List Nt) (os : List OpV) (j : Nat) (hj : j < os.length) : playL l (os.take (j + 1)) = stepL (playL l (os.take j)) os[j] := by
  rw [List.take_succ_eq_append_getElem hj]
  unfold playL
  rw [List.foldl_append]
  rfl

def fitsL (os : List OpV) (most : Int) : Bool := os.all fitsO && decide ((os.length : Int) ≤ most)

set_option maxRecDepth 100000 in
set_option maxHeartbeats 4000000 in
theorem fits_any (A : Option Addr) (os : List OpV) (cap : Nat) (most : Int) (w : World) (hA : SeesO w.heap.size w A os) (hl : os.length ≤ 9223372036854775807) :
    Calls Tryz.prog 5 #[.slice A os.length cap, .int .i64 most] w fun e w' => e = .returned (.bool (fitsL os most)) ∧ Below w.heap.size w w' := by
  have HA := hid hA
  clear hA
  go_enter Tryz.func5, Tryz.ntmps5
  go_wp2_with fail
  go_loopw [9] (fun iv wr => ∃ j : Nat, j ≤ os.length ∧ iv = .int .i64 j ∧ Hid ((os.take j).all fitsO = true) ∧ Hid (Below w.heap.size w wr)) (fun iv _ => os.length - (intOf iv).toNat)
  case atStart => exact ⟨0, Nat.zero_le _, rfl, hid (by simp), hid (Below.refl _ _)⟩
  case round =>
    obtain ⟨j, hj, rfl, HT, HB⟩ := hrel
    by_cases hlt : j < os.length
    · obtain ⟨b, o, rfl, hb0, hr0⟩ := (HA.out.below HB.out) j hlt
      have HR := hid hr0
      clear hr0
      obtain ⟨op, hop⟩ : ∃ op, os[j] = op := ⟨_, rfl⟩
      have HT2 : Hid (fitsO op = true → (os.take (j + 1)).all fitsO = true) := hid (fun h => by rw [List.take_succ_eq_append_getElem hlt, List.all_append, HT.out, hop]; simp [h])
      have HT3 : Hid (fitsO op = false → fitsL os most = false) := hid (fun h => by
        unfold fitsL
        have : os.all fitsO = false := by
          rw [List.all_eq_false]
          exact ⟨os[j], List.getElem_mem hlt, by rw [hop, h]; simp⟩
        rw [this]; rfl)
      rw [hop] at HR
      clear hop HT
      have HL := hid (len_opC op)
      have hs1 := opC_size op
      have hst := op_store op wr
      obtain ⟨cs, hcs⟩ : ∃ cs, (opC op).toList = cs := ⟨_, rfl⟩
      have HCS := hid hcs
      rw [hcs] at HR HL
      clear hcs
      go_upto_region 4 with (first
        | (with_reducible refine wpList_load_mid (op := ⟨some 12, _, _, _, _, _⟩) rfl 43 (.tmp 11) rfl b (o + j * 22) rfl cs _ HR.out Tryz.underlying43 rfl HL.out ?_; rw [← HCS.out, opC_list]))
      obtain ⟨W1, hW1⟩ : ∃ W1, (wr.alloc (.cells #[.int .i64 0, .int .i64 0, .int .u64 0, .string ⟨#[]⟩, .int .u64 0, .string ⟨#[]⟩, .int .i64 0, .int .u64 0, .int .i64 0, .int .i64 0, .int .i64 0, .int .i64 0, .string ⟨#[]⟩, .int .u64 0, .int .i64 0, .int .i64 0, .int .i64 0, .int .i64 0, .int .i64 0, .int .i64 0, .int .i64 0, .int .i64 0] 43)).setRow wr.heap.size (opC op) = W1 := ⟨_, rfl⟩
      rw [hW1]
      obtain ⟨K0, KB⟩ := op_box hW1
      have KB2 := hid (HB.out.trans (KB.out.mono HB.out.size))
      clear hW1 hst hs1 HB HR KB
      obtain ⟨g, hk⟩ : ∃ g, wr.heap.size = g := ⟨_, rfl⟩
      rw [hk] at K0
      rw [hk]
      clear hk
      obtain ⟨kd, ⟨k, u, f, q, s, m', n, t⟩, r, i, sq, ⟨ef, eu, ea⟩⟩ := op
      have HS := hid (fun w => small12 ⟨k, u, f, q, s, m', n, t⟩ w)
      obtain ⟨z, hz⟩ : ∃ z, smallK ⟨k, u, f, q, s, m', n, t⟩ = z := ⟨_, rfl⟩
      rw [hz] at HS
      have HZ : Hid (fitsO ⟨kd, ⟨k, u, f, q, s, m', n, t⟩, r, i, sq, ⟨ef, eu, ea⟩⟩ = (z && decide (ef.size ≤ 200))) := hid (by unfold fitsO; rw [hz])
      clear hz
      obtain ⟨c0, c1, c2, c3, c4, c5, c6, c7, c8, c9, c10, c11, c12, c13, c14, c15, c16, c17, c18, c19, c20, c21⟩ := op_cells K0.out
      go_wp2_with fail
      with_reducible refine (HS.out _).mono ?_
      rintro e w2 ⟨rfl, hb⟩
      have KB3 := hid (KB2.out.trans (hb.mono KB2.out.size))
      have K1 := hid (K0.out.below hb K0.out.lt)
      clear c0 c1 c2 c3 c4 c5 c6 c7 c8 c9 c10 c11 c12 c13 c14 c15 c16 c17 c18 c19 c20 c21 hb K0 KB2
      cases z
      · have HF := hid (HT3.out (by rw [HZ.out]; rfl))
        go_wp2
        go_ret
        exact ⟨ret_bool HF.out.symm, KB3.out⟩
      · obtain ⟨c0, c1, c2, c3, c4, c5, c6, c7, c8, c9, c10, c11, c12, c13, c14, c15, c16, c17, c18, c19, c20, c21⟩ := op_cells K1.out
        rcases (show ef.size ≤ 200 ∨ 200 < ef.size by omega) with hz | hz
        · have HF := hid (HT2.out (by rw [HZ.out]; simpa using hz))
          have hz2 : decide ((200 : Int) < (ef.size : Int)) = false := by simp; omega
          go_wp2
          go_roundw
          case rel => exact ⟨j + 1, by omega, by go_num, HF, KB3⟩
          case measure => simp only [intOf]; omega
        · have HF := hid (HT3.out (by rw [HZ.out]; simp; omega))
          have hz2 : decide ((200 : Int) < (ef.size : Int)) = true := by simp; omega
          go_wp2
          go_ret
          exact ⟨ret_bool HF.out.symm, KB3.out⟩
    · have hj2 : j = os.length := by omega
      have HF : Hid (fitsL os most = decide ((os.length : Int) ≤ most)) := hid (by
        unfold fitsL
        have := HT.out
        rw [hj2, List.take_length] at this
        rw [this]; simp)
      go_wp2
      go_ret
      exact ⟨ret_bool HF.out.symm, HB.out⟩

end Go.Proofs.YtpdfakjopeldmaaGreatDoor

/-
  The law's anchor.
-/
namespace Go.Proofs.YtpdfakjopeldmaaGreatDoor
open Go.ChangeShapes Go.WideShapes Go.ChangeAt Go.RowKit Go.Maps Go.WideMaps
set_option linter.unusedVariables false
set_option linter.unusedSimpArgs false

def ancA : K := ⟨4, 1, ⟨#[97]⟩, 1, ⟨#[97, 47, 98]⟩, 1, 0, 0⟩
def ancB : K := ⟨2, 2, ⟨#[97]⟩, 1, ⟨#[]⟩, 0, 0, 0⟩
def ancF : Nat → Int := fun i => if i = 0 then 8 else if i = 1 then 3 else if i = 3 then 5 else 0
theorem anc_note : noteL [] ancA 2 4 7 = [noteF ancA 2 4 7] := by
  unfold noteL
  rw [if_pos (by kernel_rfl)]
  rfl
theorem anc_ask : eqA (askF (noteL [] ancA 2 4 7) ancB 0 3) ancF = true := by kernel_rfl

theorem below_of_new {B : Nat} {a w w' : World} {m : Nat} (h : Below B a w) (hg : w.grownBy w' (some m)) (hB : B ≤ w.heap.size) (hm : B ≤ m) : Below B a w' := h.grown hg hB (fun k hk => by simp at hk; omega)

set_option maxRecDepth 100000 in
set_option maxHeartbeats 4000000 in
theorem anchor12 (w : World) (hP : PartsIs w) (hg : 1 < w.heap.size) : Calls Tryz.prog 4 #[] w fun e w' => e = .returned (.bool true) ∧ Below w.heap.size w w' := by
  have HW := hid (ixnew_any w hg)
  have HN := hid (fun x m w h hP => ixnote_any x m [] ancA 2 4 7 w h hP (by decide) (by decide) (by decide) (by decide))
  obtain ⟨L, hL⟩ : ∃ L, noteL [] ancA 2 4 7 = L := ⟨_, rfl⟩
  have ha := anc_ask
  rw [hL] at HN ha
  obtain ⟨Q, hQ⟩ : ∃ Q, askF L ancB 0 3 = Q := ⟨_, rfl⟩
  have HA : Hid (∀ x m w, Ix w x m L → PartsIs w → Calls Tryz.prog 16 #[.pointer (some ⟨x, 0, none⟩), .agg #[.int .i64 2, .int .u64 2, .string ⟨#[97]⟩, .int .u64 1, .string ⟨#[]⟩, .int .i64 0, .int .u64 0, .int .i64 0], .agg #[.int .i64 0, .int .i64 3]] w fun e w' => e = .returned (.agg #[.int .i64 (Q 0), .int .i64 (Q 1), .int .i64 (Q 2), .int .i64 (Q 3), .int .i64 (Q 4), .int .i64 (Q 5), .int .i64 (Q 6), .int .i64 (Q 7)]) ∧ Below w.heap.size w w') := hid (fun x m w h hP => by
    have h := ixask_any x m L ancB 0 3 w h hP (by decide) (by decide)
    rw [hQ] at h
    exact h)
  have HN : Hid (∀ x m w, Ix w x m [] → PartsIs w → Calls Tryz.prog 17 #[.pointer (some ⟨x, 0, none⟩), .agg #[.int .i64 4, .int .u64 1, .string ⟨#[97]⟩, .int .u64 1, .string ⟨#[97, 47, 98]⟩, .int .i64 1, .int .u64 0, .int .i64 0], .agg #[.int .i64 2, .int .i64 4], .int .i64 7] w fun e w' => e = .returned (.tuple #[]) ∧ Ix w' x m L ∧ w.grownBy w' (some m)) := HN
  rw [hQ] at ha
  have EQ : ∀ w, (Op.equalIn 10000 39 (.agg #[.int .i64 (Q 0), .int .i64 (Q 1), .int .i64 (Q 2), .int .i64 (Q 3), .int .i64 (Q 4), .int .i64 (Q 5), .int .i64 (Q 6), .int .i64 (Q 7)]) (.agg #[.int .i64 8, .int .i64 3, .int .i64 0, .int .i64 5, .int .i64 0, .int .i64 0, .int .i64 0, .int .i64 0])).run Tryz.prog w = .ok true w := eq_attr Q ancF true ha
  have EG := attr_guard
  have HP := hid hP
  clear hL hQ ha hP
  obtain ⟨k, hk⟩ : ∃ k, w.heap.size = k := ⟨_, rfl⟩
  have HK := hid hk
  go_enter Tryz.func4, Tryz.ntmps4
  go_wp2_with fail
  with_reducible refine HW.out.mono ?_
  rintro e w1 ⟨x, m, rfl, h1, h2, h3⟩
  have X1 := hid h1
  have P1 := hid (HP.out.below h2)
  have hm : Hid (w.heap.size ≤ m) := hid h3
  have B1 := hid h2
  clear h1 h2 h3 HW HP
  go_wp2_with fail
  with_reducible refine (HN.out x m _ X1.out P1.out).mono ?_
  rintro e w2 ⟨rfl, h1, h2⟩
  have X2 := hid h1
  have P2 := hid (X1.out.parts P1.out h2)
  have B2 : Hid (Below w.heap.size w w2) := hid (below_of_new B1.out h2 B1.out.size hm.out)
  clear h1 h2 B1 X1 P1 HN
  go_wp2_with fail
  with_reducible refine (HA.out x m _ X2.out P2.out).mono ?_
  rintro e w3 ⟨rfl, h1⟩
  have B3 := hid (B2.out.trans (h1.mono B2.out.size))
  clear h1 B2 X2 P2 HA
  go_upto_region 4 with fail
  obtain ⟨W3, hW3⟩ : ∃ W3, w3.alloc (.cells (#[.int .i64 (Q 0), .int .i64 (Q 1), .int .i64 (Q 2), .int .i64 (Q 3), .int .i64 (Q 4), .int .i64 (Q 5), .int .i64 (Q 6), .int .i64 (Q 7)]) 39) = W3 := ⟨_, rfl⟩
  rw [hW3]
  obtain ⟨K0, KB⟩ := one_new hW3
  have B4 := hid (B3.out.trans (KB.out.mono B3.out.size))
  clear hW3 B3 KB
  obtain ⟨c0, c1, c2, c3, c4, c5, c6, c7⟩ := eight_ex' (f := Q) (Blk.eight (T := 39) K0.out)
  go_wp2
  go_ret
  exact ⟨rfl, B4.out⟩

end Go.Proofs.YtpdfakjopeldmaaGreatDoor

/-
  What comes ahead covers what was noted, and only grows.
-/
namespace Go.Proofs.YtpdfakjopeldmaaGreatDoor
open Go.ChangeShapes Go.WideShapes Go.ChangeAt Go.RowKit Go.Maps Go.WideMaps
set_option linter.unusedVariables false

/-- A fresh box of attributes: made, then filled. -/
theorem eight_store (F : Nat → Int) (w : World) : (storeCells ⟨w.heap.size, 0, none⟩ (rowA F).toList).run Tryz.prog (w.alloc (.cells #[.int .i64 0, .int .i64 0, .int .i64 0, .int .i64 0, .int .i64 0, .int .i64 0, .int .i64 0, .int .i64 0] 39)) = .ok () ((w.alloc (.cells #[.int .i64 0, .int .i64 0, .int .i64 0, .int .i64 0, .int .i64 0, .int .i64 0, .int .i64 0, .int .i64 0] 39)).setRow w.heap.size (rowA F)) :=
  store_cells (Blk.new w _ _) (rowA F) (by rw [rowA_size]; rfl) (rowA_one F)
theorem eight_box {w W : World} {z : Array Value} {F : Nat → Int} (h : (w.alloc (.cells z 39)).setRow w.heap.size (rowA F) = W) : Hid (Blk W w.heap.size 39 (rowA F)) ∧ Hid (Below w.heap.size w W) := by
  subst h
  exact ⟨hid (Blk.rowAt (Blk.new w _ z)), hid (below_setRow_ ((Below.refl _ w).alloc (Nat.le_refl _) _) (Nat.le_refl _))⟩

theorem clashF_comm (f : ByteArray) (u : Int) (g : ByteArray) (v : Int) : clashF f u g v = clashF g v f u := by
  unfold clashF
  rw [overlap_comm, show (u == v) = (v == u) by rw [Bool.eq_iff_iff]; simp; exact eq_comm]
theorem noteL_sub (l : List Nt) (c : K) (r s q : Int) : ∀ n ∈ l, n ∈ noteL l c r s q := fun n hn => by
  unfold noteL; split
  · simp [hn]
  · exact hn
theorem stepL_sub (l : List Nt) (o : OpV) : ∀ n ∈ l, n ∈ stepL l o := fun n hn => by
  unfold stepL addL
  split
  · exact noteL_sub l _ _ _ _ n hn
  · split
    · split
      · simp [hn]
      · exact hn
    · exact hn
theorem playL_sub (l : List Nt) : ∀ os : List OpV, ∀ n ∈ l, n ∈ playL l os := by
  intro os
  induction os generalizing l with
  | nil => exact fun n hn => hn
  | cons o os ih => exact fun n hn => ih (stepL l o) n (stepL_sub l o n hn)

theorem aheadF_mono (p : Nt → Bool) {l m : List Nt} (h : ∀ n ∈ l, n ∈ m) (i : Nat) : aheadF p l i ≤ aheadF p m i := sup_mono fun n hn hp => ⟨h n hn, hp, Int.le_refl _⟩
theorem aheadC_mono {l m : List Nt} (h : ∀ n ∈ l, n ∈ m) (c : K) (r s : Int) (i : Nat) : aheadC l c r s i ≤ aheadC m c r s i := by
  unfold aheadC; split
  · exact aheadF_mono _ h i
  · exact Int.le_refl _
theorem askF_mono {l m : List Nt} (h : ∀ n ∈ l, n ∈ m) (c : K) (r s : Int) : inB (askF l c r s) (askF m c r s) = true := inB_iff.2 fun i _ => by
  unfold askF ownF
  split
  · unfold upd; split
    · exact Int.le_refl _
    · exact aheadC_mono h c r s i
  · exact aheadC_mono h c r s i
theorem askF_same {l m : List Nt} (h : ∀ n, n ∈ l ↔ n ∈ m) (c : K) (r s : Int) : askF l c r s = askF m c r s := by
  unfold askF aheadC
  rw [aheadF_same h]
theorem aheadC_ok {l : List Nt} (hl : AllFair l) (c : K) (r s : Int) : okB (aheadC l c r s) = true := by
  unfold aheadC; split
  · refine okB_iff.2 ⟨⟨sup_nonneg _ _ _, sup_le (by omega) fun n hn _ => ?_⟩, fun i hi => ⟨sup_nonneg _ _ _, sup_le (by omega) fun n hn _ => ?_⟩⟩
    · show nextF n.att 0 ≤ _
      unfold nextF upd cutS
      rw [if_pos rfl]
      split
      · omega
      · split <;> omega
    · show nextF n.att (i + 1) ≤ _
      unfold nextF upd
      rw [if_neg (by omega)]
      exact ((okB_iff.1 (hl n hn).1).2 i hi).2
  · exact (by decide : okB (fun _ => 0) = true)
theorem askF_owns {l : List Nt} (hl : AllFair l) (c : K) (r s : Int) (hn : nameB r s = true) : ownB (askF l c r s) r s = true := by
  obtain ⟨a, b, rfl, rfl, ha, hb, _⟩ := name_in hn
  obtain ⟨h0, h1⟩ := okB_iff.1 (aheadC_ok hl c a b)
  unfold ownB askF ownF
  rw [hn, if_pos rfl]
  have e : upd (aheadC l c a b) (1 + (a : Int).toNat) b (1 + (a : Int).toNat) = (b : Int) := by unfold upd; rw [if_pos rfl]
  rw [e]
  have ho : okB (upd (aheadC l c a b) (1 + (a : Int).toNat) (b : Int)) = true := by
    refine okB_iff.2 ⟨?_, fun i hi => ?_⟩
    · unfold upd; rw [if_neg (by omega)]; exact h0
    · unfold upd; split
      · omega
      · exact h1 i hi
  rw [ho]
  simp
theorem ask_covers {l : List Nt} {a b : K} {r1 s1 r2 s2 q : Int} (h1 : nameB r1 s1 = true) (h2 : nameB r2 s2 = true) (hne : r1 ≠ r2) (hq : 0 ≤ q) (hq2 : q < 1073741824) (hc : clashK a b = true) :
    covB (askF (noteL l a r1 s1 q) b r2 s2) r1 s1 = true ∧ q < askF (noteL l a r1 s1 q) b r2 s2 0 := by
  unfold clashK at hc
  simp only [Bool.and_eq_true] at hc
  obtain ⟨⟨ha, hb⟩, hcl⟩ := hc
  have hL : noteL l a r1 s1 q = l ++ [noteF a r1 s1 q] := by unfold noteL; rw [ha, h1]; rfl
  have hm : noteF a r1 s1 q ∈ noteL l a r1 s1 q := by rw [hL]; simp
  have hp : clashes (keyF b) (keyN b) (noteF a r1 s1 q) = true := by
    unfold clashes
    rw [clashF_comm]
    exact hcl
  have hC : aheadC (noteL l a r1 s1 q) b r2 s2 = aheadF (clashes (keyF b) (keyN b)) (noteL l a r1 s1 q) := by unfold aheadC; rw [hb, h2]; rfl
  have key : ∀ i, nextF (noteF a r1 s1 q).att i ≤ aheadC (noteL l a r1 s1 q) b r2 s2 i := fun i => by
    rw [hC]
    exact le_sup (g := fun n => nextF n.att i) hm hp
  obtain ⟨x, y, rfl, rfl, hx, hy, _⟩ := name_in h1
  obtain ⟨x2, y2, rfl, rfl, hx2, hy2, _⟩ := name_in h2
  have hcut : cutS q = q := by unfold cutS; split <;> (try split) <;> omega
  constructor
  · unfold covB
    rw [h1]
    have e : askF (noteL l a x y q) b x2 y2 (1 + (x : Int).toNat) = aheadC (noteL l a x y q) b x2 y2 (1 + (x : Int).toNat) := by
      unfold askF ownF
      rw [if_pos h2]
      unfold upd
      rw [if_neg (by omega)]
    have k := key (1 + (x : Int).toNat)
    have k2 : nextF (noteF a x y q).att (1 + (x : Int).toNat) = (y : Int) + 1 := by
      unfold nextF noteF upd
      rw [if_neg (by omega)]
      simp
    rw [e]
    simp
    simp at k k2
    omega
  · have e : askF (noteL l a x y q) b x2 y2 0 = aheadC (noteL l a x y q) b x2 y2 0 := by
      unfold askF ownF
      rw [if_pos h2]
      unfold upd
      rw [if_neg (by omega)]
    have k := key 0
    have k2 : nextF (noteF a x y q).att 0 = q + 1 := by
      unfold nextF
      have : (noteF a x y q).att 0 = q := by
        unfold noteF upd
        show (if 0 = 1 + (x : Int).toNat then (y : Int) + 1 else if 0 = 0 then cutS q else 0) = q
        rw [if_neg (by omega), if_pos rfl, hcut]
      rw [this]
      unfold upd cutS
      rw [if_pos rfl]
      split
      · omega
      · split <;> omega
    rw [e]
    omega

theorem noteL_fair {l : List Nt} (hl : AllFair l) {c : K} {r s q : Int} (hf : c.foot.size < 200) (hp : c.path.size < 200) (hu : 0 ≤ c.num ∧ c.num < 18446744073709551616) : AllFair (noteL l c r s q) := by
  unfold noteL
  split
  · next h => simp only [Bool.and_eq_true] at h; exact hl.snoc (note_fair h.2 hf hp hu)
  · exact hl

end Go.Proofs.YtpdfakjopeldmaaGreatDoor

/-
  A slice of steps among a law's arguments.
-/
namespace Go.Proofs.YtpdfakjopeldmaaGreatDoor
open Go.ChangeShapes Go.WideShapes Go.ChangeAt Go.RowKit Go.Deep
set_option linter.unusedVariables false
set_option linter.unusedSimpArgs false

set_option maxRecDepth 100000 in
theorem open_cmd8 {H : Type} {enc : TypeId × Value → H} {w : World} {base : Nat} {spare : Nat → Bool} {held : Bool} {d : DataW H} {p : List MemPlace} {fuel : Nat} {a0 a1 a2 a3 a4 a5 a6 a7 : Value}
    (hf : DataW.trod enc Tryz.prog w base spare held fuel 27 [a0, a1, a2, a3, a4, a5, a6, a7] = some (d, p)) : ∃ c : K, #[a0, a1, a2, a3, a4, a5, a6, a7] = cellsOf c ∧ okK c ∧ c.foot.size ≤ maxLen ∧ c.path.size ≤ maxLen := by
  obtain ⟨xs, n, _, _, _, hl, hfs⟩ := DataW.trod_struct Tryz.underlying27 hf
  have c1 : Tryz.prog.cellsOf 3 = 1 := by kernel_rfl
  have c2 : Tryz.prog.cellsOf 23 = 1 := by kernel_rfl
  have c3 : Tryz.prog.cellsOf 9 = 1 := by kernel_rfl
  have c4 : Tryz.prog.cellsOf 25 = 2 := by kernel_rfl
  have e0 := hfs 0 _ rfl
  have e1 := hfs 1 _ rfl
  have e2 := hfs 2 _ rfl
  have e3 := hfs 3 _ rfl
  have e4 := hfs 4 _ rfl
  have e5 := hfs 5 _ rfl
  have e6 := hfs 6 _ rfl
  simp [c1, c2, c3, c4] at e0 e1 e2 e3 e4 e5 e6
  have hx : xs.length = 7 := hl
  have at_ : ∀ i, i < 7 → ∃ y, xs[i]? = some y := fun i hi => ⟨xs[i]'(by omega), List.getElem?_eq_getElem (by omega)⟩
  obtain ⟨y0, z0⟩ := at_ 0 (by omega)
  obtain ⟨y1, z1⟩ := at_ 1 (by omega)
  obtain ⟨y2, z2⟩ := at_ 2 (by omega)
  obtain ⟨y3, z3⟩ := at_ 3 (by omega)
  obtain ⟨y4, z4⟩ := at_ 4 (by omega)
  obtain ⟨y5, z5⟩ := at_ 5 (by omega)
  obtain ⟨y6, z6⟩ := at_ 6 (by omega)
  rw [z0] at e0
  rw [z1] at e1
  rw [z2] at e2
  rw [z3] at e3
  rw [z4] at e4
  rw [z5] at e5
  rw [z6] at e6
  obtain ⟨k, hk, _, wk⟩ := DataW.trod_int Tryz.underlying3 e0
  obtain ⟨q, hq, _, wq⟩ := DataW.trod_int Tryz.underlying23 e2
  obtain ⟨s, hs, _, ws⟩ := DataW.trod_string Tryz.underlying9 e3
  obtain ⟨m, hm, _, wm⟩ := DataW.trod_int Tryz.underlying3 e4
  obtain ⟨nn, hn, _, wn⟩ := DataW.trod_int Tryz.underlying23 e5
  obtain ⟨t, ht, _, wt⟩ := DataW.trod_int Tryz.underlying3 e6
  obtain ⟨xs2, n2, _, _, _, hl2, hfs2⟩ := DataW.trod_struct Tryz.underlying25 e1
  have g0 := hfs2 0 _ rfl
  have g1 := hfs2 1 _ rfl
  simp [c2, c3] at g0 g1
  have hx2 : xs2.length = 2 := hl2
  have x0 : xs2[0]? = some (xs2[0]'(by omega)) := List.getElem?_eq_getElem (by omega)
  have x1 : xs2[1]? = some (xs2[1]'(by omega)) := List.getElem?_eq_getElem (by omega)
  rw [x0] at g0
  rw [x1] at g1
  obtain ⟨u, hu, _, wu⟩ := DataW.trod_int Tryz.underlying23 g0
  obtain ⟨f, hf', _, wf⟩ := DataW.trod_string Tryz.underlying9 g1
  simp only [List.cons.injEq, and_true] at hk hq hs hm hn ht hu hf'
  subst hk hq hs hm hn ht hu hf'
  exact ⟨⟨k, u, f, q, s, m, nn, t⟩, rfl, ⟨u64_of wu, u64_of wq, u64_of wn, i64_of wk, i64_of wm, i64_of wt⟩, wf, ws⟩

set_option maxRecDepth 100000 in
theorem open_attr8 {H : Type} {enc : TypeId × Value → H} {w : World} {base : Nat} {spare : Nat → Bool} {held : Bool} {d : DataW H} {p : List MemPlace} {fuel : Nat} {a0 a1 a2 a3 a4 a5 a6 a7 : Value}
    (hf : DataW.trod enc Tryz.prog w base spare held fuel 39 [a0, a1, a2, a3, a4, a5, a6, a7] = some (d, p)) : ∃ f : Nat → Int, #[a0, a1, a2, a3, a4, a5, a6, a7] = cs8 f ∧ ∀ i, i < 8 → (Lit.int .i64 (f i)).wf = true := by
  obtain ⟨xs, n, _, _, _, hl, hfs⟩ := DataW.trod_struct Tryz.underlying39 hf
  have c1 : Tryz.prog.cellsOf 3 = 1 := by kernel_rfl
  have c7 : Tryz.prog.cellsOf 37 = 7 := by kernel_rfl
  have e0 := hfs 0 _ rfl
  have e1 := hfs 1 _ rfl
  simp [c1, c7] at e0 e1
  have hx : xs.length = 2 := hl
  have z0 : xs[0]? = some (xs[0]'(by omega)) := List.getElem?_eq_getElem (by omega)
  have z1 : xs[1]? = some (xs[1]'(by omega)) := List.getElem?_eq_getElem (by omega)
  generalize xs[0]'(by omega) = y0 at z0
  generalize xs[1]'(by omega) = y1 at z1
  rw [z0] at e0
  rw [z1] at e1
  obtain ⟨s, hs, _, ws⟩ := DataW.trod_int Tryz.underlying3 e0
  obtain ⟨ys, m, _, _, _, hm, hgs⟩ := DataW.trod_array Tryz.underlying37 e1
  rw [c1] at hgs
  have at_ : ∀ i, i < 7 → ∃ y, ys[i]? = some y := fun i hi => ⟨ys[i]'(by omega), List.getElem?_eq_getElem (by omega)⟩
  have one : ∀ (i : Nat) (a : Value), i < 7 → (([a1, a2, a3, a4, a5, a6, a7] : List Value).drop (i * 1)).take 1 = [a] → ∃ n : Int, a = .int .i64 n ∧ (Lit.int .i64 n).wf = true := by
    intro i a hi ha
    obtain ⟨y, hy⟩ := at_ i hi
    have hg := hgs i hi
    rw [ha, hy] at hg
    obtain ⟨n, hn, _, wn⟩ := DataW.trod_int Tryz.underlying3 hg
    simp at hn
    exact ⟨n, hn, wn⟩
  obtain ⟨n1, rfl, w1⟩ := one 0 a1 (by omega) rfl
  obtain ⟨n2, rfl, w2⟩ := one 1 a2 (by omega) rfl
  obtain ⟨n3, rfl, w3⟩ := one 2 a3 (by omega) rfl
  obtain ⟨n4, rfl, w4⟩ := one 3 a4 (by omega) rfl
  obtain ⟨n5, rfl, w5⟩ := one 4 a5 (by omega) rfl
  obtain ⟨n6, rfl, w6⟩ := one 5 a6 (by omega) rfl
  obtain ⟨n7, rfl, w7⟩ := one 6 a7 (by omega) rfl
  simp at hs
  subst hs
  refine ⟨fun i => match i with | 0 => s | 1 => n1 | 2 => n2 | 3 => n3 | 4 => n4 | 5 => n5 | 6 => n6 | _ => n7, rfl, fun i hi => ?_⟩
  match i, hi with
  | 0, _ => exact ws
  | 1, _ => exact w1
  | 2, _ => exact w2
  | 3, _ => exact w3
  | 4, _ => exact w4
  | 5, _ => exact w5
  | 6, _ => exact w6
  | 7, _ => exact w7

theorem u32_of {n : Int} (h : (Lit.int .u32 n).wf = true) : 0 ≤ n ∧ n < 4294967296 := by
  have h1 : IntKind.u32.min = 0 := rfl
  have h2 : IntKind.u32.max = 4294967295 := rfl
  simp only [Lit.wf, Bool.and_eq_true, decide_eq_true_eq] at h
  omega
theorem array22 {α : Type} {cs : Array α} (h : cs.size = 22) : ∃ c0 c1 c2 c3 c4 c5 c6 c7 c8 c9 c10 c11 c12 c13 c14 c15 c16 c17 c18 c19 c20 c21, cs = #[c0, c1, c2, c3, c4, c5, c6, c7, c8, c9, c10, c11, c12, c13, c14, c15, c16, c17, c18, c19, c20, c21] := by
  obtain ⟨l⟩ := cs
  match l, h with
  | [c0, c1, c2, c3, c4, c5, c6, c7, c8, c9, c10, c11, c12, c13, c14, c15, c16, c17, c18, c19, c20, c21], _ => exact ⟨c0, c1, c2, c3, c4, c5, c6, c7, c8, c9, c10, c11, c12, c13, c14, c15, c16, c17, c18, c19, c20, c21, rfl⟩

/-- The first eight numbers alone. -/
def cut8 (f : Nat → Int) : Nat → Int := fun i => if i < 8 then f i else 0
theorem cut8_cells (f : Nat → Int) : cs8 (cut8 f) = cs8 f := rfl

theorem list22 {α : Type} {l : List α} (h : l.length = 22) : ∃ a0 a1 a2 a3 a4 a5 a6 a7 a8 a9 a10 a11 a12 a13 a14 a15 a16 a17 a18 a19 a20 a21, l = [a0, a1, a2, a3, a4, a5, a6, a7, a8, a9, a10, a11, a12, a13, a14, a15, a16, a17, a18, a19, a20, a21] := by
  match l, h with
  | [a0, a1, a2, a3, a4, a5, a6, a7, a8, a9, a10, a11, a12, a13, a14, a15, a16, a17, a18, a19, a20, a21], _ => exact ⟨a0, a1, a2, a3, a4, a5, a6, a7, a8, a9, a10, a11, a12, a13, a14, a15, a16, a17, a18, a19, a20, a21, rfl⟩

set_option maxRecDepth 100000 in
set_option maxHeartbeats 2000000 in
theorem open_op22 {H : Type} {enc : TypeId × Value → H} {w : World} {base : Nat} {spare : Nat → Bool} {held : Bool} {d : DataW H} {p : List MemPlace} {fuel : Nat} {cs : List Value} (hlen : cs.length = 22)
    (hf : DataW.trod enc Tryz.prog w base spare held fuel 43 cs = some (d, p)) : ∃ o : OpV, cs = (opC o).toList ∧ Made o := by
  obtain ⟨a0, a1, a2, a3, a4, a5, a6, a7, a8, a9, a10, a11, a12, a13, a14, a15, a16, a17, a18, a19, a20, a21, rfl⟩ := list22 hlen
  obtain ⟨xs, n, _, _, _, hl, hfs⟩ := DataW.trod_struct Tryz.underlying43 hf
  have c1 : Tryz.prog.cellsOf 3 = 1 := by kernel_rfl
  have c2 : Tryz.prog.cellsOf 23 = 1 := by kernel_rfl
  have c3 : Tryz.prog.cellsOf 9 = 1 := by kernel_rfl
  have c4 : Tryz.prog.cellsOf 27 = 8 := by kernel_rfl
  have c5 : Tryz.prog.cellsOf 29 = 2 := by kernel_rfl
  have c6 : Tryz.prog.cellsOf 41 = 10 := by kernel_rfl
  have c7 : Tryz.prog.cellsOf 36 = 2 := by kernel_rfl
  have c8 : Tryz.prog.cellsOf 39 = 8 := by kernel_rfl
  have e0 := hfs 0 _ rfl
  have e1 := hfs 1 _ rfl
  have e2 := hfs 2 _ rfl
  have e3 := hfs 3 _ rfl
  have e4 := hfs 4 _ rfl
  simp [c1, c4, c5, c6] at e0 e1 e2 e3 e4
  have hx : xs.length = 5 := hl
  have at_ : ∀ i, i < 5 → ∃ y, xs[i]? = some y := fun i hi => ⟨xs[i]'(by omega), List.getElem?_eq_getElem (by omega)⟩
  obtain ⟨y0, z0⟩ := at_ 0 (by omega)
  obtain ⟨y1, z1⟩ := at_ 1 (by omega)
  obtain ⟨y2, z2⟩ := at_ 2 (by omega)
  obtain ⟨y3, z3⟩ := at_ 3 (by omega)
  obtain ⟨y4, z4⟩ := at_ 4 (by omega)
  rw [z0] at e0
  rw [z1] at e1
  rw [z2] at e2
  rw [z3] at e3
  rw [z4] at e4
  obtain ⟨kd, hkd, _, _⟩ := DataW.trod_int Tryz.underlying3 e0
  obtain ⟨sq, hsq, _, _⟩ := DataW.trod_int Tryz.underlying3 e3
  obtain ⟨k, hk, ok, _, _⟩ := open_cmd8 (d := y1.1) (p := y1.2) e1
  obtain ⟨xs2, n2, _, _, _, hl2, hfs2⟩ := DataW.trod_struct Tryz.underlying29 (x := (y2.1, y2.2)) e2
  have g0 := hfs2 0 _ rfl
  have g1 := hfs2 1 _ rfl
  simp [c1] at g0 g1
  have hx2 : xs2.length = 2 := hl2
  rw [show xs2[0]? = some (xs2[0]'(by omega)) from List.getElem?_eq_getElem (by omega)] at g0
  rw [show xs2[1]? = some (xs2[1]'(by omega)) from List.getElem?_eq_getElem (by omega)] at g1
  obtain ⟨r, hr, _, _⟩ := DataW.trod_int Tryz.underlying3 g0
  obtain ⟨s, hs, _, _⟩ := DataW.trod_int Tryz.underlying3 g1
  obtain ⟨xs3, n3, _, _, _, hl3, hfs3⟩ := DataW.trod_struct Tryz.underlying41 (x := (y4.1, y4.2)) e4
  have p0 := hfs3 0 _ rfl
  have p1 := hfs3 1 _ rfl
  simp [c7, c8] at p0 p1
  have hx3 : xs3.length = 2 := hl3
  rw [show xs3[0]? = some (xs3[0]'(by omega)) from List.getElem?_eq_getElem (by omega)] at p0
  rw [show xs3[1]? = some (xs3[1]'(by omega)) from List.getElem?_eq_getElem (by omega)] at p1
  obtain ⟨xs4, n4, _, _, _, hl4, hfs4⟩ := DataW.trod_struct Tryz.underlying36 (x := ((xs3[0]'(by omega)).1, (xs3[0]'(by omega)).2)) p0
  have q0 := hfs4 0 _ rfl
  have q1 := hfs4 1 _ rfl
  simp [c2, c3] at q0 q1
  have hx4 : xs4.length = 2 := hl4
  rw [show xs4[0]? = some (xs4[0]'(by omega)) from List.getElem?_eq_getElem (by omega)] at q0
  rw [show xs4[1]? = some (xs4[1]'(by omega)) from List.getElem?_eq_getElem (by omega)] at q1
  obtain ⟨f, hf', _, wf⟩ := DataW.trod_string Tryz.underlying9 q0
  obtain ⟨u, hu, _, wu⟩ := DataW.trod_int Tryz.underlying23 q1
  obtain ⟨e, he, _⟩ := open_attr8 (d := (xs3[1]'(by omega)).1) (p := (xs3[1]'(by omega)).2) p1
  simp only [List.cons.injEq, and_true] at hkd hsq hr hs hf' hu
  have hk2 := congrArg Array.toList hk
  have he2 := congrArg Array.toList he
  simp only [cellsOf, cs8, List.cons.injEq, and_true] at hk2 he2
  obtain ⟨rfl, rfl, rfl, rfl, rfl, rfl, rfl, rfl⟩ := hk2
  obtain ⟨rfl, rfl, rfl, rfl, rfl, rfl, rfl, rfl⟩ := he2
  subst hkd hsq hr hs hf' hu
  exact ⟨⟨kd, k, r, s, sq, ⟨f, u, cut8 e⟩⟩, rfl, ok, fun i hi => by show (if i < 8 then e i else 0) = 0; rw [if_neg (by omega)], (u64_of wu).1, (u64_of wu).2⟩

theorem pick_allO {α : Type} (d : α) {m : Nat} {p : Nat → α → Prop} (h : ∀ i, i < m → ∃ x, p i x) : ∃ F : Nat → α, ∀ i, i < m → p i (F i) := by
  classical
  exact ⟨fun i => if hi : i < m then Classical.choose (h i hi) else d, fun i hi => by simp only [dif_pos hi]; exact Classical.choose_spec (h i hi)⟩

set_option maxRecDepth 100000 in
/-- A slice of steps among the arguments. -/
theorem open_steps {H : Type} {enc : TypeId × Value → H} {W : World} {base : Nat} {v : Value} {d : DataW H} {p : List MemPlace} (hval : Value.okWide Tryz.prog W .any base 22 v) (hd : DataW.Trod enc Tryz.prog W 0 (fun _ => true) true 22 v d p) (hlt : ∀ x ∈ p, x.block < W.heap.size) :
    ∃ A cap, ∃ l : List OpV, v = .slice A l.length cap ∧ SeesO W.heap.size W A l ∧ (∀ o ∈ l, Made o) ∧ l.length ≤ 9223372036854775807 := by
  have hC : Tryz.prog.cellsOf 43 = 22 := by kernel_rfl
  obtain ⟨a0, len, cap, rfl⟩ := okWide_slice Tryz.underlying22 hval
  obtain ⟨fuel, hf⟩ := hd
  rcases open_slice Tryz.underlying22 hf with ⟨hcs, _⟩ | ⟨a, len', cap', m, n', D, Pl, hcs, _, hl, hcm, hm, hx, hall⟩
  · simp [Value.cells] at hcs
    obtain ⟨rfl, rfl, rfl⟩ := hcs
    exact ⟨none, 0, [], rfl, fun j h => absurd h (by simp), fun c h => absurd h (by simp), Nat.zero_le _⟩
  · simp [Value.cells] at hcs
    obtain ⟨rfl, rfl, rfl⟩ := hcs
    simp only [if_true] at hm
    subst hm
    rw [hC] at hall hx
    obtain ⟨F, hF⟩ := pick_allO (⟨0, ⟨0, 0, ⟨#[]⟩, 0, ⟨#[]⟩, 0, 0, 0⟩, 0, 0, 0, ⟨⟨#[]⟩, 0, fun _ => 0⟩⟩ : OpV) (m := m) (p := fun i (o : OpV) => Made o ∧ W.cells? 0 (a.add (i * 22)) 22 = some (opC o).toList)
      (fun i hi => by
        obtain ⟨cs', hc, ht⟩ := hall i hi
        obtain ⟨_, hlen, _⟩ := World.cells?_some hc
        obtain ⟨o, rfl, hok⟩ := open_op22 (d := D i) (p := Pl i) hlen ht
        exact ⟨o, hok, hc⟩)
    simp only [Prod.mk.injEq] at hx
    refine ⟨some a, m, (List.range len).map F, by simp, ?_, ?_, ?_⟩
    · intro j hj
      have hjl : j < len := by simpa using hj
      obtain ⟨_, hc⟩ := hF j (by omega)
      obtain ⟨_, hlen, hat⟩ := World.cells?_some hc
      have he : ((List.range len).map F)[j] = F j := by simp
      rw [he]
      obtain ⟨b, off, spot⟩ := a
      have hspot : spot = none := by
        obtain ⟨_, hc0⟩ := hF 0 (by omega)
        obtain ⟨_, _, hat0⟩ := World.cells?_some hc0
        simpa [Addr.add] using World.cell?_spot (hat0 0 (by omega))
      subst hspot
      have hb : b < W.heap.size := hlt (.cell b off) (by rw [hx.2]; exact List.mem_append_left _ (MemPlace.mem_row.2 ⟨0, by omega, by simp⟩))
      refine ⟨b, off, rfl, hb, fun i v hv => ?_⟩
      have hi : i < 22 := by
        have := (List.getElem?_eq_some_iff.1 hv).1
        rw [hlen] at this
        exact this
      have h2 := hat i (by omega)
      simp only [add_plain] at h2
      rw [h2]
      exact hv
    · intro c hc
      obtain ⟨i, hi, rfl⟩ := List.mem_map.1 hc
      exact (hF i (by have := List.mem_range.1 hi; omega)).1
    · simp
      unfold maxLen at hcm
      omega

theorem parts_lt {w : World} (h : PartsIs w) : 1 < w.heap.size := by
  unfold PartsIs World.var? at h
  rw [gParts] at h
  simp only [Option.bind_some] at h
  cases hc : w.heap[(1 : Nat)]? with
  | none => rw [hc] at h; cases h
  | some o => exact (Array.getElem?_eq_some_iff.1 hc).1

end Go.Proofs.YtpdfakjopeldmaaGreatDoor
