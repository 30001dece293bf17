/-
  MarkTexts and MarkReads, their walks, where the library's variables hold what their texts lay.
-/
import Derived.Test.YtmihfalekbgdhaaDoorMRead
namespace Go.Proofs.YtmihfalekbgdhaaDoor.markTexts
open Go.ChangeShapes Go.WideShapes Go.ChangeAt Go.RowKit Go.Lib
set_option linter.unusedVariables false

def Yes (w : World) (e : Ending) (w' : World) : Prop := e = .returned (.bool true) ∧ Below w.heap.size w w'

theorem pair_at (p q : Int) (n m : Nat) (w : World) (hp : p = (n : Int)) (hq : q = (m : Int)) (hn : n < 18446744073709551616) (hm : m < 18446744073709551616) :
    Calls Tryd.prog 9 #[.int .u64 p, .int .u64 q] w (Says (textOf (n : Int) (m : Int)) w) := by
  subst hp; subst hq
  exact pair_any n m w hn hm

theorem name_text {r s : Int} (h : nameB r s = true) : nameOf (textOf r s) = ((r, s), 0) := by
  obtain ⟨⟨_, _⟩, _, _⟩ := name_bounds h
  unfold nameOf
  rw [read_text (by omega) (by omega) (by omega) (by omega)]
  simp only [ofN, if_pos h]
theorem ballot_text {b : Nat} (hb : b < 4294967296) (h : ballotB b = true) : ballotOf (textOf ((b / 8 : Nat) : Int) ((b % 8 : Nat) : Int)) = (b, 0) := by
  unfold ballotOf
  rw [read_text (by omega) (by omega) (by omega) (by omega)]
  simp only [parts_ballot, h, if_true, Int.toNat_natCast, Prod.mk.injEq, and_true]
  omega
theorem text_size {t : ByteArray} {a b : Int} (h : Sb t = textOf a b) (ha0 : -9223372036854775808 ≤ a) (ha1 : a ≤ 9223372036854775807) (hb0 : -9223372036854775808 ≤ b) (hb1 : b ≤ 9223372036854775807) : t.size ≤ 43 := says_size h (textOf_len ha0 ha1 hb0 hb1)

/-- The law's second half, with a ballot: behind the name's. -/
theorem ballot_facts (b : Nat) (hb : b < 4294967296) : ∃ x y : Int, ((b / 8 : Nat) : Int) = x ∧ ((b % 8 : Nat) : Int) = y ∧ (b : Int) / 8 = x ∧ (b : Int) % 8 = y ∧ 0 ≤ x ∧ x < 4294967296 ∧ 0 ≤ y ∧ y < 8 :=
  ⟨_, _, rfl, rfl, by omega, by omega, by omega, by omega, by omega, by omega⟩

set_option maxRecDepth 100000 in
set_option maxHeartbeats 2000000 in
theorem walk_any (r s : Int) (b : Nat) (w : World) (hb : b < 4294967296) (hL : Laid w) :
    Calls Tryd.prog 3 #[nm r s, .int .u32 (b : Int)] w (Yes w) := by
  obtain ⟨x, y, hx, hy, hq, hm, hx0, hx1, hy0, hy1⟩ := ballot_facts b hb
  have HXX := hid hx
  have HYY := hid hy
  have hal : Below w.heap.size w (w.alloc (.cells #[.int .i64 r, .int .i64 s] 23)) := (Below.refl _ _).alloc (Nat.le_refl _) _
  have HL := hid (hL.below hal)
  obtain ⟨okn, hn⟩ : ∃ okn, nameB r s = okn := ⟨_, rfl⟩
  obtain ⟨okb, hbb⟩ : ∃ okb, ballotB b = okb := ⟨_, rfl⟩
  have HBB := hid hbb
  clear hx hy hL hbb
  cases okn
  case' false =>
    have HN := hid hn
    clear hn
    go_enter Tryd.func3, Tryd.ntmps3
    go_wp2_with fail
    with_reducible refine (anchor_any _).mono ?_
    rintro e w0 ⟨rfl, rfl⟩
    go_wp2_with fail
    with_reducible refine (idshow_no r s _ HN.out).mono ?_
    rintro e w1 ⟨rfl, hb1⟩
    have HB1 := hid (hal.trans (hb1.mono (by simp)))
    have HL1 := hid (HL.out.below hb1)
    obtain ⟨⟨c0, c1⟩, _⟩ := blkn ((Blk.new w 23 #[.int .i64 r, .int .i64 s]).below hb1 (by simp))
    clear hb1 hal HL
    go_wp2_with fail
    with_reducible refine (refright_any r s _).mono ?_
    rintro e w2 ⟨rfl, hb2⟩
    rw [HN.out]
    have HB := hid (below_on HB1.out hb2)
    have HL2 := hid (HL1.out.below hb2)
    clear hb2 HB1 HL1
  case' true =>
    have HN := hid hn
    obtain ⟨⟨hr0, hr1⟩, hs0, hs1⟩ := name_bounds hn
    obtain ⟨a, c, ha, hc, ha7, hc7, _⟩ := name_in hn
    have HA := hid ha
    have HC := hid hc
    clear ha hc
    have HT0 := hid (name_text hn)
    have EG := eq_guard
    have EQ := fun w => eq_name r s r s true (by simp) w
    clear hn
    go_enter Tryd.func3, Tryd.ntmps3
    go_wp2_with fail
    with_reducible refine (anchor_any _).mono ?_
    rintro e w0 ⟨rfl, rfl⟩
    go_wp2_with fail
    with_reducible refine (idshow_yes r s _ HL.out HN.out).mono ?_
    rintro e w1 ⟨⟨t, rfl, ht⟩, hb1⟩
    have hts := text_size ht (by omega) (by omega) (by omega) (by omega)
    have HT := hid ht
    have HB1 := hid (hal.trans (hb1.mono (by simp)))
    have HL1 := hid (HL.out.below hb1)
    have K1 := hid ((Blk.new w 23 #[.int .i64 r, .int .i64 s]).below hb1 (by simp))
    obtain ⟨⟨c0, c1⟩, _⟩ := blkn K1.out
    clear hb1 hal HL ht
    go_wp2_with fail
    with_reducible refine (refright_any r s _).mono ?_
    rintro e w2 ⟨rfl, hb2⟩
    rw [HN.out]
    have HB2 := hid (below_on HB1.out hb2)
    have HL2 := hid (HL1.out.below hb2)
    have K2 := hid (K1.out.below hb2 K1.out.lt)
    clear hb2 HB1 HL1 K1 c0 c1
    go_wp2_with fail
    with_reducible refine (readid_any t r s 0 _ (by omega) HL2.out (by rw [HT.out]; exact HT0.out)).mono ?_
    rintro e w3 ⟨rfl, hb3⟩
    have HB3 := hid (below_on HB2.out hb3)
    have HL3 := hid (HL2.out.below hb3)
    have K3 := hid (K2.out.below hb3 K2.out.lt)
    clear hb3 HB2 HL2 K2
    obtain ⟨⟨c0, c1⟩, _⟩ := blkn K3.out
    have hlt3 := K3.out.lt
    obtain ⟨W4, hW4⟩ : ∃ W4, w3.alloc (.cells #[.int .i64 r, .int .i64 s] 23) = W4 := ⟨_, rfl⟩
    have hal4 : Below w3.heap.size w3 W4 := by rw [← hW4]; exact (Below.refl _ _).alloc (Nat.le_refl _) _
    have K4 := hid (K3.out.below hal4 K3.out.lt)
    have B4 : Hid (Blk W4 w3.heap.size 23 #[.int .i64 r, .int .i64 s]) := hid (by rw [← hW4]; exact Blk.new _ _ _)
    have HB4 := hid (below_on HB3.out hal4)
    have HL4 := hid (HL3.out.below hal4)
    clear hal4 c0 c1
    obtain ⟨⟨c0, c1⟩, _⟩ := blkn K4.out
    go_wp2_with fail
    with_reducible refine (pair_at r s a c _ HA.out HC.out (by omega) (by omega)).mono ?_
    rintro e w5 ⟨r5, rfl, hr5, hb5⟩
    obtain rfl : r5 = t := Sb_inj.1 (by rw [hr5, HT.out, HA.out, HC.out])
    have HB := hid (below_on HB4.out hb5)
    have HL2 := hid (HL4.out.below hb5)
    have K5 := K4.out.below hb5 K4.out.lt
    have B5 := B4.out.below hb5 B4.out.lt
    clear hr5 hb5 HB4 HL4 c0 c1 hW4 K4 B4 HB3 HL3 K3
    obtain ⟨⟨c0, c1⟩, _⟩ := blkn K5
    obtain ⟨⟨d0, d1⟩, _⟩ := blkn B5
    clear K5 B5
  all_goals
    cases okb
    · go_wp2_with fail
      with_reducible refine (ballotshow_no b _ hb HBB.out).mono ?_
      rintro e w6 ⟨rfl, rfl⟩
      go_wp2_with (go_at_call 11; refine (refballot_any _ _ hb).mono ?_; rintro e w' ⟨rfl, rfl⟩; rw [HBB.out])
      all_goals go_ret
      all_goals exact ⟨rfl, HB.out⟩
    · go_wp2_with fail
      with_reducible refine (ballotshow_yes b _ hb HL2.out HBB.out).mono ?_
      rw [HXX.out, HYY.out]
      rintro e w6 ⟨⟨t6, rfl, ht6⟩, hb6⟩
      have hts6 := text_size ht6 (by omega) (by omega) (by omega) (by omega)
      have HB6 := hid (below_on HB.out hb6)
      have HL6 := hid (HL2.out.below hb6)
      have HT6 := hid ht6
      clear hb6 ht6 HB HL2
      go_wp2_with (go_at_call 11; refine (refballot_any _ _ hb).mono ?_; rintro e w' ⟨rfl, rfl⟩; rw [HBB.out])
      with_reducible refine (readballot_any t6 b 0 _ (by omega) HL6.out (by rw [HT6.out, ← HXX.out, ← HYY.out]; exact ballot_text hb HBB.out)).mono ?_
      rintro e w7 ⟨rfl, hb7⟩
      have HB7 := hid (below_on HB6.out hb7)
      clear hb7 HB6 HL6
      go_wp2_with fail
      with_reducible refine (pair_at _ _ (b / 8) (b % 8) _ (by omega) (by omega) (by omega) (by omega)).mono ?_
      rintro e w8 ⟨r8, rfl, hr8, hb8⟩
      obtain rfl : r8 = t6 := Sb_inj.1 (by rw [hr8, HT6.out, HXX.out, HYY.out])
      have HB8 := hid (below_on HB7.out hb8)
      clear hb8 hr8 HB7
      go_wp2
      all_goals go_ret
      all_goals exact ⟨ret_bool (by first | rfl | (simp; done)), HB8.out⟩

end Go.Proofs.YtmihfalekbgdhaaDoor.markTexts
