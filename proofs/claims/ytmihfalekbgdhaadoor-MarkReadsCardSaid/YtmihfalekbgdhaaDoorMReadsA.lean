/-
  MarkReads, its walk, where the library's variables hold what their texts lay.
-/
import Derived.Test.YtmihfalekbgdhaaDoorMTextsA
namespace Go.Proofs.YtmihfalekbgdhaaDoor.markReads
open Go.ChangeShapes Go.WideShapes Go.ChangeAt Go.RowKit Go.Lib
open Go.Proofs.YtmihfalekbgdhaaDoor.markTexts (Yes pair_at)
set_option linter.unusedVariables false

set_option maxRecDepth 100000 in
set_option maxHeartbeats 400000 in
theorem walk_long (s : ByteArray) (w : World) (h : 100 < s.size) :
    Calls Tryd.prog 4 #[.string s] w (Yes w) := by
  have h1 : (100 : Int) < (s.size : Int) := by omega
  go_enter Tryd.func4, Tryd.ntmps4
  go_wp2_with (go_at_call 5; refine (anchor_any _).mono ?_; rintro e w' ⟨rfl, rfl⟩)
  go_ret
  exact ⟨rfl, Below.refl _ _⟩

/-- What two readings of a text tell. -/
theorem five_ways (l : List UInt8) :
    (nameOf l = ((0, 0), 10) ∧ ballotOf l = (0, 10)) ∨ ∃ a b : Int, textOf a b = l ∧
      ((nameB a b = true ∧ nameOf l = ((a, b), 0)) ∨ nameOf l = ((0, 0), 12)) ∧
      ((∃ n k : Nat, a = n ∧ b = k ∧ n ≤ 16777215 ∧ k < 8 ∧ ballotB (n * 8 + k) = true ∧ ballotOf l = (n * 8 + k, 0)) ∨ ballotOf l = (0, 60)) := by
  cases h : readOf l with
  | none => exact .inl ⟨by unfold nameOf; rw [h], by unfold ballotOf; rw [h]⟩
  | some ab =>
    obtain ⟨a, b⟩ := ab
    refine .inr ⟨a, b, (read_some h).1, ?_, ?_⟩
    · unfold nameOf
      rw [h]
      simp only [ofN]
      cases hn : nameB a b
      · exact .inr rfl
      · exact .inl ⟨rfl, rfl⟩
    · unfold ballotOf
      rw [h]
      simp only []
      cases hp : partsB a b
      · exact .inr rfl
      · obtain ⟨n, k, rfl, rfl, hn, hk⟩ := parts_nat hp
        refine .inl ⟨n, k, rfl, rfl, hn, hk, ?_, by simp⟩
        have := (ballot_parts hp).1
        simpa using this

set_option maxRecDepth 100000 in
set_option maxHeartbeats 4000000 in
theorem walk_any (s : ByteArray) (w : World) (hs : s.size ≤ 100) (hL : Laid w) :
    Calls Tryd.prog 4 #[.string s] w (Yes w) := by
  have HL := hid hL
  clear hL
  obtain ⟨x, y, E, hn⟩ : ∃ x y E, nameOf (Sb s) = ((x, y), E) := ⟨_, _, _, rfl⟩
  obtain ⟨v, F, hb⟩ : ∃ v F, ballotOf (Sb s) = (v, F) := ⟨_, _, rfl⟩
  have HN := hid hn
  have HB := hid hb
  have h5 := five_ways (Sb s)
  rw [hn, hb] at h5
  have H5 := hid h5
  clear hn hb h5
  have h1 : (s.size : Int) ≤ (100 : Int) := by omega
  go_enter Tryd.func4, Tryd.ntmps4
  go_wp2_with fail
  with_reducible refine (anchor_any _).mono ?_
  rintro e w0 ⟨rfl, rfl⟩
  go_wp2_with fail
  with_reducible refine (readid_any s x y E _ (by omega) HL.out HN.out).mono ?_
  rintro e w1 ⟨rfl, hb1⟩
  have HB1 := hid hb1
  have HL1 := hid (HL.out.below hb1)
  clear hb1 HL
  go_wp2_with fail
  obtain ⟨W2, hW2⟩ : ∃ W2, w1.alloc (.cells #[.int .i64 x, .int .i64 y] 23) = W2 := ⟨_, rfl⟩
  have hal2 : Below w1.heap.size w1 W2 := by rw [← hW2]; exact (Below.refl _ _).alloc (Nat.le_refl _) _
  have B2 : Hid (Blk W2 w1.heap.size 23 #[.int .i64 x, .int .i64 y]) := hid (by rw [← hW2]; exact Blk.new _ _ _)
  have HB2 := hid (below_on HB1.out hal2)
  have HL2 := hid (HL1.out.below hal2)
  rw [hW2]
  clear hal2 hW2 HB1 HL1
  with_reducible refine (readballot_any s v F _ (by omega) HL2.out HB.out).mono ?_
  rintro e w3 ⟨rfl, hb3⟩
  have HB3 := hid (below_on HB2.out hb3)
  have B3 := hid (B2.out.below hb3 B2.out.lt)
  clear hb3 HB2 HL2 B2
  obtain ⟨⟨c0, c1⟩, _⟩ := blkn B3.out
  have EG := eq_guard
  have EQZ := fun w => eq_name 0 0 0 0 true rfl w
  rcases H5.out with ⟨h2, h3⟩ | ⟨a, b, ht, h2, h3⟩
  · simp only [Prod.mk.injEq] at h2 h3
    obtain ⟨⟨rfl, rfl⟩, rfl⟩ := h2
    obtain ⟨rfl, rfl⟩ := h3
    go_wp2
    all_goals go_ret
    all_goals exact ⟨ret_bool (by first | rfl | (simp; done)), HB3.out⟩
  · have HT := hid ht
    clear ht
    rcases h2 with ⟨hnm, h2⟩ | h2
    case' inl =>
      simp only [Prod.mk.injEq] at h2
      obtain ⟨⟨rfl, rfl⟩, rfl⟩ := h2
      have HNM := hid hnm
      obtain ⟨⟨hr0, hr1⟩, hs0, hs1⟩ := name_bounds hnm
      obtain ⟨a', b', ha, hb, ha7, hb7, _⟩ := name_in hnm
      have HA := hid ha
      have HBB := hid hb
      clear hnm ha hb
      go_wp2_with fail
      with_reducible refine (refright_any x y _).mono ?_
      rintro e w4 ⟨rfl, hb4⟩
      rw [HNM.out]
      have HB4 := hid (below_on HB3.out hb4)
      have B4 := hid (B3.out.below hb4 B3.out.lt)
      clear hb4 HB3 B3 c0 c1
      obtain ⟨⟨c0, c1⟩, _⟩ := blkn B4.out
      go_wp2_with fail
      with_reducible refine (pair_at _ _ a' b' _ HA.out HBB.out (by omega) (by omega)).mono ?_
      rintro e w5 ⟨r5, rfl, hr5, hb5⟩
      obtain rfl : r5 = s := Sb_inj.1 (by rw [hr5, ← HT.out, HA.out, HBB.out])
      have HBE := hid (below_on HB4.out hb5)
      clear hb5 hr5 HB4 B4 c0 c1
    case' inr =>
      simp only [Prod.mk.injEq] at h2
      obtain ⟨⟨rfl, rfl⟩, rfl⟩ := h2
      have HBE := HB3
    all_goals
      rcases h3 with ⟨n, k, ha, hb, hn, hk, hbl, h3⟩ | h3
      · simp only [Prod.mk.injEq] at h3
        obtain ⟨h3, rfl⟩ := h3
        have hq : (v : Int) / 8 = ((v / 8 : Nat) : Int) ∧ v / 8 = n ∧ v % 8 = k ∧ v < 4294967296 := by omega
        have HBL := hid (show ballotB v = true by rw [h3]; exact hbl)
        have HQ1 := hid hq.2.1
        have HQ2 := hid hq.2.2.1
        have hv : v < 4294967296 := hq.2.2.2
        have HA2 := hid ha
        have HB2 := hid hb
        obtain ⟨p, hp⟩ : ∃ p : Int, (v : Int) / 8 = p := ⟨_, rfl⟩
        obtain ⟨q, hq2⟩ : ∃ q : Int, (v : Int) % 8 = q := ⟨_, rfl⟩
        have hp0 : 0 ≤ p := by omega
        have hp1 : p < 18446744073709551616 := by omega
        clear h3 hq hbl ha hb
        go_wp2_with (go_at_call 11; refine (refballot_any _ _ hv).mono ?_; rintro e w' ⟨rfl, rfl⟩; rw [HBL.out])
        with_reducible refine (pair_at _ _ (v / 8) (v % 8) _ (by omega) (by omega) (by omega) (by omega)).mono ?_
        rintro e w6 ⟨r6, rfl, hr6, hb6⟩
        have he := Sb_inj.1 (hr6.trans (by rw [HQ1.out, HQ2.out, ← HA2.out, ← HB2.out]; exact HT.out))
        subst he
        have HBF := hid (below_on HBE.out hb6)
        clear hr6 hb6 HBE
        go_wp2
        all_goals go_ret
        all_goals exact ⟨ret_bool (by first | rfl | (simp; done)), HBF.out⟩
      · simp only [Prod.mk.injEq] at h3
        obtain ⟨rfl, rfl⟩ := h3
        go_wp2
        all_goals go_ret
        all_goals exact ⟨ret_bool (by first | rfl | (simp; done)), HBE.out⟩

end Go.Proofs.YtmihfalekbgdhaaDoor.markReads
