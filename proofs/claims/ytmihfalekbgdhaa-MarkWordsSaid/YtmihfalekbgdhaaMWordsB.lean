/-
  MarkWords, the walk with a wrong name.
-/
import Derived.Test.YtmihfalekbgdhaaMWordsA
namespace Go.Proofs.Ytmihfalekbgdhaa.markWords
open Go.ChangeShapes Go.WideShapes Go.ChangeAt Go.RowKit Go.Joins
set_option linter.unusedVariables false

set_option maxRecDepth 100000 in
set_option maxHeartbeats 4000000 in
theorem walk_no (r s r2 s2 : Int) (v : Nat) (hx : nameB r s = false) (hv : v < 18446744073709551616) (w : World) :
    Calls Try.prog 3 #[nm r s, nm r2 s2, .int .u64 (v : Int)] w (Yes w) := by
  have HX := hid hx
  have HW : Hid ((wordN r s : Int) = 0) := hid (by unfold wordN; rw [hx]; rfl)
  have EG := eq_guard
  clear hx
  go_enter Try.func3, Try.ntmps3
  go_wp2_with fail
  with_reducible refine (anchor_any _).mono ?_
  rintro e w0 ⟨rfl, rfl⟩
  go_wp2_with fail
  with_reducible refine (refright_any r s _).mono ?_
  rintro e w1 ⟨rfl, hb1⟩
  rw [HX.out]
  have HB := hid (((((Below.refl w.heap.size w).alloc (Nat.le_refl _) _).alloc (by simp) _).trans (hb1.mono (by simp <;> omega))))
  have K1 := hid ((Both.start w r s r2 s2).on hb1)
  obtain ⟨c0, c1, c2, c3⟩ := K1.out.cells
  clear hb1
  go_wp2_with fail
  with_reducible refine (right_any r s _).mono ?_
  rintro e w2 ⟨rfl, hb2⟩
  rw [HX.out]
  replace HB := hid (below_on HB.out hb2)
  have K2 := hid (K1.out.on hb2)
  clear hb2 K1 c0 c1 c2 c3
  obtain ⟨c0, c1, c2, c3⟩ := K2.out.cells
  go_wp2_with fail
  with_reducible refine (word_any r s _).mono ?_
  rintro e w3 ⟨rfl, hb3⟩
  rw [HW.out]
  replace HB := hid (below_on HB.out hb3)
  have K3 := hid (K2.out.on hb3)
  clear hb3 K2 c0 c1 c2 c3
  go_wp2_with fail
  with_reducible refine (ofword_any v _ hv).mono ?_
  rintro e w7 ⟨rfl, hb7⟩
  replace HB := hid (below_on HB.out hb7)
  have K7 := hid (K3.out.on hb7)
  clear hb7 K3
  have HF := hid (five r s r2 s2)
  rcases of_word v with ⟨q, t, hn, hq, ho⟩ | ⟨hn, ho⟩
  · rw [ho]
    have HN := hid hn
    have HQ : Hid ((wordN q t : Int) = v) := hid (by rw [hq])
    clear hn hq ho
    obtain ⟨W8, hW8⟩ : ∃ W8, w7.alloc (.cells #[.int .i64 q, .int .i64 t] 23) = W8 := ⟨_, rfl⟩
    obtain ⟨B8, K8, HB8⟩ := made2 hW8 K7.out HB.out
    obtain ⟨⟨d0, d1⟩, _⟩ := blkn B8.out
    go_wp2_with fail
    with_reducible refine (word_any q t _).mono ?_
    rintro e w9 ⟨rfl, hb9⟩
    rw [HQ.out]
    replace HB := hid (below_on HB8.out hb9)
    have K9 := hid (K8.out.on hb9)
    have B9 := hid (B8.out.below hb9 B8.out.lt)
    clear hb9 K8 B8 HB8 d0 d1 hW8
    obtain ⟨⟨d0, d1⟩, _⟩ := blkn B9.out
    go_wp2_with fail
    with_reducible refine (right_any q t _).mono ?_
    rintro e w10 ⟨rfl, hb10⟩
    rw [HN.out]
    replace HB := hid (below_on HB.out hb10)
    have K10 := hid (K9.out.on hb10)
    clear hb10 K9 B9 d0 d1
    obtain ⟨c0, c1, c2, c3⟩ := K10.out.cells
    rcases HF.out with ⟨h, hc⟩ | ⟨h, hc⟩ | ⟨rfl, h, hc⟩ | ⟨rfl, h, hc⟩ | ⟨rfl, rfl, hc⟩
    · have HC := hid hc
      have EQ2 := fun w => eq_name r s r2 s2 false (by simp; omega) w
      have hne : (r == r2) = false := beq_eq_false_iff_ne.2 (by omega)
      clear hc
      go_wp2_with fail
      with_reducible refine (compare_any r s r2 s2 _).mono ?_
      rintro e w12 ⟨rfl, hb12⟩
      rw [HC.out]
      replace HB := hid (below_on HB.out hb12)
      have K12 := hid (K10.out.on hb12)
      clear hb12 c0 c1 c2 c3
      obtain ⟨c0, c1, c2, c3⟩ := K12.out.cells
      go_wp2
      all_goals go_ret
      all_goals exact ⟨ret_bool (by first | rfl | (simp; done) | (simp; omega)), HB.out⟩
    · have HC := hid hc
      have EQ2 := fun w => eq_name r s r2 s2 false (by simp; omega) w
      have hne : (r == r2) = false := beq_eq_false_iff_ne.2 (by omega)
      clear hc
      go_wp2_with fail
      with_reducible refine (compare_any r s r2 s2 _).mono ?_
      rintro e w12 ⟨rfl, hb12⟩
      rw [HC.out]
      replace HB := hid (below_on HB.out hb12)
      have K12 := hid (K10.out.on hb12)
      clear hb12 c0 c1 c2 c3
      obtain ⟨c0, c1, c2, c3⟩ := K12.out.cells
      go_wp2
      all_goals go_ret
      all_goals exact ⟨ret_bool (by first | rfl | (simp; done) | (simp; omega)), HB.out⟩
    · have HC := hid hc
      have EQ2 := fun w => eq_name r s r s2 false (by simp; omega) w
      have hne : (s == s2) = false := beq_eq_false_iff_ne.2 (by omega)
      clear hc
      go_wp2_with fail
      with_reducible refine (compare_any r s r s2 _).mono ?_
      rintro e w12 ⟨rfl, hb12⟩
      rw [HC.out]
      replace HB := hid (below_on HB.out hb12)
      have K12 := hid (K10.out.on hb12)
      clear hb12 c0 c1 c2 c3
      obtain ⟨c0, c1, c2, c3⟩ := K12.out.cells
      go_wp2
      all_goals go_ret
      all_goals exact ⟨ret_bool (by first | rfl | (simp; done) | (simp; omega)), HB.out⟩
    · have HC := hid hc
      have EQ2 := fun w => eq_name r s r s2 false (by simp; omega) w
      have hne : (s == s2) = false := beq_eq_false_iff_ne.2 (by omega)
      clear hc
      go_wp2_with fail
      with_reducible refine (compare_any r s r s2 _).mono ?_
      rintro e w12 ⟨rfl, hb12⟩
      rw [HC.out]
      replace HB := hid (below_on HB.out hb12)
      have K12 := hid (K10.out.on hb12)
      clear hb12 c0 c1 c2 c3
      obtain ⟨c0, c1, c2, c3⟩ := K12.out.cells
      go_wp2
      all_goals go_ret
      all_goals exact ⟨ret_bool (by first | rfl | (simp; done) | (simp; omega)), HB.out⟩
    · have HC := hid hc
      have EQ2 := fun w => eq_name r s r s true (by simp) w
      clear hc
      go_wp2_with fail
      with_reducible refine (compare_any r s r s _).mono ?_
      rintro e w12 ⟨rfl, hb12⟩
      rw [HC.out]
      replace HB := hid (below_on HB.out hb12)
      have K12 := hid (K10.out.on hb12)
      clear hb12 c0 c1 c2 c3
      obtain ⟨c0, c1, c2, c3⟩ := K12.out.cells
      go_wp2
      all_goals go_ret
      all_goals exact ⟨ret_bool (by first | rfl | (simp; done) | (simp; omega)), HB.out⟩
  · rw [ho]
    clear ho
    have EQZ := fun w => eq_name 0 0 0 0 true rfl w
    obtain ⟨B8, K8, HB8⟩ := made2 (r := 0) (s := 0) rfl K7.out HB.out
    obtain ⟨c0, c1, c2, c3⟩ := K7.out.cells
    have hsz0 := K7.out.1.lt
    have hsz1 := K7.out.2.lt
    have hne0 : w.heap.size ≠ w7.heap.size := by omega
    have hne1 : w.heap.size + 1 ≠ w7.heap.size := by omega
    replace HB := HB8
    obtain ⟨x, hxv⟩ : ∃ x : Int, (v : Int) / 4294967296 = x := ⟨_, rfl⟩
    obtain ⟨y, hyv⟩ : ∃ y : Int, (v : Int) % 4294967296 = y := ⟨_, rfl⟩
    rw [hxv, hyv] at hn
    have hx0 : 0 ≤ x := by omega
    have hy0 : 0 ≤ y := by omega
    rcases hn with hn | hn
    · skip
      rcases HF.out with ⟨h, hc⟩ | ⟨h, hc⟩ | ⟨rfl, h, hc⟩ | ⟨rfl, h, hc⟩ | ⟨rfl, rfl, hc⟩
      · have HC := hid hc
        have EQ2 := fun w => eq_name r s r2 s2 false (by simp; omega) w
        have hne : (r == r2) = false := beq_eq_false_iff_ne.2 (by omega)
        clear hc
        go_wp2_with fail
        with_reducible refine (compare_any r s r2 s2 _).mono ?_
        rintro e w12 ⟨rfl, hb12⟩
        rw [HC.out]
        replace HB := hid (below_on HB.out hb12)
        have K12 := hid (K8.out.on hb12)
        clear hb12 c0 c1 c2 c3
        obtain ⟨c0, c1, c2, c3⟩ := K12.out.cells
        go_wp2
        all_goals go_ret
        all_goals exact ⟨ret_bool (by first | rfl | (simp; done) | (simp; omega)), HB.out⟩
      · have HC := hid hc
        have EQ2 := fun w => eq_name r s r2 s2 false (by simp; omega) w
        have hne : (r == r2) = false := beq_eq_false_iff_ne.2 (by omega)
        clear hc
        go_wp2_with fail
        with_reducible refine (compare_any r s r2 s2 _).mono ?_
        rintro e w12 ⟨rfl, hb12⟩
        rw [HC.out]
        replace HB := hid (below_on HB.out hb12)
        have K12 := hid (K8.out.on hb12)
        clear hb12 c0 c1 c2 c3
        obtain ⟨c0, c1, c2, c3⟩ := K12.out.cells
        go_wp2
        all_goals go_ret
        all_goals exact ⟨ret_bool (by first | rfl | (simp; done) | (simp; omega)), HB.out⟩
      · have HC := hid hc
        have EQ2 := fun w => eq_name r s r s2 false (by simp; omega) w
        have hne : (s == s2) = false := beq_eq_false_iff_ne.2 (by omega)
        clear hc
        go_wp2_with fail
        with_reducible refine (compare_any r s r s2 _).mono ?_
        rintro e w12 ⟨rfl, hb12⟩
        rw [HC.out]
        replace HB := hid (below_on HB.out hb12)
        have K12 := hid (K8.out.on hb12)
        clear hb12 c0 c1 c2 c3
        obtain ⟨c0, c1, c2, c3⟩ := K12.out.cells
        go_wp2
        all_goals go_ret
        all_goals exact ⟨ret_bool (by first | rfl | (simp; done) | (simp; omega)), HB.out⟩
      · have HC := hid hc
        have EQ2 := fun w => eq_name r s r s2 false (by simp; omega) w
        have hne : (s == s2) = false := beq_eq_false_iff_ne.2 (by omega)
        clear hc
        go_wp2_with fail
        with_reducible refine (compare_any r s r s2 _).mono ?_
        rintro e w12 ⟨rfl, hb12⟩
        rw [HC.out]
        replace HB := hid (below_on HB.out hb12)
        have K12 := hid (K8.out.on hb12)
        clear hb12 c0 c1 c2 c3
        obtain ⟨c0, c1, c2, c3⟩ := K12.out.cells
        go_wp2
        all_goals go_ret
        all_goals exact ⟨ret_bool (by first | rfl | (simp; done) | (simp; omega)), HB.out⟩
      · have HC := hid hc
        have EQ2 := fun w => eq_name r s r s true (by simp) w
        clear hc
        go_wp2_with fail
        with_reducible refine (compare_any r s r s _).mono ?_
        rintro e w12 ⟨rfl, hb12⟩
        rw [HC.out]
        replace HB := hid (below_on HB.out hb12)
        have K12 := hid (K8.out.on hb12)
        clear hb12 c0 c1 c2 c3
        obtain ⟨c0, c1, c2, c3⟩ := K12.out.cells
        go_wp2
        all_goals go_ret
        all_goals exact ⟨ret_bool (by first | rfl | (simp; done) | (simp; omega)), HB.out⟩
    · have hn2 : (1024 : Int) ≤ (v : Int) % 4294967296 := by omega
      have hn3 : ((v : Int) % 4294967296 < 1024) = False := eq_false (by omega)
      have hn4 : (y < 1024) = False := eq_false (by omega)
      rcases (show x < 7 ∨ 7 ≤ x by omega) with hx7 | hx7
      · skip
        rcases HF.out with ⟨h, hc⟩ | ⟨h, hc⟩ | ⟨rfl, h, hc⟩ | ⟨rfl, h, hc⟩ | ⟨rfl, rfl, hc⟩
        · have HC := hid hc
          have EQ2 := fun w => eq_name r s r2 s2 false (by simp; omega) w
          have hne : (r == r2) = false := beq_eq_false_iff_ne.2 (by omega)
          clear hc
          go_wp2_with fail
          with_reducible refine (compare_any r s r2 s2 _).mono ?_
          rintro e w12 ⟨rfl, hb12⟩
          rw [HC.out]
          replace HB := hid (below_on HB.out hb12)
          have K12 := hid (K8.out.on hb12)
          clear hb12 c0 c1 c2 c3
          obtain ⟨c0, c1, c2, c3⟩ := K12.out.cells
          go_wp2
          all_goals go_ret
          all_goals exact ⟨ret_bool (by first | rfl | (simp; done) | (simp; omega)), HB.out⟩
        · have HC := hid hc
          have EQ2 := fun w => eq_name r s r2 s2 false (by simp; omega) w
          have hne : (r == r2) = false := beq_eq_false_iff_ne.2 (by omega)
          clear hc
          go_wp2_with fail
          with_reducible refine (compare_any r s r2 s2 _).mono ?_
          rintro e w12 ⟨rfl, hb12⟩
          rw [HC.out]
          replace HB := hid (below_on HB.out hb12)
          have K12 := hid (K8.out.on hb12)
          clear hb12 c0 c1 c2 c3
          obtain ⟨c0, c1, c2, c3⟩ := K12.out.cells
          go_wp2
          all_goals go_ret
          all_goals exact ⟨ret_bool (by first | rfl | (simp; done) | (simp; omega)), HB.out⟩
        · have HC := hid hc
          have EQ2 := fun w => eq_name r s r s2 false (by simp; omega) w
          have hne : (s == s2) = false := beq_eq_false_iff_ne.2 (by omega)
          clear hc
          go_wp2_with fail
          with_reducible refine (compare_any r s r s2 _).mono ?_
          rintro e w12 ⟨rfl, hb12⟩
          rw [HC.out]
          replace HB := hid (below_on HB.out hb12)
          have K12 := hid (K8.out.on hb12)
          clear hb12 c0 c1 c2 c3
          obtain ⟨c0, c1, c2, c3⟩ := K12.out.cells
          go_wp2
          all_goals go_ret
          all_goals exact ⟨ret_bool (by first | rfl | (simp; done) | (simp; omega)), HB.out⟩
        · have HC := hid hc
          have EQ2 := fun w => eq_name r s r s2 false (by simp; omega) w
          have hne : (s == s2) = false := beq_eq_false_iff_ne.2 (by omega)
          clear hc
          go_wp2_with fail
          with_reducible refine (compare_any r s r s2 _).mono ?_
          rintro e w12 ⟨rfl, hb12⟩
          rw [HC.out]
          replace HB := hid (below_on HB.out hb12)
          have K12 := hid (K8.out.on hb12)
          clear hb12 c0 c1 c2 c3
          obtain ⟨c0, c1, c2, c3⟩ := K12.out.cells
          go_wp2
          all_goals go_ret
          all_goals exact ⟨ret_bool (by first | rfl | (simp; done) | (simp; omega)), HB.out⟩
        · have HC := hid hc
          have EQ2 := fun w => eq_name r s r s true (by simp) w
          clear hc
          go_wp2_with fail
          with_reducible refine (compare_any r s r s _).mono ?_
          rintro e w12 ⟨rfl, hb12⟩
          rw [HC.out]
          replace HB := hid (below_on HB.out hb12)
          have K12 := hid (K8.out.on hb12)
          clear hb12 c0 c1 c2 c3
          obtain ⟨c0, c1, c2, c3⟩ := K12.out.cells
          go_wp2
          all_goals go_ret
          all_goals exact ⟨ret_bool (by first | rfl | (simp; done) | (simp; omega)), HB.out⟩
      · skip
        rcases HF.out with ⟨h, hc⟩ | ⟨h, hc⟩ | ⟨rfl, h, hc⟩ | ⟨rfl, h, hc⟩ | ⟨rfl, rfl, hc⟩
        · have HC := hid hc
          have EQ2 := fun w => eq_name r s r2 s2 false (by simp; omega) w
          have hne : (r == r2) = false := beq_eq_false_iff_ne.2 (by omega)
          clear hc
          go_wp2_with fail
          with_reducible refine (compare_any r s r2 s2 _).mono ?_
          rintro e w12 ⟨rfl, hb12⟩
          rw [HC.out]
          replace HB := hid (below_on HB.out hb12)
          have K12 := hid (K8.out.on hb12)
          clear hb12 c0 c1 c2 c3
          obtain ⟨c0, c1, c2, c3⟩ := K12.out.cells
          go_wp2
          all_goals go_ret
          all_goals exact ⟨ret_bool (by first | rfl | (simp; done) | (simp; omega)), HB.out⟩
        · have HC := hid hc
          have EQ2 := fun w => eq_name r s r2 s2 false (by simp; omega) w
          have hne : (r == r2) = false := beq_eq_false_iff_ne.2 (by omega)
          clear hc
          go_wp2_with fail
          with_reducible refine (compare_any r s r2 s2 _).mono ?_
          rintro e w12 ⟨rfl, hb12⟩
          rw [HC.out]
          replace HB := hid (below_on HB.out hb12)
          have K12 := hid (K8.out.on hb12)
          clear hb12 c0 c1 c2 c3
          obtain ⟨c0, c1, c2, c3⟩ := K12.out.cells
          go_wp2
          all_goals go_ret
          all_goals exact ⟨ret_bool (by first | rfl | (simp; done) | (simp; omega)), HB.out⟩
        · have HC := hid hc
          have EQ2 := fun w => eq_name r s r s2 false (by simp; omega) w
          have hne : (s == s2) = false := beq_eq_false_iff_ne.2 (by omega)
          clear hc
          go_wp2_with fail
          with_reducible refine (compare_any r s r s2 _).mono ?_
          rintro e w12 ⟨rfl, hb12⟩
          rw [HC.out]
          replace HB := hid (below_on HB.out hb12)
          have K12 := hid (K8.out.on hb12)
          clear hb12 c0 c1 c2 c3
          obtain ⟨c0, c1, c2, c3⟩ := K12.out.cells
          go_wp2
          all_goals go_ret
          all_goals exact ⟨ret_bool (by first | rfl | (simp; done) | (simp; omega)), HB.out⟩
        · have HC := hid hc
          have EQ2 := fun w => eq_name r s r s2 false (by simp; omega) w
          have hne : (s == s2) = false := beq_eq_false_iff_ne.2 (by omega)
          clear hc
          go_wp2_with fail
          with_reducible refine (compare_any r s r s2 _).mono ?_
          rintro e w12 ⟨rfl, hb12⟩
          rw [HC.out]
          replace HB := hid (below_on HB.out hb12)
          have K12 := hid (K8.out.on hb12)
          clear hb12 c0 c1 c2 c3
          obtain ⟨c0, c1, c2, c3⟩ := K12.out.cells
          go_wp2
          all_goals go_ret
          all_goals exact ⟨ret_bool (by first | rfl | (simp; done) | (simp; omega)), HB.out⟩
        · have HC := hid hc
          have EQ2 := fun w => eq_name r s r s true (by simp) w
          clear hc
          go_wp2_with fail
          with_reducible refine (compare_any r s r s _).mono ?_
          rintro e w12 ⟨rfl, hb12⟩
          rw [HC.out]
          replace HB := hid (below_on HB.out hb12)
          have K12 := hid (K8.out.on hb12)
          clear hb12 c0 c1 c2 c3
          obtain ⟨c0, c1, c2, c3⟩ := K12.out.cells
          go_wp2
          all_goals go_ret
          all_goals exact ⟨ret_bool (by first | rfl | (simp; done) | (simp; omega)), HB.out⟩

end Go.Proofs.Ytmihfalekbgdhaa.markWords
