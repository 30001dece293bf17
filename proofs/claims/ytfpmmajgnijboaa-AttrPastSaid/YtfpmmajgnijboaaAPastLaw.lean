/-
  AttrPast: for any attributes and any number the law's call returns true: with a greater number all else is as it was; the number is above the other one's, but at the end. No condition.
-/
import Derived.Test.YtfpmmajgnijboaaAKit
namespace Go.Proofs.Ytfpmmajgnijboaa.attrPast
open Go.ChangeShapes Go.WideShapes Go.ChangeAt Go.RowKit
set_option linter.unusedVariables false
set_option linter.unusedSimpArgs false

theorem past8' (f : Nat → Int) (q : Int) (P : Nat → Int) (hP : pastF f q = P) (w : World) :
    Calls Try.prog 19 #[.agg #[.int .i64 (f 0), .int .i64 (f 1), .int .i64 (f 2), .int .i64 (f 3), .int .i64 (f 4), .int .i64 (f 5), .int .i64 (f 6), .int .i64 (f 7)], .int .i64 q] w fun e w' => e = .returned (.agg #[.int .i64 (P 0), .int .i64 (P 1), .int .i64 (P 2), .int .i64 (P 3), .int .i64 (P 4), .int .i64 (P 5), .int .i64 (P 6), .int .i64 (P 7)]) ∧ Below w.heap.size w w' := by
  subst hP; exact past8 f q w
theorem past_same (f : Nat → Int) (q : Int) : eqD (pastF f q) f = true := eqD_iff.2 fun i _ => by
  unfold pastF
  by_cases h : 0 ≤ q
  · rw [if_pos h]; simp [upd]
  · rw [if_neg h]
theorem past_none {f : Nat → Int} {q : Int} (h : q < 0) : pastF f q = f := by unfold pastF; rw [if_neg (by omega)]
theorem past_num (f : Nat → Int) {q : Int} (h : 0 ≤ q) : pastF f q 0 = if f 0 < min q 1073741823 + 1 then min q 1073741823 + 1 else f 0 := by unfold pastF upd; rw [if_pos h, if_pos rfl]
theorem past_ok {f : Nat → Int} {q : Int} (h : okB f = true) : okB (pastF f q) = true := by
  obtain ⟨h1, h2⟩ := okB_iff.1 h
  refine okB_iff.2 ⟨?_, fun i hi => ?_⟩
  · rcases (show q < 0 ∨ 0 ≤ q by omega) with hq | hq
    · rw [past_none hq]; exact h1
    · rw [past_num f hq]; split <;> omega
  · have := eqD_iff.1 (past_same f q) i hi
    rw [this]; exact h2 i hi

/-- The two boxes. -/
def Two (W : World) (k m : Nat) (f g : Nat → Int) : Prop := Blk W k 24 (rowA f) ∧ Blk W m 24 (rowA g)
theorem Two.on {W W' : World} {k m : Nat} {f g : Nat → Int} (H : Two W k m f g) (hb : Below W.heap.size W W') : Two W' k m f g := ⟨H.1.below hb H.1.lt, H.2.below hb H.2.lt⟩
theorem Two.open {W : World} {k m : Nat} {f g : Nat → Int} (H : Two W k m f g) : Eight W k f ∧ Eight W m g := ⟨H.1.eight, H.2.eight⟩

set_option maxRecDepth 100000 in
set_option maxHeartbeats 4000000 in
theorem walk (f : Nat → Int) (q : Int) (hq : (Lit.int .i64 q).wf = true) (w : World) :
    Calls Try.prog 5 #[.agg #[.int .i64 (f 0), .int .i64 (f 1), .int .i64 (f 2), .int .i64 (f 3), .int .i64 (f 4), .int .i64 (f 5), .int .i64 (f 6), .int .i64 (f 7)], .int .i64 q] w fun e w' => e = .returned (.bool true) ∧ Below w.heap.size w w' := by
  obtain ⟨P, hP⟩ : ∃ P, pastF f q = P := ⟨_, rfl⟩
  have HP := hid hP
  have Q1 : Hid (eqD P f = true) := hid (by rw [← hP]; exact past_same f q)
  have Q2 : Hid (q < 0 → eqA P f = true) := hid (fun h => by rw [← hP, past_none h]; exact eqA_self f)
  have Q3 : Hid (0 ≤ q → P 0 = if f 0 < min q 1073741823 + 1 then min q 1073741823 + 1 else f 0) := hid (fun h => by rw [← hP]; exact past_num f h)
  have Q4 : Hid (okB f = true → okB P = true) := hid (fun h => by rw [← hP]; exact past_ok h)
  have Q5 : f 0 ≤ P 0 := by
    rcases (show q < 0 ∨ 0 ≤ q by omega) with h | h
    · have := eqA_iff.1 (Q2.out h) 0 (by decide); omega
    · have := Q3.out h; rw [this]; split <;> omega
  obtain ⟨o, ho⟩ : ∃ o, okB f = o := ⟨_, rfl⟩
  have HO := hid ho
  rw [ho] at Q4
  clear hP ho hq
  go_enter Try.func5, Try.ntmps5
  go_upto_region 1 with fail
  obtain ⟨W, hW⟩ : ∃ W, w.alloc (.cells #[.int .i64 (f 0), .int .i64 (f 1), .int .i64 (f 2), .int .i64 (f 3), .int .i64 (f 4), .int .i64 (f 5), .int .i64 (f 6), .int .i64 (f 7)] 24) = W := ⟨_, rfl⟩
  rw [hW]
  obtain ⟨K0, B0⟩ := one_new hW
  rw [show #[.int .i64 (f 0), .int .i64 (f 1), .int .i64 (f 2), .int .i64 (f 3), .int .i64 (f 4), .int .i64 (f 5), .int .i64 (f 6), .int .i64 (f 7)] = rowA f from rfl] at K0
  clear hW
  obtain ⟨k, hk⟩ : ∃ k, w.heap.size = k := ⟨_, rfl⟩
  rw [hk] at K0 B0
  rw [hk]
  have HK := hid hk
  clear hk
  go_wp2_with fail
  with_reducible refine (anchor9 _).mono ?_
  rintro e w1 ⟨rfl, hb⟩
  have K1 := hid (K0.out.below hb K0.out.lt)
  have B1 := hid (B0.out.trans (hb.mono (by have := K0.out.lt; omega)))
  clear hb K0 B0
  obtain ⟨c0, c1, c2, c3, c4, c5, c6, c7⟩ := K1.out.eight
  go_wp2_with fail
  with_reducible refine (past8' f q P HP.out _).mono ?_
  rintro e w2 ⟨rfl, hb⟩
  clear c0 c1 c2 c3 c4 c5 c6 c7
  have K2 := hid (K1.out.below hb K1.out.lt)
  have B2 := hid (B1.out.trans (hb.mono (by have := K1.out.lt; omega)))
  clear hb K1 B1
  go_upto_region 4 with fail
  obtain ⟨W3, hW3⟩ : ∃ W3, w2.alloc (.cells #[.int .i64 (P 0), .int .i64 (P 1), .int .i64 (P 2), .int .i64 (P 3), .int .i64 (P 4), .int .i64 (P 5), .int .i64 (P 6), .int .i64 (P 7)] 24) = W3 := ⟨_, rfl⟩
  rw [hW3]
  obtain ⟨M3, hb3⟩ := one_new hW3
  have D3 := hid (show Two W3 k w2.heap.size f P from ⟨K2.out.below hb3.out K2.out.lt, M3.out⟩)
  have B3 := hid (B2.out.trans (hb3.out.mono (by have := K2.out.lt; omega)))
  obtain ⟨m, hm⟩ : ∃ m, w2.heap.size = m := ⟨_, rfl⟩
  rw [hm] at D3 ⊢
  clear hW3 hm hb3 M3 K2 B2
  have EQ := eq_dep P f true Q1.out
  have EG := dep_guard
  obtain ⟨⟨c0, c1, c2, c3, c4, c5, c6, c7⟩, ⟨d0, d1, d2, d3, d4, d5, d6, d7⟩⟩ := D3.out.open
  go_wp2_with fail
  with_reducible refine (aright8 f _).mono ?_
  rw [HO.out]
  rintro e w4 ⟨rfl, hb⟩
  clear c0 c1 c2 c3 c4 c5 c6 c7 d0 d1 d2 d3 d4 d5 d6 d7 EQ EG
  have D4 := hid (D3.out.on hb)
  have B4 := hid (B3.out.trans (hb.mono (by have := D3.out.1.lt; omega)))
  clear hb D3 B3
  cases o
  case' true =>
    have HO2 : Hid (okB P = true) := hid (by simpa using Q4.out)
    obtain ⟨_, ⟨d0, d1, d2, d3, d4, d5, d6, d7⟩⟩ := D4.out.open
    go_wp2_with fail
    with_reducible refine (aright8 P _).mono ?_
    rw [HO2.out]
    rintro e w5 ⟨rfl, hb⟩
    clear d0 d1 d2 d3 d4 d5 d6 d7
    have D5 := hid (D4.out.on hb)
    have B5 := hid (B4.out.trans (hb.mono (by have := D4.out.1.lt; omega)))
    clear hb D4 B4
  case' false =>
    have D5 := D4
    have B5 := B4
    clear D4 B4
  all_goals
    obtain ⟨⟨c0, c1, c2, c3, c4, c5, c6, c7⟩, ⟨d0, d1, d2, d3, d4, d5, d6, d7⟩⟩ := D5.out.open
    rcases (show q < 0 ∨ 0 ≤ q by omega) with h | h
    · have EQ := eq_attr P f true (Q2.out h)
      have EG := attr_guard
      go_wp2
      go_ret
      exact ⟨rfl, by rw [HK.out]; exact B5.out⟩
    · have H3 := Q3.out h
      clear c1 c2 c3 c4 c5 c6 c7 d1 d2 d3 d4 d5 d6 d7
      clear Q3
      generalize f 0 = x at c0 H3 Q5
      generalize P 0 = y at d0 H3 Q5
      rcases (show (x < min q 1073741823 + 1 ∧ y = min q 1073741823 + 1) ∨ (min q 1073741823 + 1 ≤ x ∧ y = x) by split at H3 <;> omega) with ⟨h1, h2⟩ | ⟨h1, rfl⟩
      · have hne : (y == x) = false := by rw [beq_eq_false_iff_ne]; omega
        clear H3
        rcases (show q ≤ 1073741823 ∨ 1073741823 < q by omega) with h4 | h4
        · obtain rfl : q + 1 = y := by omega
          clear h2
          go_wp2
          all_goals go_ret
          all_goals exact ⟨ret_bool (by simp), by rw [HK.out]; exact B5.out⟩
        · obtain rfl : 1073741824 = y := by omega
          clear h2
          go_wp2
          all_goals go_ret
          all_goals exact ⟨ret_bool (by simp), by rw [HK.out]; exact B5.out⟩
      · clear H3
        rcases (show q < y ∨ (y ≤ q ∧ 1073741824 ≤ q) by omega) with h4 | ⟨h4, h5⟩
        · go_wp2
          all_goals go_ret
          all_goals exact ⟨ret_bool (by simp), by rw [HK.out]; exact B5.out⟩
        · go_wp2
          all_goals go_ret
          all_goals exact ⟨ret_bool (by simp), by rw [HK.out]; exact B5.out⟩

end Go.Proofs.Ytfpmmajgnijboaa.attrPast
