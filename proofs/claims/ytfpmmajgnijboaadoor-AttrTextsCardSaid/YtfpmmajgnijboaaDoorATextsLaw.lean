/-
  AttrTexts, its walk, where the library's variables hold what their texts lay.
-/
import Derived.Test.YtfpmmajgnijboaaDoorATell
import Derived.Test.YtfpmmajgnijboaaDoorAOwn
namespace Go.Proofs.YtfpmmajgnijboaaDoor.attrTexts
open Go.ChangeShapes Go.WideShapes Go.ChangeAt Go.RowKit Go.Lib
set_option linter.unusedVariables false
set_option linter.unusedSimpArgs false

theorem text_same {f V : Nat → Int} (hf : okB f = true) (hv : okB V = true) (h : textA V = textA f) : eqA V f = true := by
  have key : ∀ {g : Nat → Int}, okB g = true → Fits g (textA g) 8 := fun {g} hg i hi x hx => by
    rw [piece_text g hi] at hx
    obtain ⟨h0, h1⟩ := okB_iff.1 hg
    have hb : 0 ≤ g i ∧ g i ≤ 1073741824 := by
      cases i with
      | zero => exact h0
      | succ i => have := h1 i (by omega); omega
    rw [atoi_itoa _ (by omega) (by omega)] at hx
    injection hx
  exact eqA_iff.2 (fits_text hf (by rw [← h]; exact key hv))

/-- The law's box, and one beside it. -/
def Two (W : World) (k g : Nat) (f V : Nat → Int) : Prop := Blk W k 24 (rowA f) ∧ Blk W g 24 (rowA V)
theorem Two.on {W W' : World} {k g : Nat} {f V : Nat → Int} (H : Two W k g f V) (hb : Below W.heap.size W W') : Two W' k g f V := ⟨H.1.below hb H.1.lt, H.2.below hb H.2.lt⟩
theorem Two.drew {W : World} {k g : Nat} {f V : Nat → Int} (H : Two W k g f V) : Two W.drew k g f V := H
theorem Two.open {W : World} {k g : Nat} {f V : Nat → Int} (H : Two W k g f V) : Eight W k f ∧ Eight W g V := ⟨H.1.eight, H.2.eight⟩

set_option maxRecDepth 100000 in
set_option maxHeartbeats 4000000 in
theorem walk_any (f : Nat → Int) (s : ByteArray) (w : World) (hL : Laid w) :
    Calls Tryd.prog 3 #[.agg #[.int .i64 (f 0), .int .i64 (f 1), .int .i64 (f 2), .int .i64 (f 3), .int .i64 (f 4), .int .i64 (f 5), .int .i64 (f 6), .int .i64 (f 7)], .string s] w fun e w' => e = .returned (.bool true) ∧ Below w.heap.size w w' := by
  have HL := hid hL
  obtain ⟨o, ho⟩ : ∃ o, okB f = o := ⟨_, rfl⟩
  have HO := hid ho
  obtain ⟨k, hk⟩ : ∃ k, w.heap.size = k := ⟨_, rfl⟩
  have HK := hid hk
  have HLL : Hid (∀ W, Below k w W → Laid W) := hid (fun W h => HL.out.below (by rw [hk]; exact h))
  clear hL ho
  go_enter Tryd.func3, Tryd.ntmps3
  go_upto_region 1 with fail
  obtain ⟨W, hW⟩ : ∃ W, w.alloc (.cells #[.int .i64 (f 0), .int .i64 (f 1), .int .i64 (f 2), .int .i64 (f 3), .int .i64 (f 4), .int .i64 (f 5), .int .i64 (f 6), .int .i64 (f 7)] 24) = W := ⟨_, rfl⟩
  rw [hW]
  obtain ⟨K0, B0⟩ := one_new hW
  rw [show #[.int .i64 (f 0), .int .i64 (f 1), .int .i64 (f 2), .int .i64 (f 3), .int .i64 (f 4), .int .i64 (f 5), .int .i64 (f 6), .int .i64 (f 7)] = rowA f from rfl, hk] at K0
  rw [hk] at B0
  clear hW hk
  go_wp2_with fail
  with_reducible refine (anchor9 _).mono ?_
  rintro e w1 ⟨rfl, hb⟩
  have K1 := hid (K0.out.below hb K0.out.lt)
  have B1 := hid (B0.out.trans (hb.mono (by have := K0.out.lt; omega)))
  clear hb K0 B0
  rcases (show 200 < s.size ∨ s.size ≤ 200 by omega) with hz | hz
  · go_wp2
    go_ret
    exact ⟨rfl, by rw [HK.out]; exact B1.out⟩
  obtain ⟨c0, c1, c2, c3, c4, c5, c6, c7⟩ := K1.out.eight
  cases o
  case' false =>
    go_wp2_with fail
    clear c0 c1 c2 c3 c4 c5 c6 c7
    with_reducible refine (ashow_no f _ HO.out).mono ?_
    rintro e w2 ⟨rfl, hb⟩
    have K2 := hid (K1.out.below hb K1.out.lt)
    have B2 := hid (B1.out.trans (hb.mono (by have := K1.out.lt; omega)))
    clear hb K1 B1
    obtain ⟨c0, c1, c2, c3, c4, c5, c6, c7⟩ := K2.out.eight
    go_wp2_with fail
    clear c0 c1 c2 c3 c4 c5 c6 c7
    with_reducible refine (refaright8 f _).mono ?_
    rw [HO.out]
    rintro e w3 ⟨rfl, hb⟩
    have K3 := hid (K2.out.below hb K2.out.lt)
    have B3 := hid (B2.out.trans (hb.mono (by have := K2.out.lt; omega)))
    clear hb K2 B2
    go_upto_region 12 with fail
  case' true =>
    have HT0 := hid (textA_len HO.out)
    have hLo := HLL.out _ B1.out
    go_wp2_with fail
    clear c0 c1 c2 c3 c4 c5 c6 c7
    with_reducible refine (ashow_yes f _ hLo HO.out).mono ?_
    rintro e w2 ⟨⟨t, rfl, ht⟩, hb⟩
    have hts : t.size ≤ 200 := by have h1 := HT0.out; rw [← ht, Sb_length] at h1; exact h1
    have HT := hid ht
    have K2 := hid (K1.out.below hb K1.out.lt)
    have B2 := hid (B1.out.trans (hb.mono (by have := K1.out.lt; omega)))
    clear hb ht hLo K1 B1 HT0
    obtain ⟨c0, c1, c2, c3, c4, c5, c6, c7⟩ := K2.out.eight
    go_wp2_with fail
    clear c0 c1 c2 c3 c4 c5 c6 c7
    with_reducible refine (refaright8 f _).mono ?_
    rw [HO.out]
    rintro e w3 ⟨rfl, hb⟩
    have K3 := hid (K2.out.below hb K2.out.lt)
    have B3 := hid (B2.out.trans (hb.mono (by have := K2.out.lt; omega)))
    have L3 := hid (HLL.out _ B3.out)
    clear hb K2 B2
    go_wp2_with fail
    with_reducible refine (read_any9 t _ (by omega) L3.out).mono ?_
    rintro e w4 ⟨hb, ⟨V, hv, htv, rfl⟩ | ⟨hno, _⟩⟩
    case inr => exact absurd HT.out.symm (hno f HO.out)
    have EQ := eq_attr V f true (text_same HO.out hv (htv.trans HT.out))
    have EG := attr_guard
    have K4 := hid (K3.out.below hb K3.out.lt)
    have B4 := hid (B3.out.trans (hb.mono (by have := K3.out.lt; omega)))
    clear hb hv htv K3 B3 L3
    go_upto_region 10 with fail
    obtain ⟨W5, hW5⟩ : ∃ W5, w4.alloc (.cells #[.int .i64 (V 0), .int .i64 (V 1), .int .i64 (V 2), .int .i64 (V 3), .int .i64 (V 4), .int .i64 (V 5), .int .i64 (V 6), .int .i64 (V 7)] 24) = W5 := ⟨_, rfl⟩
    rw [hW5]
    obtain ⟨M5, hb⟩ := one_new hW5
    rw [show #[.int .i64 (V 0), .int .i64 (V 1), .int .i64 (V 2), .int .i64 (V 3), .int .i64 (V 4), .int .i64 (V 5), .int .i64 (V 6), .int .i64 (V 7)] = rowA V from rfl] at M5
    have D5 := hid (show Two W5 k w4.heap.size f V from ⟨K4.out.below hb.out K4.out.lt, M5.out⟩)
    have B5 := hid (B4.out.trans (hb.out.mono (by have := K4.out.lt; omega)))
    obtain ⟨g, hg⟩ : ∃ g, w4.heap.size = g := ⟨_, rfl⟩
    rw [hg] at D5 ⊢
    clear hW5 hb hg M5 K4 B4
    obtain ⟨⟨c0, c1, c2, c3, c4, c5, c6, c7⟩, _⟩ := D5.out.open
    go_wp2_with fail
    clear c0 c1 c2 c3 c4 c5 c6 c7
    with_reducible refine (text_any f _ HO.out).mono ?_
    rintro e w6 ⟨r, rfl, hr, hb⟩
    obtain rfl : r = t := Sb_inj.1 (hr.trans HT.out.symm)
    have D6 := hid (D5.out.on hb)
    have B6 := hid (B5.out.trans (hb.mono (by have := D5.out.1.lt; omega)))
    clear hr hb D5 B5
    obtain ⟨⟨c0, c1, c2, c3, c4, c5, c6, c7⟩, ⟨d0, d1, d2, d3, d4, d5, d6, d7⟩⟩ := D6.out.open
    go_upto_region 12 with fail
    clear c0 c1 c2 c3 c4 c5 c6 c7 d0 d1 d2 d3 d4 d5 d6 d7 EQ EG
    obtain ⟨w3, hw3⟩ : ∃ w3, w6 = w3 := ⟨_, rfl⟩
    have B3 := B6
    rw [hw3] at B3 ⊢
    clear hw3 D6 B6
  all_goals
    have L3 := hid (HLL.out _ B3.out)
    have hk3 : k ≤ w3.heap.size := by have := B3.out.size; have := HK.out; omega
    go_wp2_with fail
    with_reducible refine (read_any9 s _ (by omega) L3.out).mono ?_
    rintro e w7 ⟨hb, ⟨V, hv, htv, rfl⟩ | ⟨_, rfl⟩⟩
    · have HV := hid hv
      have HTV := hid htv
      have B7 := hid (B3.out.trans (hb.mono hk3))
      have hk7 : k ≤ w7.heap.size := by have := hb.size; omega
      clear hb hv htv L3 B3 hk3
      go_upto_region 13 with fail
      obtain ⟨W8, hW8⟩ : ∃ W8, w7.alloc (.cells #[.int .i64 (V 0), .int .i64 (V 1), .int .i64 (V 2), .int .i64 (V 3), .int .i64 (V 4), .int .i64 (V 5), .int .i64 (V 6), .int .i64 (V 7)] 24) = W8 := ⟨_, rfl⟩
      rw [hW8]
      obtain ⟨M8, hb⟩ := one_new hW8
      rw [show #[.int .i64 (V 0), .int .i64 (V 1), .int .i64 (V 2), .int .i64 (V 3), .int .i64 (V 4), .int .i64 (V 5), .int .i64 (V 6), .int .i64 (V 7)] = rowA V from rfl] at M8
      have B8 := hid (B7.out.trans (hb.out.mono hk7))
      clear hW8 hb B7
      obtain ⟨g8, hg8⟩ : ∃ g8, w7.heap.size = g8 := ⟨_, rfl⟩
      rw [hg8] at M8 hk7 ⊢
      clear hg8
      obtain ⟨c0, c1, c2, c3, c4, c5, c6, c7⟩ := M8.out.eight
      go_wp2_with fail
      clear c0 c1 c2 c3 c4 c5 c6 c7
      with_reducible refine (refaright8 V _).mono ?_
      rw [HV.out]
      rintro e w9 ⟨rfl, hb⟩
      have M9 := hid (M8.out.below hb M8.out.lt)
      have B9 := hid (B8.out.trans (hb.mono (by have := M8.out.lt; omega)))
      clear hb M8 B8
      obtain ⟨c0, c1, c2, c3, c4, c5, c6, c7⟩ := M9.out.eight
      go_wp2_with fail
      clear c0 c1 c2 c3 c4 c5 c6 c7
      with_reducible refine (text_any V _ HV.out).mono ?_
      rintro e w10 ⟨r9, rfl, hr, hb⟩
      obtain rfl : r9 = s := Sb_inj.1 (hr.trans HTV.out)
      have B10 := hid (B9.out.trans (hb.mono (by have := M9.out.lt; omega)))
      clear hr hb
      go_wp2
      go_ret
      exact ⟨ret_bool (by simp), by rw [HK.out]; exact B10.out⟩
    · have B7 := hid (B3.out.trans (hb.mono hk3))
      have hk7 : k ≤ w7.heap.size := by have := hb.size; omega
      clear hb L3 B3 hk3
      go_upto_region 13 with fail
      obtain ⟨W8, hW8⟩ : ∃ W8, w7.alloc (.cells #[.int .i64 0, .int .i64 0, .int .i64 0, .int .i64 0, .int .i64 0, .int .i64 0, .int .i64 0, .int .i64 0] 24) = W8 := ⟨_, rfl⟩
      rw [hW8]
      obtain ⟨M8, hb⟩ := one_new hW8
      rw [zeros_row] at M8
      have B8 := hid (B7.out.trans (hb.out.mono hk7))
      clear hW8 hb B7
      obtain ⟨g8, hg8⟩ : ∃ g8, w7.heap.size = g8 := ⟨_, rfl⟩
      rw [hg8] at M8 hk7 ⊢
      clear hg8
      have EQ := eq_attr (fun _ => 0) (fun _ => 0) true (eqA_self _)
      have EG := attr_guard
      obtain ⟨c0, c1, c2, c3, c4, c5, c6, c7⟩ := M8.out.eight
      go_wp2
      go_ret
      exact ⟨ret_bool (by simp), by rw [HK.out]; exact B8.out⟩

theorem walk (f : Nat → Int) (s : ByteArray) (hs : s.size ≤ maxLen) (w : World) (hL : Laid w) :
    Calls Tryd.prog 3 #[.agg #[.int .i64 (f 0), .int .i64 (f 1), .int .i64 (f 2), .int .i64 (f 3), .int .i64 (f 4), .int .i64 (f 5), .int .i64 (f 6), .int .i64 (f 7)], .string s] w fun e w' => e = .returned (.bool true) ∧ Below w.heap.size w w' := walk_any f s w hL

end Go.Proofs.YtfpmmajgnijboaaDoor.attrTexts
