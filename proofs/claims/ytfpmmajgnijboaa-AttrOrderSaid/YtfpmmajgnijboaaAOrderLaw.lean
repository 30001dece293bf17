/-
  AttrOrder: for any three attributes and any name the law's call returns true: to lie within is an order, and what is covered stays covered. No condition.
-/
import Derived.Test.YtfpmmajgnijboaaAKit
import Derived.ProofKit
import Derived.OpenShut
import Derived.Lib.SmallJoins
namespace Go.Proofs.Ytfpmmajgnijboaa.attrOrder
open Go.ChangeShapes Go.WideShapes Go.ChangeAt Go.RowKit Go.Joins
set_option linter.unusedVariables false
set_option linter.unusedSimpArgs false

theorem within_self (f : Nat → Int) : inB f f = true := inB_iff.2 fun i _ => Int.le_refl _
theorem within_same {f g : Nat → Int} (h1 : inB f g = true) (h2 : inB g f = true) : eqA f g = true := eqA_iff.2 fun i hi => by
  have := inB_iff.1 h1 i hi
  have := inB_iff.1 h2 i hi
  omega
theorem within_trans {f g h : Nat → Int} (h1 : inB f g = true) (h2 : inB g h = true) : inB f h = true := inB_iff.2 fun i hi => by
  have := inB_iff.1 h1 i hi
  have := inB_iff.1 h2 i hi
  omega
theorem within_covers {f g : Nat → Int} {r s : Int} (h1 : inB f g = true) (h2 : covB f r s = true) : covB g r s = true := by
  unfold covB at h2 ⊢
  rw [Bool.and_eq_true, decide_eq_true_eq] at h2 ⊢
  refine ⟨h2.1, ?_⟩
  obtain ⟨a, b, rfl, rfl, ha, hb, _⟩ := name_in h2.1
  have := inB_iff.1 h1 (1 + (a : Int).toNat) (by simp; omega)
  omega

/-- The three boxes and the name's. -/
def Four (W : World) (k : Nat) (f g h : Nat → Int) (r s : Int) : Prop := Three W k f g h ∧ Blk W (k + 1 + 1 + 1) 33 #[.int .i64 r, .int .i64 s]
theorem Four.on {W W' : World} {k : Nat} {f g h : Nat → Int} {r s : Int} (H : Four W k f g h r s) (hb : Below W.heap.size W W') : Four W' k f g h r s := ⟨H.1.on hb, H.2.below hb H.2.lt⟩
theorem Four.open {W : World} {k : Nat} {f g h : Nat → Int} {r s : Int} (H : Four W k f g h r s) : Eight W k f ∧ Eight W (k + 1) g ∧ Eight W (k + 1 + 1) h ∧ (W.cell? ⟨k + 1 + 1 + 1, 0, none⟩ = some (.int .i64 r) ∧ W.cell? ⟨k + 1 + 1 + 1, 1, none⟩ = some (.int .i64 s)) := ⟨H.1.1.eight, H.1.2.1.eight, H.1.2.2.eight, (blkn H.2).1⟩
theorem four_at {w W : World} {f g h : Nat → Int} {r s : Int} (hW : (((w.alloc (.cells #[.int .i64 (f 0), .int .i64 (f 1), .int .i64 (f 2), .int .i64 (f 3), .int .i64 (f 4), .int .i64 (f 5), .int .i64 (f 6), .int .i64 (f 7)] 24)).alloc (.cells #[.int .i64 (g 0), .int .i64 (g 1), .int .i64 (g 2), .int .i64 (g 3), .int .i64 (g 4), .int .i64 (g 5), .int .i64 (g 6), .int .i64 (g 7)] 24)).alloc (.cells #[.int .i64 (h 0), .int .i64 (h 1), .int .i64 (h 2), .int .i64 (h 3), .int .i64 (h 4), .int .i64 (h 5), .int .i64 (h 6), .int .i64 (h 7)] 24)).alloc (.cells #[.int .i64 r, .int .i64 s] 33) = W) :
    Hid (Four W w.heap.size f g h r s) ∧ Hid (Below w.heap.size w W) := by
  obtain ⟨W1, hW1⟩ : ∃ W1, ((w.alloc (.cells #[.int .i64 (f 0), .int .i64 (f 1), .int .i64 (f 2), .int .i64 (f 3), .int .i64 (f 4), .int .i64 (f 5), .int .i64 (f 6), .int .i64 (f 7)] 24)).alloc (.cells #[.int .i64 (g 0), .int .i64 (g 1), .int .i64 (g 2), .int .i64 (g 3), .int .i64 (g 4), .int .i64 (g 5), .int .i64 (g 6), .int .i64 (g 7)] 24)).alloc (.cells #[.int .i64 (h 0), .int .i64 (h 1), .int .i64 (h 2), .int .i64 (h 3), .int .i64 (h 4), .int .i64 (h 5), .int .i64 (h 6), .int .i64 (h 7)] 24) = W1 := ⟨_, rfl⟩
  have hz : W1.heap.size = w.heap.size + 1 + 1 + 1 := by rw [← hW1]; simp
  rw [hW1] at hW
  obtain ⟨h1, h2⟩ := three_at hW1
  obtain ⟨h3, h4⟩ := one_new hW
  rw [hz] at h3
  exact ⟨hid ⟨h1.out.on h4.out, h3.out⟩, hid (h2.out.trans (h4.out.mono (by omega)))⟩

set_option maxRecDepth 100000 in
set_option maxHeartbeats 4000000 in
theorem walk (f g h : Nat → Int) (r s : Int) (w : World) :
    Calls Try.prog 7 #[.agg #[.int .i64 (f 0), .int .i64 (f 1), .int .i64 (f 2), .int .i64 (f 3), .int .i64 (f 4), .int .i64 (f 5), .int .i64 (f 6), .int .i64 (f 7)], .agg #[.int .i64 (g 0), .int .i64 (g 1), .int .i64 (g 2), .int .i64 (g 3), .int .i64 (g 4), .int .i64 (g 5), .int .i64 (g 6), .int .i64 (g 7)], .agg #[.int .i64 (h 0), .int .i64 (h 1), .int .i64 (h 2), .int .i64 (h 3), .int .i64 (h 4), .int .i64 (h 5), .int .i64 (h 6), .int .i64 (h 7)], nm r s] w fun e w' => e = .returned (.bool true) ∧ Below w.heap.size w w' := by
  obtain ⟨b1, hb1⟩ : ∃ b, inB f g = b := ⟨_, rfl⟩
  obtain ⟨b2, hb2⟩ : ∃ b, inB g f = b := ⟨_, rfl⟩
  obtain ⟨b3, hb3⟩ : ∃ b, inB g h = b := ⟨_, rfl⟩
  obtain ⟨v1, hv1⟩ : ∃ b, covB f r s = b := ⟨_, rfl⟩
  have I0 := hid (within_self f)
  have I1 := hid hb1
  have I2 := hid hb2
  have I3 := hid hb3
  have V1 := hid hv1
  have I4 : Hid (b1 = true → b3 = true → inB f h = true) := hid (fun x y => within_trans (hb1.trans x) (hb3.trans y))
  have V2 : Hid (b1 = true → v1 = true → covB g r s = true) := hid (fun x y => within_covers (hb1.trans x) (hv1.trans y))
  have Q : Hid (b1 = true → b2 = true → eqA f g = true) := hid (fun x y => within_same (hb1.trans x) (hb2.trans y))
  clear hb1 hb2 hb3 hv1
  go_enter Try.func7, Try.ntmps7
  go_upto_region 1 with fail
  obtain ⟨W, hW⟩ : ∃ W, (((w.alloc (.cells #[.int .i64 (f 0), .int .i64 (f 1), .int .i64 (f 2), .int .i64 (f 3), .int .i64 (f 4), .int .i64 (f 5), .int .i64 (f 6), .int .i64 (f 7)] 24)).alloc (.cells #[.int .i64 (g 0), .int .i64 (g 1), .int .i64 (g 2), .int .i64 (g 3), .int .i64 (g 4), .int .i64 (g 5), .int .i64 (g 6), .int .i64 (g 7)] 24)).alloc (.cells #[.int .i64 (h 0), .int .i64 (h 1), .int .i64 (h 2), .int .i64 (h 3), .int .i64 (h 4), .int .i64 (h 5), .int .i64 (h 6), .int .i64 (h 7)] 24)).alloc (.cells #[.int .i64 r, .int .i64 s] 33) = W := ⟨_, rfl⟩
  rw [hW]
  obtain ⟨D0, B0⟩ := four_at hW
  clear hW
  obtain ⟨k, hk⟩ : ∃ k, w.heap.size = k := ⟨_, rfl⟩
  rw [hk] at D0 B0
  rw [hk]
  have HK := hid hk
  clear hk
  go_wp2_with fail
  with_reducible refine (anchor9 _).mono ?_
  rintro e w1 ⟨rfl, hb⟩
  have D1 := hid (D0.out.on hb)
  have B1 := hid (B0.out.trans (hb.mono (by have := D0.out.1.1.lt; omega)))
  clear hb D0 B0
  obtain ⟨⟨c0, c1, c2, c3, c4, c5, c6, c7⟩, _, _, _⟩ := D1.out.open
  go_wp2_with fail
  with_reducible refine (within8 f f _).mono ?_
  rw [I0.out]
  rintro e w2 ⟨rfl, hb⟩
  clear c0 c1 c2 c3 c4 c5 c6 c7
  have D2 := hid (D1.out.on hb)
  have B2 := hid (B1.out.trans (hb.mono (by have := D1.out.1.1.lt; omega)))
  clear hb D1 B1
  obtain ⟨⟨c0, c1, c2, c3, c4, c5, c6, c7⟩, ⟨d0, d1, d2, d3, d4, d5, d6, d7⟩, _, _⟩ := D2.out.open
  go_wp2_with fail
  with_reducible refine (within8 f g _).mono ?_
  rw [I1.out]
  rintro e w3 ⟨rfl, hb⟩
  clear c0 c1 c2 c3 c4 c5 c6 c7 d0 d1 d2 d3 d4 d5 d6 d7
  have D3 := hid (D2.out.on hb)
  have B3 := hid (B2.out.trans (hb.mono (by have := D2.out.1.1.lt; omega)))
  clear hb D2 B2
  cases b1
  · have X := trivial
    obtain ⟨⟨c0, c1, c2, c3, c4, c5, c6, c7⟩, ⟨d0, d1, d2, d3, d4, d5, d6, d7⟩, _, _⟩ := D3.out.open
    go_wp2_with fail
    with_reducible refine (within8 f g _).mono ?_
    rw [I1.out]
    rintro e w4 ⟨rfl, hb⟩
    clear c0 c1 c2 c3 c4 c5 c6 c7 d0 d1 d2 d3 d4 d5 d6 d7
    have D4 := hid (D3.out.on hb)
    have B4 := hid (B3.out.trans (hb.mono (by have := D3.out.1.1.lt; omega)))
    clear hb D3 B3
    obtain ⟨⟨c0, c1, c2, c3, c4, c5, c6, c7⟩, ⟨d0, d1, d2, d3, d4, d5, d6, d7⟩, _, _⟩ := D4.out.open
    go_wp2_with fail
    with_reducible refine (within8 f g _).mono ?_
    rw [I1.out]
    rintro e w5 ⟨rfl, hb⟩
    clear c0 c1 c2 c3 c4 c5 c6 c7 d0 d1 d2 d3 d4 d5 d6 d7
    have D5 := hid (D4.out.on hb)
    have B5 := hid (B4.out.trans (hb.mono (by have := D4.out.1.1.lt; omega)))
    clear hb D4 B4
    go_wp2
    go_ret
    exact ⟨rfl, by rw [HK.out]; exact B5.out⟩
  obtain ⟨⟨c0, c1, c2, c3, c4, c5, c6, c7⟩, ⟨d0, d1, d2, d3, d4, d5, d6, d7⟩, _, _⟩ := D3.out.open
  go_wp2_with fail
  with_reducible refine (within8 g f _).mono ?_
  rw [I2.out]
  rintro e w4 ⟨rfl, hb⟩
  clear c0 c1 c2 c3 c4 c5 c6 c7 d0 d1 d2 d3 d4 d5 d6 d7
  have D4 := hid (D3.out.on hb)
  have B4 := hid (B3.out.trans (hb.mono (by have := D3.out.1.1.lt; omega)))
  clear hb D3 B3
  have EG := attr_guard
  cases b2
  case' true => have EQ := eq_attr f g true (by simpa using Q.out)
  all_goals
    obtain ⟨⟨c0, c1, c2, c3, c4, c5, c6, c7⟩, ⟨d0, d1, d2, d3, d4, d5, d6, d7⟩, _, _⟩ := D4.out.open
    go_wp2_with fail
    with_reducible refine (within8 f g _).mono ?_
    rw [I1.out]
    rintro e w5 ⟨rfl, hb⟩
    clear c0 c1 c2 c3 c4 c5 c6 c7 d0 d1 d2 d3 d4 d5 d6 d7
    have D5 := hid (D4.out.on hb)
    have B5 := hid (B4.out.trans (hb.mono (by have := D4.out.1.1.lt; omega)))
    clear hb D4 B4
    clear EG
    try clear EQ
    obtain ⟨_, ⟨d0, d1, d2, d3, d4, d5, d6, d7⟩, ⟨e0, e1, e2, e3, e4, e5, e6, e7⟩, _⟩ := D5.out.open
    go_wp2_with fail
    with_reducible refine (within8 g h _).mono ?_
    rw [I3.out]
    rintro e w6 ⟨rfl, hb⟩
    clear d0 d1 d2 d3 d4 d5 d6 d7 e0 e1 e2 e3 e4 e5 e6 e7
    have D6 := hid (D5.out.on hb)
    have B6 := hid (B5.out.trans (hb.mono (by have := D5.out.1.1.lt; omega)))
    clear hb D5 B5
    cases b3
    · have X := trivial
      obtain ⟨⟨c0, c1, c2, c3, c4, c5, c6, c7⟩, ⟨d0, d1, d2, d3, d4, d5, d6, d7⟩, _, _⟩ := D6.out.open
      go_wp2_with fail
      with_reducible refine (within8 f g _).mono ?_
      rw [I1.out]
      rintro e w7 ⟨rfl, hb⟩
      clear c0 c1 c2 c3 c4 c5 c6 c7 d0 d1 d2 d3 d4 d5 d6 d7
      have D7 := hid (D6.out.on hb)
      have B7 := hid (B6.out.trans (hb.mono (by have := D6.out.1.1.lt; omega)))
      clear hb D6 B6
      obtain ⟨⟨c0, c1, c2, c3, c4, c5, c6, c7⟩, _, _, ⟨i0, i1⟩⟩ := D7.out.open
      go_wp2_with fail
      with_reducible refine (covers8 f r s _).mono ?_
      rw [V1.out]
      rintro e w8 ⟨rfl, hb⟩
      clear c0 c1 c2 c3 c4 c5 c6 c7 i0 i1
      have D8 := hid (D7.out.on hb)
      have B8 := hid (B7.out.trans (hb.mono (by have := D7.out.1.1.lt; omega)))
      clear hb D7 B7
      cases v1
      · have X := trivial
        go_wp2
        go_ret
        exact ⟨rfl, by rw [HK.out]; exact B8.out⟩
      obtain ⟨_, ⟨d0, d1, d2, d3, d4, d5, d6, d7⟩, _, ⟨i0, i1⟩⟩ := D8.out.open
      go_wp2_with fail
      with_reducible refine (covers8 g r s _).mono ?_
      rw [show covB g r s = true by simpa using V2.out]
      rintro e w9 ⟨rfl, hb⟩
      clear d0 d1 d2 d3 d4 d5 d6 d7 i0 i1
      have D9 := hid (D8.out.on hb)
      have B9 := hid (B8.out.trans (hb.mono (by have := D8.out.1.1.lt; omega)))
      clear hb D8 B8
      go_wp2
      go_ret
      exact ⟨rfl, by rw [HK.out]; exact B9.out⟩
    obtain ⟨⟨c0, c1, c2, c3, c4, c5, c6, c7⟩, _, ⟨e0, e1, e2, e3, e4, e5, e6, e7⟩, _⟩ := D6.out.open
    go_wp2_with fail
    with_reducible refine (within8 f h _).mono ?_
    rw [show inB f h = true by simpa using I4.out]
    rintro e w7 ⟨rfl, hb⟩
    clear c0 c1 c2 c3 c4 c5 c6 c7 e0 e1 e2 e3 e4 e5 e6 e7
    have D7 := hid (D6.out.on hb)
    have B7 := hid (B6.out.trans (hb.mono (by have := D6.out.1.1.lt; omega)))
    clear hb D6 B6
    obtain ⟨⟨c0, c1, c2, c3, c4, c5, c6, c7⟩, ⟨d0, d1, d2, d3, d4, d5, d6, d7⟩, _, _⟩ := D7.out.open
    go_wp2_with fail
    with_reducible refine (within8 f g _).mono ?_
    rw [I1.out]
    rintro e w8 ⟨rfl, hb⟩
    clear c0 c1 c2 c3 c4 c5 c6 c7 d0 d1 d2 d3 d4 d5 d6 d7
    have D8 := hid (D7.out.on hb)
    have B8 := hid (B7.out.trans (hb.mono (by have := D7.out.1.1.lt; omega)))
    clear hb D7 B7
    obtain ⟨⟨c0, c1, c2, c3, c4, c5, c6, c7⟩, _, _, ⟨i0, i1⟩⟩ := D8.out.open
    go_wp2_with fail
    with_reducible refine (covers8 f r s _).mono ?_
    rw [V1.out]
    rintro e w9 ⟨rfl, hb⟩
    clear c0 c1 c2 c3 c4 c5 c6 c7 i0 i1
    have D9 := hid (D8.out.on hb)
    have B9 := hid (B8.out.trans (hb.mono (by have := D8.out.1.1.lt; omega)))
    clear hb D8 B8
    cases v1
    · have X := trivial
      go_wp2
      go_ret
      exact ⟨rfl, by rw [HK.out]; exact B9.out⟩
    obtain ⟨_, ⟨d0, d1, d2, d3, d4, d5, d6, d7⟩, _, ⟨i0, i1⟩⟩ := D9.out.open
    go_wp2_with fail
    with_reducible refine (covers8 g r s _).mono ?_
    rw [show covB g r s = true by simpa using V2.out]
    rintro e w10 ⟨rfl, hb⟩
    clear d0 d1 d2 d3 d4 d5 d6 d7 i0 i1
    have D10 := hid (D9.out.on hb)
    have B10 := hid (B9.out.trans (hb.mono (by have := D9.out.1.1.lt; omega)))
    clear hb D9 B9
    go_wp2
    go_ret
    exact ⟨rfl, by rw [HK.out]; exact B10.out⟩

end Go.Proofs.Ytfpmmajgnijboaa.attrOrder
