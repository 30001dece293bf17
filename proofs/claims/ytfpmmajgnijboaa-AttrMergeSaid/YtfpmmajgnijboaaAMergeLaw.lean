/-
  AttrMerge: for any three attributes the law's call returns true: any two are merged as the document says; both lie within it, and it within each that both lie within; the order plays no part. No condition.
-/
import Derived.Test.YtfpmmajgnijboaaAKit
import Derived.Deep.RegionHeld3
namespace Go.Proofs.Ytfpmmajgnijboaa.attrMerge
open Go.ChangeShapes Go.WideShapes Go.ChangeAt Go.RowKit
set_option linter.unusedVariables false
set_option linter.unusedSimpArgs false

/-- All that the law has made. -/
def All6 (W : World) (k p q m : Nat) (f g h : Nat → Int) : Prop := Three W k f g h ∧ Blk W p 26 (rowA f) ∧ Blk W q 26 (rowA g) ∧ Blk W m 24 (rowA (mx f g))
theorem All6.on {W W' : World} {k p q m : Nat} {f g h : Nat → Int} (H : All6 W k p q m f g h) (hb : Below W.heap.size W W') : All6 W' k p q m f g h := ⟨H.1.on hb, H.2.1.below hb H.2.1.lt, H.2.2.1.below hb H.2.2.1.lt, H.2.2.2.below hb H.2.2.2.lt⟩
theorem All6.drew {W : World} {k p q m : Nat} {f g h : Nat → Int} (H : All6 W k p q m f g h) : All6 W.drew k p q m f g h := H
theorem All6.five {W : World} {k p q m : Nat} {f g h : Nat → Int} (H : All6 W k p q m f g h) : Eight W k f ∧ Eight W (k + 1) g ∧ Eight W p f ∧ Eight W q g ∧ Eight W m (mx f g) := ⟨H.1.1.eight, H.1.2.1.eight, H.2.1.eight, H.2.2.1.eight, H.2.2.2.eight⟩
theorem All6.four {W : World} {k p q m : Nat} {f g h : Nat → Int} (H : All6 W k p q m f g h) : Eight W k f ∧ Eight W (k + 1) g ∧ Eight W (k + 1 + 1) h ∧ Eight W m (mx f g) := ⟨H.1.1.eight, H.1.2.1.eight, H.1.2.2.eight, H.2.2.2.eight⟩
theorem made_two {w1 W2 : World} {k : Nat} {f g h : Nat → Int} (D : Three w1 k f g h) (hW : ((w1.alloc (.cells #[.int .i64 (g 0), .int .i64 (g 1), .int .i64 (g 2), .int .i64 (g 3), .int .i64 (g 4), .int .i64 (g 5), .int .i64 (g 6), .int .i64 (g 7)] 26)).alloc (.cells #[.int .i64 (f 0), .int .i64 (f 1), .int .i64 (f 2), .int .i64 (f 3), .int .i64 (f 4), .int .i64 (f 5), .int .i64 (f 6), .int .i64 (f 7)] 26)).drew = W2) :
    Hid (Three W2 k f g h) ∧ Hid (Blk W2 w1.heap.size 26 (rowA g)) ∧ Hid (Blk W2 (w1.heap.size + 1) 26 (rowA f)) ∧ Hid (Below w1.heap.size w1 W2) := by
  subst hW
  obtain ⟨h1, h2, h3⟩ := two_new (w := w1) (T := 26) (U := 26) (a := #[.int .i64 (g 0), .int .i64 (g 1), .int .i64 (g 2), .int .i64 (g 3), .int .i64 (g 4), .int .i64 (g 5), .int .i64 (g 6), .int .i64 (g 7)]) (b := #[.int .i64 (f 0), .int .i64 (f 1), .int .i64 (f 2), .int .i64 (f 3), .int .i64 (f 4), .int .i64 (f 5), .int .i64 (f 6), .int .i64 (f 7)]) rfl
  exact ⟨hid (D.on (below_drew h3.out)), hid h1.out.drew, hid h2.out.drew, hid (below_drew h3.out)⟩
/-- The first two boxes that it makes, in either order. -/
theorem made_one {w1 W2 : World} {k : Nat} {f g h : Nat → Int} (D : Three w1 k f g h) (hW : ((w1.alloc (.cells #[.int .i64 (f 0), .int .i64 (f 1), .int .i64 (f 2), .int .i64 (f 3), .int .i64 (f 4), .int .i64 (f 5), .int .i64 (f 6), .int .i64 (f 7)] 26)).alloc (.cells #[.int .i64 (g 0), .int .i64 (g 1), .int .i64 (g 2), .int .i64 (g 3), .int .i64 (g 4), .int .i64 (g 5), .int .i64 (g 6), .int .i64 (g 7)] 26)).drew = W2) :
    Hid (Three W2 k f g h) ∧ Hid (Blk W2 w1.heap.size 26 (rowA f)) ∧ Hid (Blk W2 (w1.heap.size + 1) 26 (rowA g)) ∧ Hid (Below w1.heap.size w1 W2) := by
  subst hW
  obtain ⟨h1, h2, h3⟩ := two_new (w := w1) (T := 26) (U := 26) (a := #[.int .i64 (f 0), .int .i64 (f 1), .int .i64 (f 2), .int .i64 (f 3), .int .i64 (f 4), .int .i64 (f 5), .int .i64 (f 6), .int .i64 (f 7)]) (b := #[.int .i64 (g 0), .int .i64 (g 1), .int .i64 (g 2), .int .i64 (g 3), .int .i64 (g 4), .int .i64 (g 5), .int .i64 (g 6), .int .i64 (g 7)]) rfl
  exact ⟨hid (D.on (below_drew h3.out)), hid h1.out.drew, hid h2.out.drew, hid (below_drew h3.out)⟩

set_option maxRecDepth 100000 in
set_option maxHeartbeats 4000000 in
theorem walk (f g h : Nat → Int) (w : World) :
    Calls Try.prog 3 #[.agg #[.int .i64 (f 0), .int .i64 (f 1), .int .i64 (f 2), .int .i64 (f 3), .int .i64 (f 4), .int .i64 (f 5), .int .i64 (f 6), .int .i64 (f 7)], .agg #[.int .i64 (g 0), .int .i64 (g 1), .int .i64 (g 2), .int .i64 (g 3), .int .i64 (g 4), .int .i64 (g 5), .int .i64 (g 6), .int .i64 (g 7)], .agg #[.int .i64 (h 0), .int .i64 (h 1), .int .i64 (h 2), .int .i64 (h 3), .int .i64 (h 4), .int .i64 (h 5), .int .i64 (h 6), .int .i64 (h 7)]] w fun e w' => e = .returned (.bool true) ∧ Below w.heap.size w w' := by
  go_enter Try.func3, Try.ntmps3
  go_upto_region 1 with fail
  obtain ⟨W, hW⟩ : ∃ W, ((w.alloc (.cells #[.int .i64 (f 0), .int .i64 (f 1), .int .i64 (f 2), .int .i64 (f 3), .int .i64 (f 4), .int .i64 (f 5), .int .i64 (f 6), .int .i64 (f 7)] 24)).alloc (.cells #[.int .i64 (g 0), .int .i64 (g 1), .int .i64 (g 2), .int .i64 (g 3), .int .i64 (g 4), .int .i64 (g 5), .int .i64 (g 6), .int .i64 (g 7)] 24)).alloc (.cells #[.int .i64 (h 0), .int .i64 (h 1), .int .i64 (h 2), .int .i64 (h 3), .int .i64 (h 4), .int .i64 (h 5), .int .i64 (h 6), .int .i64 (h 7)] 24) = W := ⟨_, rfl⟩
  rw [hW]
  obtain ⟨K, KB⟩ := three_at hW
  clear hW
  obtain ⟨k, hk⟩ : ∃ k, w.heap.size = k := ⟨_, rfl⟩
  rw [hk] at K KB
  rw [hk]
  have HK := hid hk
  clear hk
  go_wp2_with fail
  with_reducible refine (anchor9 _).mono ?_
  rintro e w1 ⟨rfl, hb1⟩
  have D := hid (K.out.on hb1)
  have DB := hid (KB.out.trans (hb1.mono (by have := K.out.1.lt; omega)))
  clear hb1 K KB
  obtain ⟨⟨c0, c1, c2, c3, c4, c5, c6, c7⟩, ⟨d0, d1, d2, d3, d4, d5, d6, d7⟩, _⟩ := D.out.eights
  have z0 := D.out.1.lt
  have z1 := D.out.2.1.lt
  go_upto_region 3 with fail
  go_region
  all_goals first
    | (obtain ⟨W2, hW2⟩ : ∃ W2, ((w1.alloc (.cells #[.int .i64 (f 0), .int .i64 (f 1), .int .i64 (f 2), .int .i64 (f 3), .int .i64 (f 4), .int .i64 (f 5), .int .i64 (f 6), .int .i64 (f 7)] 26)).alloc (.cells #[.int .i64 (g 0), .int .i64 (g 1), .int .i64 (g 2), .int .i64 (g 3), .int .i64 (g 4), .int .i64 (g 5), .int .i64 (g 6), .int .i64 (g 7)] 26)).drew = W2 := ⟨_, rfl⟩
       rw [hW2]
       obtain ⟨E, X, Y, EB⟩ := made_one D.out hW2
       obtain ⟨p, hp⟩ : ∃ p, w1.heap.size = p := ⟨_, rfl⟩
       obtain ⟨q, hq⟩ : ∃ q, w1.heap.size + 1 = q := ⟨_, rfl⟩
       rw [hq] at Y ⊢
       rw [hp] at X EB ⊢
       have hkp : k ≤ p := by omega)
    | (obtain ⟨W2, hW2⟩ : ∃ W2, ((w1.alloc (.cells #[.int .i64 (g 0), .int .i64 (g 1), .int .i64 (g 2), .int .i64 (g 3), .int .i64 (g 4), .int .i64 (g 5), .int .i64 (g 6), .int .i64 (g 7)] 26)).alloc (.cells #[.int .i64 (f 0), .int .i64 (f 1), .int .i64 (f 2), .int .i64 (f 3), .int .i64 (f 4), .int .i64 (f 5), .int .i64 (f 6), .int .i64 (f 7)] 26)).drew = W2 := ⟨_, rfl⟩
       rw [hW2]
       obtain ⟨E, Y, X, EB⟩ := made_two D.out hW2
       obtain ⟨p, hp⟩ : ∃ p, w1.heap.size + 1 = p := ⟨_, rfl⟩
       obtain ⟨q, hq⟩ : ∃ q, w1.heap.size = q := ⟨_, rfl⟩
       rw [hp] at X ⊢
       rw [hq] at Y EB ⊢
       have hkp : k ≤ q := by omega)
  all_goals
    have FB := hid (DB.out.trans (EB.out.mono hkp))
    clear hW2 EB hp hq hkp DB D z0 z1 c0 c1 c2 c3 c4 c5 c6 c7 d0 d1 d2 d3 d4 d5 d6 d7
    obtain ⟨⟨c0, c1, c2, c3, c4, c5, c6, c7⟩, ⟨d0, d1, d2, d3, d4, d5, d6, d7⟩, _⟩ := E.out.eights
    go_wp2_with fail
    with_reducible refine (merge8 f g _).mono ?_
    rintro e w3 ⟨rfl, hb3⟩
    clear c0 c1 c2 c3 c4 c5 c6 c7 d0 d1 d2 d3 d4 d5 d6 d7
    have E3 := hid (E.out.on hb3)
    have X3 := hid (X.out.below hb3 X.out.lt)
    have Y3 := hid (Y.out.below hb3 Y.out.lt)
    have FB3 := hid (FB.out.trans (hb3.mono (by have := E.out.1.lt; omega)))
    clear hb3 E X Y FB
    go_upto_region 5 with fail
    obtain ⟨W4, hW4⟩ : ∃ W4, w3.alloc (.cells #[.int .i64 (mx f g 0), .int .i64 (mx f g 1), .int .i64 (mx f g 2), .int .i64 (mx f g 3), .int .i64 (mx f g 4), .int .i64 (mx f g 5), .int .i64 (mx f g 6), .int .i64 (mx f g 7)] 24) = W4 := ⟨_, rfl⟩
    rw [hW4]
    obtain ⟨M4, hb4⟩ := one_new hW4
    have A0 := hid (show All6 W4 k p q w3.heap.size f g h from ⟨E3.out.on hb4.out, X3.out.below hb4.out X3.out.lt, Y3.out.below hb4.out Y3.out.lt, M4.out⟩)
    have FB4 := hid (FB3.out.trans (hb4.out.mono (by have := E3.out.1.lt; omega)))
    obtain ⟨m, hm⟩ : ∃ m, w3.heap.size = m := ⟨_, rfl⟩
    rw [hm] at A0 ⊢
    clear hW4 hm hb4 M4 E3 X3 Y3 FB3
    obtain ⟨b, hb⟩ : ∃ b, inB f g = b := ⟨_, rfl⟩
    obtain ⟨o, ho⟩ : ∃ o, okB f = o := ⟨_, rfl⟩
    have HB := hid hb
    have HO := hid ho
    have hbb : (b != b) = false := by simp
    have hoo : (o != o) = false := by simp
    clear hb ho
    have EQ := eq_refa (mx f g) (mx f g) true (eqA_self _)
    have EG := refa_guard
    go_region_held3 (fun w' => (w'.cell? ⟨k, 0, none⟩ = some (.int .i64 (f 0)) ∧ w'.cell? ⟨k, 1, none⟩ = some (.int .i64 (f 1)) ∧ w'.cell? ⟨k, 2, none⟩ = some (.int .i64 (f 2)) ∧ w'.cell? ⟨k, 3, none⟩ = some (.int .i64 (f 3)) ∧ w'.cell? ⟨k, 4, none⟩ = some (.int .i64 (f 4)) ∧ w'.cell? ⟨k, 5, none⟩ = some (.int .i64 (f 5)) ∧ w'.cell? ⟨k, 6, none⟩ = some (.int .i64 (f 6)) ∧ w'.cell? ⟨k, 7, none⟩ = some (.int .i64 (f 7))) ∧ (w'.cell? ⟨k + 1, 0, none⟩ = some (.int .i64 (g 0)) ∧ w'.cell? ⟨k + 1, 1, none⟩ = some (.int .i64 (g 1)) ∧ w'.cell? ⟨k + 1, 2, none⟩ = some (.int .i64 (g 2)) ∧ w'.cell? ⟨k + 1, 3, none⟩ = some (.int .i64 (g 3)) ∧ w'.cell? ⟨k + 1, 4, none⟩ = some (.int .i64 (g 4)) ∧ w'.cell? ⟨k + 1, 5, none⟩ = some (.int .i64 (g 5)) ∧ w'.cell? ⟨k + 1, 6, none⟩ = some (.int .i64 (g 6)) ∧ w'.cell? ⟨k + 1, 7, none⟩ = some (.int .i64 (g 7))) ∧ (w'.cell? ⟨p, 0, none⟩ = some (.int .i64 (f 0)) ∧ w'.cell? ⟨p, 1, none⟩ = some (.int .i64 (f 1)) ∧ w'.cell? ⟨p, 2, none⟩ = some (.int .i64 (f 2)) ∧ w'.cell? ⟨p, 3, none⟩ = some (.int .i64 (f 3)) ∧ w'.cell? ⟨p, 4, none⟩ = some (.int .i64 (f 4)) ∧ w'.cell? ⟨p, 5, none⟩ = some (.int .i64 (f 5)) ∧ w'.cell? ⟨p, 6, none⟩ = some (.int .i64 (f 6)) ∧ w'.cell? ⟨p, 7, none⟩ = some (.int .i64 (f 7))) ∧ (w'.cell? ⟨q, 0, none⟩ = some (.int .i64 (g 0)) ∧ w'.cell? ⟨q, 1, none⟩ = some (.int .i64 (g 1)) ∧ w'.cell? ⟨q, 2, none⟩ = some (.int .i64 (g 2)) ∧ w'.cell? ⟨q, 3, none⟩ = some (.int .i64 (g 3)) ∧ w'.cell? ⟨q, 4, none⟩ = some (.int .i64 (g 4)) ∧ w'.cell? ⟨q, 5, none⟩ = some (.int .i64 (g 5)) ∧ w'.cell? ⟨q, 6, none⟩ = some (.int .i64 (g 6)) ∧ w'.cell? ⟨q, 7, none⟩ = some (.int .i64 (g 7))) ∧ (w'.cell? ⟨m, 0, none⟩ = some (.int .i64 (mx f g 0)) ∧ w'.cell? ⟨m, 1, none⟩ = some (.int .i64 (mx f g 1)) ∧ w'.cell? ⟨m, 2, none⟩ = some (.int .i64 (mx f g 2)) ∧ w'.cell? ⟨m, 3, none⟩ = some (.int .i64 (mx f g 3)) ∧ w'.cell? ⟨m, 4, none⟩ = some (.int .i64 (mx f g 4)) ∧ w'.cell? ⟨m, 5, none⟩ = some (.int .i64 (mx f g 5)) ∧ w'.cell? ⟨m, 6, none⟩ = some (.int .i64 (mx f g 6)) ∧ w'.cell? ⟨m, 7, none⟩ = some (.int .i64 (mx f g 7))))
      (first | exact A0.out.five | exact A0.out.drew.five | exact A1.out.five | exact A2.out.five | exact A3.out.five | exact A4.out.five | exact A5.out.five)
      (first
        | (go_at_call 10; (with_reducible refine (refmerge8 f g _).mono ?_); rintro e x1 ⟨rfl, g1⟩; have A1 := hid (A0.out.drew.on g1))
        | (go_at_call 11; (with_reducible refine (within8 f g _).mono ?_); rw [HB.out]; rintro e x2 ⟨rfl, g2⟩; have A2 := hid (A1.out.on g2))
        | (go_at_call 12; (with_reducible refine (refwithin8 f g _).mono ?_); rw [HB.out]; rintro e x3 ⟨rfl, g3⟩; have A3 := hid (A2.out.on g3))
        | (go_at_call 13; (with_reducible refine (aright8 f _).mono ?_); rw [HO.out]; rintro e x4 ⟨rfl, g4⟩; have A4 := hid (A3.out.on g4))
        | (go_at_call 14; (with_reducible refine (refaright8 f _).mono ?_); rw [HO.out]; rintro e x5 ⟨rfl, g5⟩; have A5 := hid (A4.out.on g5)))
    have FB5 := hid ((((((below_drew FB4.out).trans (g1.mono (show k ≤ W4.heap.size by have := A0.out.1.1.lt; omega))).trans (g2.mono (by have := A1.out.1.1.lt; omega))).trans (g3.mono (by have := A2.out.1.1.lt; omega))).trans (g4.mono (by have := A3.out.1.1.lt; omega))).trans (g5.mono (by have := A4.out.1.1.lt; omega)))
    rename_i hHeld
    clear hHeld g1 g2 g3 g4 g5 A0 A1 A2 A3 A4 FB4 HB HO hbb hoo EQ EG
    have EG := attr_guard
    have EQ1 := eq_attr (mx f g) (mx g f) true (mx_comm f g)
    have EQ2 := eq_attr (mx f f) f true (mx_self f)
    have EQ3 := eq_attr (mx (mx f g) h) (mx f (mx g h)) true (mx_assoc f g h)
    have I1 := hid (inB_left f g)
    have I2 := hid (inB_right f g)
    go_wp2_with fail
    go_region_held3 (fun w' => (w'.cell? ⟨k, 0, none⟩ = some (.int .i64 (f 0)) ∧ w'.cell? ⟨k, 1, none⟩ = some (.int .i64 (f 1)) ∧ w'.cell? ⟨k, 2, none⟩ = some (.int .i64 (f 2)) ∧ w'.cell? ⟨k, 3, none⟩ = some (.int .i64 (f 3)) ∧ w'.cell? ⟨k, 4, none⟩ = some (.int .i64 (f 4)) ∧ w'.cell? ⟨k, 5, none⟩ = some (.int .i64 (f 5)) ∧ w'.cell? ⟨k, 6, none⟩ = some (.int .i64 (f 6)) ∧ w'.cell? ⟨k, 7, none⟩ = some (.int .i64 (f 7))) ∧ (w'.cell? ⟨k + 1, 0, none⟩ = some (.int .i64 (g 0)) ∧ w'.cell? ⟨k + 1, 1, none⟩ = some (.int .i64 (g 1)) ∧ w'.cell? ⟨k + 1, 2, none⟩ = some (.int .i64 (g 2)) ∧ w'.cell? ⟨k + 1, 3, none⟩ = some (.int .i64 (g 3)) ∧ w'.cell? ⟨k + 1, 4, none⟩ = some (.int .i64 (g 4)) ∧ w'.cell? ⟨k + 1, 5, none⟩ = some (.int .i64 (g 5)) ∧ w'.cell? ⟨k + 1, 6, none⟩ = some (.int .i64 (g 6)) ∧ w'.cell? ⟨k + 1, 7, none⟩ = some (.int .i64 (g 7))) ∧ (w'.cell? ⟨k + 1 + 1, 0, none⟩ = some (.int .i64 (h 0)) ∧ w'.cell? ⟨k + 1 + 1, 1, none⟩ = some (.int .i64 (h 1)) ∧ w'.cell? ⟨k + 1 + 1, 2, none⟩ = some (.int .i64 (h 2)) ∧ w'.cell? ⟨k + 1 + 1, 3, none⟩ = some (.int .i64 (h 3)) ∧ w'.cell? ⟨k + 1 + 1, 4, none⟩ = some (.int .i64 (h 4)) ∧ w'.cell? ⟨k + 1 + 1, 5, none⟩ = some (.int .i64 (h 5)) ∧ w'.cell? ⟨k + 1 + 1, 6, none⟩ = some (.int .i64 (h 6)) ∧ w'.cell? ⟨k + 1 + 1, 7, none⟩ = some (.int .i64 (h 7))) ∧ (w'.cell? ⟨m, 0, none⟩ = some (.int .i64 (mx f g 0)) ∧ w'.cell? ⟨m, 1, none⟩ = some (.int .i64 (mx f g 1)) ∧ w'.cell? ⟨m, 2, none⟩ = some (.int .i64 (mx f g 2)) ∧ w'.cell? ⟨m, 3, none⟩ = some (.int .i64 (mx f g 3)) ∧ w'.cell? ⟨m, 4, none⟩ = some (.int .i64 (mx f g 4)) ∧ w'.cell? ⟨m, 5, none⟩ = some (.int .i64 (mx f g 5)) ∧ w'.cell? ⟨m, 6, none⟩ = some (.int .i64 (mx f g 6)) ∧ w'.cell? ⟨m, 7, none⟩ = some (.int .i64 (mx f g 7))))
      (first | exact A5.out.four | exact A5.out.drew.four | exact C1.out.four | exact C2.out.four | exact C3.out.four | exact C4.out.four | exact C5.out.four | exact C6.out.four | exact C7.out.four | exact C8.out.four)
      (first
        | (go_at_call 11; (with_reducible refine (within8 f (mx f g) _).mono ?_); rw [I1.out]; rintro e y1 ⟨rfl, g1⟩; have C1 := hid (A5.out.drew.on g1))
        | (go_at_call 11; (with_reducible refine (within8 g (mx f g) _).mono ?_); rw [I2.out]; rintro e y2 ⟨rfl, g2⟩; have C2 := hid (C1.out.on g2))
        | (go_at_call 9; (with_reducible refine (merge8 g f _).mono ?_); rintro e y3 ⟨rfl, g3⟩; have C3 := hid (C2.out.on g3))
        | (go_at_call 9; (with_reducible refine (merge8 f f _).mono ?_); rintro e y4 ⟨rfl, g4⟩; have C4 := hid (C3.out.on g4))
        | (go_at_call 9; (with_reducible refine (merge8 f g _).mono ?_); rintro e y5 ⟨rfl, g5⟩; have C5 := hid (C4.out.on g5))
        | (go_at_call 9; (with_reducible refine (merge8 (mx f g) h _).mono ?_); rintro e y6 ⟨rfl, g6⟩; have C6 := hid (C5.out.on g6))
        | (go_at_call 9; (with_reducible refine (merge8 g h _).mono ?_); rintro e y7 ⟨rfl, g7⟩; have C7 := hid (C6.out.on g7))
        | (go_at_call 9; (with_reducible refine (merge8 f (mx g h) _).mono ?_); rintro e y8 ⟨rfl, g8⟩; have C8 := hid (C7.out.on g8)))
    have FB6 := hid (((((((((below_drew FB5.out).trans (g1.mono (show k ≤ x5.heap.size by have := A5.out.1.1.lt; omega))).trans (g2.mono (by have := C1.out.1.1.lt; omega))).trans (g3.mono (by have := C2.out.1.1.lt; omega))).trans (g4.mono (by have := C3.out.1.1.lt; omega))).trans (g5.mono (by have := C4.out.1.1.lt; omega))).trans (g6.mono (by have := C5.out.1.1.lt; omega))).trans (g7.mono (by have := C6.out.1.1.lt; omega))).trans (g8.mono (by have := C7.out.1.1.lt; omega)))
    rename_i hHeld
    clear hHeld g1 g2 g3 g4 g5 g6 g7 g8 A5 C1 C2 C3 C4 C5 C6 C7 FB5 EG EQ1 EQ2 EQ3 I1 I2
    obtain ⟨b1, hb1⟩ : ∃ b, inB f h = b := ⟨_, rfl⟩
    obtain ⟨b2, hb2⟩ : ∃ b, inB g h = b := ⟨_, rfl⟩
    have IL : Hid (b1 = true → b2 = true → inB (mx f g) h = true) := hid (fun x y => inB_least (hb1.trans x) (hb2.trans y))
    have I1 := hid hb1
    have I2 := hid hb2
    clear hb1 hb2
    obtain ⟨⟨c0, c1, c2, c3, c4, c5, c6, c7⟩, _, ⟨d0, d1, d2, d3, d4, d5, d6, d7⟩, _⟩ := C8.out.four
    go_wp2_with fail
    with_reducible refine (within8 f h _).mono ?_
    rw [I1.out]
    rintro e w7 ⟨rfl, hb7⟩
    clear c0 c1 c2 c3 c4 c5 c6 c7 d0 d1 d2 d3 d4 d5 d6 d7
    have H7 := hid (C8.out.on hb7)
    have FB7 := hid (FB6.out.trans (hb7.mono (by have := C8.out.1.1.lt; omega)))
    clear hb7 C8 FB6
    cases b1
    · go_wp2
      go_ret
      exact ⟨rfl, by rw [HK.out]; exact FB7.out⟩
    obtain ⟨_, ⟨c0, c1, c2, c3, c4, c5, c6, c7⟩, ⟨d0, d1, d2, d3, d4, d5, d6, d7⟩, _⟩ := H7.out.four
    go_wp2_with fail
    with_reducible refine (within8 g h _).mono ?_
    rw [I2.out]
    rintro e w8 ⟨rfl, hb8⟩
    clear c0 c1 c2 c3 c4 c5 c6 c7 d0 d1 d2 d3 d4 d5 d6 d7
    have H8 := hid (H7.out.on hb8)
    have FB8 := hid (FB7.out.trans (hb8.mono (by have := H7.out.1.1.lt; omega)))
    clear hb8 H7 FB7
    cases b2
    · go_wp2
      go_ret
      exact ⟨rfl, by rw [HK.out]; exact FB8.out⟩
    have I3 : Hid (inB (mx f g) h = true) := hid (by simpa using IL.out)
    obtain ⟨_, _, ⟨d0, d1, d2, d3, d4, d5, d6, d7⟩, ⟨c0, c1, c2, c3, c4, c5, c6, c7⟩⟩ := H8.out.four
    go_wp2_with fail
    with_reducible refine (within8 (mx f g) h _).mono ?_
    rw [I3.out]
    rintro e w9 ⟨rfl, hb9⟩
    clear c0 c1 c2 c3 c4 c5 c6 c7 d0 d1 d2 d3 d4 d5 d6 d7
    have FB9 := hid (FB8.out.trans (hb9.mono (by have := H8.out.1.1.lt; omega)))
    clear hb9 H8 FB8
    go_wp2
    go_ret
    exact ⟨rfl, by rw [HK.out]; exact FB9.out⟩

end Go.Proofs.Ytfpmmajgnijboaa.attrMerge
