/-
  Attributes off the document's own reader (moothillref09.Take).
-/
import Derived.Test.YtfpmmajgnijboaaATake
import Derived.Test.YtfpmmajgnijboaaAEq
import Derived.Test.YtfpmmajgnijboaaRefT
import Derived.Deep.Cut
namespace Go.Proofs.Ytfpmmajgnijboaa
open Go.ChangeShapes Go.WideShapes Go.ChangeAt Go.RowKit
set_option linter.unusedVariables false
set_option linter.unusedSimpArgs false

abbrev rd3 (A : Option Addr) (n c : Nat) (p e : Int) : Array Value := #[.slice A n c, .int .i64 p, .int .i64 e]

/-- Four boxes: the reader, its result's, the attributes' result's, and the attributes. -/
def Quad (w W : World) (k : Nat) (A : Option Addr) (n c p e : Nat) (F : Nat → Int) : Prop :=
  Blk W k 43 #[.slice A n c, .int .i64 (p : Int), .int .i64 (e : Int)] ∧ Blk W (k + 1) 43 #[.slice none 0 0, .int .i64 0, .int .i64 0] ∧ Blk W (k + 1 + 1) 26 (rowA fun _ => 0) ∧ Blk W (k + 1 + 1 + 1) 26 (rowA F) ∧ Below k w W
theorem Quad.on {w W W' : World} {k : Nat} {A : Option Addr} {n c p e : Nat} {F : Nat → Int} (H : Quad w W k A n c p e F) (hb : Below W.heap.size W W') : Quad w W' k A n c p e F :=
  ⟨H.1.below hb H.1.lt, H.2.1.below hb H.2.1.lt, H.2.2.1.below hb H.2.2.1.lt, H.2.2.2.1.below hb H.2.2.2.1.lt, H.2.2.2.2.trans (hb.mono (by have := H.1.lt; omega))⟩
theorem Quad.reader {w W : World} {k : Nat} {A : Option Addr} {n c p e p' e' : Nat} {F : Nat → Int} (H : Quad w W k A n c p e F) :
    Quad w (((W.setCell ⟨k, 0, none⟩ (.slice A n c)).setCell ⟨k, 1, none⟩ (.int .i64 (p' : Int))).setCell ⟨k, 2, none⟩ (.int .i64 (e' : Int))) k A n c p' e' F :=
  ⟨H.1.put3 _ _ _, H.2.1.put3_far (by omega) _ _ _, H.2.2.1.put3_far (by omega) _ _ _, H.2.2.2.1.put3_far (by omega) _ _ _, below_put3 H.2.2.2.2 (Nat.le_refl _) _ _ _⟩
theorem Quad.put {w W : World} {k : Nat} {A : Option Addr} {n c p e : Nat} {F : Nat → Int} (H : Quad w W k A n c p e F) (i : Nat) (x : Int) :
    Quad w (W.setCell ⟨k + 1 + 1 + 1, i, none⟩ (.int .i64 x)) k A n c p e (upd F i x) :=
  ⟨H.1.far (by simp <;> omega) _, H.2.1.far (by simp <;> omega) _, H.2.2.1.far (by simp <;> omega) _, H.2.2.2.1.attSet i x, H.2.2.2.2.setCell (by simp <;> omega) _⟩
theorem Quad.cells {w W : World} {k : Nat} {A : Option Addr} {n c p e : Nat} {F : Nat → Int} (H : Quad w W k A n c p e F) :
    ((W.cell? ⟨k, 0, none⟩ = some (.slice A n c) ∧ W.cell? ⟨k, 1, none⟩ = some (.int .i64 (p : Int)) ∧ W.cell? ⟨k, 2, none⟩ = some (.int .i64 (e : Int))) ∧ W.frozen? ⟨k, 0, none⟩ = false ∧ W.frozen? ⟨k, 1, none⟩ = false ∧ W.frozen? ⟨k, 2, none⟩ = false) := blk3 H.1

theorem quad_new {w W : World} {A : Option Addr} {n c p e : Nat} (hW : (((w.alloc (.cells #[.slice A n c, .int .i64 (p : Int), .int .i64 (e : Int)] 43)).alloc (.cells #[.slice none 0 0, .int .i64 0, .int .i64 0] 43)).alloc (.cells #[.int .i64 0, .int .i64 0, .int .i64 0, .int .i64 0, .int .i64 0, .int .i64 0, .int .i64 0, .int .i64 0] 26)).alloc (.cells #[.int .i64 0, .int .i64 0, .int .i64 0, .int .i64 0, .int .i64 0, .int .i64 0, .int .i64 0, .int .i64 0] 26) = W) :
    Quad w W w.heap.size A n c p e fun _ => 0 := by
  obtain ⟨W1, hW1⟩ : ∃ W1, ((w.alloc (.cells #[.slice A n c, .int .i64 (p : Int), .int .i64 (e : Int)] 43)).alloc (.cells #[.slice none 0 0, .int .i64 0, .int .i64 0] 43)).alloc (.cells #[.int .i64 0, .int .i64 0, .int .i64 0, .int .i64 0, .int .i64 0, .int .i64 0, .int .i64 0, .int .i64 0] 26) = W1 := ⟨_, rfl⟩
  have hz : W1.heap.size = w.heap.size + 1 + 1 + 1 := by rw [← hW1]; simp
  rw [hW1] at hW
  obtain ⟨h1, h2, h3, h4⟩ := three_new hW1
  obtain ⟨h5, h6⟩ := one_new hW
  rw [hz] at h5
  exact ⟨h1.out.below h6.out h1.out.lt, h2.out.below h6.out h2.out.lt, h3.out.below h6.out h3.out.lt, h5.out, h4.out.trans (h6.out.mono (by omega))⟩

theorem Quad.res {w W : World} {k : Nat} {A : Option Addr} {n c p e : Nat} {F : Nat → Int} (H : Quad w W k A n c p e F) : Blk W (k + 1) 43 #[.slice none 0 0, .int .i64 0, .int .i64 0] := H.2.1
theorem Quad.out_ {w W : World} {k : Nat} {A : Option Addr} {n c p e : Nat} {F : Nat → Int} (H : Quad w W k A n c p e F) : Blk W (k + 1 + 1) 26 (rowA fun _ => 0) := H.2.2.1
theorem Quad.att {w W : World} {k : Nat} {A : Option Addr} {n c p e : Nat} {F : Nat → Int} (H : Quad w W k A n c p e F) : Blk W (k + 1 + 1 + 1) 26 (rowA F) := H.2.2.2.1
theorem Quad.below {w W : World} {k : Nat} {A : Option Addr} {n c p e : Nat} {F : Nat → Int} (H : Quad w W k A n c p e F) : Below k w W := H.2.2.2.2

theorem put8_at {W : World} {g : Nat} {T : TypeId} {f : Nat → Int} (H : Blk W g T (rowA f)) (F : Nat → Int) : Blk ((((((((W.setCell ⟨g, 0, none⟩ (.int .i64 (F 0))).setCell ⟨g, 1, none⟩ (.int .i64 (F 1))).setCell ⟨g, 2, none⟩ (.int .i64 (F 2))).setCell ⟨g, 3, none⟩ (.int .i64 (F 3))).setCell ⟨g, 4, none⟩ (.int .i64 (F 4))).setCell ⟨g, 5, none⟩ (.int .i64 (F 5))).setCell ⟨g, 6, none⟩ (.int .i64 (F 6))).setCell ⟨g, 7, none⟩ (.int .i64 (F 7))) g T (rowA F) :=
  Blk.as ((((((((H.attSet 0 (F 0)).attSet 1 (F 1)).attSet 2 (F 2)).attSet 3 (F 3)).attSet 4 (F 4)).attSet 5 (F 5)).attSet 6 (F 6)).attSet 7 (F 7)) (rowA_congr fun i hi => by
    match i, hi with
    | 0, _ => rfl
    | 1, _ => rfl
    | 2, _ => rfl
    | 3, _ => rfl
    | 4, _ => rfl
    | 5, _ => rfl
    | 6, _ => rfl
    | 7, _ => rfl)
theorem put8_far {W : World} {g k : Nat} {T : TypeId} {cs : Array Value} (H : Blk W k T cs) (hg : k ≠ g) (F : Nat → Int) : Blk ((((((((W.setCell ⟨g, 0, none⟩ (.int .i64 (F 0))).setCell ⟨g, 1, none⟩ (.int .i64 (F 1))).setCell ⟨g, 2, none⟩ (.int .i64 (F 2))).setCell ⟨g, 3, none⟩ (.int .i64 (F 3))).setCell ⟨g, 4, none⟩ (.int .i64 (F 4))).setCell ⟨g, 5, none⟩ (.int .i64 (F 5))).setCell ⟨g, 6, none⟩ (.int .i64 (F 6))).setCell ⟨g, 7, none⟩ (.int .i64 (F 7))) k T cs := ((((((((H.far (p := ⟨g, 0, none⟩) hg (.int .i64 (F 0))).far (p := ⟨g, 1, none⟩) hg (.int .i64 (F 1))).far (p := ⟨g, 2, none⟩) hg (.int .i64 (F 2))).far (p := ⟨g, 3, none⟩) hg (.int .i64 (F 3))).far (p := ⟨g, 4, none⟩) hg (.int .i64 (F 4))).far (p := ⟨g, 5, none⟩) hg (.int .i64 (F 5))).far (p := ⟨g, 6, none⟩) hg (.int .i64 (F 6))).far (p := ⟨g, 7, none⟩) hg (.int .i64 (F 7)))
theorem put8_below {B g : Nat} {w W : World} (H : Below B w W) (hg : B ≤ g) (F : Nat → Int) : Below B w ((((((((W.setCell ⟨g, 0, none⟩ (.int .i64 (F 0))).setCell ⟨g, 1, none⟩ (.int .i64 (F 1))).setCell ⟨g, 2, none⟩ (.int .i64 (F 2))).setCell ⟨g, 3, none⟩ (.int .i64 (F 3))).setCell ⟨g, 4, none⟩ (.int .i64 (F 4))).setCell ⟨g, 5, none⟩ (.int .i64 (F 5))).setCell ⟨g, 6, none⟩ (.int .i64 (F 6))).setCell ⟨g, 7, none⟩ (.int .i64 (F 7))) := (Below.setCell (p := ⟨g, 7, none⟩) (Below.setCell (p := ⟨g, 6, none⟩) (Below.setCell (p := ⟨g, 5, none⟩) (Below.setCell (p := ⟨g, 4, none⟩) (Below.setCell (p := ⟨g, 3, none⟩) (Below.setCell (p := ⟨g, 2, none⟩) (Below.setCell (p := ⟨g, 1, none⟩) (Below.setCell (p := ⟨g, 0, none⟩) H hg (.int .i64 (F 0))) hg (.int .i64 (F 1))) hg (.int .i64 (F 2))) hg (.int .i64 (F 3))) hg (.int .i64 (F 4))) hg (.int .i64 (F 5))) hg (.int .i64 (F 6))) hg (.int .i64 (F 7)))

set_option maxRecDepth 100000 in
set_option maxHeartbeats 2000000 in
theorem refattake_as (S : Nat → List Nat × Nat × (Nat → Int)) (A : Option Addr) (L : List Nat) (n c p e : Nat) (l' : List Nat) (e' : Nat) (V : Nat → Int) (w : World) (hL : L.length = n) (hp : p ≤ n) (hl : n ≤ 9223372036854775807) (hc : n ≤ c) (hA0 : A = none → c = 0) (hx : ∀ x ∈ L, x < 256) (hA : Sees .u8 w A L)
    (hz : (S 0).1 = (sShort (rem L p e) e 1073741824).1 ∧ (S 0).2.1 = (sShort (rem L p e) e 1073741824).2.1 ∧ (S 0).2.2 = upd (fun _ => 0) 0 ((sShort (rem L p e) e 1073741824).2.2 : Nat))
    (hn : ∀ j, (S (j + 1)).1 = (sShort (S j).1 (S j).2.1 1024).1 ∧ (S (j + 1)).2.1 = (sShort (S j).1 (S j).2.1 1024).2.1 ∧ (S (j + 1)).2.2 = upd (S j).2.2 (1 + j) ((sShort (S j).1 (S j).2.1 1024).2.2 : Nat))
    (hE : l' = (S 7).1 ∧ e' = (S 7).2.1 ∧ V = if (S 7).2.1 = 0 then (S 7).2.2 else fun _ => 0) :
    Calls Try.prog 21 #[reader A n c (p : Int) (e : Int)] w (RefDoes A n L c l' e' (.agg (rowA V)) w) := by
  obtain ⟨l1, e1, v1, hs1⟩ : ∃ l1 e1 v1, sShort (rem L p e) e 1073741824 = (l1, e1, v1) := ⟨_, _, _, rfl⟩
  have hm1 : v1 ≤ 1073741824 := by have := sShort_most (l := rem L p e) (e := e) (most := 1073741824); rw [hs1] at this; exact this
  rw [hs1] at hz
  have HS0 := hid hz
  have HNX := hid hn
  have HEN := hid hE
  have HN := hid hL
  have HX := hid hx
  have HA0 := hid hA0
  have HS1 := hid hs1
  have HA := hid hA
  clear hz hn hE hL hx hA0 hs1 hA
  go_enter Try.func21, Try.ntmps21
  go_upto_region 2 with fail
  obtain ⟨W0, hW0⟩ : ∃ W0, (((w.alloc (.cells #[.slice A n c, .int .i64 (p : Int), .int .i64 (e : Int)] 43)).alloc (.cells #[.slice none 0 0, .int .i64 0, .int .i64 0] 43)).alloc (.cells #[.int .i64 0, .int .i64 0, .int .i64 0, .int .i64 0, .int .i64 0, .int .i64 0, .int .i64 0, .int .i64 0] 26)).alloc (.cells #[.int .i64 0, .int .i64 0, .int .i64 0, .int .i64 0, .int .i64 0, .int .i64 0, .int .i64 0, .int .i64 0] 26) = W0 := ⟨_, rfl⟩
  rw [hW0]
  have Q0 := hid (quad_new (p := p) (e := e) hW0)
  obtain ⟨k, hk⟩ : ∃ k, w.heap.size = k := ⟨_, rfl⟩
  have HAF : Hid (∀ W, Below k w W → Sees .u8 W A L) := hid (fun W h => HA.out.below (by rw [hk]; exact h))
  rw [hk] at Q0
  rw [hk]
  have HK := hid hk
  clear hk hW0 HA
  obtain ⟨⟨c0, c1, c2⟩, f0, f1, f2⟩ := Q0.out.cells
  go_wp2_with fail
  clear c0 c1 c2 f0 f1 f2
  with_reducible refine (refshort_any' A L n c p e 1073741824 1073741824 l1 e1 v1 _ rfl HN.out hp hl hc HA0.out HX.out (HAF.out _ Q0.out.below) HS1.out).mono ?_
  rintro en w1 ⟨p1, hp1, hr1, rfl, hb1⟩
  have Q1 := hid (Q0.out.on hb1)
  have R1 := hid hr1
  clear hb1 hr1 Q0
  obtain ⟨⟨c0, c1, c2⟩, f0, f1, f2⟩ := Q1.out.cells
  go_upto_region 3 with fail
  obtain ⟨W2, hW2⟩ : ∃ W2, (((w1.setCell ⟨k, 0, none⟩ (.slice A n c)).setCell ⟨k, 1, none⟩ (.int .i64 (p1 : Int))).setCell ⟨k, 2, none⟩ (.int .i64 (e1 : Int))) = W2 := ⟨_, rfl⟩
  rw [hW2]
  have Q2 : Hid (Quad w W2 k A n c p1 e1 fun _ => 0) := hid (by rw [← hW2]; exact Q1.out.reader)
  clear hW2 Q1 c0 c1 c2 f0 f1 f2
  have q0 := Q2.out.att.att (i := 0) (by decide)
  have q1 := Q2.out.att.frozen 0
  go_upto_region 4 with fail
  obtain ⟨W3, hW3⟩ : ∃ W3, W2.setCell ⟨k + 1 + 1 + 1, 0, none⟩ (.int .i64 (v1 : Int)) = W3 := ⟨_, rfl⟩
  rw [hW3]
  have Q3 : Hid (Quad w W3 k A n c p1 e1 (upd (fun _ => 0) 0 (v1 : Int))) := hid (by rw [← hW3]; exact Q2.out.put 0 _)
  clear hW3 Q2 q0 q1
  go_wp2_with fail
  go_loopw [6] (fun iv wr => ∃ (j pj ej : Nat), j ≤ 7 ∧ pj ≤ n ∧ iv = .int .i64 j ∧ Hid (rem L pj ej = (S j).1) ∧ Hid (ej = (S j).2.1) ∧ Hid (Quad w wr k A n c pj ej (S j).2.2)) (fun iv _ => 7 - (intOf iv).toNat)
  case atStart => exact ⟨0, p1, e1, by omega, hp1, rfl, hid (by rw [HS0.out.1]; exact R1.out.symm), hid (by rw [HS0.out.2.1]), hid (by rw [HS0.out.2.2]; exact Q3.out)⟩
  case round =>
    obtain ⟨j, pj, ej, hj, hpj, rfl, R, E, Q⟩ := hrel
    by_cases hlt : j < 7
    · have HR := hid (HNX.out j)
      obtain ⟨lj, hlj⟩ : ∃ x, (S j).1 = x := ⟨_, rfl⟩
      obtain ⟨ee, hee⟩ : ∃ x, (S j).2.1 = x := ⟨_, rfl⟩
      obtain ⟨F, hF⟩ : ∃ x, (S j).2.2 = x := ⟨_, rfl⟩
      rw [hlj] at R
      rw [hee] at E
      rw [hF] at Q
      rw [hlj, hee, hF] at HR
      obtain rfl : ee = ej := E.out.symm
      obtain ⟨l2, e2, v2, hs2⟩ : ∃ l2 e2 v2, sShort lj ee 1024 = (l2, e2, v2) := ⟨_, _, _, rfl⟩
      have hm2 : v2 ≤ 1024 := by have := sShort_most (l := lj) (e := ee) (most := 1024); rw [hs2] at this; exact this
      rw [hs2] at HR
      have HS : Hid (sShort (rem L pj ee) ee 1024 = (l2, e2, v2)) := hid (by rw [R.out]; exact hs2)
      clear hlj hee hF hs2 E
      obtain ⟨⟨c0, c1, c2⟩, f0, f1, f2⟩ := Q.out.cells
      go_wp2_with fail
      clear c0 c1 c2 f0 f1 f2
      with_reducible refine (refshort_any' A L n c pj ee 1024 1024 l2 e2 v2 _ rfl HN.out hpj hl hc HA0.out HX.out (HAF.out _ Q.out.below) HS.out).mono ?_
      rintro en w4 ⟨p2, hp2, hr2, rfl, hb4⟩
      have Q4 := hid (Q.out.on hb4)
      have R2 := hid hr2
      clear hb4 hr2 Q
      obtain ⟨⟨c0, c1, c2⟩, f0, f1, f2⟩ := Q4.out.cells
      go_upto_region 8 with fail
      obtain ⟨W5, hW5⟩ : ∃ W5, (((w4.setCell ⟨k, 0, none⟩ (.slice A n c)).setCell ⟨k, 1, none⟩ (.int .i64 (p2 : Int))).setCell ⟨k, 2, none⟩ (.int .i64 (e2 : Int))) = W5 := ⟨_, rfl⟩
      rw [hW5]
      have Q5 : Hid (Quad w W5 k A n c p2 e2 F) := hid (by rw [← hW5]; exact Q4.out.reader)
      clear hW5 Q4 c0 c1 c2 f0 f1 f2
      have q0 := Q5.out.att.att (i := 1 + j) (by omega)
      have q1 := Q5.out.att.frozen (1 + j)
      have Q6 := hid (Q5.out.put (1 + j) (v2 : Int))
      go_wp2
      go_roundw
      case rel => exact ⟨j + 1, p2, e2, by omega, hp2, by go_num, hid (by rw [HR.out.1]; exact R2.out.symm), hid (by rw [HR.out.2.1]), hid (by rw [HR.out.2.2]; exact Q6.out)⟩
      case measure => simp only [intOf]; omega
    · have hj7 : j = 7 := by omega
      subst hj7
      have HR := HEN
      obtain ⟨lj, hlj⟩ : ∃ x, (S 7).1 = x := ⟨_, rfl⟩
      obtain ⟨ee, hee⟩ : ∃ x, (S 7).2.1 = x := ⟨_, rfl⟩
      obtain ⟨F, hF⟩ : ∃ x, (S 7).2.2 = x := ⟨_, rfl⟩
      rw [hlj] at R
      rw [hee] at E
      rw [hF] at Q
      rw [hlj, hee, hF] at HR
      obtain rfl : ee = ej := E.out.symm
      clear hlj hee hF E
      obtain ⟨⟨c0, c1, c2⟩, f0, f1, f2⟩ := Q.out.cells
      obtain ⟨⟨d0, d1, d2⟩, g0, g1, g2⟩ := blk3 Q.out.res
      have k1 := Q.out.res.lt
      have k2 := Q.out.out_.lt
      by_cases h0 : ee = 0
      · subst h0
        have HV : Hid (V = F) := hid (by rw [HR.out.2.2]; simp)
        obtain ⟨m0, m1, m2, m3, m4, m5, m6, m7⟩ := Q.out.att.eight
        obtain ⟨z0, z1, z2, z3, z4, z5, z6, z7⟩ := Q.out.out_.eight
        have y0 := Q.out.out_.frozen 0
        have y1 := Q.out.out_.frozen 1
        have y2 := Q.out.out_.frozen 2
        have y3 := Q.out.out_.frozen 3
        have y4 := Q.out.out_.frozen 4
        have y5 := Q.out.out_.frozen 5
        have y6 := Q.out.out_.frozen 6
        have y7 := Q.out.out_.frozen 7
        go_wp2_with fail
        go_region
        obtain ⟨W9, hW9⟩ : ∃ W9, (((((((((((wr.setCell ⟨k + 1, 0, none⟩ (.slice A n c)).setCell ⟨k + 1, 1, none⟩ (.int .i64 (pj : Int))).setCell ⟨k + 1, 2, none⟩ (.int .i64 0)).setCell ⟨k + 1 + 1, 0, none⟩ (.int .i64 (F 0))).setCell ⟨k + 1 + 1, 1, none⟩ (.int .i64 (F 1))).setCell ⟨k + 1 + 1, 2, none⟩ (.int .i64 (F 2))).setCell ⟨k + 1 + 1, 3, none⟩ (.int .i64 (F 3))).setCell ⟨k + 1 + 1, 4, none⟩ (.int .i64 (F 4))).setCell ⟨k + 1 + 1, 5, none⟩ (.int .i64 (F 5))).setCell ⟨k + 1 + 1, 6, none⟩ (.int .i64 (F 6))).setCell ⟨k + 1 + 1, 7, none⟩ (.int .i64 (F 7))).drew = W9 := ⟨_, rfl⟩
        rw [hW9]
        have B1 : Blk W9 (k + 1) 43 #[.slice A n c, .int .i64 (pj : Int), .int .i64 0] := by rw [← hW9]; exact (put8_far (g := k + 1 + 1) (Q.out.res.put3 (.slice A n c) (.int .i64 (pj : Int)) (.int .i64 0)) (by omega) F).drew
        have B2 : Blk W9 (k + 1 + 1) 26 (rowA F) := by rw [← hW9]; exact (put8_at (Q.out.out_.put3_far (g := k + 1) (by omega) (.slice A n c) (.int .i64 (pj : Int)) (.int .i64 0)) F).drew
        have B3 : Hid (Below k w W9) := hid (by rw [← hW9]; exact below_drew (put8_below (below_put3 (g := k + 1) Q.out.below (by omega) (.slice A n c) (.int .i64 (pj : Int)) (.int .i64 0)) (by omega) F))
        clear hW9 c0 c1 c2 f0 f1 f2 d0 d1 d2 g0 g1 g2 m0 m1 m2 m3 m4 m5 m6 m7 z0 z1 z2 z3 z4 z5 z6 z7 y0 y1 y2 y3 y4 y5 y6 y7
        obtain ⟨⟨d0, d1, d2⟩, _, _, _⟩ := blk3 B1
        obtain ⟨z0, z1, z2, z3, z4, z5, z6, z7⟩ := Blk.eight B2
        go_wp2
        refine bodyPost_ret (v := .tuple #[reader A n c (pj : Int) 0, .agg #[.int .i64 (F 0), .int .i64 (F 1), .int .i64 (F 2), .int .i64 (F 3), .int .i64 (F 4), .int .i64 (F 5), .int .i64 (F 6), .int .i64 (F 7)]]) (by simp [results, Try.results21, go_sem, d0, d1, d2, z0, z1, z2, z3, z4, z5, z6, z7]) rfl ?_
        rw [HV.out, HR.out.1, HR.out.2.1]
        exact refdoes_end hpj R.out.symm (by rw [HK.out]; exact B3.out)
      · have HV : Hid (V = fun _ => 0) := hid (by rw [HR.out.2.2]; simp [h0])
        have hz : ((ee : Int) != 0) = true := by rw [bne_iff_ne]; omega
        clear h0 d0 d1 d2 g0 g1 g2
        have T1 : Hid ((Try.prog.info? 43).map (·.size) = some (#[.slice A n c, .int .i64 (pj : Int), .int .i64 (ee : Int)] : Array Value).size) := hid (by kernel_rfl)
        have T2 : Hid ((#[.slice A n c, .int .i64 (pj : Int), .int .i64 (ee : Int)] : Array Value).all (·.oneCell') = true) := hid (by simp [Value.oneCell'])
        have Z1 : Hid ((Try.prog.info? 26).map (·.size) = some (#[.int .i64 0, .int .i64 0, .int .i64 0, .int .i64 0, .int .i64 0, .int .i64 0, .int .i64 0, .int .i64 0] : Array Value).size) := hid info_refa
        have Z3 : Hid ((#[.int .i64 0, .int .i64 0, .int .i64 0, .int .i64 0, .int .i64 0, .int .i64 0, .int .i64 0, .int .i64 0] : Array Value).all (·.oneCell') = true) := hid (rowA_one fun _ => 0)
        have X2 : Hid (Blk (wr.setRow (k + 1) #[.slice A n c, .int .i64 (pj : Int), .int .i64 (ee : Int)]) (k + 1 + 1) 26 (rowA fun _ => 0)) := hid ((setRow_other wr (k + 1) (k + 1 + 1) _ (by omega)).trans Q.out.out_)
        go_wp2_with (first
          | (with_reducible refine wpList_store_row (o := ⟨none, _, _, _, _, _⟩) rfl 43 (.tmp 2) (.tmp 33) rfl (k + 1) #[.slice A n c, .int .i64 (pj : Int), .int .i64 (ee : Int)] rfl rfl 43 _ Q.out.res.heap T1.out rfl T2.out ?_)
          | (with_reducible refine wpList_store_row (o := ⟨none, _, _, _, _, _⟩) rfl 26 (.tmp 3) (.tmp 34) rfl (k + 1 + 1) #[.int .i64 0, .int .i64 0, .int .i64 0, .int .i64 0, .int .i64 0, .int .i64 0, .int .i64 0, .int .i64 0] rfl rfl 26 _ X2.out.heap Z1.out rfl Z3.out ?_))
        obtain ⟨W9, hW9⟩ : ∃ W9, (wr.setRow (k + 1) #[.slice A n c, .int .i64 (pj : Int), .int .i64 (ee : Int)]).setRow (k + 1 + 1) #[.int .i64 0, .int .i64 0, .int .i64 0, .int .i64 0, .int .i64 0, .int .i64 0, .int .i64 0, .int .i64 0] = W9 := ⟨_, rfl⟩
        rw [hW9]
        have B1 : Blk W9 (k + 1) 43 #[.slice A n c, .int .i64 (pj : Int), .int .i64 (ee : Int)] := by rw [← hW9]; exact (setRow_other _ (k + 1 + 1) (k + 1) _ (by omega)).trans (setRow_heap wr (k + 1) _ _ _ _ Q.out.res.heap)
        have B2 : Blk W9 (k + 1 + 1) 26 (rowA fun _ => 0) := by rw [← hW9]; exact setRow_heap _ (k + 1 + 1) _ _ _ _ X2.out.heap
        have B3 : Hid (Below k w W9) := hid (by rw [← hW9]; exact below_setRow_ (below_setRow_ Q.out.below (by omega)) (by omega))
        obtain ⟨⟨d0, d1, d2⟩, _, _, _⟩ := blk3 B1
        obtain ⟨z0, z1, z2, z3, z4, z5, z6, z7⟩ := Blk.eight B2
        refine bodyPost_ret (v := .tuple #[reader A n c (pj : Int) (ee : Int), .agg #[.int .i64 0, .int .i64 0, .int .i64 0, .int .i64 0, .int .i64 0, .int .i64 0, .int .i64 0, .int .i64 0]]) (by simp [results, Try.results21, go_sem, d0, d1, d2, z0, z1, z2, z3, z4, z5, z6, z7]) rfl ?_
        rw [HV.out, HR.out.1, HR.out.2.1]
        exact refdoes_end hpj R.out.symm (by rw [HK.out]; exact B3.out)

theorem refattake_any (A : Option Addr) (L : List Nat) (n c p e : Nat) (l' : List Nat) (e' : Nat) (V : Nat → Int) (w : World) (hn : L.length = n) (hp : p ≤ n) (hl : n ≤ 9223372036854775807) (hc : n ≤ c) (hA0 : A = none → c = 0) (hx : ∀ x ∈ L, x < 256) (hA : Sees .u8 w A L) (hs : sAttr (rem L p e) e = (l', e', V)) :
    Calls Try.prog 21 #[reader A n c (p : Int) (e : Int)] w (RefDoes A n L c l' e' (.agg (rowA V)) w) := by
  obtain ⟨h1, h2, h3⟩ := sAttr_all (rem L p e) e
  rw [hs] at h1 h2 h3
  exact refattake_as (stA (rem L p e) e) A L n c p e l' e' V w hn hp hl hc hA0 hx hA ⟨rfl, rfl, rfl⟩ (fun j => ⟨rfl, rfl, rfl⟩) ⟨h1, h2, h3⟩

end Go.Proofs.Ytfpmmajgnijboaa
