/-
  What the anchor of layer 17's laws does.
-/
import Derived.Test.YtgjbhlianlbflaaGreatBLkMove
namespace Go.Proofs.YtgjbhlianlbflaaGreat
open Go.ChangeShapes Go.WideShapes Go.ChangeAt Go.RowKit Go.Maps Go.WideMaps
set_option linter.unusedVariables false
set_option linter.unusedSimpArgs false
abbrev ancAB : ByteArray := ⟨#[97, 47, 98]⟩
abbrev ancA : ByteArray := ⟨#[97]⟩
abbrev ancAC : ByteArray := ⟨#[97, 47, 99]⟩
abbrev ancX : EnL := ⟨ancAB, 1, ancA, 2, 1, 1⟩
abbrev ancY : EnL := ⟨ancA, 1, ancA, 2, 1, 2⟩
abbrev ancZ : EnL := ⟨ancAC, 1, ancA, 1, 1, 3⟩
def ancC1 : CnL := [(ancAB, 1)]
def ancC2 : CnL := [(ancAB, 1), (ancA, 1)]
def ancC3 : CnL := [(ancAB, 1), (ancA, 1), (ancAC, 1)]
theorem anc_m1 : mayE 0 [] [] ancAB 1 ancA 2 = 0 := by kernel_rfl
theorem anc_a1 : addE 0 [] [] ancAB 1 ancA 2 = ancX := by kernel_rfl
theorem anc_c1 : setC [] ancAB (cntE 0 [] ancAB + 1) = ancC1 := by kernel_rfl
theorem anc_m2 : mayE 0 [ancX] ancC1 ancA 1 ancA 2 = 0 := by kernel_rfl
theorem anc_a2 : addE 0 [ancX] ancC1 ancA 1 ancA 2 = ancY := by kernel_rfl
theorem anc_c2 : setC ancC1 ancA (cntE 0 ancC1 ancA + 1) = ancC2 := by kernel_rfl
theorem anc_m3 : mayE 0 [ancX, ancY] ancC2 ancAC 1 ancA 1 = 0 := by kernel_rfl
theorem anc_a3 : addE 0 [ancX, ancY] ancC2 ancAC 1 ancA 1 = ancZ := by kernel_rfl
theorem anc_c3 : setC ancC2 ancAC (cntE 0 ancC2 ancAC + 1) = ancC3 := by kernel_rfl
theorem anc_g1 : grantE [ancX, ancY, ancZ] ancX = true := by kernel_rfl
theorem anc_g2 : grantE [ancX, ancY, ancZ] ancY = false := by kernel_rfl
theorem anc_g3 : grantE [ancX, ancY, ancZ] ancZ = false := by kernel_rfl
theorem anc_r : rmE [ancX, ancY, ancZ] ancAB 1 ancA = [ancY, ancZ] := by kernel_rfl
theorem anc_f : (findE [ancX, ancY, ancZ] ancAB 1 ancA).isSome = true := by kernel_rfl
theorem anc_h1 : grantE [ancY, ancZ] ancY = true := by kernel_rfl
theorem anc_h2 : grantE [ancY, ancZ] ancZ = false := by kernel_rfl
theorem anc_ok : OkK ancAB ∧ OkK ancA ∧ OkK ancAC ∧ IsUk 1 ∧ IsUk 0 := by unfold OkK IsUk; refine ⟨?_, ?_, ?_, ?_, ?_⟩ <;> decide
def AncAt (w W : World) (b de dc n g : Nat) (l : List EnL) (cs : CnL) : Prop := BkK W w.heap.size b de dc n 0 l cs ∧ Blk W g 33 #[.int .u64 1, .string ancA] ∧ Below w.heap.size w W ∧ g ≠ b ∧ g ≠ de ∧ g ≠ dc ∧ w.heap.size ≤ g
theorem AncAt.on {w W W2 : World} {b de dc n g : Nat} {l : List EnL} {cs : CnL} (h : AncAt w W b de dc n g l cs) (k : Below W.heap.size W W2) : AncAt w W2 b de dc n g l cs :=
  ⟨h.1.on k, ent_low h.2.1 k, below_on h.2.2.1 k, h.2.2.2⟩
theorem AncAt.move {w W W2 : World} {b de dc n m g : Nat} {l l2 : List EnL} {cs cs2 : CnL} (h : AncAt w W b de dc n g l cs) (hb : BkK W2 w.heap.size b de dc m 0 l2 cs2) (t : TurnsD (OwnK de dc) W W2) : AncAt w W2 b de dc m g l2 cs2 :=
  ⟨hb, h.2.1.turns t (fun e => by rcases e with e | e; exact h.2.2.2.2.1 e; exact h.2.2.2.2.2.1 e), h.2.2.1.trans (t.below h.2.2.1.size (fun i hi e => by have := h.1.low; rcases e with e | e <;> omega)), h.2.2.2⟩
def BoxK (W : World) (de dc g : Nat) (e : EnL) : Prop := Blk W g 44 (entC e) ∧ g ≠ de ∧ g ≠ dc
theorem BoxK.on {W W2 : World} {de dc g : Nat} {e : EnL} (h : BoxK W de dc g e) (k : Below W.heap.size W W2) : BoxK W2 de dc g e := ⟨ent_low h.1 k, h.2⟩
theorem BoxK.move {W W2 : World} {de dc g : Nat} {e : EnL} (h : BoxK W de dc g e) (t : TurnsD (OwnK de dc) W W2) : BoxK W2 de dc g e := ⟨h.1.turns t (fun x => by rcases x with x | x; exact h.2.1 x; exact h.2.2 x), h.2⟩
theorem BoxK.moveE {W W2 : World} {de dc g : Nat} {e : EnL} (h : BoxK W de dc g e) (t : TurnsD (fun i => i = de) W W2) : BoxK W2 de dc g e := ⟨h.1.turns t h.2.1, h.2⟩
theorem AncAt.fresh {w W : World} {b de dc n g : Nat} {l : List EnL} {cs : CnL} (h : AncAt w W b de dc n g l cs) (e : EnL) : AncAt w (W.alloc (.cells (entC e) 44)) b de dc n g l cs ∧ BoxK (W.alloc (.cells (entC e) 44)) de dc W.heap.size e := by
  have hlt := h.1.lt
  exact ⟨h.on ((Below.refl _ _).alloc (Nat.le_refl _) _), Blk.new _ _ _, by omega, by omega⟩
theorem BoxK.cells {W : World} {de dc g : Nat} {e : EnL} (h : BoxK W de dc g e) : W.cell? ⟨g, 0, none⟩ = some (.string e.path) ∧ W.cell? ⟨g, 1, none⟩ = some (.int .u64 e.num) ∧ W.cell? ⟨g, 2, none⟩ = some (.string e.foot) ∧ W.cell? ⟨g, 3, none⟩ = some (.int .i64 e.mode) ∧ W.cell? ⟨g, 4, none⟩ = some (.int .u64 e.n) ∧ W.cell? ⟨g, 5, none⟩ = some (.int .i64 e.stamp) := lcells6 h.1
theorem AncAt.book {w W : World} {b de dc n g : Nat} {l : List EnL} {cs : CnL} (h : AncAt w W b de dc n g l cs) : BkK W w.heap.size b de dc n 0 l cs := h.1
theorem AncAt.ses {w W : World} {b de dc n g : Nat} {l : List EnL} {cs : CnL} (h : AncAt w W b de dc n g l cs) : W.cell? ⟨g, 0, none⟩ = some (.int .u64 1) ∧ W.cell? ⟨g, 1, none⟩ = some (.string ⟨#[97]⟩) := lcells2 h.2.1
set_option maxRecDepth 100000 in
set_option maxHeartbeats 4000000 in
theorem lkanchor_any (w : World) : Calls Tryz.prog 6 #[] w (Asks (.bool true) w) := by
  obtain ⟨o1, o2, o3, o4, o5⟩ := anc_ok
  have HN := hid (fun w => lknew_any 0 w o5)
  have A1 := hid (fun base b de dc n w (h : BkK w base b de dc n 0 [] []) (hn : n < 1000000) => lkadd_ok base b de dc n 0 [] [] ancAB 1 ancA 2 w h hn o1 o4 o2 anc_m1)
  have A2 := hid (fun base b de dc n w (h : BkK w base b de dc n 0 [ancX] ancC1) (hn : n < 1000000) => lkadd_ok base b de dc n 0 [ancX] ancC1 ancA 1 ancA 2 w h hn o2 o4 o2 anc_m2)
  have A3 := hid (fun base b de dc n w (h : BkK w base b de dc n 0 [ancX, ancY] ancC2) (hn : n < 1000000) => lkadd_ok base b de dc n 0 [ancX, ancY] ancC2 ancAC 1 ancA 1 w h hn o3 o4 o2 anc_m3)
  rw [anc_a1, anc_c1] at A1
  rw [anc_a2, anc_c2] at A2
  rw [anc_a3, anc_c3] at A3
  have G1 := hid (fun base b de dc n w (h : BkK w base b de dc n 0 [ancX, ancY, ancZ] ancC3) (hn : n ≤ 1000000) => lkgranted_any base b de dc n 0 _ _ ancX w h hn o1 o4 o2)
  have G2 := hid (fun base b de dc n w (h : BkK w base b de dc n 0 [ancX, ancY, ancZ] ancC3) (hn : n ≤ 1000000) => lkgranted_any base b de dc n 0 _ _ ancY w h hn o2 o4 o2)
  have G3 := hid (fun base b de dc n w (h : BkK w base b de dc n 0 [ancX, ancY, ancZ] ancC3) (hn : n ≤ 1000000) => lkgranted_any base b de dc n 0 _ _ ancZ w h hn o3 o4 o2)
  have R1 := hid (fun base b de dc n w (h : BkK w base b de dc n 0 [ancX, ancY, ancZ] ancC3) => lkremove_any base b de dc n 0 _ _ ancAB 1 ancA w h o1 o4 o2)
  have G4 := hid (fun base b de dc n w (h : BkK w base b de dc n 0 [ancY, ancZ] ancC3) (hn : n ≤ 1000000) => lkgranted_any base b de dc n 0 _ _ ancY w h hn o2 o4 o2)
  have G5 := hid (fun base b de dc n w (h : BkK w base b de dc n 0 [ancY, ancZ] ancC3) (hn : n ≤ 1000000) => lkgranted_any base b de dc n 0 _ _ ancZ w h hn o3 o4 o2)
  rw [anc_g1] at G1
  rw [anc_g2] at G2
  rw [anc_g3] at G3
  rw [anc_h1] at G4
  rw [anc_h2] at G5
  rw [anc_f, anc_r] at R1
  clear o1 o2 o3 o4 o5
  go_enter Tryz.func6, Tryz.ntmps6
  go_upto_region 3 with (go_at_call 8; (with_reducible refine (HN.out _).mono ?_); rintro e w1 ⟨rfl, b1, bk⟩; have B1 := hid b1; have BK := hid bk; clear b1 bk)
  obtain ⟨W, hW⟩ : ∃ W, w1.alloc (.cells #[.int .u64 1, .string ⟨#[97]⟩] 33) = W := ⟨_, rfl⟩
  rw [hW]
  obtain ⟨K0, KB⟩ := lone_new hW
  clear hW
  have S0 : Hid (AncAt w W (w.heap.size + 2) w.heap.size (w.heap.size + 1) 0 w1.heap.size [] []) := hid (by
    have hlt := BK.out.lt
    exact ⟨BK.out.on KB.out, K0.out, below_on B1.out KB.out, by omega, by omega, by omega, B1.out.size⟩)
  obtain ⟨b, hb⟩ : ∃ b, w.heap.size + 2 = b := ⟨_, rfl⟩
  obtain ⟨dc, hdc⟩ : ∃ b, w.heap.size + 1 = b := ⟨_, rfl⟩
  obtain ⟨g, hg⟩ : ∃ b, w1.heap.size = b := ⟨_, rfl⟩
  rw [hb, hdc, hg] at S0
  rw [hb, hg]
  obtain ⟨de, hde⟩ : ∃ b, w.heap.size = b := ⟨_, rfl⟩
  have S1 : Hid (AncAt w W b de dc 0 g [] []) := hid (by rw [← hde]; exact S0.out)
  clear hb hdc hg hde S0 K0 KB B1 BK HN
  have D1 := hid (A1.out _ _ _ _ _ _ S1.out.book (by omega))
  obtain ⟨c0, c1⟩ := S1.out.ses
  go_upto_region 4 with (go_at_call 30; (with_reducible refine D1.out.mono ?_); rintro e w2 ⟨rfl, bk, tt⟩; have P2 := hid (S1.out.move bk tt); clear bk tt c0 c1)
  have Q2 := hid (P2.out.fresh ancX)
  obtain ⟨V2, hV2⟩ : ∃ V, w2.alloc (.cells (entC ancX) 44) = V := ⟨_, rfl⟩
  obtain ⟨gX, hgX⟩ : ∃ b, w2.heap.size = b := ⟨_, rfl⟩
  rw [hV2, hgX] at Q2
  rw [hgX]
  change Code.wp _ _ _ _ (w2.alloc (.cells (entC ancX) 44))
  rw [hV2]
  have S2 := hid Q2.out.1
  have X := hid Q2.out.2
  clear hV2 hgX P2 Q2 
  have D2 := hid (A2.out _ _ _ _ _ _ S2.out.book (by omega))
  obtain ⟨c0, c1⟩ := S2.out.ses
  go_upto_region 5 with (go_at_call 30; (with_reducible refine D2.out.mono ?_); rintro e w3 ⟨rfl, bk, tt⟩; have P3 := hid (S2.out.move bk tt); have Xp := hid (X.out.move tt); clear bk tt c0 c1)
  have Q3 := hid (P3.out.fresh ancY)
  have Xq := hid (Xp.out.on ((Below.refl _ _).alloc (Nat.le_refl _) (.cells (entC ancY) 44)))
  obtain ⟨V3, hV3⟩ : ∃ V, w3.alloc (.cells (entC ancY) 44) = V := ⟨_, rfl⟩
  obtain ⟨gY, hgY⟩ : ∃ b, w3.heap.size = b := ⟨_, rfl⟩
  rw [hV3, hgY] at Q3
  rw [hV3] at Xq
  rw [hgY]
  change Code.wp _ _ _ _ (w3.alloc (.cells (entC ancY) 44))
  rw [hV3]
  have S3 := hid Q3.out.1
  clear X
  have Y := hid Q3.out.2
  have X := hid Xq.out
  clear hV3 hgY P3 Q3 Xp Xq
  have D3 := hid (A3.out _ _ _ _ _ _ S3.out.book (by omega))
  obtain ⟨c0, c1⟩ := S3.out.ses
  go_upto_region 6 with (go_at_call 30; (with_reducible refine D3.out.mono ?_); rintro e w4 ⟨rfl, bk, tt⟩; have P4 := hid (S3.out.move bk tt); have Xp := hid (X.out.move tt); have Yp := hid (Y.out.move tt); clear bk tt c0 c1)
  have Q4 := hid (P4.out.fresh ancZ)
  have Xq := hid (Xp.out.on ((Below.refl _ _).alloc (Nat.le_refl _) (.cells (entC ancZ) 44)))
  have Yq := hid (Yp.out.on ((Below.refl _ _).alloc (Nat.le_refl _) (.cells (entC ancZ) 44)))
  obtain ⟨V4, hV4⟩ : ∃ V, w4.alloc (.cells (entC ancZ) 44) = V := ⟨_, rfl⟩
  obtain ⟨gZ, hgZ⟩ : ∃ b, w4.heap.size = b := ⟨_, rfl⟩
  rw [hV4, hgZ] at Q4
  rw [hV4] at Xq
  rw [hV4] at Yq
  rw [hgZ]
  change Code.wp _ _ _ _ (w4.alloc (.cells (entC ancZ) 44))
  rw [hV4]
  have S4 := hid Q4.out.1
  clear X Y
  have Z := hid Q4.out.2
  have X := hid Xq.out
  have Y := hid Yq.out
  clear hV4 hgZ P4 Q4 Xp Xq Yp Yq
  have L1 := hid (fun W2 (k : Below V4.heap.size V4 W2) => G1.out _ _ _ _ _ _ (S4.out.on k).book (by omega))
  have L2 := hid (fun W2 (k : Below V4.heap.size V4 W2) => G2.out _ _ _ _ _ _ (S4.out.on k).book (by omega))
  have L3 := hid (fun W2 (k : Below V4.heap.size V4 W2) => G3.out _ _ _ _ _ _ (S4.out.on k).book (by omega))
  have M1 := hid (fun W2 (k : Below V4.heap.size V4 W2) => R1.out _ _ _ _ _ _ (S4.out.on k).book)
  have HB0 : Hid (Below w.heap.size w V4) := hid S4.out.2.2.1
  have L1b := hid (L1.out V4 (Below.refl _ _))
  obtain ⟨x0, x1, x2, x3, x4, x5⟩ := X.out.cells
  go_upto_region 8 with (first
    | (go_at_call 19; (with_reducible refine L1b.out.mono ?_); rintro e w5 ⟨rfl, b5⟩; have T5 := hid b5; have Y5 := hid (Y.out.on b5); have Z5 := hid (Z.out.on b5); have L2b := hid (L2.out w5 b5); clear b5; obtain ⟨y0, y1, y2, y3, y4, y5⟩ := Y5.out.cells)
    | (go_at_call 19; (with_reducible refine L2b.out.mono ?_); rintro e w6 ⟨rfl, b6⟩; have T6 := hid (below_on T5.out b6); have Z6 := hid (Z5.out.on b6); have Y6 := hid (Y5.out.on b6); have L3b := hid (L3.out w6 T6.out); clear b6; obtain ⟨z0, z1, z2, z3, z4, z5⟩ := Z6.out.cells)
    | (go_at_call 19; (with_reducible refine L3b.out.mono ?_); rintro e w7 ⟨rfl, b7⟩; have T7 := hid (below_on T6.out b7); have Z7 := hid (Z6.out.on b7); have Y7 := hid (Y6.out.on b7); have S7 := hid (S4.out.on T7.out); have M1b := hid (M1.out w7 T7.out); clear b7; obtain ⟨c0, c1⟩ := S7.out.ses))
  go_wp2_with (first
    | (go_at_call 31; (with_reducible refine M1b.out.mono ?_); rintro e w8 ⟨rfl, bk8, t8⟩; have Y8 := hid (Y7.out.moveE t8); have Z8 := hid (Z7.out.moveE t8); have K8 := hid bk8; have T8 := hid t8; have N1 := hid (G4.out _ _ _ _ _ _ bk8 (by omega)); clear bk8 t8; obtain ⟨y0, y1, y2, y3, y4, y5⟩ := Y8.out.cells)
    | (go_at_call 19; (with_reducible refine N1.out.mono ?_); rintro e w9 ⟨rfl, b9⟩; have Z9 := hid (Z8.out.on b9); have T9 := hid b9; have N2 := hid (G5.out _ _ _ _ _ _ (K8.out.on b9) (by omega)); clear b9; obtain ⟨z0, z1, z2, z3, z4, z5⟩ := Z9.out.cells)
    | (go_at_call 19; (with_reducible refine N2.out.mono ?_); rintro e w10 ⟨rfl, b10⟩; have T10 := hid b10; clear b10))
  go_ret
  have q1 : Below w.heap.size w w7 := below_on HB0.out T7.out
  have q2 : Below w.heap.size w w8 := q1.trans (T8.out.below q1.size (fun i hi e => by have := K8.out.low; omega))
  exact ⟨rfl, below_on (below_on q2 T9.out) T10.out⟩
end Go.Proofs.YtgjbhlianlbflaaGreat
