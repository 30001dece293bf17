/-
  A message among the arguments, opened.
-/
import Derived.Test.YtohffiehmmcgbaaGreatDoorXH
import Derived.Test.YtohffiehmmcgbaaGreatDoorXYBase
namespace Go.Proofs.YtohffiehmmcgbaaGreatDoor
open Go.ChangeShapes Go.WideShapes Go.ChangeAt Go.WideMaps Go.WideElems Go.RowKit Go.Lib
set_option maxRecDepth 100000 in
theorem open_inst22 {H : Type} {enc : TypeId × Value → H} {w : World} {base : Nat} {spare : Nat → Bool} {held : Bool} {d : DataW H} {p : List MemPlace} {fuel : Nat} {a0 a1 a2 a3 a4 a5 a6 a7 a8 a9 a10 a11 a12 a13 a14 a15 a16 a17 a18 a19 a20 a21 : Value}
    (hf : DataW.trod enc Tryz.prog w base spare held fuel 37 [a0, a1, a2, a3, a4, a5, a6, a7, a8, a9, a10, a11, a12, a13, a14, a15, a16, a17, a18, a19, a20, a21] = some (d, p)) :
    ∃ x : J, #[a0, a1, a2, a3, a4, a5, a6, a7, a8, a9, a10, a11, a12, a13, a14, a15, a16, a17, a18, a19, a20, a21] = rowJ x ∧ okJ x ∧ okK x.c ∧ (∀ i, i < 8 → (Lit.int .i64 (x.f i)).wf = true) ∧ (-9223372036854775808 ≤ x.st ∧ x.st ≤ 9223372036854775807) := by
  obtain ⟨xs, n, _, _, _, hl, hfs⟩ := DataW.trod_struct Tryz.underlying37 hf
  have c1 : Tryz.prog.cellsOf 3 = 1 := by kernel_rfl
  have c2 : Tryz.prog.cellsOf 27 = 1 := by kernel_rfl
  have c3 : Tryz.prog.cellsOf 4 = 1 := by kernel_rfl
  have c4 : Tryz.prog.cellsOf 25 = 2 := by kernel_rfl
  have c5 : Tryz.prog.cellsOf 32 = 8 := by kernel_rfl
  have c6 : Tryz.prog.cellsOf 35 = 8 := by kernel_rfl
  have e0 := hfs 0 _ rfl
  have e1 := hfs 1 _ rfl
  have e2 := hfs 2 _ rfl
  have e3 := hfs 3 _ rfl
  have e4 := hfs 4 _ rfl
  have e5 := hfs 5 _ rfl
  have e6 := hfs 6 _ rfl
  simp [c1, c2, c3, c4, c5, c6] at e0 e1 e2 e3 e4 e5 e6
  have hx : xs.length = 7 := hl
  have at_ : ∀ i, i < 7 → ∃ y, xs[i]? = some y := fun i hi => ⟨xs[i]'(by omega), List.getElem?_eq_getElem (by omega)⟩
  obtain ⟨⟨y0, q0⟩, z0⟩ := at_ 0 (by omega)
  rw [z0] at e0
  obtain ⟨⟨y1, q1⟩, z1⟩ := at_ 1 (by omega)
  rw [z1] at e1
  obtain ⟨⟨y2, q2⟩, z2⟩ := at_ 2 (by omega)
  rw [z2] at e2
  obtain ⟨⟨y3, q3⟩, z3⟩ := at_ 3 (by omega)
  rw [z3] at e3
  obtain ⟨⟨y4, q4⟩, z4⟩ := at_ 4 (by omega)
  rw [z4] at e4
  obtain ⟨⟨y5, q5⟩, z5⟩ := at_ 5 (by omega)
  rw [z5] at e5
  obtain ⟨⟨y6, q6⟩, z6⟩ := at_ 6 (by omega)
  rw [z6] at e6
  obtain ⟨st, hst, _, wst⟩ := DataW.trod_int Tryz.underlying3 e1
  obtain ⟨bal, hbal, _, wbal⟩ := DataW.trod_int Tryz.underlying27 e2
  obtain ⟨vote, hvote, _, wvote⟩ := DataW.trod_int Tryz.underlying27 e3
  obtain ⟨sm, hsm, _⟩ := DataW.trod_bool Tryz.underlying4 e4
  obtain ⟨c, hc, wc, _, _⟩ := open_cmd8 e5
  obtain ⟨f, hf8, wf⟩ := open_attr8 e6
  obtain ⟨xs2, n2, _, _, _, hl2, hfs2⟩ := DataW.trod_struct Tryz.underlying25 e0
  have g0 := hfs2 0 _ rfl
  have g1 := hfs2 1 _ rfl
  simp [c1] at g0 g1
  have hx2 : xs2.length = 2 := hl2
  have x0 : xs2[0]? = some (xs2[0]'(by omega)) := List.getElem?_eq_getElem (by omega)
  have x1 : xs2[1]? = some (xs2[1]'(by omega)) := List.getElem?_eq_getElem (by omega)
  rw [x0] at g0
  rw [x1] at g1
  obtain ⟨r, hr, _, wr⟩ := DataW.trod_int Tryz.underlying3 g0
  obtain ⟨s, hs, _, ws⟩ := DataW.trod_int Tryz.underlying3 g1
  simp only [List.cons.injEq, and_true] at hst hbal hvote hsm hr hs
  simp only [cellsOf, cs8, Array.mk.injEq, List.cons.injEq, and_true] at hc hf8
  obtain ⟨h6, h7, h8, h9, h10, h11, h12, h13⟩ := hc
  obtain ⟨h14, h15, h16, h17, h18, h19, h20, h21⟩ := hf8
  subst hst hbal hvote hsm hr hs h6 h7 h8 h9 h10 h11 h12 h13 h14 h15 h16 h17 h18 h19 h20 h21
  exact ⟨⟨r, s, st, bal, vote, sm, c, f⟩, rfl, ⟨u32_of wbal, u32_of wvote⟩, wc, wf, i64_of wst⟩
theorem array29 {α : Type} {cs : Array α} (h : cs.size = 29) : ∃ a0 a1 a2 a3 a4 a5 a6 a7 a8 a9 a10 a11 a12 a13 a14 a15 a16 a17 a18 a19 a20 a21 a22 a23 a24 a25 a26 a27 a28, cs = #[a0, a1, a2, a3, a4, a5, a6, a7, a8, a9, a10, a11, a12, a13, a14, a15, a16, a17, a18, a19, a20, a21, a22, a23, a24, a25, a26, a27, a28] := by
  obtain ⟨l⟩ := cs
  match l, h with
  | [a0, a1, a2, a3, a4, a5, a6, a7, a8, a9, a10, a11, a12, a13, a14, a15, a16, a17, a18, a19, a20, a21, a22, a23, a24, a25, a26, a27, a28], _ => exact ⟨a0, a1, a2, a3, a4, a5, a6, a7, a8, a9, a10, a11, a12, a13, a14, a15, a16, a17, a18, a19, a20, a21, a22, a23, a24, a25, a26, a27, a28, rfl⟩
set_option maxRecDepth 100000 in
theorem open_msg {H : Type} {enc : TypeId × Value → H} {w : World} {base b0 : Nat} {spare : Nat → Bool} {held : Bool} {r : Reach} {v : Value} {d : DataW H} {p : List MemPlace}
    (hv : Value.okWide Tryz.prog w r b0 64 v) (h : DataW.Trod enc Tryz.prog w base spare held 64 v d p) :
    ∃ m : Ms, v = .agg (rowM m) ∧ okM m := by
  obtain ⟨cs, rfl, hsz⟩ := okWide_struct Tryz.underlying64 hv
  obtain ⟨a0, a1, a2, a3, a4, a5, a6, a7, a8, a9, a10, a11, a12, a13, a14, a15, a16, a17, a18, a19, a20, a21, a22, a23, a24, a25, a26, a27, a28, rfl⟩ := array29 (hsz.trans (show Tryz.prog.cellsOf 64 = 29 by kernel_rfl))
  obtain ⟨fuel, hf⟩ := h
  obtain ⟨xs, n, _, _, _, hl, hfs⟩ := DataW.trod_struct Tryz.underlying64 hf
  have c1 : Tryz.prog.cellsOf 3 = 1 := by kernel_rfl
  have c2 : Tryz.prog.cellsOf 27 = 1 := by kernel_rfl
  have c3 : Tryz.prog.cellsOf 4 = 1 := by kernel_rfl
  have c4 : Tryz.prog.cellsOf 25 = 2 := by kernel_rfl
  have c5 : Tryz.prog.cellsOf 37 = 22 := by kernel_rfl
  have e0 := hfs 0 _ rfl
  have e1 := hfs 1 _ rfl
  have e2 := hfs 2 _ rfl
  have e3 := hfs 3 _ rfl
  have e4 := hfs 4 _ rfl
  have e5 := hfs 5 _ rfl
  have e6 := hfs 6 _ rfl
  simp [Value.cells, c1, c2, c3, c4, c5] at e0 e1 e2 e3 e4 e5 e6
  have hx : xs.length = 7 := hl
  have at_ : ∀ i, i < 7 → ∃ y, xs[i]? = some y := fun i hi => ⟨xs[i]'(by omega), List.getElem?_eq_getElem (by omega)⟩
  obtain ⟨⟨y0, q0⟩, z0⟩ := at_ 0 (by omega)
  rw [z0] at e0
  obtain ⟨⟨y1, q1⟩, z1⟩ := at_ 1 (by omega)
  rw [z1] at e1
  obtain ⟨⟨y2, q2⟩, z2⟩ := at_ 2 (by omega)
  rw [z2] at e2
  obtain ⟨⟨y3, q3⟩, z3⟩ := at_ 3 (by omega)
  rw [z3] at e3
  obtain ⟨⟨y4, q4⟩, z4⟩ := at_ 4 (by omega)
  rw [z4] at e4
  obtain ⟨⟨y5, q5⟩, z5⟩ := at_ 5 (by omega)
  rw [z5] at e5
  obtain ⟨⟨y6, q6⟩, z6⟩ := at_ 6 (by omega)
  rw [z6] at e6
  obtain ⟨k, hk, _, wk⟩ := DataW.trod_int Tryz.underlying3 e0
  obtain ⟨a, ha, _, wa⟩ := DataW.trod_int Tryz.underlying3 e1
  obtain ⟨b, hb, _, wb⟩ := DataW.trod_int Tryz.underlying3 e2
  obtain ⟨bal, hbal, _, wbal⟩ := DataW.trod_int Tryz.underlying27 e4
  obtain ⟨ok, hok, _⟩ := DataW.trod_bool Tryz.underlying4 e5
  obtain ⟨x, hx6, ox, ok2, _, _⟩ := open_inst22 e6
  obtain ⟨xs2, n2, _, _, _, hl2, hfs2⟩ := DataW.trod_struct Tryz.underlying25 e3
  have g0 := hfs2 0 _ rfl
  have g1 := hfs2 1 _ rfl
  simp [c1] at g0 g1
  have hx2 : xs2.length = 2 := hl2
  have x0 : xs2[0]? = some (xs2[0]'(by omega)) := List.getElem?_eq_getElem (by omega)
  have x1 : xs2[1]? = some (xs2[1]'(by omega)) := List.getElem?_eq_getElem (by omega)
  rw [x0] at g0
  rw [x1] at g1
  obtain ⟨r', hr, _, wr⟩ := DataW.trod_int Tryz.underlying3 g0
  obtain ⟨s, hs, _, ws⟩ := DataW.trod_int Tryz.underlying3 g1
  simp only [List.cons.injEq, and_true] at hk ha hb hbal hok hr hs
  simp only [rowJ, Array.mk.injEq, List.cons.injEq, and_true] at hx6
  obtain ⟨h0, h1, h2, h3, h4, h5, h6, h7, h8, h9, h10, h11, h12, h13, h14, h15, h16, h17, h18, h19, h20, h21⟩ := hx6
  subst hk ha hb hbal hok hr hs h0 h1 h2 h3 h4 h5 h6 h7 h8 h9 h10 h11 h12 h13 h14 h15 h16 h17 h18 h19 h20 h21
  exact ⟨⟨k, a, b, r', s, bal, ok, x⟩, rfl, u32_of wbal, ox, ok2⟩
end Go.Proofs.YtohffiehmmcgbaaGreatDoor
