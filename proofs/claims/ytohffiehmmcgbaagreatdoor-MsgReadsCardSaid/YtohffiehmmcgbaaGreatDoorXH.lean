/-
  A command among the arguments, opened; what the three rows' one listed variable gives the walks, and that the door's own run meets it.
-/
import Derived.Test.YtohffiehmmcgbaaGreatDoorRows
import Derived.Test.YtohffiehmmcgbaaGreatDoorXA
import Derived.ProofKit
import Derived.LaidMore
import Derived.LaidLaws
import Derived.LaidHandle
import Derived.MakeChecks
import Derived.OpenShut
import Derived.Stop.Joined
import Derived.Lib.LaidTab
import Derived.Test.YtohffiehmmcgbaaGreatDoorXC
namespace Go.Proofs.YtohffiehmmcgbaaGreatDoor
open Go.ChangeShapes Go.WideShapes Go.ChangeAt Go.WideMaps Go.WideElems Go.RowKit Go.Lib
theorem i64_of {n : Int} (h : (Lit.int .i64 n).wf = true) : -9223372036854775808 ≤ n ∧ n ≤ 9223372036854775807 := by
  have h1 : IntKind.i64.min = -9223372036854775808 := rfl
  have h2 : IntKind.i64.max = 9223372036854775807 := rfl
  simp only [Lit.wf, Bool.and_eq_true, decide_eq_true_eq] at h
  omega
theorem u64_of {n : Int} (h : (Lit.int .u64 n).wf = true) : 0 ≤ n ∧ n < 18446744073709551616 := by
  have h1 : IntKind.u64.min = 0 := rfl
  have h2 : IntKind.u64.max = 18446744073709551615 := rfl
  simp only [Lit.wf, Bool.and_eq_true, decide_eq_true_eq] at h
  omega
theorem tParts : (Tryz.prog.globals[3]?).map (·.type) = some 154 := by kernel_rfl
theorem tab_parts : (Rows.laid_moothill_cmd_parts : DataW Unit) = tabData .u8 [0, 51, 3, 35, 15, 15, 7, 23, 33] := by kernel_rfl
theorem own7 : ownKnob Tryz.prog.godebug = none := by kernel_rfl
theorem laidOut7 : laidOutB Tryz.prog = true := by kernel_rfl
end Go.Proofs.YtohffiehmmcgbaaGreatDoor
namespace Go.Proofs.YtohffiehmmcgbaaGreatDoor
open Go.ChangeShapes Go.WideShapes Go.ChangeAt Go.RowKit
end Go.Proofs.YtohffiehmmcgbaaGreatDoor
namespace Go.Proofs.YtohffiehmmcgbaaGreatDoor
open Go.ChangeShapes Go.WideShapes Go.ChangeAt Go.WideMaps Go.WideElems Go.RowKit Go.Lib
set_option maxRecDepth 100000 in
theorem open_cmd8 {H : Type} {enc : TypeId × Value → H} {w : World} {base : Nat} {spare : Nat → Bool} {held : Bool} {d : DataW H} {p : List MemPlace} {fuel : Nat} {a0 a1 a2 a3 a4 a5 a6 a7 : Value}
    (hf : DataW.trod enc Tryz.prog w base spare held fuel 32 [a0, a1, a2, a3, a4, a5, a6, a7] = some (d, p)) : ∃ c : K, #[a0, a1, a2, a3, a4, a5, a6, a7] = cellsOf c ∧ okK c ∧ c.foot.size ≤ maxLen ∧ c.path.size ≤ maxLen := by
  obtain ⟨xs, n, _, _, _, hl, hfs⟩ := DataW.trod_struct Tryz.underlying32 hf
  have c1 : Tryz.prog.cellsOf 3 = 1 := by kernel_rfl
  have c2 : Tryz.prog.cellsOf 28 = 1 := by kernel_rfl
  have c3 : Tryz.prog.cellsOf 9 = 1 := by kernel_rfl
  have c4 : Tryz.prog.cellsOf 30 = 2 := by kernel_rfl
  have e0 := hfs 0 _ rfl
  have e1 := hfs 1 _ rfl
  have e2 := hfs 2 _ rfl
  have e3 := hfs 3 _ rfl
  have e4 := hfs 4 _ rfl
  have e5 := hfs 5 _ rfl
  have e6 := hfs 6 _ rfl
  simp [c1, c2, c3, c4] at e0 e1 e2 e3 e4 e5 e6
  have hx : xs.length = 7 := hl
  have at_ : ∀ i, i < 7 → ∃ y, xs[i]? = some y := fun i hi => ⟨xs[i]'(by omega), List.getElem?_eq_getElem (by omega)⟩
  obtain ⟨y0, z0⟩ := at_ 0 (by omega)
  obtain ⟨y1, z1⟩ := at_ 1 (by omega)
  obtain ⟨y2, z2⟩ := at_ 2 (by omega)
  obtain ⟨y3, z3⟩ := at_ 3 (by omega)
  obtain ⟨y4, z4⟩ := at_ 4 (by omega)
  obtain ⟨y5, z5⟩ := at_ 5 (by omega)
  obtain ⟨y6, z6⟩ := at_ 6 (by omega)
  rw [z0] at e0
  rw [z1] at e1
  rw [z2] at e2
  rw [z3] at e3
  rw [z4] at e4
  rw [z5] at e5
  rw [z6] at e6
  obtain ⟨k, hk, _, wk⟩ := DataW.trod_int Tryz.underlying3 e0
  obtain ⟨q, hq, _, wq⟩ := DataW.trod_int Tryz.underlying28 e2
  obtain ⟨s, hs, _, ws⟩ := DataW.trod_string Tryz.underlying9 e3
  obtain ⟨m, hm, _, wm⟩ := DataW.trod_int Tryz.underlying3 e4
  obtain ⟨nn, hn, _, wn⟩ := DataW.trod_int Tryz.underlying28 e5
  obtain ⟨t, ht, _, wt⟩ := DataW.trod_int Tryz.underlying3 e6
  obtain ⟨xs2, n2, _, _, _, hl2, hfs2⟩ := DataW.trod_struct Tryz.underlying30 e1
  have g0 := hfs2 0 _ rfl
  have g1 := hfs2 1 _ rfl
  simp [c2, c3] at g0 g1
  have hx2 : xs2.length = 2 := hl2
  have x0 : xs2[0]? = some (xs2[0]'(by omega)) := List.getElem?_eq_getElem (by omega)
  have x1 : xs2[1]? = some (xs2[1]'(by omega)) := List.getElem?_eq_getElem (by omega)
  rw [x0] at g0
  rw [x1] at g1
  obtain ⟨u, hu, _, wu⟩ := DataW.trod_int Tryz.underlying28 g0
  obtain ⟨f, hf', _, wf⟩ := DataW.trod_string Tryz.underlying9 g1
  simp only [List.cons.injEq, and_true] at hk hq hs hm hn ht hu hf'
  subst hk hq hs hm hn ht hu hf'
  exact ⟨⟨k, u, f, q, s, m, nn, t⟩, rfl, ⟨u64_of wu, u64_of wq, u64_of wn, i64_of wk, i64_of wm, i64_of wt⟩, wf, ws⟩
set_option maxRecDepth 100000 in
theorem open_attr8 {H : Type} {enc : TypeId × Value → H} {w : World} {base : Nat} {spare : Nat → Bool} {held : Bool} {d : DataW H} {p : List MemPlace} {fuel : Nat} {a0 a1 a2 a3 a4 a5 a6 a7 : Value}
    (hf : DataW.trod enc Tryz.prog w base spare held fuel 35 [a0, a1, a2, a3, a4, a5, a6, a7] = some (d, p)) : ∃ f : Nat → Int, #[a0, a1, a2, a3, a4, a5, a6, a7] = cs8 f ∧ ∀ i, i < 8 → (Lit.int .i64 (f i)).wf = true := by
  obtain ⟨xs, n, _, _, _, hl, hfs⟩ := DataW.trod_struct Tryz.underlying35 hf
  have c1 : Tryz.prog.cellsOf 3 = 1 := by kernel_rfl
  have c7 : Tryz.prog.cellsOf 33 = 7 := by kernel_rfl
  have e0 := hfs 0 _ rfl
  have e1 := hfs 1 _ rfl
  simp [c1, c7] at e0 e1
  have hx : xs.length = 2 := hl
  have z0 : xs[0]? = some (xs[0]'(by omega)) := List.getElem?_eq_getElem (by omega)
  have z1 : xs[1]? = some (xs[1]'(by omega)) := List.getElem?_eq_getElem (by omega)
  generalize xs[0]'(by omega) = y0 at z0
  generalize xs[1]'(by omega) = y1 at z1
  rw [z0] at e0
  rw [z1] at e1
  obtain ⟨s, hs, _, ws⟩ := DataW.trod_int Tryz.underlying3 e0
  obtain ⟨ys, m, _, _, _, hm, hgs⟩ := DataW.trod_array Tryz.underlying33 e1
  rw [c1] at hgs
  have at_ : ∀ i, i < 7 → ∃ y, ys[i]? = some y := fun i hi => ⟨ys[i]'(by omega), List.getElem?_eq_getElem (by omega)⟩
  have one : ∀ (i : Nat) (a : Value), i < 7 → (([a1, a2, a3, a4, a5, a6, a7] : List Value).drop (i * 1)).take 1 = [a] → ∃ n : Int, a = .int .i64 n ∧ (Lit.int .i64 n).wf = true := by
    intro i a hi ha
    obtain ⟨y, hy⟩ := at_ i hi
    have hg := hgs i hi
    rw [ha, hy] at hg
    obtain ⟨n, hn, _, wn⟩ := DataW.trod_int Tryz.underlying3 hg
    simp at hn
    exact ⟨n, hn, wn⟩
  obtain ⟨n1, rfl, w1⟩ := one 0 a1 (by omega) rfl
  obtain ⟨n2, rfl, w2⟩ := one 1 a2 (by omega) rfl
  obtain ⟨n3, rfl, w3⟩ := one 2 a3 (by omega) rfl
  obtain ⟨n4, rfl, w4⟩ := one 3 a4 (by omega) rfl
  obtain ⟨n5, rfl, w5⟩ := one 4 a5 (by omega) rfl
  obtain ⟨n6, rfl, w6⟩ := one 5 a6 (by omega) rfl
  obtain ⟨n7, rfl, w7⟩ := one 6 a7 (by omega) rfl
  simp at hs
  subst hs
  refine ⟨fun i => match i with | 0 => s | 1 => n1 | 2 => n2 | 3 => n3 | 4 => n4 | 5 => n5 | 6 => n6 | _ => n7, rfl, fun i hi => ?_⟩
  match i, hi with
  | 0, _ => exact ws
  | 1, _ => exact w1
  | 2, _ => exact w2
  | 3, _ => exact w3
  | 4, _ => exact w4
  | 5, _ => exact w5
  | 6, _ => exact w6
  | 7, _ => exact w7
theorem u32_of {n : Int} (h : (Lit.int .u32 n).wf = true) : 0 ≤ n ∧ n < 4294967296 := by
  have h1 : IntKind.u32.min = 0 := rfl
  have h2 : IntKind.u32.max = 4294967295 := rfl
  simp only [Lit.wf, Bool.and_eq_true, decide_eq_true_eq] at h
  omega
end Go.Proofs.YtohffiehmmcgbaaGreatDoor
