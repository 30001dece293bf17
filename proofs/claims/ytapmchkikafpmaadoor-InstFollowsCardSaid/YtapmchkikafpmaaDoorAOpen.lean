/-
  Attributes among the arguments.
-/
import Derived.Test.YtapmchkikafpmaaDoorAEq
import Derived.OpenShut
import Derived.ProofKit
namespace Go.Proofs.YtapmchkikafpmaaDoor
open Go.ChangeShapes Go.WideShapes Go.ChangeAt Go.RowKit

theorem arr8 {cs : Array Value} (h : cs.size = 8) : ∃ a0 a1 a2 a3 a4 a5 a6 a7, cs = #[a0, a1, a2, a3, a4, a5, a6, a7] := by
  refine ⟨cs[0], cs[1], cs[2], cs[3], cs[4], cs[5], cs[6], cs[7], ?_⟩
  apply Array.ext
  · simp [h]
  · intro i h1 h2
    have h3 : i < 8 := by simpa using h2
    match i, h3 with
    | 0, _ => rfl
    | 1, _ => rfl
    | 2, _ => rfl
    | 3, _ => rfl
    | 4, _ => rfl
    | 5, _ => rfl
    | 6, _ => rfl
    | 7, _ => rfl

set_option maxRecDepth 100000 in
theorem open_attr {H : Type} {enc : TypeId × Value → H} {w : World} {base b0 : Nat} {spare : Nat → Bool} {held : Bool} {r : Reach} {v : Value} {d : DataW H} {p : List MemPlace}
    (hv : Value.okWide Tryd.prog w r b0 33 v) (h : DataW.Trod enc Tryd.prog w base spare held 33 v d p) : ∃ f : Nat → Int, v = .agg #[.int .i64 (f 0), .int .i64 (f 1), .int .i64 (f 2), .int .i64 (f 3), .int .i64 (f 4), .int .i64 (f 5), .int .i64 (f 6), .int .i64 (f 7)] ∧ ∀ i, i < 8 → (Lit.int .i64 (f i)).wf = true := by
  obtain ⟨cs, rfl, hsz⟩ := okWide_struct Tryd.underlying33 hv
  obtain ⟨a0, a1, a2, a3, a4, a5, a6, a7, rfl⟩ := arr8 (hsz.trans (show Tryd.prog.cellsOf 33 = 8 by kernel_rfl))
  obtain ⟨fuel, hf⟩ := h
  obtain ⟨xs, n, _, _, _, hl, hfs⟩ := DataW.trod_struct Tryd.underlying33 hf
  have c1 : Tryd.prog.cellsOf 3 = 1 := by kernel_rfl
  have c7 : Tryd.prog.cellsOf 31 = 7 := by kernel_rfl
  have e0 := hfs 0 _ rfl
  have e1 := hfs 1 _ rfl
  simp [Value.cells, c1, c7] at e0 e1
  have hx : xs.length = 2 := hl
  have z0 : xs[0]? = some (xs[0]'(by omega)) := List.getElem?_eq_getElem (by omega)
  have z1 : xs[1]? = some (xs[1]'(by omega)) := List.getElem?_eq_getElem (by omega)
  generalize xs[0]'(by omega) = y0 at z0
  generalize xs[1]'(by omega) = y1 at z1
  rw [z0] at e0
  rw [z1] at e1
  obtain ⟨s, hs, _, ws⟩ := DataW.trod_int Tryd.underlying3 e0
  obtain ⟨ys, m, _, _, _, hm, hgs⟩ := DataW.trod_array Tryd.underlying31 e1
  rw [c1] at hgs
  have at_ : ∀ i, i < 7 → ∃ y, ys[i]? = some y := fun i hi => ⟨ys[i]'(by omega), List.getElem?_eq_getElem (by omega)⟩
  have one : ∀ (i : Nat) (a : Value), i < 7 → (([a1, a2, a3, a4, a5, a6, a7] : List Value).drop (i * 1)).take 1 = [a] → ∃ n : Int, a = .int .i64 n ∧ (Lit.int .i64 n).wf = true := by
    intro i a hi ha
    obtain ⟨y, hy⟩ := at_ i hi
    have hg := hgs i hi
    rw [ha, hy] at hg
    obtain ⟨n, hn, _, wn⟩ := DataW.trod_int Tryd.underlying3 hg
    simp at hn
    exact ⟨n, hn, wn⟩
  obtain ⟨n1, rfl, w1⟩ := one 0 a1 (by omega) rfl
  obtain ⟨n2, rfl, w2⟩ := one 1 a2 (by omega) rfl
  obtain ⟨n3, rfl, w3⟩ := one 2 a3 (by omega) rfl
  obtain ⟨n4, rfl, w4⟩ := one 3 a4 (by omega) rfl
  obtain ⟨n5, rfl, w5⟩ := one 4 a5 (by omega) rfl
  obtain ⟨n6, rfl, w6⟩ := one 5 a6 (by omega) rfl
  obtain ⟨n7, rfl, w7⟩ := one 6 a7 (by omega) rfl
  simp at hs
  subst hs
  refine ⟨fun i => match i with | 0 => s | 1 => n1 | 2 => n2 | 3 => n3 | 4 => n4 | 5 => n5 | 6 => n6 | _ => n7, rfl, fun i hi => ?_⟩
  match i, hi with
  | 0, _ => exact ws
  | 1, _ => exact w1
  | 2, _ => exact w2
  | 3, _ => exact w3
  | 4, _ => exact w4
  | 5, _ => exact w5
  | 6, _ => exact w6
  | 7, _ => exact w7

end Go.Proofs.YtapmchkikafpmaaDoor
