/-
  A command among the arguments, opened; what the three rows' one listed variable gives the walks, and that the door's own run meets it.
-/
import Derived.Test.YtpdfakjopeldmaaGreatDoorRows
import Derived.Test.YtpdfakjopeldmaaGreatDoorKBase
import Derived.ProofKit
import Derived.LaidMore
import Derived.LaidLaws
import Derived.LaidHandle
import Derived.MakeChecks
import Derived.OpenShut
import Derived.Stop.Joined
import Derived.Lib.LaidTab
namespace Go.Proofs.YtpdfakjopeldmaaGreatDoor
open Go.ChangeShapes Go.WideShapes Go.ChangeAt Go.WideMaps Go.WideElems Go.RowKit Go.Lib

theorem i64_of {n : Int} (h : (Lit.int .i64 n).wf = true) : -9223372036854775808 ≤ n ∧ n ≤ 9223372036854775807 := by
  have h1 : IntKind.i64.min = -9223372036854775808 := rfl
  have h2 : IntKind.i64.max = 9223372036854775807 := rfl
  simp only [Lit.wf, Bool.and_eq_true, decide_eq_true_eq] at h
  omega
theorem u64_of {n : Int} (h : (Lit.int .u64 n).wf = true) : 0 ≤ n ∧ n < 18446744073709551616 := by
  have h1 : IntKind.u64.min = 0 := rfl
  have h2 : IntKind.u64.max = 18446744073709551615 := rfl
  simp only [Lit.wf, Bool.and_eq_true, decide_eq_true_eq] at h
  omega

theorem array8 {α : Type} {cs : Array α} (h : cs.size = 8) : ∃ c0 c1 c2 c3 c4 c5 c6 c7, cs = #[c0, c1, c2, c3, c4, c5, c6, c7] := by
  obtain ⟨l⟩ := cs
  match l, h with
  | [c0, c1, c2, c3, c4, c5, c6, c7], _ => exact ⟨c0, c1, c2, c3, c4, c5, c6, c7, rfl⟩

set_option maxRecDepth 100000 in
theorem open_cmd {H : Type} {enc : TypeId × Value → H} {w : World} {base b0 : Nat} {spare : Nat → Bool} {held : Bool} {r : Reach} {v : Value} {d : DataW H} {p : List MemPlace}
    (hv : Value.okWide Tryz.prog w r b0 27 v) (h : DataW.Trod enc Tryz.prog w base spare held 27 v d p) : ∃ c : K, v = val c ∧ okK c ∧ c.foot.size ≤ maxLen ∧ c.path.size ≤ maxLen := by
  obtain ⟨cs, rfl, hsz⟩ := okWide_struct Tryz.underlying27 hv
  obtain ⟨a0, a1, a2, a3, a4, a5, a6, a7, rfl⟩ := array8 (hsz.trans (show Tryz.prog.cellsOf 27 = 8 by kernel_rfl))
  obtain ⟨fuel, hf⟩ := h
  obtain ⟨xs, n, _, _, _, hl, hfs⟩ := DataW.trod_struct Tryz.underlying27 hf
  have c1 : Tryz.prog.cellsOf 3 = 1 := by kernel_rfl
  have c2 : Tryz.prog.cellsOf 23 = 1 := by kernel_rfl
  have c3 : Tryz.prog.cellsOf 9 = 1 := by kernel_rfl
  have c4 : Tryz.prog.cellsOf 25 = 2 := by kernel_rfl
  have e0 := hfs 0 _ rfl
  have e1 := hfs 1 _ rfl
  have e2 := hfs 2 _ rfl
  have e3 := hfs 3 _ rfl
  have e4 := hfs 4 _ rfl
  have e5 := hfs 5 _ rfl
  have e6 := hfs 6 _ rfl
  simp [Value.cells, c1, c2, c3, c4] at e0 e1 e2 e3 e4 e5 e6
  have hx : xs.length = 7 := hl
  have at_ : ∀ i, i < 7 → ∃ y, xs[i]? = some y := fun i hi => ⟨xs[i]'(by omega), List.getElem?_eq_getElem (by omega)⟩
  obtain ⟨y0, z0⟩ := at_ 0 (by omega)
  obtain ⟨y1, z1⟩ := at_ 1 (by omega)
  obtain ⟨y2, z2⟩ := at_ 2 (by omega)
  obtain ⟨y3, z3⟩ := at_ 3 (by omega)
  obtain ⟨y4, z4⟩ := at_ 4 (by omega)
  obtain ⟨y5, z5⟩ := at_ 5 (by omega)
  obtain ⟨y6, z6⟩ := at_ 6 (by omega)
  rw [z0] at e0
  rw [z1] at e1
  rw [z2] at e2
  rw [z3] at e3
  rw [z4] at e4
  rw [z5] at e5
  rw [z6] at e6
  obtain ⟨k, hk, _, wk⟩ := DataW.trod_int Tryz.underlying3 e0
  obtain ⟨q, hq, _, wq⟩ := DataW.trod_int Tryz.underlying23 e2
  obtain ⟨s, hs, _, ws⟩ := DataW.trod_string Tryz.underlying9 e3
  obtain ⟨m, hm, _, wm⟩ := DataW.trod_int Tryz.underlying3 e4
  obtain ⟨nn, hn, _, wn⟩ := DataW.trod_int Tryz.underlying23 e5
  obtain ⟨t, ht, _, wt⟩ := DataW.trod_int Tryz.underlying3 e6
  obtain ⟨xs2, n2, _, _, _, hl2, hfs2⟩ := DataW.trod_struct Tryz.underlying25 e1
  have g0 := hfs2 0 _ rfl
  have g1 := hfs2 1 _ rfl
  simp [c2, c3] at g0 g1
  have hx2 : xs2.length = 2 := hl2
  have x0 : xs2[0]? = some (xs2[0]'(by omega)) := List.getElem?_eq_getElem (by omega)
  have x1 : xs2[1]? = some (xs2[1]'(by omega)) := List.getElem?_eq_getElem (by omega)
  rw [x0] at g0
  rw [x1] at g1
  obtain ⟨u, hu, _, wu⟩ := DataW.trod_int Tryz.underlying23 g0
  obtain ⟨f, hf', _, wf⟩ := DataW.trod_string Tryz.underlying9 g1
  simp only [List.cons.injEq, and_true] at hk hq hs hm hn ht hu hf'
  subst hk hq hs hm hn ht hu hf'
  exact ⟨⟨k, u, f, q, s, m, nn, t⟩, rfl, ⟨u64_of wu, u64_of wq, u64_of wn, i64_of wk, i64_of wm, i64_of wt⟩, wf, ws⟩

/-- The list of the three rows that stand on the table of kinds alone. -/
abbrev laid1 : List (String × DataW Unit) := [("moothill/cmd.parts", Rows.laid_moothill_cmd_parts)]
theorem tParts : (Tryz.prog.globals[1]?).map (·.type) = some 155 := by kernel_rfl
theorem tab_parts : (Rows.laid_moothill_cmd_parts : DataW Unit) = tabData .u8 [0, 51, 3, 35, 15, 15, 7, 23, 33] := by kernel_rfl
theorem of_laid1 {W : World} (h : laidMetH Tryz.prog laid1 W) : PartsIs W := by
  rw [MakeChecks.laidMetH_plain _ _ _ (by kernel_rfl)] at h
  obtain ⟨ps, ⟨g0, t0, cs0, f0, p0, q0, hg0, ht0, hv0, hd0, _, _⟩, _, _⟩ := h
  obtain rfl := Option.some.inj (gParts.symm.trans hg0)
  obtain rfl := Option.some.inj (tParts.symm.trans ht0)
  rw [tab_parts] at hd0
  have e0 := cells_of_tab Tryz.underlying155 Tryz.underlying144 (by kernel_rfl) (by kernel_rfl) hd0
  unfold PartsIs
  rw [hv0]
  congr 1
  exact Array.toList_inj.1 e0

theorem own7 : ownKnob Tryz.prog.godebug = none := by kernel_rfl
theorem laidOut7 : laidOutB Tryz.prog = true := by kernel_rfl

/-- The door's own heap meets the condition. -/
theorem door_met1 (os : Os) (args : Array Value) : laidMetH Tryz.prog laid1 ((World.doorLaid Tryz.prog 400 os).forCall (fun _ _ => 0) ⟨#[], args, []⟩).memory :=
  laidMetH_of_parts3 (fuel := 8) (laidMet_of_run' 8 (by kernel_rfl) (by kernel_rfl)) (by kernel_rfl) (by kernel_rfl)

end Go.Proofs.YtpdfakjopeldmaaGreatDoor
