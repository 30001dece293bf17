/-
  A command among the arguments, opened; what the three rows' one listed variable gives the walks, and that the door's own run meets it.
-/
import Derived.Test.YtohffiehmmcgbaaGreatDoorRows
import Derived.Test.YtohffiehmmcgbaaGreatDoorWA
import Derived.ProofKit
import Derived.LaidMore
import Derived.LaidLaws
import Derived.LaidHandle
import Derived.MakeChecks
import Derived.OpenShut
import Derived.Stop.Joined
import Derived.Lib.LaidTab
import Derived.Test.YtohffiehmmcgbaaGreatDoorWC
namespace Go.Proofs.YtohffiehmmcgbaaGreatDoor
open Go.ChangeShapes Go.WideShapes Go.ChangeAt Go.WideMaps Go.WideElems Go.RowKit Go.Lib
abbrev laid1 : List (String × DataW Unit) := [("moothill/cmd.parts", Rows.laid_moothill_cmd_parts)]
theorem tParts : (Tryz.prog.globals[3]?).map (·.type) = some 154 := by kernel_rfl
theorem tab_parts : (Rows.laid_moothill_cmd_parts : DataW Unit) = tabData .u8 [0, 51, 3, 35, 15, 15, 7, 23, 33] := by kernel_rfl
theorem of_laid1 {W : World} (h : laidMetH Tryz.prog laid1 W) : PartsIs W := by
  rw [MakeChecks.laidMetH_plain _ _ _ (by kernel_rfl)] at h
  obtain ⟨ps, ⟨g0, t0, cs0, f0, p0, q0, hg0, ht0, hv0, hd0, _, _⟩, _, _⟩ := h
  obtain rfl := Option.some.inj (gParts.symm.trans hg0)
  obtain rfl := Option.some.inj (tParts.symm.trans ht0)
  rw [tab_parts] at hd0
  have e0 := cells_of_tab Tryz.underlying154 Tryz.underlying108 (by kernel_rfl) (by kernel_rfl) hd0
  unfold PartsIs
  rw [hv0]
  congr 1
  exact Array.toList_inj.1 e0
theorem own7 : ownKnob Tryz.prog.godebug = none := by kernel_rfl
theorem laidOut7 : laidOutB Tryz.prog = true := by kernel_rfl
theorem door_met1 (os : Os) (args : Array Value) : laidMetH Tryz.prog laid1 ((World.doorLaid Tryz.prog 400 os).forCall (fun _ _ => 0) ⟨#[], args, []⟩).memory :=
  laidMetH_of_parts3 (fuel := 8) (laidMet_of_run' 8 (by kernel_rfl) (by kernel_rfl)) (by kernel_rfl) (by kernel_rfl)
end Go.Proofs.YtohffiehmmcgbaaGreatDoor
namespace Go.Proofs.YtohffiehmmcgbaaGreatDoor
open Go.ChangeShapes Go.WideShapes Go.ChangeAt Go.RowKit
end Go.Proofs.YtohffiehmmcgbaaGreatDoor
namespace Go.Proofs.YtohffiehmmcgbaaGreatDoor
open Go.ChangeShapes Go.WideShapes Go.ChangeAt Go.WideMaps Go.WideElems Go.RowKit Go.Lib
end Go.Proofs.YtohffiehmmcgbaaGreatDoor
