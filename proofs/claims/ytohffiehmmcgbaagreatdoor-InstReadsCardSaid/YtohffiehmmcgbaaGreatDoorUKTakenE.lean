/-
  The contract of withTaken (package cmd), once for each class of kinds: off any bytes.
-/
import Derived.Test.YtohffiehmmcgbaaGreatDoorUC
namespace Go.Proofs.YtohffiehmmcgbaaGreatDoor
open Go.ChangeShapes Go.WideShapes Go.ChangeAt Go.RowKit Go.Lib
set_option linter.unusedSimpArgs false
set_option linter.unusedVariables false
end Go.Proofs.YtohffiehmmcgbaaGreatDoor
