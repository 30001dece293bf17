/-
  The contract of Put (package cmd), once for each class of kinds: a right command's bytes.
-/
import Derived.Test.YtohffiehmmcgbaaGreatDoorUC
import Derived.Test.YtohffiehmmcgbaaGreatDoorUKRight
namespace Go.Proofs.YtohffiehmmcgbaaGreatDoor
open Go.ChangeShapes Go.WideShapes Go.ChangeAt Go.RowKit Go.Lib
set_option linter.unusedSimpArgs false
set_option linter.unusedVariables false
end Go.Proofs.YtohffiehmmcgbaaGreatDoor
