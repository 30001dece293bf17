/-
  The contract of Put (package cmd), once for each class of kinds: a right command's bytes.
-/
import Derived.Test.YtpdfakjopeldmaaGreatDoorZKEnc
import Derived.Test.YtpdfakjopeldmaaGreatDoorKRight
namespace Go.Proofs.YtpdfakjopeldmaaGreatDoor
open Go.ChangeShapes Go.WideShapes Go.ChangeAt Go.RowKit Go.Lib
set_option linter.unusedSimpArgs false
set_option linter.unusedVariables false

end Go.Proofs.YtpdfakjopeldmaaGreatDoor
