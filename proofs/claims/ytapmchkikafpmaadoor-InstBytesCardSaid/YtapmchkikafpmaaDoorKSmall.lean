/-
  The law's small and of; the document's table of kinds; Client and Foot (package cmd).
-/
import Derived.Test.YtapmchkikafpmaaDoorKRight
namespace Go.Proofs.YtapmchkikafpmaaDoor
open Go.ChangeShapes Go.WideShapes Go.ChangeAt Go.RowKit Go.Lib

def smallK (c : K) : Bool := decide (c.path.size < 200) && decide (c.foot.size < 200)

/-- A command's footprint. -/
def footK (c : K) : ByteArray × Bool := if rightK c && h0 c.kind then (if h2 c.kind then c.path else c.foot, true) else (⟨#[]⟩, false)

end Go.Proofs.YtapmchkikafpmaaDoor
