/-
  Steps of a region that only reads, in a wrapper that elaboration doesn't unfold.
-/
import Derived.Test.YtgjbhlianlbflaaGreatBLsMini
namespace Go.Proofs.YtgjbhlianlbflaaGreat
end Go.Proofs.YtgjbhlianlbflaaGreat
