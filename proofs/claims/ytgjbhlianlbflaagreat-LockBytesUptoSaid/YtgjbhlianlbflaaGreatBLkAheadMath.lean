/-
  LockAhead: what its lists come to.
-/
import Derived.Test.YtgjbhlianlbflaaGreatBLkPlay
namespace Go.Proofs.YtgjbhlianlbflaaGreat
open Go.ChangeShapes Go.WideShapes Go.ChangeAt Go.RowKit Go.Maps Go.WideMaps
set_option linter.unusedVariables false
set_option linter.unusedSimpArgs false
theorem good_at {first : Int} {l : List EnL} {cs : CnL} (h : GoodK first l cs) {i j : Nat} {a b : EnL} (hi : l[i]? = some a) (hj : l[j]? = some b) (he : a.path = b.path ∧ a.num = b.num ∧ a.foot = b.foot) : i = j := by
  obtain ⟨h1, h2⟩ := List.getElem?_eq_some_iff.1 hi
  obtain ⟨h3, h4⟩ := List.getElem?_eq_some_iff.1 hj
  subst h2 h4
  have hp := List.pairwise_iff_getElem.1 h.dist
  rcases Nat.lt_trichotomy i j with hlt | hlt | hlt
  · exact absurd he (hp i j h1 h3 hlt)
  · exact hlt
  · exact absurd ⟨he.1.symm, he.2.1.symm, he.2.2.symm⟩ (hp j i h3 h1 hlt)
theorem idx_pos {first : Int} {l : List EnL} {cs : CnL} (h : GoodK first l cs) {i : Nat} {e : EnL} (hi : l[i]? = some e) : idxE l e.path e.num e.foot = (i : Int) ∧ findE l e.path e.num e.foot = some e := by
  refine idx_at hi (fun k hk q hq => ?_) (isE_iff.2 ⟨rfl, rfl, rfl⟩)
  cases hb : isE e.path e.num e.foot q with
  | false => rfl
  | true => have := good_at h hq hi (isE_iff.1 hb); omega
end Go.Proofs.YtgjbhlianlbflaaGreat
