/-
  LockAhead: what its lists come to.
-/
import Derived.Test.YtgjbhlianlbflaaGreatLkPlay
namespace Go.Proofs.YtgjbhlianlbflaaGreat
open Go.ChangeShapes Go.WideShapes Go.ChangeAt Go.RowKit Go.Maps Go.WideMaps
set_option linter.unusedVariables false
set_option linter.unusedSimpArgs false

theorem good_at {first : Int} {l : List EnL} {cs : CnL} (h : GoodK first l cs) {i j : Nat} {a b : EnL} (hi : l[i]? = some a) (hj : l[j]? = some b) (he : a.path = b.path ∧ a.num = b.num ∧ a.foot = b.foot) : i = j := by
  obtain ⟨h1, h2⟩ := List.getElem?_eq_some_iff.1 hi
  obtain ⟨h3, h4⟩ := List.getElem?_eq_some_iff.1 hj
  subst h2 h4
  have hp := List.pairwise_iff_getElem.1 h.dist
  rcases Nat.lt_trichotomy i j with hlt | hlt | hlt
  · exact absurd he (hp i j h1 h3 hlt)
  · exact hlt
  · exact absurd ⟨he.1.symm, he.2.1.symm, he.2.2.symm⟩ (hp j i h3 h1 hlt)
theorem idx_pos {first : Int} {l : List EnL} {cs : CnL} (h : GoodK first l cs) {i : Nat} {e : EnL} (hi : l[i]? = some e) : idxE l e.path e.num e.foot = (i : Int) ∧ findE l e.path e.num e.foot = some e := by
  refine idx_at hi (fun k hk q hq => ?_) (isE_iff.2 ⟨rfl, rfl, rfl⟩)
  cases hb : isE e.path e.num e.foot q with
  | false => rfl
  | true => have := good_at h hq hi (isE_iff.1 hb); omega
theorem beh_at {first : Int} {l : List EnL} {cs : CnL} (h : GoodK first l cs) {i j : Nat} {e y : EnL} (hi : l[i]? = some e) (hj : l[j]? = some y) : behE e y = true ↔ j < i ∧ wayE y e = true := by
  obtain ⟨h1, h2⟩ := List.getElem?_eq_some_iff.1 hi
  obtain ⟨h3, h4⟩ := List.getElem?_eq_some_iff.1 hj
  have hp := List.pairwise_iff_getElem.1 h.ord
  unfold behE
  rw [way_comm e y]
  simp only [Bool.and_eq_true, decide_eq_true_eq]
  constructor
  · rintro ⟨hs, hw⟩
    refine ⟨?_, hw⟩
    rcases Nat.lt_trichotomy j i with hlt | hlt | hlt
    · exact hlt
    · subst hlt; rw [h2] at h4; subst h4; omega
    · have := hp i j h1 h3 hlt (by rw [h2, h4, ov_comm]; exact way_ov hw)
      rw [h2, h4] at this
      omega
  · rintro ⟨hlt, hw⟩
    have := hp j i h3 h1 hlt (by rw [h2, h4]; exact way_ov hw)
    rw [h2, h4] at this
    exact ⟨this, hw⟩
/-- How many that came earlier are in an entry's way. -/
def cntW (l : List EnL) (i : Nat) (e : EnL) : Nat := (l.take i).countP fun y => wayE y e
theorem cntW_snoc {l : List EnL} {j : Nat} {y e : EnL} (hj : l[j]? = some y) : cntW l (j + 1) e = cntW l j e + if wayE y e = true then 1 else 0 := by
  unfold cntW
  rw [take_snoc' hj, List.countP_append]
  simp [List.countP_cons]
theorem cntW_le (l : List EnL) (i : Nat) (e : EnL) : cntW l i e ≤ i := Nat.le_trans List.countP_le_length (by rw [List.length_take]; omega)
theorem countP_idx {p q : EnL → Bool} : ∀ {l : List EnL}, (∀ (j : Nat) (y : EnL), l[j]? = some y → p y = q y) → l.countP p = l.countP q
  | [], _ => rfl
  | a :: l, h => by
    rw [List.countP_cons, List.countP_cons, countP_idx (l := l) (fun j y hj => h (j + 1) y (by simpa using hj)), h 0 a rfl]
theorem cnt_beh {first : Int} {l : List EnL} {cs : CnL} (h : GoodK first l cs) {i : Nat} {e : EnL} (hi : l[i]? = some e) : (l.filter (behE e)).length = cntW l i e := by
  have hl := (List.getElem?_eq_some_iff.1 hi).1
  rw [← List.countP_eq_length_filter]
  conv => lhs; rw [← List.take_append_drop i l]
  rw [List.countP_append]
  have h1 : (l.take i).countP (behE e) = cntW l i e := by
    unfold cntW
    refine countP_idx fun j y hj => ?_
    rw [List.getElem?_take] at hj
    split at hj
    · next hlt =>
      have := beh_at h hi hj
      rw [Bool.eq_iff_iff, this]
      exact ⟨fun x => x.2, fun x => ⟨hlt, x⟩⟩
    · simp at hj
  have h2 : (l.drop i).countP (behE e) = 0 := by
    rw [List.countP_eq_zero]
    intro y hy hb
    obtain ⟨j, hj⟩ := List.mem_iff_getElem?.1 hy
    rw [List.getElem?_drop] at hj
    have := (beh_at h hi hj).1 hb
    omega
  rw [h1, h2]
  omega
theorem grant_at {first : Int} {l : List EnL} {cs : CnL} (h : GoodK first l cs) {i : Nat} {e : EnL} (hi : l[i]? = some e) : grantE l e = decide (cntW l i e = 0) := by
  have hf := (idx_pos h hi).2
  unfold grantE getE
  rw [hf]
  have hq : eqE e e = true := eqE_self e
  simp only [Option.isSome_some, Option.getD_some, Bool.true_and, hq]
  rw [Bool.eq_iff_iff, decide_eq_true_eq, ← cnt_beh h hi]
  unfold freeE
  rw [List.all_eq_true, List.length_eq_zero_iff, List.filter_eq_nil_iff]
  exact ⟨fun x y hy hb => by have := x y hy; rw [hb] at this; exact absurd this (by decide), fun x y hy => by have := x y hy; simpa using this⟩
/-- What is left of a book, some entries away. -/
def leftE (l az : List EnL) : List EnL := l.filter fun x => !(az.any fun a => eqE a x)
theorem left_nil (l : List EnL) : leftE l [] = l := by unfold leftE; simp
theorem left_snoc {first : Int} {l : List EnL} {cs : CnL} (h : GoodK first l cs) {az : List EnL} {a : EnL} (ha : a ∈ l) : leftE l (az ++ [a]) = rmE (leftE l az) a.path a.num a.foot := by
  unfold leftE rmE
  rw [List.filter_filter]
  refine List.filter_congr fun x hx => ?_
  rw [List.any_append]
  have : ([a].any fun a => eqE a x) = isE a.path a.num a.foot x := by
    rw [Bool.eq_iff_iff]
    simp only [List.any_cons, List.any_nil, Bool.or_false]
    rw [eqE_iff, isE_iff]
    exact ⟨fun e => by subst e; exact ⟨rfl, rfl, rfl⟩, fun e => (h.one hx ha e).symm⟩
  rw [this]
  cases (az.any fun a => eqE a x) <;> cases isE a.path a.num a.foot x <;> rfl
/-- All that are ahead away: granted. -/
theorem grant_left {first : Int} {l : List EnL} {cs : CnL} (h : GoodK first l cs) {i : Nat} {e : EnL} (hi : l[i]? = some e) {az : List EnL} (hp : az.Perm (l.filter (behE e))) : grantE (leftE l az) e = true := by
  have hme : e ∈ l := List.mem_of_getElem? hi
  have hne : behE e e = false := by
    cases hb : behE e e with
    | false => rfl
    | true => have := ((beh_at h hi hi).1 hb).1; omega
  have hin : e ∈ leftE l az := by
    unfold leftE
    refine List.mem_filter.2 ⟨hme, ?_⟩
    simp only [Bool.not_eq_true', List.any_eq_false]
    intro a ha hq
    rw [eqE_iff.1 hq] at ha
    have := (List.mem_filter.1 (hp.mem_iff.1 ha)).2
    rw [hne] at this
    exact absurd this (by decide)
  have hg : GoodK first (leftE l az) cs := h.filter _
  have hf := hg.find hin
  unfold grantE getE
  rw [hf]
  have hq : eqE e e = true := eqE_self e
  simp only [Option.isSome_some, Option.getD_some, Bool.true_and, hq]
  unfold freeE
  rw [List.all_eq_true]
  intro y hy
  have hy2 := List.mem_filter.1 hy
  cases hb : behE e y with
  | false => rfl
  | true =>
    have hm : y ∈ az := hp.mem_iff.2 (List.mem_filter.2 ⟨hy2.1, hb⟩)
    have h3 := hy2.2
    simp only [Bool.not_eq_true', List.any_eq_false] at h3
    exact absurd (eqE_self y) (h3 y hm)
end Go.Proofs.YtgjbhlianlbflaaGreat
