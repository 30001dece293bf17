/-
  LockSafe: what holds of granted entries.
-/
import Derived.Test.YtgjbhlianlbflaaLkAheadMath
namespace Go.Proofs.Ytgjbhlianlbflaa
open Go.ChangeShapes Go.WideShapes Go.ChangeAt Go.RowKit Go.Maps Go.WideMaps
set_option linter.unusedVariables false
set_option linter.unusedSimpArgs false

theorem grant_mem {l : List EnL} {e : EnL} (h : grantE l e = true) : e ∈ l ∧ freeE l e = true := by
  unfold grantE at h
  simp only [Bool.and_eq_true] at h
  obtain ⟨h1, h2, h3⟩ := h
  obtain ⟨x, hx⟩ := Option.isSome_iff_exists.1 h1
  unfold getE at h2
  rw [hx] at h2
  have := eqE_iff.1 h2
  simp at this
  subst this
  exact ⟨(findE_mem hx).1, h3⟩
theorem grant_iff {first : Int} {l : List EnL} {cs : CnL} (h : GoodK first l cs) {e : EnL} (he : e ∈ l) : grantE l e = freeE l e := by
  have hf := h.find he
  unfold grantE getE
  rw [hf]
  simp [eqE_self]
/-- Of two that are granted neither is in the other's way. -/
theorem grant_way {first : Int} {l : List EnL} {cs : CnL} (h : GoodK first l cs) {a b : EnL} (ha : grantE l a = true) (hb : grantE l b = true) (hne : a ≠ b) : wayE a b = false := by
  obtain ⟨i, hi⟩ := List.mem_iff_getElem?.1 (grant_mem ha).1
  obtain ⟨j, hj⟩ := List.mem_iff_getElem?.1 (grant_mem hb).1
  cases hw : wayE a b with
  | false => rfl
  | true =>
    have fa := (grant_mem ha).2
    have fb := (grant_mem hb).2
    unfold freeE at fa fb
    rw [List.all_eq_true] at fa fb
    rcases Nat.lt_trichotomy i j with hlt | hlt | hlt
    · have h1 := (beh_at h hj hi).2 ⟨hlt, hw⟩
      have h2 := fb a (grant_mem ha).1
      rw [h1] at h2
      exact absurd h2 (by decide)
    · subst hlt
      rw [hi] at hj
      injection hj with hj
      exact absurd hj hne
    · have h1 := (beh_at h hi hj).2 ⟨hlt, by rw [way_comm]; exact hw⟩
      have h2 := fa b (grant_mem hb).1
      rw [h1] at h2
      exact absurd h2 (by decide)
/-- One that is granted stays so till it goes. -/
theorem grant_stays {first : Int} {l : List EnL} {cs : CnL} (h : GoodK first l cs) {o : OpK} (ho : MadeK o) {n : Nat} (hg : GoodD n first l cs) {e : EnL} (he : grantE l e = true) (hin : e ∈ stpL first l cs o) : grantE (stpL first l cs o) e = true := by
  have hgood : GoodK first (stpL first l cs o) (stpC first l cs o) := (hg.step ho).1
  rw [grant_iff hgood hin]
  obtain ⟨hm, hf⟩ := grant_mem he
  unfold freeE at hf ⊢
  rw [List.all_eq_true] at hf ⊢
  have sub : ∀ (q : EnL → Bool), ∀ x ∈ l.filter q, (!behE e x) = true := fun q x hx => hf x (List.mem_filter.1 hx).1
  intro x hx
  unfold stpL at hx
  by_cases h1 : o.kd = 1
  · rw [if_pos h1] at hx
    unfold addOutL at hx
    by_cases hm2 : mayE first l cs o.path o.u o.foot o.mo = 0
    · rw [if_pos hm2] at hx
      rcases List.mem_append.1 hx with hx | hx
      · exact hf x hx
      · rw [List.mem_singleton.1 hx]
        cases hb : behE e (addE first l cs o.path o.u o.foot o.mo) with
        | false => rfl
        | true =>
          unfold behE at hb
          simp only [Bool.and_eq_true, decide_eq_true_eq] at hb
          have hov : ovE o.path e = true := by
            have := way_ov hb.2
            exact this
          have := (top_ge l o.path).2 e hm hov
          have hs : (addE first l cs o.path o.u o.foot o.mo).stamp = topE l o.path + 1 := rfl
          rw [hs] at hb
          omega
    · rw [if_neg hm2] at hx
      exact hf x hx
  · rw [if_neg h1] at hx
    by_cases h2 : o.kd = 2
    · rw [if_pos h2] at hx
      exact sub _ x hx
    · rw [if_neg h2] at hx
      by_cases h3 : o.kd = 3
      · rw [if_pos h3] at hx
        exact sub _ x hx
      · rw [if_neg h3] at hx
        exact hf x hx
/-- Of one path those that came later have greater sequencers. -/
theorem seq_rise {first : Int} {l : List EnL} {cs : CnL} (h : GoodK first l cs) {a b : EnL} (ha : a ∈ l) (hb : b ∈ l) (hp : a.path = b.path) (hs : a.stamp < b.stamp) : a.n < b.n := by
  obtain ⟨i, hi⟩ := List.mem_iff_getElem?.1 ha
  obtain ⟨j, hj⟩ := List.mem_iff_getElem?.1 hb
  obtain ⟨h1, h2⟩ := List.getElem?_eq_some_iff.1 hi
  obtain ⟨h3, h4⟩ := List.getElem?_eq_some_iff.1 hj
  subst h2 h4
  rcases Nat.lt_trichotomy i j with hlt | hlt | hlt
  · exact List.pairwise_iff_getElem.1 h.seq i j h1 h3 hlt hp
  · subst hlt; omega
  · have hov : overlap (L l[j].path) (L l[i].path) = true := by rw [hp]; exact ov_self (h.ok _ hb).1
    have := List.pairwise_iff_getElem.1 h.ord j i h3 h1 hlt hov
    omega
end Go.Proofs.Ytgjbhlianlbflaa
