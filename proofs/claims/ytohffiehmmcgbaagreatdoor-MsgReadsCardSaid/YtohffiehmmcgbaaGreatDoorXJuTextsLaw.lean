/-
  The law InstTexts, walked.
-/
import Derived.Test.YtohffiehmmcgbaaGreatDoorXJuRead
import Derived.Test.YtohffiehmmcgbaaGreatDoorXJuText
import Derived.Test.YtohffiehmmcgbaaGreatDoorXJuShowB
import Derived.Test.YtohffiehmmcgbaaGreatDoorXL
import Derived.Test.YtohffiehmmcgbaaGreatDoorXJRef
import Derived.LoopTactic
namespace Go.Proofs.YtohffiehmmcgbaaGreatDoor
open Go.ChangeShapes Go.WideShapes Go.ChangeAt Go.RowKit Go.Lib
set_option linter.unusedVariables false
set_option linter.unusedSimpArgs false
theorem rightJ_congr {x y : J} (h : eqJ x y = true) : rightJ x = rightJ y := by
  unfold eqJ at h
  simp only [Bool.and_eq_true, beq_iff_eq, decide_eq_true_eq] at h
  obtain ⟨⟨h1, h2⟩, h3, h4, h5, h6, h7, h8⟩ := h
  have e : x = ⟨y.r, y.s, y.st, y.bal, y.vote, y.same, y.c, x.f⟩ := by
    obtain ⟨a, b, c, d, e, f, g, i⟩ := x
    simp only at h1 h2 h3 h4 h5 h6 h7
    subst h1 h2 h3 h4 h5 h6 h7
    rfl
  rw [e]
  exact rightJ_att y x.f h8
theorem right_ok {x : J} (hok : okJ x) (hr : rightJ x = true) (h : x.st ≠ 0) : rightK x.c = true ∧ okB x.f = true := by
  obtain ⟨a, b, v, u, t, _, _, _, _, ht, _, _, _, _, _, _, _, hn0, _⟩ := rightJ_in hok hr
  exact hn0 (by omega)
theorem textJ_size {x : J} {t : ByteArray} (hok : okJ x) (hK : okK x.c) (hr : rightJ x = true) (hh : (headT x).length ≤ 1000) (ht : Sb t = textJ x) : t.size ≤ 8000 := by
  have h := congrArg List.length ht
  rw [Sb_length, head_textJ, List.length_append] at h
  by_cases h0 : x.st = 0
  · rw [if_pos h0] at h
    simp at h
    omega
  · rw [if_neg h0] at h
    have := txtj_len x.c hK (right_ok hok hr h0).1
    omega
end Go.Proofs.YtohffiehmmcgbaaGreatDoor
