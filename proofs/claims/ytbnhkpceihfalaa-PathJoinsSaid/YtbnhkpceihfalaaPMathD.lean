/-
  The mathematics of two paths one behind the other. No program in it.
-/
import Derived.Test.YtbnhkpceihfalaaPMathB
namespace Go.Proofs.Ytbnhkpceihfalaa

theorem takes_more {l : List (List UInt8)} {a : List (List UInt8)} (h : ∀ x ∈ a, isPart x = true) (b : List (List UInt8)) : takes l (a ++ b) = takes (l ++ a) b := by
  rw [takes_append, takes_parts h]; rfl
theorem takes_skip (l : List (List UInt8)) {x : List UInt8} (h : x = [] ∨ x = [46]) (b : List (List UInt8)) : takes l (x :: b) = takes l b := by
  simp only [takes]; rw [take1_none h]

/-- A path, a slash, another one. -/
theorem pieces_two (p q : List UInt8) : pieces (p ++ 47 :: q) = pieces p ++ pieces q := pieces_mid p q

theorem takes_right' {s : List UInt8} (h : right s = true) : takes [] (pieces s) = some (pieces s) := by
  rw [takes_parts (right_iff.1 h).2.1]; rfl

theorem normal_two {p q : List UInt8} (hp : right p = true) (hq : right q = true) : normal (p ++ [47, 47, 46, 47] ++ q ++ [47]) = finish (pieces p ++ pieces q) := by
  have e : p ++ [47, 47, 46, 47] ++ q ++ [47] = p ++ 47 :: ([] ++ 47 :: ([46] ++ 47 :: (q ++ 47 :: []))) := by simp
  have hp2 := (right_iff.1 hp).2.1
  have hq2 := (right_iff.1 hq).2.1
  unfold normal
  rw [e, pieces_mid, pieces_mid, pieces_mid, pieces_mid, takes_more hp2]
  rw [show pieces ([] : List UInt8) = [[]] from rfl, show pieces ([46] : List UInt8) = [[46]] from rfl, List.singleton_append, List.singleton_append, takes_skip _ (.inl rfl), takes_skip _ (.inr rfl), takes_more hq2, takes_skip _ (.inl rfl)]
  rfl

theorem finish_two {p q : List UInt8} (hp : right p = true) (hq : right q = true) :
    (right (p ++ 47 :: q) = true → finish (pieces p ++ pieces q) = (p ++ 47 :: q, 0)) ∧ (right (p ++ 47 :: q) = false → ∃ k, k ≠ 0 ∧ finish (pieces p ++ pieces q) = ([], k)) := by
  have hj : join (pieces p ++ pieces q) = p ++ 47 :: q := by rw [← pieces_two, join_pieces]
  constructor
  · intro h
    have := normal_right h
    unfold normal at this
    rw [takes_right' h, pieces_two] at this
    exact this
  · intro h
    by_cases h8 : 8 < (pieces p ++ pieces q).length
    · exact ⟨31, by decide, by unfold finish; rw [if_neg (by simp [pieces_ne]), if_pos h8]⟩
    · by_cases h64 : 64 < (join (pieces p ++ pieces q)).length
      · exact ⟨11, by decide, by unfold finish; rw [if_neg (by simp [pieces_ne]), if_neg h8, if_pos h64]⟩
      · exfalso
        have : right (p ++ 47 :: q) = true := by
          rw [right_iff, pieces_two]
          refine ⟨by rw [← hj]; omega, fun x hx => ?_, by omega⟩
          rcases List.mem_append.1 hx with hx | hx
          · exact (right_iff.1 hp).2.1 x hx
          · exact (right_iff.1 hq).2.1 x hx
        rw [this] at h; cases h

/-- Above the last part. -/
theorem normal_up {s : List UInt8} (h : right s = true) (h2 : 1 < (pieces s).length) : normal (s ++ [47, 46, 46]) = (join (pieces s).dropLast, 0) := by
  obtain ⟨k1, k2, k3⟩ := right_iff.1 h
  have hne : (pieces s).dropLast ≠ [] := by
    intro e
    have := congrArg List.length e
    rw [List.length_dropLast, List.length_nil] at this
    omega
  unfold normal
  rw [show s ++ [47, 46, 46] = s ++ 47 :: [46, 46] from rfl, pieces_mid, takes_more k2, show pieces ([46, 46] : List UInt8) = [[46, 46]] from rfl]
  simp only [takes]
  rw [List.nil_append, take1_up, if_neg (pieces_ne s)]
  have hw := front_above h (n := (pieces s).length - 1) (by omega)
  rw [← List.dropLast_eq_take] at hw
  obtain ⟨hr, _, _⟩ := above_pieces.1 hw
  refine finish_ok hne (by rw [List.length_dropLast]; omega) (right_iff.1 hr).1

theorem two_parts {p q : List UInt8} (hp : right p = true) (hq : right q = true) (h : right (p ++ 47 :: q) = true) : (parts (p ++ 47 :: q)).length = (parts p).length + (parts q).length ∧ 1 < (pieces (p ++ 47 :: q)).length := by
  rw [parts_right h, parts_right hp, parts_right hq, pieces_two, List.length_append]
  have h1 := List.length_pos_iff.2 (pieces_ne p)
  have h2 := List.length_pos_iff.2 (pieces_ne q)
  exact ⟨rfl, by omega⟩
theorem parent_two {s : List UInt8} (h : right s = true) (h2 : 1 < (pieces s).length) : parent s = (join (pieces s).dropLast, true) := by
  unfold parent; rw [parts_right h, if_pos h2]
theorem above_two {p q : List UInt8} (h : right (p ++ 47 :: q) = true) : above p (p ++ 47 :: q) = true := above_iff.2 ⟨h, .inr ⟨q, rfl⟩⟩

end Go.Proofs.Ytbnhkpceihfalaa
