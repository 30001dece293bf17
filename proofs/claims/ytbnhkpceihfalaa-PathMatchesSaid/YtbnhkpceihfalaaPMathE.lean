/-
  The mathematics of patterns: what a pattern's parts mean, gone through from the front, and part by part behind. No program in it.
-/
import Derived.Test.YtbnhkpceihfalaaPMathB
namespace Go.Proofs.Ytbnhkpceihfalaa

def anyTail (f : List (List UInt8) → Bool) : List (List UInt8) → Bool
  | [] => f []
  | y :: p => f (y :: p) || anyTail f p

/-- Does a pattern's rest mean a path's rest? -/
def means : List (List UInt8) → List (List UInt8) → Bool
  | [], p => p.isEmpty
  | x :: l, p => if x = [42, 42] then anyTail (means l) p else match p with
    | [] => false
    | y :: p => (decide (x = [42]) || decide (x = y)) && means l p

theorem means_star (l p : List (List UInt8)) : means ([42, 42] :: l) p = (means l p || (!p.isEmpty && means ([42, 42] :: l) p.tail)) := by
  cases p with
  | nil => simp [means, anyTail]
  | cons y p => simp [means, anyTail]
theorem means_any (l p : List (List UInt8)) : means ([42, 42] :: l) p = anyTail (means l) p := by
  cases p <;> simp [means]
theorem means_cons {x : List UInt8} (hx : x ≠ [42, 42]) (l : List (List UInt8)) (y : List UInt8) (p : List (List UInt8)) : means (x :: l) (y :: p) = ((decide (x = [42]) || decide (x = y)) && means l p) := by
  rw [means, if_neg hx]
theorem means_short {x : List UInt8} (hx : x ≠ [42, 42]) (l : List (List UInt8)) : means (x :: l) [] = false := by
  rw [means, if_neg hx]

theorem anyTail_iff (f : List (List UInt8) → Bool) : ∀ p, anyTail f p = true ↔ ∃ j, j ≤ p.length ∧ f (p.drop j) = true
  | [] => by
    unfold anyTail
    constructor
    · intro h; exact ⟨0, Nat.le_refl _, h⟩
    · rintro ⟨j, hj, h⟩; simpa using h
  | y :: p => by
    unfold anyTail
    rw [Bool.or_eq_true, anyTail_iff f p]
    constructor
    · rintro (h | ⟨j, hj, h⟩)
      · exact ⟨0, Nat.zero_le _, h⟩
      · exact ⟨j + 1, by simpa using hj, by simpa using h⟩
    · rintro ⟨j, hj, h⟩
      cases j with
      | zero => exact .inl h
      | succ j => exact .inr ⟨j, by simpa using hj, by simpa using h⟩

theorem means_append : ∀ (l r p : List (List UInt8)), means (l ++ r) p = true ↔ ∃ k, k ≤ p.length ∧ means l (p.take k) = true ∧ means r (p.drop k) = true
  | [], r, p => by
    rw [List.nil_append]
    constructor
    · intro h; exact ⟨0, Nat.zero_le _, rfl, h⟩
    · rintro ⟨k, hk, h1, h2⟩
      have h3 : p.take k = [] := by
        simp only [means, List.isEmpty_iff] at h1; exact h1
      have h4 : k = 0 := by
        have := congrArg List.length h3
        rw [List.length_take, List.length_nil] at this
        omega
      subst h4
      exact h2
  | x :: l, r, p => by
    rw [List.cons_append]
    by_cases hx : x = [42, 42]
    · subst hx
      have e1 : ∀ l' p', means ([42, 42] :: l') p' = anyTail (means l') p' := means_any
      simp only [e1, anyTail_iff]
      constructor
      · rintro ⟨j, hj, h⟩
        obtain ⟨k, hk, h1, h2⟩ := (means_append l r (p.drop j)).1 h
        rw [List.length_drop] at hk
        refine ⟨j + k, by omega, ⟨j, by rw [List.length_take]; omega, ?_⟩, by rw [List.drop_drop] at h2; exact h2⟩
        rw [List.drop_take]
        rw [show j + k - j = k by omega]
        exact h1
      · rintro ⟨k, hk, ⟨j, hj, h1⟩, h2⟩
        rw [List.length_take] at hj
        refine ⟨j, by omega, (means_append l r (p.drop j)).2 ⟨k - j, by rw [List.length_drop]; omega, ?_, ?_⟩⟩
        · rw [List.drop_take] at h1; exact h1
        · rw [List.drop_drop, show j + (k - j) = k by omega]; exact h2
    · cases p with
      | nil =>
        rw [means_short hx]
        constructor
        · intro h; cases h
        · rintro ⟨k, hk, h1, _⟩
          rw [List.take_nil, means_short hx] at h1
          cases h1
      | cons y p =>
        rw [means_cons hx, Bool.and_eq_true, means_append l r p]
        constructor
        · rintro ⟨h, k, hk, h1, h2⟩
          exact ⟨k + 1, by simpa using hk, by rw [List.take_succ_cons, means_cons hx, h, h1]; rfl, by simpa using h2⟩
        · rintro ⟨k, hk, h1, h2⟩
          cases k with
          | zero => rw [List.take_zero, means_short hx] at h1; cases h1
          | succ k =>
            rw [List.take_succ_cons, means_cons hx, Bool.and_eq_true] at h1
            exact ⟨h1.1, k, by simpa using hk, h1.2, by simpa using h2⟩

theorem means_one_star (p : List (List UInt8)) : means [[42, 42]] p = true := by
  rw [means_any, anyTail_iff]
  exact ⟨p.length, Nat.le_refl _, by rw [List.drop_length]; rfl⟩
theorem means_one {x : List UInt8} (hx : x ≠ [42, 42]) (p : List (List UInt8)) : means [x] p = true ↔ ∃ y, p = [y] ∧ (x = [42] ∨ x = y) := by
  cases p with
  | nil => rw [means_short hx]; simp
  | cons y p =>
    rw [means_cons hx]
    simp only [Bool.and_eq_true, Bool.or_eq_true, decide_eq_true_eq, means, List.isEmpty_iff]
    constructor
    · rintro ⟨h, rfl⟩; exact ⟨y, rfl, h⟩
    · rintro ⟨z, h, h2⟩
      injection h with h3 h4
      subst h3; exact ⟨h2, h4⟩

/-- With one more part behind: of nothing, and of one part more. -/
theorem means_snoc_nil (l : List (List UInt8)) (x : List UInt8) : means (l ++ [x]) [] = (decide (x = [42, 42]) && means l []) := by
  rw [Bool.eq_iff_iff, means_append, Bool.and_eq_true, decide_eq_true_iff]
  constructor
  · rintro ⟨k, hk, h1, h2⟩
    rw [List.take_nil] at h1
    rw [List.drop_nil] at h2
    refine ⟨?_, h1⟩
    rcases Decidable.em (x = [42, 42]) with h | h
    · exact h
    · rw [means_short h] at h2; cases h2
  · rintro ⟨rfl, h⟩
    exact ⟨0, Nat.le_refl _, h, means_one_star _⟩
theorem means_snoc_star (l p : List (List UInt8)) (i : Nat) (hi : i < p.length) : means (l ++ [[42, 42]]) (p.take (i + 1)) = (means l (p.take (i + 1)) || means (l ++ [[42, 42]]) (p.take i)) := by
  rw [Bool.eq_iff_iff, means_append, Bool.or_eq_true, means_append]
  simp only [means_one_star, and_true, List.length_take]
  constructor
  · rintro ⟨k, hk, h⟩
    by_cases e : k = i + 1
    · subst e; left; rwa [List.take_take, Nat.min_self] at h
    · right
      exact ⟨k, by omega, by rw [List.take_take] at h ⊢; rwa [show min k i = min k (i + 1) by omega]⟩
  · rintro (h | ⟨k, hk, h⟩)
    · exact ⟨i + 1, by omega, by rw [List.take_take, Nat.min_self]; exact h⟩
    · exact ⟨k, by omega, by rw [List.take_take] at h ⊢; rwa [show min k (i + 1) = min k i by omega]⟩
theorem means_snoc {x : List UInt8} (hx : x ≠ [42, 42]) (l p : List (List UInt8)) (i : Nat) (hi : i < p.length) : means (l ++ [x]) (p.take (i + 1)) = ((decide (x = [42]) || decide (x = p[i])) && means l (p.take i)) := by
  rw [Bool.eq_iff_iff, means_append, Bool.and_eq_true, Bool.or_eq_true, decide_eq_true_iff, decide_eq_true_iff]
  constructor
  · rintro ⟨k, hk, h1, h2⟩
    obtain ⟨y, hy, h3⟩ := (means_one hx _).1 h2
    have hl := congrArg List.length hy
    rw [List.length_drop, List.length_take, List.length_singleton] at hl
    have hki : k = i := by omega
    subst hki
    rw [List.take_take, show min k (k + 1) = k by omega] at h1
    refine ⟨?_, h1⟩
    have h4 : p[k] = y := by
      have := congrArg (fun l => l[0]?) hy
      simp at this
      rw [List.getElem?_eq_getElem hi] at this
      exact Option.some.inj this
    rw [h4]; exact h3
  · rintro ⟨h, h1⟩
    refine ⟨i, by rw [List.length_take]; omega, by rw [List.take_take, show min i (i + 1) = i by omega]; exact h1, (means_one hx _).2 ⟨p[i], ?_, h⟩⟩
    rw [List.drop_take, show i + 1 - i = 1 by omega, List.drop_eq_getElem_cons hi]; rfl

theorem means_self : ∀ {p : List (List UInt8)}, (∀ x ∈ p, isPart x = true) → means p p = true
  | [], _ => rfl
  | x :: p, h => by
    have hx : x ≠ [42, 42] := by rintro rfl; exact absurd (h [42, 42] (by simp)) (by decide)
    rw [means_cons hx, means_self (fun y hy => h y (by simp [hy]))]
    simp

end Go.Proofs.Ytbnhkpceihfalaa
