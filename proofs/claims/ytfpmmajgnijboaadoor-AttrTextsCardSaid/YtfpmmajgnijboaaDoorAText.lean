/-
  Attributes' text: where it is cut, and that its numbers are read again. No program in it.
-/
import Derived.Test.YtfpmmajgnijboaaDoorAMath
import Derived.Test.YtfpmmajgnijboaaDoorMText
import Derived.Lib.Join
namespace Go.Proofs.YtfpmmajgnijboaaDoor
open Go.Lib
set_option linter.unusedVariables false

/-- A text cut at its first byte of one kind: what is ahead, and behind. -/
def cutC (c : UInt8) : List UInt8 → List UInt8 × List UInt8
  | [] => ([], [])
  | d :: l => if d = c then ([], l) else (d :: (cutC c l).1, (cutC c l).2)
theorem cutC_app (c : UInt8) : ∀ (x y : List UInt8), (∀ d ∈ x, d ≠ c) → cutC c (x ++ c :: y) = (x, y)
  | [], y, _ => by simp [cutC]
  | d :: x, y, h => by
    have h1 := h d (by simp)
    simp only [List.cons_append, cutC, if_neg h1]
    rw [cutC_app c x y (fun e he => h e (List.mem_cons_of_mem _ he))]
theorem cutC_all (c : UInt8) : ∀ (x : List UInt8), (∀ d ∈ x, d ≠ c) → cutC c x = (x, [])
  | [], _ => rfl
  | d :: x, h => by
    have h1 := h d (by simp)
    simp only [cutC, if_neg h1]
    rw [cutC_all c x (fun e he => h e (List.mem_cons_of_mem _ he))]
theorem cutC_index (c : UInt8) : ∀ l : List UInt8, (indexByte l c = -1 ∧ cutC c l = (l, [])) ∨ ∃ k : Nat, indexByte l c = (k : Int) ∧ k < l.length ∧ cutC c l = (l.take k, l.drop (k + 1))
  | [] => .inl ⟨rfl, rfl⟩
  | d :: l => by
    by_cases hc : d = c
    · subst hc
      exact .inr ⟨0, by simp [indexByte], by simp, by simp [cutC]⟩
    · have hb : (d == c) = false := by simpa using hc
      rcases cutC_index c l with ⟨h1, h2⟩ | ⟨k, h1, h2, h3⟩
      · refine .inl ⟨?_, by simp only [cutC, if_neg hc, h2]⟩
        simp only [indexByte, hb, h1]; decide
      · refine .inr ⟨k + 1, ?_, by simp; omega, by simp only [cutC, if_neg hc, h3]; rfl⟩
        have hk : ((k : Int) == -1) = false := by simp
        simp [indexByte, hb, h1, hk]
theorem cutC_len (c : UInt8) : ∀ l : List UInt8, (cutC c l).1.length ≤ l.length ∧ (cutC c l).2.length ≤ l.length
  | [] => ⟨Nat.le_refl _, Nat.le_refl _⟩
  | d :: l => by
    have h := cutC_len c l
    unfold cutC
    split
    · exact ⟨by simp, by simp⟩
    · exact ⟨by simp; exact h.1, by simp; omega⟩

theorem itoa_none (n : Int) (c : UInt8) (h1 : c ≠ 45) (h2 : c.toNat < 48 ∨ 57 < c.toNat) : ∀ d ∈ itoa n, d ≠ c := by
  intro d hd he
  subst he
  unfold itoa at hd
  split at hd
  · rcases List.mem_cons.1 hd with h | h
    · exact h1 h
    · have := dec_digits _ _ h; omega
  · have := dec_digits _ _ hd; omega

/-- The seven's texts, and the attributes'. -/
def partsA (f : Nat → Int) : List (List UInt8) := (List.range 7).map fun i => itoa (f (1 + i))
def textA (f : Nat → Int) : List UInt8 := itoa (f 0) ++ 124 :: join (partsA f) [44]
theorem partsA_len (f : Nat → Int) : (partsA f).length = 7 := by simp [partsA]
theorem partsA_at (f : Nat → Int) {j : Nat} (hj : j < 7) : (partsA f)[j]? = some (itoa (f (1 + j))) := by simp [partsA, List.getElem?_range hj]
theorem parts_drop (f : Nat → Int) {j : Nat} (hj : j < 7) : (partsA f).drop j = itoa (f (1 + j)) :: (partsA f).drop (j + 1) := by
  rw [List.drop_eq_getElem_cons (by rw [partsA_len]; exact hj)]
  congr 1
  have h := partsA_at f hj
  rw [List.getElem?_eq_getElem (by rw [partsA_len]; exact hj)] at h
  exact Option.some.inj h
theorem joinTail_nil (sep : List UInt8) : joinTail sep [] = [] := rfl
theorem joinTail_cons (sep y : List UInt8) (r : List (List UInt8)) : joinTail sep (y :: r) = sep ++ y ++ joinTail sep r := by simp [joinTail]
theorem cut_join {x : List UInt8} {r : List (List UInt8)} (hx : ∀ d ∈ x, d ≠ 44) : cutC 44 (join (x :: r) [44]) = (x, join r [44]) := by
  cases r with
  | nil => rw [join_one, cutC_all 44 x hx, join_nil]
  | cons y r =>
    rw [join_cons, joinTail_cons, join_cons]
    simp only [List.cons_append, List.nil_append]
    exact cutC_app 44 x _ hx

/-- What is left of a text behind the bar and j commas; what stands ahead of them. -/
def restA (l : List UInt8) : Nat → List UInt8
  | 0 => (cutC 124 l).2
  | j + 1 => (cutC 44 (restA l j)).2
def pieceA (l : List UInt8) : Nat → List UInt8
  | 0 => (cutC 124 l).1
  | j + 1 => (cutC 44 (restA l j)).1
theorem restA_len (l : List UInt8) : ∀ j, (restA l j).length ≤ l.length
  | 0 => (cutC_len 124 l).2
  | j + 1 => Nat.le_trans (cutC_len 44 (restA l j)).2 (restA_len l j)
theorem pieceA_len (l : List UInt8) (j : Nat) : (pieceA l j).length ≤ l.length := by
  cases j with
  | zero => exact (cutC_len 124 l).1
  | succ j => exact Nat.le_trans (cutC_len 44 (restA l j)).1 (restA_len l j)
theorem rest_text (f : Nat → Int) : ∀ j, j ≤ 7 → restA (textA f) j = join ((partsA f).drop j) [44]
  | 0, _ => by
    unfold restA textA
    rw [cutC_app 124 _ _ (itoa_none _ _ (by decide) (by decide))]
    rfl
  | j + 1, hj => by
    unfold restA
    rw [rest_text f j (by omega), parts_drop f (by omega), cut_join (itoa_none _ _ (by decide) (by decide))]
theorem piece_text (f : Nat → Int) {j : Nat} (hj : j < 8) : pieceA (textA f) j = itoa (f j) := by
  cases j with
  | zero =>
    unfold pieceA textA
    rw [cutC_app 124 _ _ (itoa_none _ _ (by decide) (by decide))]
  | succ j =>
    show (cutC 44 (restA (textA f) j)).1 = itoa (f (j + 1))
    rw [rest_text f j (by omega), parts_drop f (by omega), cut_join (itoa_none _ _ (by decide) (by decide)), Nat.add_comm]

/-- Are the first n of these the numbers of a text, where it has such? -/
def Fits (V : Nat → Int) (l : List UInt8) (n : Nat) : Prop := ∀ i, i < n → ∀ x, atoiAll (pieceA l i) = .ok x → V i = x
theorem Fits.next {V : Nat → Int} {l : List UInt8} {n : Nat} {v : Int} (h : Fits V l n) (hv : ∀ x, atoiAll (pieceA l n) = .ok x → v = x) : Fits (upd V n v) l (n + 1) := by
  intro i hi x hx
  unfold upd
  by_cases e : i = n
  · rw [if_pos e]; exact hv x (e ▸ hx)
  · rw [if_neg e]; exact h i (by omega) x hx
theorem fits_text {f V : Nat → Int} (hf : okB f = true) (h : Fits V (textA f) 8) : ∀ i, i < 8 → V i = f i := by
  intro i hi
  refine h i hi _ ?_
  rw [piece_text f hi]
  obtain ⟨h0, h1⟩ := okB_iff.1 hf
  have hb : 0 ≤ f i ∧ f i ≤ 1073741824 := by
    cases i with
    | zero => exact h0
    | succ i => have := h1 i (by omega); omega
  exact atoi_itoa _ (by omega) (by omega)
theorem okB_congr {f g : Nat → Int} (h : ∀ i, i < 8 → f i = g i) : okB f = okB g := by
  have e : ∀ {a b : Nat → Int}, (∀ i, i < 8 → a i = b i) → okB a = true → okB b = true := fun {a b} hab ha => by
    obtain ⟨h0, h1⟩ := okB_iff.1 ha
    exact okB_iff.2 ⟨by rw [← hab 0 (by decide)]; exact h0, fun i hi => by rw [← hab (i + 1) (by omega)]; exact h1 i hi⟩
  rw [Bool.eq_iff_iff]
  exact ⟨e h, e fun i hi => (h i hi).symm⟩
theorem textA_congr {f g : Nat → Int} (h : ∀ i, i < 8 → f i = g i) : textA f = textA g := by
  unfold textA partsA
  rw [h 0 (by decide)]
  congr 3
  refine List.map_congr_left fun i hi => ?_
  rw [h (1 + i) (by have := List.mem_range.1 hi; omega)]

theorem itoa_len21 (n : Int) (h0 : 0 ≤ n) (h1 : n ≤ 1073741824) : (itoa n).length ≤ 21 := by
  have := itoa_length_le n (by omega) (by omega)
  omega
theorem join_len (xs : List (List UInt8)) (m : Nat) (h : ∀ x ∈ xs, x.length ≤ m) : (join xs [44]).length ≤ xs.length * (m + 1) := by
  cases xs with
  | nil => simp [join_nil]
  | cons x r =>
    rw [join_cons, List.length_append, joinTail_length]
    have h1 := h x (by simp)
    have h2 : lens r ≤ r.length * m := by
      have h3 : ∀ y ∈ r, y.length ≤ m := fun y hy => h y (List.mem_cons_of_mem _ hy)
      clear h1 h
      induction r with
      | nil => simp [lens]
      | cons y r ih =>
        have h4 := h3 y (by simp)
        have h5 := ih fun z hz => h3 z (List.mem_cons_of_mem _ hz)
        simp only [lens, List.map_cons, List.sum_cons, List.length_cons, Nat.succ_mul] at h5 ⊢
        omega
    simp only [List.length_cons, List.length_nil, Nat.mul_add, Nat.succ_mul]
    omega
theorem textA_len {f : Nat → Int} (h : okB f = true) : (textA f).length ≤ 200 := by
  obtain ⟨h0, h1⟩ := okB_iff.1 h
  have ha := itoa_len21 (f 0) h0.1 h0.2
  have hb := join_len (partsA f) 21 (fun x hx => by
    unfold partsA at hx
    obtain ⟨i, hi, rfl⟩ := List.mem_map.1 hx
    have hi := List.mem_range.1 hi
    have := h1 i hi
    rw [Nat.add_comm] at this
    exact itoa_len21 _ (by omega) (by omega))
  rw [partsA_len] at hb
  unfold textA
  rw [List.length_append, List.length_cons]
  omega
/-- The first j, joined: with one more. -/
theorem join_next (f : Nat → Int) {j : Nat} (hj : j < 7) : join ((partsA f).take (j + 1)) [44] = join ((partsA f).take j) [44] ++ (if 0 < j then [44] else []) ++ itoa (f (1 + j)) := by
  have h := partsA_at f hj
  cases j with
  | zero =>
    rw [List.take_add_one, h]
    simp [join_nil, join_one]
  | succ j =>
    cases hp : partsA f with
    | nil => have := partsA_len f; rw [hp] at this; simp at this
    | cons x r =>
      rw [hp] at h
      simp only [List.getElem?_cons_succ] at h
      rw [List.take_succ_cons, List.take_succ_cons, join_cons, join_cons, joinTail_take_succ [44] r j _ h]
      simp

end Go.Proofs.YtfpmmajgnijboaaDoor
