/-
  The mathematics of parents and of what two paths have in common. No program in it.
-/
import Derived.Test.YtfdphcgfdodnoaaDoorPMath
namespace Go.Proofs.YtfdphcgfdodnoaaDoor

/-- How many first parts two have in common. -/
def common : List (List UInt8) → List (List UInt8) → Nat
  | x :: xs, y :: ys => if x = y then common xs ys + 1 else 0
  | _, _ => 0

theorem common_le : ∀ (a b : List (List UInt8)), common a b ≤ a.length ∧ common a b ≤ b.length
  | [], b => by cases b <;> simp [common]
  | x :: xs, [] => by simp [common]
  | x :: xs, y :: ys => by
    have := common_le xs ys
    unfold common
    split <;> simp <;> omega

theorem common_take : ∀ (a b : List (List UInt8)), a.take (common a b) = b.take (common a b)
  | [], b => by cases b <;> simp [common]
  | x :: xs, [] => by simp [common]
  | x :: xs, y :: ys => by
    have := common_take xs ys
    unfold common
    split
    · rename_i h; subst h; simp [this]
    · simp

theorem common_eq : ∀ {a b : List (List UInt8)} {k : Nat} (h1 : k ≤ a.length) (h2 : k ≤ b.length) (_ : ∀ (j : Nat) (hj : j < k), a[j]'(by omega) = b[j]'(by omega))
    (_ : ∀ (ha : k < a.length) (hb : k < b.length), a[k] ≠ b[k]), common a b = k
  | [], b, k, h1, _, _, _ => by
    have : k = 0 := by simpa using h1
    subst this; cases b <;> rfl
  | x :: xs, [], k, _, h2, _, _ => by
    have : k = 0 := by simpa using h2
    subst this; rfl
  | x :: xs, y :: ys, 0, _, _, _, hx => by
    have h : x ≠ y := hx (by simp) (by simp)
    simp [common, h]
  | x :: xs, y :: ys, k + 1, h1, h2, he, hx => by
    have h0 : x = y := he 0 (by omega)
    have ih := common_eq (a := xs) (b := ys) (k := k) (by simpa using h1) (by simpa using h2) (fun j hj => he (j + 1) (by omega)) (fun ha hb => hx (by simp; omega) (by simp; omega))
    simp [common, h0, ih]

/-- The first parts of a path are a path, that lies above it. -/
theorem front_above {p : List UInt8} (h : right p = true) {n : Nat} (hn : 0 < n) : above (join ((pieces p).take n)) p = true := by
  have hne : (pieces p).take n ≠ [] := by
    intro e
    have h1 := congrArg List.length e
    have h2 : 0 < (pieces p).length := List.length_pos_iff.2 (pieces_ne p)
    rw [List.length_take, List.length_nil] at h1
    omega
  have hj : pieces (join ((pieces p).take n)) = (pieces p).take n := pieces_join hne (fun x hx => pieces_clean p x (List.mem_of_mem_take hx))
  have hpre : pieces (join ((pieces p).take n)) <+: pieces p := by rw [hj]; exact List.take_prefix _ _
  exact above_iff.2 ⟨h, prefix_pieces.1 hpre⟩
theorem front_above' {p q : List UInt8} (h : right q = true) {n : Nat} (hn : 0 < n) (he : (pieces p).take n = (pieces q).take n) : above (join ((pieces p).take n)) q = true := by
  rw [he]; exact front_above h hn

/-- A path without its last part. -/
def parent (p : List UInt8) : List UInt8 × Bool := if 1 < (parts p).length then (join (parts p).dropLast, true) else ([], false)

theorem parent_wrong {p : List UInt8} (h : right p = false) : parent p = ([], false) := by unfold parent; rw [parts_wrong h]; rfl
theorem parent_one {p : List UInt8} (h : clean p) : parent p = ([], false) := by
  unfold parent
  rw [if_neg]
  unfold parts
  split
  · rw [pieces_one h]; simp
  · simp
theorem pieces_last {a b : List UInt8} (hb : clean b) : pieces (a ++ 47 :: b) = pieces a ++ [b] := by rw [pieces_mid, pieces_one hb]
theorem parent_last {a b : List UInt8} (hb : clean b) (h : right (a ++ 47 :: b) = true) : parent (a ++ 47 :: b) = (a, true) := by
  unfold parent
  rw [parts_right h, pieces_last hb]
  have hpos : 0 < (pieces a).length := List.length_pos_iff.2 (pieces_ne a)
  rw [if_pos (by rw [List.length_append]; simp; omega), List.dropLast_concat, join_pieces]

theorem parts_le {p : List UInt8} : (parts p).length ≤ 8 := by
  cases h : right p with
  | true => rw [parts_right h]; exact (right_iff.1 h).2.2
  | false => rw [parts_wrong h]; simp
theorem parts_above {p : List UInt8} {n : Nat} (hn : 0 < n) (hl : n ≤ (parts p).length) : above (join ((parts p).take n)) p = true := by
  cases h : right p with
  | true => rw [parts_right h]; exact front_above h hn
  | false => rw [parts_wrong h] at hl; simp at hl; omega
theorem parts_above' {p q : List UInt8} {n : Nat} (hn : 0 < n) (hl : n ≤ (parts q).length) (he : (parts p).take n = (parts q).take n) : above (join ((parts p).take n)) q = true := by
  rw [he]; exact parts_above hn hl
theorem parts_size {p : List UInt8} : ∀ x ∈ parts p, x.length ≤ 64 := by
  intro x hx
  cases h : right p with
  | true =>
    rw [parts_right h] at hx
    have := piece_length p x hx
    have := (right_iff.1 h).1
    omega
  | false => rw [parts_wrong h] at hx; cases hx

end Go.Proofs.YtfdphcgfdodnoaaDoor
