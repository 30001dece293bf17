/-
  Names and ballots as numbers (package mark): what each of their parts tells. No program.
-/
import Derived.Test.YtapmchkikafpmaaDoorFrame
namespace Go.Proofs.YtapmchkikafpmaaDoor

/-- Is it a replica's number? -/
def repB (r : Int) : Bool := decide (0 ≤ r ∧ r ≤ 6)
/-- Is it a right name? -/
def nameB (r s : Int) : Bool := decide (0 ≤ r ∧ r ≤ 6 ∧ 0 ≤ s ∧ s ≤ 1023)
/-- Are they a ballot's round and replica? -/
def partsB (n r : Int) : Bool := decide ((n = 0 ∧ r = 0) ∨ (0 < n ∧ n ≤ 16777215 ∧ 0 ≤ r ∧ r ≤ 6))
/-- Is it a ballot? -/
def ballotB (b : Nat) : Bool := decide (b = 0 ∨ (8 ≤ b ∧ b / 8 ≤ 16777215 ∧ b % 8 < 7))

theorem parts_ballot (b : Nat) : partsB ((b / 8 : Nat) : Int) ((b % 8 : Nat) : Int) = ballotB b := by
  unfold partsB ballotB
  rw [decide_eq_decide]
  omega
theorem ballot_parts {n r : Int} (h : partsB n r = true) : ballotB (n.toNat * 8 + r.toNat) = true ∧ n.toNat * 8 + r.toNat < 4294967296 ∧ ((n.toNat : Nat) : Int) = n ∧ ((r.toNat : Nat) : Int) = r ∧ r.toNat < 8 := by
  unfold partsB at h
  unfold ballotB
  simp only [decide_eq_true_eq] at *
  omega

/-- The next ballot of a replica, and the error. -/
def nextN (b : Nat) (r : Int) : Nat × Nat := if repB r then (if b / 8 < 16777215 then ((b / 8 + 1) * 8 + r.toNat, 0) else (0, 60)) else (0, 12)

theorem next_cases (b : Nat) (r : Int) :
    (repB r = false ∧ nextN b r = (0, 12)) ∨ (repB r = true ∧ 16777215 ≤ b / 8 ∧ nextN b r = (0, 60)) ∨
    (∃ k : Nat, r = k ∧ k < 7 ∧ repB r = true ∧ b / 8 < 16777215 ∧ nextN b r = ((b / 8 + 1) * 8 + k, 0)) := by
  unfold nextN
  cases h : repB r
  · exact .inl ⟨rfl, rfl⟩
  · by_cases h2 : b / 8 < 16777215
    · refine .inr (.inr ?_)
      have h3 := h
      unfold repB at h3
      simp only [decide_eq_true_eq] at h3
      exact ⟨r.toNat, by omega, by omega, rfl, h2, by rw [if_pos rfl, if_pos h2]⟩
    · exact .inr (.inl ⟨rfl, by omega, by rw [if_pos rfl, if_neg h2]⟩)

/-- Two replicas' next ballots are the same just if they are. -/
theorem next_inj {b : Nat} {r q : Int} {n m : Nat} (h1 : nextN b r = (n, 0)) (h2 : nextN b q = (m, 0)) : decide (m = n) = decide (q = r) := by
  unfold nextN repB at h1 h2
  rw [decide_eq_decide]
  split at h1 <;> rename_i c1 <;> simp only [decide_eq_true_eq] at c1
  · split at h1
    · split at h2 <;> rename_i c2 <;> simp only [decide_eq_true_eq] at c2
      · simp only [Prod.mk.injEq] at h1 h2
        omega
      · simp at h2
    · simp at h1
  · simp at h1

theorem next_ok {b : Nat} {r : Int} {n : Nat} (h : nextN b r = (n, 0)) : b < n ∧ ballotB n = true ∧ ((n % 8 : Nat) : Int) = r ∧ n < 134217728 := by
  unfold nextN repB at h
  split at h <;> rename_i c1 <;> simp only [decide_eq_true_eq] at c1
  · split at h
    · simp only [Prod.mk.injEq] at h
      obtain ⟨h, _⟩ := h
      unfold ballotB
      rw [decide_eq_true_eq]
      omega
    · simp at h
  · simp at h

end Go.Proofs.YtapmchkikafpmaaDoor
