/-
  Two numbers' text: its digits, where it is cut, and that it is read again. No program.
-/
import Derived.Test.YtpdfakjopeldmaaGreatDoorFrame
import Derived.Lib.ItoaLen
import Derived.Lib.AtoiAll
import Derived.Lib.IndexBytes
namespace Go.Proofs.YtpdfakjopeldmaaGreatDoor
open Go.Lib

/-- A string's bytes. -/
def Sb (s : ByteArray) : List UInt8 := s.data.toList
theorem Sb_inj {a b : ByteArray} : Sb a = Sb b ↔ a = b := by
  constructor
  · intro h
    unfold Sb at h
    have h2 := Array.toList_inj.1 h
    cases a; cases b; simp_all
  · intro h; rw [h]
theorem Sb_length (s : ByteArray) : (Sb s).length = s.size := by unfold Sb; rw [Array.length_toList]; rfl
theorem Sb_append (s t : ByteArray) : Sb (s ++ t) = Sb s ++ Sb t := by simp [Sb]
theorem Sb_mk (l : List UInt8) : Sb ⟨l.toArray⟩ = l := by simp [Sb]
theorem Sb_eq (a b : ByteArray) : (a.toList == b.toList) = decide (Sb a = Sb b) := by
  rw [ByteArray.toList_eq, ByteArray.toList_eq]
  by_cases h : Sb a = Sb b
  · rw [decide_eq_true h, beq_iff_eq]; exact h
  · rw [decide_eq_false h, beq_eq_false_iff_ne]; exact h

theorem digit_nat (d : Nat) (h : d < 10) : (UInt8.ofNat (48 + d)).toNat = 48 + d := by
  rw [UInt8.toNat_ofNat']; omega

theorem parse_app : ∀ (l r : List UInt8) (acc m : Nat), parseUint10 acc l = .ok m → parseUint10 acc (l ++ r) = parseUint10 m r
  | [], r, acc, m, h => by
    simp only [parseUint10] at h
    injection h with h
    subst h
    rfl
  | c :: l, r, acc, m, h => by
    simp only [List.cons_append, parseUint10] at h ⊢
    split at h
    · rename_i h1
      rw [if_pos h1]
      split at h
      · cases h
      · rename_i h2
        rw [if_neg h2]
        split at h
        · cases h
        · rename_i h3
          rw [if_neg h3]
          exact parse_app l r _ m h
    · cases h
theorem parse_one (acc d : Nat) (hd : d < 10) (h : acc * 10 + d < 18446744073709551616) : parseUint10 acc [UInt8.ofNat (48 + d)] = .ok (acc * 10 + d) := by
  unfold parseUint10
  rw [digit_nat d hd, if_pos (by omega), if_neg (by omega), if_neg (by omega)]
  unfold parseUint10
  rw [show 48 + d - 48 = d by omega]
theorem parse_dec (u : Nat) (h : u < 18446744073709551616) : parseUint10 0 (decDigits u) = .ok u := by
  induction u using Nat.strongRecOn with
  | _ u ih =>
    by_cases h10 : u < 10
    · rw [decDigits, dif_pos h10, parse_one 0 u h10 (by omega)]; simp
    · rw [decDigits, dif_neg h10, parse_app _ _ _ _ (ih (u / 10) (by omega) (by omega))]
      rw [parse_one _ _ (by omega) (by omega)]
      congr 1
      omega

theorem dec_digits (u : Nat) : ∀ c ∈ decDigits u, 48 ≤ c.toNat ∧ c.toNat ≤ 57 := by
  induction u using Nat.strongRecOn with
  | _ u ih =>
    intro c hc
    by_cases h10 : u < 10
    · rw [decDigits, dif_pos h10] at hc
      simp only [List.mem_singleton] at hc
      subst hc
      rw [digit_nat u h10]; omega
    · rw [decDigits, dif_neg h10] at hc
      rcases List.mem_append.1 hc with h | h
      · exact ih (u / 10) (by omega) c h
      · simp only [List.mem_singleton] at h
        subst h
        rw [digit_nat _ (by omega)]; omega
theorem dec_ne (u : Nat) : decDigits u ≠ [] := by
  intro h
  have h1 := decDigits_length u
  rw [h] at h1
  have := nDigits_pos u
  simp at h1
  omega

theorem atoi_itoa (n : Int) (h0 : -9223372036854775808 ≤ n) (h1 : n ≤ 9223372036854775807) : atoiAll (itoa n) = .ok n := by
  by_cases hneg : n < 0
  · obtain ⟨u, rfl⟩ : ∃ u : Nat, n = -(u : Int) := ⟨n.natAbs, by omega⟩
    rw [itoa_neg u (by omega)]
    have hm : parseMag (decDigits u) = .ok u := by unfold parseMag; rw [if_neg (dec_ne u), parse_dec u (by omega)]
    have h45 : (45 : UInt8).toNat = 45 := rfl
    unfold atoiAll
    simp only [h45, or_true, if_true, hm, not_true, false_and, if_false, true_and]
    rw [if_neg (by omega)]
  · obtain ⟨u, rfl⟩ : ∃ u : Nat, n = u := ⟨n.toNat, by omega⟩
    rw [itoa_nonneg]
    have hm : parseMag (decDigits u) = .ok u := by unfold parseMag; rw [if_neg (dec_ne u), parse_dec u (by omega)]
    have hd := dec_digits u
    cases hl : decDigits u with
    | nil => exact absurd hl (dec_ne u)
    | cons c r =>
      rw [hl] at hm hd
      have hc := hd c (by simp)
      unfold atoiAll
      have h43 : ¬ c.toNat = 43 := by omega
      have h45 : ¬ c.toNat = 45 := by omega
      simp only [h43, h45, or_self, if_false, hm, not_false_eq_true, true_and, false_and]
      rw [if_neg (by omega)]

theorem atoi_range {l : List UInt8} {v : Int} (h : atoiAll l = .ok v) : -9223372036854775808 ≤ v ∧ v ≤ 9223372036854775807 := by
  unfold atoiAll at h
  split at h
  · cases h
  · simp only at h
    split at h
    · cases h
    · cases h
    · split at h
      · cases h
      · split at h
        · cases h
        · injection h with h
          subst h
          split <;> omega

/-- A text cut at its first dot. -/
def cutP : List UInt8 → List UInt8 × List UInt8
  | [] => ([], [])
  | c :: l => if c = 46 then ([], l) else (c :: (cutP l).1, (cutP l).2)
theorem cutP_app : ∀ (x y : List UInt8), (∀ c ∈ x, c ≠ 46) → cutP (x ++ 46 :: y) = (x, y)
  | [], y, _ => by simp [cutP]
  | c :: x, y, h => by
    have h1 := h c (by simp)
    simp only [List.cons_append, cutP, if_neg h1]
    rw [cutP_app x y (fun d hd => h d (List.mem_cons_of_mem _ hd))]
theorem cut_index : ∀ l : List UInt8, (indexByte l 46 = -1 ∧ cutP l = (l, [])) ∨ ∃ k : Nat, indexByte l 46 = (k : Int) ∧ k < l.length ∧ cutP l = (l.take k, l.drop (k + 1))
  | [] => .inl ⟨rfl, rfl⟩
  | c :: l => by
    by_cases hc : c = 46
    · subst hc
      exact .inr ⟨0, rfl, by simp, rfl⟩
    · have hb : (c == 46) = false := by simpa using hc
      rcases cut_index l with ⟨h1, h2⟩ | ⟨k, h1, h2, h3⟩
      · refine .inl ⟨?_, by simp only [cutP, if_neg hc, h2]⟩
        simp only [indexByte, hb, h1]; decide
      · refine .inr ⟨k + 1, ?_, by simp; omega, by simp only [cutP, if_neg hc, h3]; rfl⟩
        have hk : ((k : Int) == -1) = false := by simp
        simp [indexByte, hb, h1, hk]
theorem cutP_len : ∀ l : List UInt8, (cutP l).1.length ≤ l.length ∧ (cutP l).2.length ≤ l.length
  | [] => ⟨Nat.le_refl _, Nat.le_refl _⟩
  | c :: l => by
    have h := cutP_len l
    unfold cutP
    split
    · exact ⟨by simp, by simp⟩
    · exact ⟨by simp; exact h.1, by simp; omega⟩

/-- Two numbers' text. -/
def textOf (a b : Int) : List UInt8 := itoa a ++ 46 :: itoa b
/-- The two numbers of a text, if it is one of two numbers. -/
def readOf (l : List UInt8) : Option (Int × Int) :=
  match atoiAll (cutP l).1, atoiAll (cutP l).2 with
  | .ok a, .ok b => if textOf a b = l then some (a, b) else none
  | _, _ => none

theorem itoa_dot (n : Int) : ∀ c ∈ itoa n, c ≠ 46 := by
  intro c hc he
  subst he
  unfold itoa at hc
  split at hc
  · rcases List.mem_cons.1 hc with h | h
    · exact absurd h (by decide)
    · have := dec_digits _ _ h
      have h46 : (46 : UInt8).toNat = 46 := rfl
      omega
  · have := dec_digits _ _ hc
    have h46 : (46 : UInt8).toNat = 46 := rfl
    omega

theorem read_text {a b : Int} (ha0 : -9223372036854775808 ≤ a) (ha1 : a ≤ 9223372036854775807) (hb0 : -9223372036854775808 ≤ b) (hb1 : b ≤ 9223372036854775807) : readOf (textOf a b) = some (a, b) := by
  unfold readOf
  rw [show cutP (textOf a b) = (itoa a, itoa b) from cutP_app _ _ (itoa_dot a)]
  simp only [atoi_itoa a ha0 ha1, atoi_itoa b hb0 hb1, if_true]
theorem read_some {l : List UInt8} {a b : Int} (h : readOf l = some (a, b)) : textOf a b = l ∧ (-9223372036854775808 ≤ a ∧ a ≤ 9223372036854775807) ∧ -9223372036854775808 ≤ b ∧ b ≤ 9223372036854775807 := by
  unfold readOf at h
  split at h
  · rename_i x y hx hy
    split at h
    · simp only [Option.some.injEq, Prod.mk.injEq] at h
      obtain ⟨rfl, rfl⟩ := h
      rename_i ht
      exact ⟨ht, atoi_range hx, atoi_range hy⟩
    · cases h
  · cases h

theorem textOf_len {a b : Int} (ha0 : -9223372036854775808 ≤ a) (ha1 : a ≤ 9223372036854775807) (hb0 : -9223372036854775808 ≤ b) (hb1 : b ≤ 9223372036854775807) : (textOf a b).length ≤ 43 := by
  have h1 := itoa_length_le a ha0 ha1
  have h2 := itoa_length_le b hb0 hb1
  unfold textOf
  simp
  omega

theorem dec_small {v : Nat} (h : v < 10) : decDigits v = [UInt8.ofNat (48 + v)] := decDigits_one h
theorem dec_big {v : Nat} (h : ¬ v < 10) : decDigits v = decDigits (v / 10) ++ [UInt8.ofNat (48 + v % 10)] := by rw [decDigits, dif_neg h]

end Go.Proofs.YtpdfakjopeldmaaGreatDoor
