/-
  A word as the list of its 32 bits, the lowest first: plain arithmetic, no program in it.
-/
import Derived.Test.YtilocedppkmikaaCrc
namespace Go.Proofs.Ytilocedppkmikaa
open Go.RowKit

def bitAt (s i : Nat) : Nat := s / 2 ^ i % 2
def bitsL (s : Nat) : List Nat := (List.range 32).map (bitAt s)
theorem bitsL_len (s : Nat) : (bitsL s).length = 32 := by simp [bitsL]
theorem bitsL_get (s : Nat) {i : Nat} (h : i < 32) : (bitsL s)[i]? = some (bitAt s i) := by
  simp [bitsL, List.getElem?_map, List.getElem?_range h]
theorem bitAt_le (s i : Nat) : bitAt s i ≤ 1 := by unfold bitAt; omega

theorem bitAt_xor (a b i : Nat) : bitAt (a ^^^ b) i = (bitAt a i + bitAt b i) % 2 := by
  unfold bitAt
  have h : (a ^^^ b) / 2 ^ i = a / 2 ^ i ^^^ b / 2 ^ i := by
    simp only [← Nat.shiftRight_eq_div_pow, Nat.shiftRight_xor_distrib]
  rw [h, xor_parity]
theorem bitAt_half (s i : Nat) : bitAt (s / 2) i = bitAt s (i + 1) := by
  unfold bitAt
  rw [Nat.div_div_eq_div_mul, Nat.pow_succ, Nat.mul_comm]
theorem bitAt_zero (i : Nat) : bitAt 0 i = 0 := by simp [bitAt]
theorem bitAt_high {s i : Nat} (h : s < 2 ^ i) : bitAt s i = 0 := by unfold bitAt; rw [Nat.div_eq_of_lt h]
theorem bitAt_first (s : Nat) : bitAt s 0 = s % 2 := by simp [bitAt]
theorem bitAt_step (s i : Nat) : bitAt (crcStep s) i = (bitAt (s / 2) i + bitAt s 0 * bitAt crcPoly i) % 2 := by
  unfold crcStep
  rw [bitAt_xor, bitAt_first]
  by_cases h : s % 2 = 1
  · rw [if_pos h, h, Nat.one_mul]
  · rw [if_neg h, show s % 2 = 0 by omega, Nat.zero_mul, bitAt_zero]

/-- Of the first j places the new one, of the others the old one. -/
def halfway (F L : List Nat) (j : Nat) : List Nat := F.take j ++ L.drop j
theorem halfway_none (F L : List Nat) : halfway F L 0 = L := by simp [halfway]
theorem halfway_len {F L : List Nat} {n j : Nat} (hF : F.length = n) (hL : L.length = n) (hj : j ≤ n) : (halfway F L j).length = n := by
  unfold halfway; rw [List.length_append, List.length_take, List.length_drop]; omega
theorem halfway_new {F L : List Nat} {n j i : Nat} (hF : F.length = n) (hj : j ≤ n) (hi : j ≤ i) : (halfway F L j)[i]? = L[i]? := by
  unfold halfway
  rw [List.getElem?_append_right (by rw [List.length_take]; omega), List.length_take, List.getElem?_drop]
  congr 1
  omega
theorem halfway_set {F L : List Nat} {n j x : Nat} (hF : F.length = n) (hL : L.length = n) (hj : j < n) (hx : F[j]? = some x) : (halfway F L j).set j x = halfway F L (j + 1) := by
  unfold halfway
  have hjF : j < F.length := by omega
  rw [List.getElem?_eq_getElem hjF] at hx
  injection hx with hx
  rw [List.set_append_right _ _ (by rw [List.length_take]; omega), List.length_take, show j - min j F.length = 0 by omega, List.drop_eq_getElem_cons (show j < L.length by omega), List.set_cons_zero, List.take_succ_eq_append_getElem hjF, hx, List.append_assoc]
  rfl
theorem halfway_same {F L : List Nat} {n j : Nat} (hF : F.length = n) (hL : L.length = n) (hj : j ≤ n) (h : ∀ i, j ≤ i → i < n → F[i]? = L[i]?) : halfway F L j = F := by
  apply List.ext_getElem?
  intro i
  by_cases hi : i < j
  · unfold halfway
    rw [List.getElem?_append_left (by rw [List.length_take]; omega), List.getElem?_take, if_pos hi]
  · rw [halfway_new hF hj (by omega)]
    by_cases hn : i < n
    · exact (h i (by omega) hn).symm
    · rw [List.getElem?_eq_none (by omega), List.getElem?_eq_none (by omega)]

theorem bits_xor_end {s c : Nat} (hc : c < 256) : halfway (bitsL (s ^^^ c)) (bitsL s) 8 = bitsL (s ^^^ c) := by
  refine halfway_same (bitsL_len _) (bitsL_len _) (by omega) fun i h1 h2 => ?_
  have e : bitAt c i = 0 := bitAt_high (Nat.lt_of_lt_of_le hc (Nat.pow_le_pow_right (n := 2) (i := 8) (by decide) h1))
  have := bitAt_le s i
  rw [bitsL_get _ h2, bitsL_get _ h2, bitAt_xor, e, Nat.add_zero, Nat.mod_eq_of_lt (by omega)]

/-- The word told back, from the highest bit on, each turned. -/
def tops (s j : Nat) : Nat := (4294967295 - s) / 2 ^ j
theorem tops_start {s : Nat} : tops s 32 = 0 := by unfold tops; omega
theorem tops_end (s : Nat) : tops s 0 = 4294967295 - s := by unfold tops; simp
theorem tops_step {s j : Nat} (hs : s < 4294967296) (hj : j < 32) : tops s j = tops s (j + 1) * 2 + (1 - bitAt s j) := by
  unfold tops
  have h1 : bitAt (4294967295 ^^^ s) j = (bitAt 4294967295 j + bitAt s j) % 2 := bitAt_xor _ _ _
  have h2 : bitAt 4294967295 j = 1 := by
    unfold bitAt
    have := Nat.testBit_two_pow_sub_one 32 j
    rw [Nat.testBit_eq_decide_div_mod_eq] at this
    simpa [hj] using this
  have h3 := bitAt_le s j
  rw [h2, ← ones_sub hs] at h1
  have h4 : (4294967295 - s) / 2 ^ (j + 1) = (4294967295 - s) / 2 ^ j / 2 := by rw [Nat.div_div_eq_div_mul, Nat.pow_succ]
  unfold bitAt at h1 h3 ⊢
  rw [h4]
  omega
theorem tops_le (s j : Nat) : tops s j ≤ 4294967295 := by
  unfold tops
  exact Nat.le_trans (Nat.div_le_self _ _) (by omega)

theorem bits_ones : bitsL 4294967295 = List.replicate 32 1 := by decide +kernel

end Go.Proofs.Ytilocedppkmikaa
