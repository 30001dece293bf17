/-
  The plain arithmetic of package num: no program in it. Numbers are Ints or Nats, bytes are Nats below 256.
-/
import Derived.WalkKit
import Derived.Laws.BitsAllLaws
import Derived.Laws.Bits64b
namespace Go.Proofs.Ytklehahedjbkjaa
open Go.RowKit

/-! ### zigzag -/
def zigOf (i : Int) : Int := if 0 ≤ i then 2 * i else -2 * i - 1
def zagOf (v : Int) : Int := if v % 2 = 0 then v / 2 else -(v / 2) - 1

theorem xor_ones64 (a : Nat) (ha : a < 18446744073709551616) : bits .xor .u64 (a : Int) 18446744073709551615 = 18446744073709551615 - (a : Int) := by
  show IntKind.u64.wrap ((BitVec.ofInt 64 (a : Int) ^^^ BitVec.ofInt 64 18446744073709551615).toNat : Int) = _
  have h1 : BitVec.ofInt 64 18446744073709551615 = BitVec.allOnes 64 := by decide
  rw [h1, BitVec.xor_allOnes, BitVec.toNat_not, ofInt_u64 a ha, IntKind.wrap_u64]
  omega

theorem not_half (a : Nat) (ha : a < 9223372036854775808) : bits .xor .i64 (a : Int) (-1) = -(a : Int) - 1 := by
  show IntKind.i64.wrap ((BitVec.ofInt 64 (a : Int) ^^^ BitVec.ofInt 64 (-1)).toNat : Int) = _
  have h1 : BitVec.ofInt 64 (-1) = BitVec.allOnes 64 := by decide
  rw [h1, BitVec.xor_allOnes, BitVec.toNat_not, ofInt_u64 a (by omega), IntKind.wrap_i64]
  omega

theorem zig_walk (i : Int) (h0 : -9223372036854775808 ≤ i) (h1 : i ≤ 9223372036854775807) :
    bits BinOp.xor IntKind.u64 (IntKind.u64.wrap (IntKind.u64.wrap i * 2)) (IntKind.u64.wrap (i / 9223372036854775808)) = zigOf i := by
  unfold zigOf
  by_cases hi : 0 ≤ i
  · obtain ⟨n, rfl⟩ := Int.eq_ofNat_of_zero_le hi
    have e1 : IntKind.u64.wrap (IntKind.u64.wrap (n : Int) * 2) = ((2 * n : Nat) : Int) := by simp only [IntKind.wrap_u64]; omega
    have e2 : IntKind.u64.wrap ((n : Int) / 9223372036854775808) = ((0 : Nat) : Int) := by simp only [IntKind.wrap_u64]; omega
    rw [e1, e2, u64_xor_nat _ _ (by omega) (by omega), if_pos hi, Nat.xor_zero]
    omega
  · obtain ⟨n, hn⟩ := Int.eq_ofNat_of_zero_le (show 0 ≤ -i - 1 by omega)
    have e1 : IntKind.u64.wrap (IntKind.u64.wrap i * 2) = ((18446744073709551616 - 2 * n - 2 : Nat) : Int) := by simp only [IntKind.wrap_u64]; omega
    have e2 : IntKind.u64.wrap (i / 9223372036854775808) = 18446744073709551615 := by simp only [IntKind.wrap_u64]; omega
    rw [e1, e2, xor_ones64 _ (by omega), if_neg hi]
    omega

theorem zag_walk (v : Int) (h0 : 0 ≤ v) (h1 : v ≤ 18446744073709551615) :
    bits BinOp.xor IntKind.i64 (v / 2) (wrap64 (-wrap64 (bits BinOp.and IntKind.u64 v 1))) = zagOf v := by
  obtain ⟨n, rfl⟩ := Int.eq_ofNat_of_zero_le h0
  have ea : bits BinOp.and IntKind.u64 (n : Int) 1 = ((n % 2 : Nat) : Int) := by
    have := u64_and_nat n 1 (by omega) (by omega)
    rw [nat_mask1] at this
    exact this
  have eh : (n : Int) / 2 = ((n / 2 : Nat) : Int) := by omega
  unfold zagOf
  rw [ea, eh]
  by_cases hp : n % 2 = 0
  · rw [if_pos (by omega), hp]
    have e0 : wrap64 (-wrap64 ((0 : Nat) : Int)) = 0 := by unfold wrap64; omega
    rw [e0]
    show IntKind.i64.wrap ((BitVec.ofInt 64 ((n / 2 : Nat) : Int) ^^^ BitVec.ofInt 64 0).toNat : Int) = _
    have hz : BitVec.ofInt 64 0 = 0#64 := by decide
    rw [hz, BitVec.xor_zero, ofInt_u64 _ (by omega), IntKind.wrap_i64]
    omega
  · rw [if_neg (by omega)]
    have h2 : n % 2 = 1 := by omega
    rw [h2]
    have e0 : wrap64 (-wrap64 ((1 : Nat) : Int)) = -1 := by unfold wrap64; omega
    rw [e0]
    exact not_half _ (by omega)

theorem zig_bounds (i : Int) (h0 : -9223372036854775808 ≤ i) (h1 : i ≤ 9223372036854775807) : 0 ≤ zigOf i ∧ zigOf i ≤ 18446744073709551615 := by
  unfold zigOf; split <;> omega
theorem zag_bounds (v : Int) (h0 : 0 ≤ v) (h1 : v ≤ 18446744073709551615) : -9223372036854775808 ≤ zagOf v ∧ zagOf v ≤ 9223372036854775807 := by
  unfold zagOf; split <;> omega
theorem zag_zig (i : Int) : zagOf (zigOf i) = i := by
  unfold zagOf zigOf; split <;> split <;> omega
theorem zig_zag (v : Int) (h0 : 0 ≤ v) : zigOf (zagOf v) = v := by
  unfold zagOf zigOf; split <;> split <;> omega

/-! ### lowest bits -/
def lowOf (v b : Int) : Int := if b ≤ 0 then 0 else if b < 64 then v % 2 ^ b.toNat else v

theorem pow_le63 {n : Nat} (h : n < 64) : (2 : Nat) ^ n ≤ 9223372036854775808 := Nat.pow_le_pow_right (n := 2) (by decide) (show n ≤ 63 by omega)
theorem pow_pos' (n : Nat) : 0 < (2 : Nat) ^ n := Nat.pow_pos (by decide)

theorem mask_walk (v : Int) (n : Nat) (hn : n < 64) (h0 : 0 ≤ v) (h1 : v ≤ 18446744073709551615) :
    bits BinOp.and IntKind.u64 v (IntKind.u64.wrap (IntKind.u64.wrap (2 ^ n) - 1)) = v % 2 ^ n := by
  obtain ⟨m, rfl⟩ := Int.eq_ofNat_of_zero_le h0
  have hp := pow_le63 hn
  have hq := pow_pos' n
  have e0 : (2 : Int) ^ n = ((2 ^ n : Nat) : Int) := by simp
  have e : IntKind.u64.wrap (IntKind.u64.wrap (2 ^ n) - 1) = ((2 ^ n - 1 : Nat) : Int) := by
    rw [e0]; simp only [IntKind.wrap_u64]; omega
  rw [e, u64_and_nat _ _ (by omega) (by omega), Nat.and_two_pow_sub_one_eq_mod, e0]
  omega

theorem low_bounds (v b : Int) (h0 : 0 ≤ v) : 0 ≤ lowOf v b ∧ lowOf v b ≤ v := by
  unfold lowOf
  split
  · omega
  · split
    · have := Int.emod_nonneg v (b := 2 ^ b.toNat) (by have := Int.pow_pos (n := 2) (m := b.toNat) (by decide); omega)
      have h2 := Int.emod_lt_of_pos v (b := 2 ^ b.toNat) (Int.pow_pos (by decide))
      refine ⟨this, ?_⟩
      have h3 := Int.ediv_nonneg h0 (b := 2 ^ b.toNat) (Int.le_of_lt (Int.pow_pos (by decide)))
      have h4 := Int.mul_ediv_add_emod v (2 ^ b.toNat)
      have h5 : 0 ≤ 2 ^ b.toNat * (v / 2 ^ b.toNat) := Int.mul_nonneg (Int.le_of_lt (Int.pow_pos (by decide))) h3
      omega
    · omega

/-! ### bytes, short numbers -/
/-- A byte's value in memory. -/
def bv (x : Nat) : Value := .int .u8 (x : Int)

def shortN (v : Nat) : List Nat := if v < 128 then [v] else (v % 128 + 128) :: shortN (v / 128)
termination_by v
decreasing_by omega

theorem shortN_lo {v : Nat} (h : v < 128) : shortN v = [v] := by rw [shortN, if_pos h]
theorem shortN_hi {v : Nat} (h : 128 ≤ v) : shortN v = (v % 128 + 128) :: shortN (v / 128) := by rw [shortN, if_neg (by omega)]
theorem shortN_ne (v : Nat) : shortN v ≠ [] := by
  rw [shortN]; split <;> simp
theorem shortN_pos (v : Nat) : 0 < (shortN v).length := List.length_pos_iff.2 (shortN_ne v)
theorem shortN_len (k : Nat) : ∀ v, v < 128 ^ (k + 1) → (shortN v).length ≤ k + 1 := by
  induction k with
  | zero => intro v h; rw [shortN_lo (by omega)]; simp
  | succ k ih =>
    intro v h
    by_cases hv : v < 128
    · rw [shortN_lo hv]; simp
    · rw [shortN_hi (by omega)]
      have h1 : v / 128 < 128 ^ (k + 1) := Nat.div_lt_of_lt_mul (by rw [Nat.pow_succ] at h; omega)
      have h2 := ih _ h1
      rw [List.length_cons]
      omega
theorem shortN_len10 {v : Nat} (h : v < 18446744073709551616) : (shortN v).length ≤ 10 := shortN_len 9 v (by omega)
theorem shortN_byte (v : Nat) : ∀ x ∈ shortN v, x < 256 := by
  induction v using Nat.strongRecOn with
  | _ v ih =>
    intro x hx
    by_cases hv : v < 128
    · rw [shortN_lo hv] at hx; simp at hx; omega
    · rw [shortN_hi (by omega)] at hx
      rcases List.mem_cons.1 hx with h | h
      · omega
      · exact ih _ (by omega) x h
theorem shortN_300 : shortN 300 = [172, 2] := by
  rw [shortN_hi (by omega), shortN_lo (by omega)]

theorem or128_walk (v : Nat) : bits BinOp.or IntKind.u8 ((v : Int) % 256) 128 = ((v % 128 + 128 : Nat) : Int) := by
  have e1 : (v : Int) % 256 = ((v % 256 : Nat) : Int) := by omega
  rw [e1]
  have h : bits BinOp.or IntKind.u8 ((v % 256 : Nat) : Int) ((128 : Nat) : Int) = _ := u8_or_nat (v % 256) 128 (by omega) (by omega)
  refine Eq.trans h ?_
  congr 1
  have hcases : v / 128 % 2 = 0 ∨ v / 128 % 2 = 1 := by omega
  rcases hcases with hc | hc
  · have : v % 256 = v % 128 := by omega
    rw [this, Nat.or_comm]
    rw [nat_join 7 128 (v % 128) (by decide) (by omega)]
    omega
  · have : v % 256 = 128 + v % 128 := by omega
    rw [this]
    have e := nat_join 7 128 (v % 128) (by decide) (by omega)
    rw [← e, Nat.or_comm 128 (v % 128), Nat.or_assoc, Nat.or_self, Nat.or_comm, e]
    omega

end Go.Proofs.Ytklehahedjbkjaa
