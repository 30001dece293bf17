/-
  The plain arithmetic of package num: no program in it. Numbers are Ints or Nats, bytes are Nats below 256.
-/
import Derived.WalkKit
import Derived.Laws.BitsAllLaws
import Derived.Laws.Bits64b
namespace Go.Proofs.Ytljnboimadhkoaa
open Go.RowKit

/-! ### zigzag -/
def zigOf (i : Int) : Int := if 0 ≤ i then 2 * i else -2 * i - 1
def zagOf (v : Int) : Int := if v % 2 = 0 then v / 2 else -(v / 2) - 1

theorem xor_ones64 (a : Nat) (ha : a < 18446744073709551616) : bits .xor .u64 (a : Int) 18446744073709551615 = 18446744073709551615 - (a : Int) := by
  show IntKind.u64.wrap ((BitVec.ofInt 64 (a : Int) ^^^ BitVec.ofInt 64 18446744073709551615).toNat : Int) = _
  have h1 : BitVec.ofInt 64 18446744073709551615 = BitVec.allOnes 64 := by decide
  rw [h1, BitVec.xor_allOnes, BitVec.toNat_not, ofInt_u64 a ha, IntKind.wrap_u64]
  omega

theorem not_half (a : Nat) (ha : a < 9223372036854775808) : bits .xor .i64 (a : Int) (-1) = -(a : Int) - 1 := by
  show IntKind.i64.wrap ((BitVec.ofInt 64 (a : Int) ^^^ BitVec.ofInt 64 (-1)).toNat : Int) = _
  have h1 : BitVec.ofInt 64 (-1) = BitVec.allOnes 64 := by decide
  rw [h1, BitVec.xor_allOnes, BitVec.toNat_not, ofInt_u64 a (by omega), IntKind.wrap_i64]
  omega

theorem zig_walk (i : Int) (h0 : -9223372036854775808 ≤ i) (h1 : i ≤ 9223372036854775807) :
    bits BinOp.xor IntKind.u64 (IntKind.u64.wrap (IntKind.u64.wrap i * 2)) (IntKind.u64.wrap (i / 9223372036854775808)) = zigOf i := by
  unfold zigOf
  by_cases hi : 0 ≤ i
  · obtain ⟨n, rfl⟩ := Int.eq_ofNat_of_zero_le hi
    have e1 : IntKind.u64.wrap (IntKind.u64.wrap (n : Int) * 2) = ((2 * n : Nat) : Int) := by simp only [IntKind.wrap_u64]; omega
    have e2 : IntKind.u64.wrap ((n : Int) / 9223372036854775808) = ((0 : Nat) : Int) := by simp only [IntKind.wrap_u64]; omega
    rw [e1, e2, u64_xor_nat _ _ (by omega) (by omega), if_pos hi, Nat.xor_zero]
    omega
  · obtain ⟨n, hn⟩ := Int.eq_ofNat_of_zero_le (show 0 ≤ -i - 1 by omega)
    have e1 : IntKind.u64.wrap (IntKind.u64.wrap i * 2) = ((18446744073709551616 - 2 * n - 2 : Nat) : Int) := by simp only [IntKind.wrap_u64]; omega
    have e2 : IntKind.u64.wrap (i / 9223372036854775808) = 18446744073709551615 := by simp only [IntKind.wrap_u64]; omega
    rw [e1, e2, xor_ones64 _ (by omega), if_neg hi]
    omega

theorem zag_walk (v : Int) (h0 : 0 ≤ v) (h1 : v ≤ 18446744073709551615) :
    bits BinOp.xor IntKind.i64 (v / 2) (wrap64 (-wrap64 (bits BinOp.and IntKind.u64 v 1))) = zagOf v := by
  obtain ⟨n, rfl⟩ := Int.eq_ofNat_of_zero_le h0
  have ea : bits BinOp.and IntKind.u64 (n : Int) 1 = ((n % 2 : Nat) : Int) := by
    have := u64_and_nat n 1 (by omega) (by omega)
    rw [nat_mask1] at this
    exact this
  have eh : (n : Int) / 2 = ((n / 2 : Nat) : Int) := by omega
  unfold zagOf
  rw [ea, eh]
  by_cases hp : n % 2 = 0
  · rw [if_pos (by omega), hp]
    have e0 : wrap64 (-wrap64 ((0 : Nat) : Int)) = 0 := by unfold wrap64; omega
    rw [e0]
    show IntKind.i64.wrap ((BitVec.ofInt 64 ((n / 2 : Nat) : Int) ^^^ BitVec.ofInt 64 0).toNat : Int) = _
    have hz : BitVec.ofInt 64 0 = 0#64 := by decide
    rw [hz, BitVec.xor_zero, ofInt_u64 _ (by omega), IntKind.wrap_i64]
    omega
  · rw [if_neg (by omega)]
    have h2 : n % 2 = 1 := by omega
    rw [h2]
    have e0 : wrap64 (-wrap64 ((1 : Nat) : Int)) = -1 := by unfold wrap64; omega
    rw [e0]
    exact not_half _ (by omega)

theorem zig_bounds (i : Int) (h0 : -9223372036854775808 ≤ i) (h1 : i ≤ 9223372036854775807) : 0 ≤ zigOf i ∧ zigOf i ≤ 18446744073709551615 := by
  unfold zigOf; split <;> omega
theorem zag_bounds (v : Int) (h0 : 0 ≤ v) (h1 : v ≤ 18446744073709551615) : -9223372036854775808 ≤ zagOf v ∧ zagOf v ≤ 9223372036854775807 := by
  unfold zagOf; split <;> omega
theorem zag_zig (i : Int) : zagOf (zigOf i) = i := by
  unfold zagOf zigOf; split <;> split <;> omega
theorem zig_zag (v : Int) (h0 : 0 ≤ v) : zigOf (zagOf v) = v := by
  unfold zagOf zigOf; split <;> split <;> omega

/-! ### lowest bits -/
def lowOf (v b : Int) : Int := if b ≤ 0 then 0 else if b < 64 then v % 2 ^ b.toNat else v

theorem pow_le63 {n : Nat} (h : n < 64) : (2 : Nat) ^ n ≤ 9223372036854775808 := Nat.pow_le_pow_right (n := 2) (by decide) (show n ≤ 63 by omega)
theorem pow_pos' (n : Nat) : 0 < (2 : Nat) ^ n := Nat.pow_pos (by decide)

theorem mask_walk (v : Int) (n : Nat) (hn : n < 64) (h0 : 0 ≤ v) (h1 : v ≤ 18446744073709551615) :
    bits BinOp.and IntKind.u64 v (IntKind.u64.wrap (IntKind.u64.wrap (2 ^ n) - 1)) = v % 2 ^ n := by
  obtain ⟨m, rfl⟩ := Int.eq_ofNat_of_zero_le h0
  have hp := pow_le63 hn
  have hq := pow_pos' n
  have e0 : (2 : Int) ^ n = ((2 ^ n : Nat) : Int) := by simp
  have e : IntKind.u64.wrap (IntKind.u64.wrap (2 ^ n) - 1) = ((2 ^ n - 1 : Nat) : Int) := by
    rw [e0]; simp only [IntKind.wrap_u64]; omega
  rw [e, u64_and_nat _ _ (by omega) (by omega), Nat.and_two_pow_sub_one_eq_mod, e0]
  omega

theorem low_bounds (v b : Int) (h0 : 0 ≤ v) : 0 ≤ lowOf v b ∧ lowOf v b ≤ v := by
  unfold lowOf
  split
  · omega
  · split
    · have := Int.emod_nonneg v (b := 2 ^ b.toNat) (by have := Int.pow_pos (n := 2) (m := b.toNat) (by decide); omega)
      have h2 := Int.emod_lt_of_pos v (b := 2 ^ b.toNat) (Int.pow_pos (by decide))
      refine ⟨this, ?_⟩
      have h3 := Int.ediv_nonneg h0 (b := 2 ^ b.toNat) (Int.le_of_lt (Int.pow_pos (by decide)))
      have h4 := Int.mul_ediv_add_emod v (2 ^ b.toNat)
      have h5 : 0 ≤ 2 ^ b.toNat * (v / 2 ^ b.toNat) := Int.mul_nonneg (Int.le_of_lt (Int.pow_pos (by decide))) h3
      omega
    · omega

/-! ### bytes, short numbers -/
/-- A byte's value in memory. -/
def bv (x : Nat) : Value := .int .u8 (x : Int)

def shortN (v : Nat) : List Nat := if v < 128 then [v] else (v % 128 + 128) :: shortN (v / 128)
termination_by v
decreasing_by omega

theorem shortN_lo {v : Nat} (h : v < 128) : shortN v = [v] := by rw [shortN, if_pos h]
theorem shortN_hi {v : Nat} (h : 128 ≤ v) : shortN v = (v % 128 + 128) :: shortN (v / 128) := by rw [shortN, if_neg (by omega)]
theorem shortN_ne (v : Nat) : shortN v ≠ [] := by
  rw [shortN]; split <;> simp
theorem shortN_pos (v : Nat) : 0 < (shortN v).length := List.length_pos_iff.2 (shortN_ne v)
theorem shortN_len (k : Nat) : ∀ v, v < 128 ^ (k + 1) → (shortN v).length ≤ k + 1 := by
  induction k with
  | zero => intro v h; rw [shortN_lo (by omega)]; simp
  | succ k ih =>
    intro v h
    by_cases hv : v < 128
    · rw [shortN_lo hv]; simp
    · rw [shortN_hi (by omega)]
      have h1 : v / 128 < 128 ^ (k + 1) := Nat.div_lt_of_lt_mul (by rw [Nat.pow_succ] at h; omega)
      have h2 := ih _ h1
      rw [List.length_cons]
      omega
theorem shortN_len10 {v : Nat} (h : v < 18446744073709551616) : (shortN v).length ≤ 10 := shortN_len 9 v (by omega)
theorem shortN_byte (v : Nat) : ∀ x ∈ shortN v, x < 256 := by
  induction v using Nat.strongRecOn with
  | _ v ih =>
    intro x hx
    by_cases hv : v < 128
    · rw [shortN_lo hv] at hx; simp at hx; omega
    · rw [shortN_hi (by omega)] at hx
      rcases List.mem_cons.1 hx with h | h
      · omega
      · exact ih _ (by omega) x h
theorem shortN_300 : shortN 300 = [172, 2] := by
  rw [shortN_hi (by omega), shortN_lo (by omega)]

theorem or128_walk (v : Nat) : bits BinOp.or IntKind.u8 ((v : Int) % 256) 128 = ((v % 128 + 128 : Nat) : Int) := by
  have e1 : (v : Int) % 256 = ((v % 256 : Nat) : Int) := by omega
  rw [e1]
  have h : bits BinOp.or IntKind.u8 ((v % 256 : Nat) : Int) ((128 : Nat) : Int) = _ := u8_or_nat (v % 256) 128 (by omega) (by omega)
  refine Eq.trans h ?_
  congr 1
  have hcases : v / 128 % 2 = 0 ∨ v / 128 % 2 = 1 := by omega
  rcases hcases with hc | hc
  · have : v % 256 = v % 128 := by omega
    rw [this, Nat.or_comm]
    rw [nat_join 7 128 (v % 128) (by decide) (by omega)]
    omega
  · have : v % 256 = 128 + v % 128 := by omega
    rw [this]
    have e := nat_join 7 128 (v % 128) (by decide) (by omega)
    rw [← e, Nat.or_comm 128 (v % 128), Nat.or_assoc, Nat.or_self, Nat.or_comm, e]
    omega

theorem low7_walk (c : Nat) (hc : c < 256) : bits BinOp.andNot IntKind.u8 (c : Int) 128 = ((c % 128 : Nat) : Int) := by
  have h := u8_andNot_nat c 128 hc (by omega)
  rw [show 255 - 128 = 127 from rfl, nat_mask7] at h
  exact h

theorem pow7 (k : Nat) : (128 : Nat) ^ k = 2 ^ (7 * k) := by rw [Nat.pow_mul]

theorem take7_walk (n c k : Nat) (hc : c < 256) (hk : k ≤ 8 ∨ k = 9 ∧ c ≤ 1) (hn : n < 128 ^ k) :
    bits BinOp.or IntKind.u64 (n : Int) (IntKind.u64.wrap (IntKind.u64.wrap (bits BinOp.andNot IntKind.u8 (c : Int) 128) * 2 ^ (7 * k))) = ((n + c % 128 * 128 ^ k : Nat) : Int) ∧
      n + c % 128 * 128 ^ k < 18446744073709551616 ∧ (k ≤ 8 → n + c % 128 * 128 ^ k < 128 ^ (k + 1)) := by
  have e0 : (2 : Int) ^ (7 * k) = ((128 ^ k : Nat) : Int) := by rw [pow7]; simp
  have hbig : c % 128 * 128 ^ k + 128 ^ k ≤ 18446744073709551616 ∧ (k ≤ 8 → c % 128 * 128 ^ k + 128 ^ k ≤ 128 ^ (k + 1)) := by
    have h1 : c % 128 * 128 ^ k + 128 ^ k = (c % 128 + 1) * 128 ^ k := by rw [Nat.add_mul, Nat.one_mul]
    rw [h1]
    have hle : (c % 128 + 1) * 128 ^ k ≤ 128 * 128 ^ k := Nat.mul_le_mul_right _ (by omega)
    have e1 : 128 * 128 ^ k = 128 ^ (k + 1) := by rw [Nat.pow_succ, Nat.mul_comm]
    refine ⟨?_, fun _ => by omega⟩
    rcases hk with hk | ⟨rfl, hc1⟩
    · have : (128 : Nat) ^ (k + 1) ≤ 128 ^ 9 := Nat.pow_le_pow_right (by decide) (by omega)
      have e9 : (128 : Nat) ^ 9 = 9223372036854775808 := by decide
      omega
    · have e9 : (128 : Nat) ^ 9 = 9223372036854775808 := by decide
      rw [e9]
      have : c % 128 ≤ 1 := by omega
      omega
  refine ⟨?_, by omega, fun h => by have := hbig.2 h; omega⟩
  rw [low7_walk c hc, e0]
  have e1 : IntKind.u64.wrap ((c % 128 : Nat) : Int) = ((c % 128 : Nat) : Int) := by simp only [IntKind.wrap_u64]; omega
  have e2 : ((c % 128 : Nat) : Int) * ((128 ^ k : Nat) : Int) = ((c % 128 * 128 ^ k : Nat) : Int) := by simp
  rw [e1, e2]
  have e3 : IntKind.u64.wrap ((c % 128 * 128 ^ k : Nat) : Int) = ((c % 128 * 128 ^ k : Nat) : Int) := by
    simp only [IntKind.wrap_u64]
    rw [Int.emod_eq_of_lt (by omega) (by omega)]
  rw [e3, u64_or_nat _ _ (by omega) (by omega)]
  congr 1
  rw [Nat.or_comm, pow7, nat_join (7 * k) _ _ (by simp) (by rw [← pow7]; exact hn), Nat.add_comm]

theorem take9_walk (n c : Nat) (hc : c ≤ 1) (hn : n < 128 ^ 9) :
    bits BinOp.or IntKind.u64 (n : Int) (IntKind.u64.wrap (IntKind.u64.wrap (bits BinOp.andNot IntKind.u8 (c : Int) 128) * 9223372036854775808)) = ((n + c % 128 * 128 ^ 9 : Nat) : Int) :=
  (take7_walk n c 9 (by omega) (.inr ⟨rfl, hc⟩) hn).1

theorem refadd_walk (n c k : Nat) (hc : c < 256) (hk : k ≤ 8 ∨ k = 9 ∧ c ≤ 1) (hn : n < 128 ^ k) :
    IntKind.u64.wrap ((n : Int) + IntKind.u64.wrap ((c : Int) % 128 * 128 ^ k)) = ((n + c % 128 * 128 ^ k : Nat) : Int) := by
  have hb := (take7_walk n c k hc hk hn).2.1
  have e2 : (c : Int) % 128 * 128 ^ k = ((c % 128 * 128 ^ k : Nat) : Int) := by simp
  rw [e2]
  simp only [IntKind.wrap_u64]
  omega
theorem refpow_walk (k : Nat) (hk : k ≤ 8) : IntKind.u64.wrap ((128 : Int) ^ k * 128) = ((128 ^ (k + 1) : Nat) : Int) := by
  have h1 : (128 : Nat) ^ (k + 1) ≤ 128 ^ 9 := Nat.pow_le_pow_right (by decide) (by omega)
  have e9 : (128 : Nat) ^ 9 = 9223372036854775808 := by decide
  have e : (128 : Int) ^ k * 128 = ((128 ^ (k + 1) : Nat) : Int) := by rw [Nat.pow_succ]; simp
  rw [e, IntKind.wrap_u64]
  generalize (128 : Nat) ^ (k + 1) = q at *
  omega
theorem refadd0_walk (n k : Nat) (hk : k ≤ 8) (hn : n < 128 ^ k) : IntKind.u64.wrap (n : Int) = ((n + 0 % 128 * 128 ^ k : Nat) : Int) := by
  have hb := (take7_walk n 0 k (by omega) (.inl hk) hn).2.1
  rw [IntKind.wrap_u64]
  simp at hb ⊢
  omega
theorem refadd1_walk (n : Nat) (hn : n < 128 ^ 9) : IntKind.u64.wrap ((n : Int) + 9223372036854775808) = ((n + 1 % 128 * 128 ^ 9 : Nat) : Int) := by
  have h := refadd_walk n 1 9 (by omega) (.inr ⟨rfl, Nat.le_refl _⟩) hn
  rw [← h]
  rfl

/-! ### reading a short number: at place i, v told so far: the number, how many bytes, the error -/
def readAt (i v : Nat) : List Nat → Nat × Nat × Nat
  | [] => (0, 0, 20)
  | c :: r =>
    if i = 9 ∧ 1 < c then (0, 0, 12)
    else if 128 ≤ c then readAt (i + 1) (v + c % 128 * 128 ^ i) r
    else if c = 0 ∧ 0 < i then (0, 0, 10)
    else (v + c % 128 * 128 ^ i, i + 1, 0)
def readN (l : List Nat) : Nat × Nat × Nat := readAt 0 0 l

theorem readAt_nil (i v : Nat) : readAt i v [] = (0, 0, 20) := rfl
theorem readAt_range {i v c : Nat} {r : List Nat} (h : i = 9 ∧ 1 < c) : readAt i v (c :: r) = (0, 0, 12) := by rw [readAt, if_pos h]
theorem readAt_more {i v c : Nat} {r : List Nat} (h : ¬(i = 9 ∧ 1 < c)) (hc : 128 ≤ c) : readAt i v (c :: r) = readAt (i + 1) (v + c % 128 * 128 ^ i) r := by rw [readAt, if_neg h, if_pos hc]
theorem readAt_form {i v c : Nat} {r : List Nat} (hc : c = 0 ∧ 0 < i) : readAt i v (c :: r) = (0, 0, 10) := by rw [readAt, if_neg (by omega), if_neg (by omega), if_pos hc]
theorem readAt_ok {i v c : Nat} {r : List Nat} (h : ¬(i = 9 ∧ 1 < c)) (hc : c < 128) (h0 : ¬(c = 0 ∧ 0 < i)) : readAt i v (c :: r) = (v + c % 128 * 128 ^ i, i + 1, 0) := by
  rw [readAt, if_neg h, if_neg (by omega), if_neg h0]

/-- What is read is written as it was. -/
theorem readAt_inv (l : List Nat) : ∀ (i n v r : Nat), i ≤ 9 → n < 128 ^ i → (∀ x ∈ l, x < 256) → readAt i n l = (v, r, 0) →
    ∃ m, r = i + (shortN m).length ∧ (shortN m).length ≤ l.length ∧ l.take (shortN m).length = shortN m ∧ v = n + m * 128 ^ i ∧ (0 < i → m ≠ 0) ∧ v < 18446744073709551616 := by
  induction l with
  | nil => intro i n v r _ _ _ h; rw [readAt_nil] at h; simp at h
  | cons c l ih =>
    intro i n v r hi hn h8 h
    have hc := h8 c (List.mem_cons_self)
    by_cases h1 : i = 9 ∧ 1 < c
    · rw [readAt_range h1] at h; simp at h
    · by_cases h2 : 128 ≤ c
      · rw [readAt_more h1 h2] at h
        have hi8 : i ≤ 8 := by omega
        obtain ⟨m, hr, hlen, htake, hv, hm, hlt⟩ := ih _ _ _ _ (by omega) ((take7_walk n c i hc (.inl hi8) hn).2.2 hi8) (fun x hx => h8 x (List.mem_cons_of_mem _ hx)) h
        have hm0 := hm (by omega)
        have hs : shortN (c % 128 + 128 * m) = c :: shortN m := by
          rw [shortN_hi (by omega)]
          congr 1
          · omega
          · congr 1; omega
        refine ⟨c % 128 + 128 * m, ?_, ?_, ?_, ?_, fun _ => by omega, hlt⟩
        · rw [hs, List.length_cons]; omega
        · rw [hs, List.length_cons, List.length_cons]; omega
        · rw [hs, List.length_cons, List.take_succ_cons, htake]
        · rw [hv, Nat.pow_succ, Nat.add_mul, Nat.add_assoc]
          congr 2
          rw [Nat.mul_comm (128 ^ i) 128, ← Nat.mul_assoc, Nat.mul_comm m 128]
      · by_cases h3 : c = 0 ∧ 0 < i
        · rw [readAt_form h3] at h; simp at h
        · rw [readAt_ok h1 (by omega) h3] at h
          simp only [Prod.mk.injEq, and_true] at h
          obtain ⟨rfl, rfl⟩ := h
          have hb := (take7_walk n c i hc (by omega) hn).2.1
          have hs := shortN_lo (v := c) (by omega)
          refine ⟨c, by rw [hs]; rfl, by rw [hs]; simp, by rw [hs]; simp, ?_, fun h => by omega, hb⟩
          rw [Nat.mod_eq_of_lt (by omega)]

theorem readN_inv {l : List Nat} {v r : Nat} (h8 : ∀ x ∈ l, x < 256) (h : readN l = (v, r, 0)) :
    r = (shortN v).length ∧ r ≤ l.length ∧ l.take r = shortN v ∧ v < 18446744073709551616 := by
  obtain ⟨m, hr, hlen, htake, hv, _, hlt⟩ := readAt_inv l 0 0 v r (by omega) (by decide) h8 h
  simp at hr hv
  subst hv; subst hr
  exact ⟨rfl, hlen, htake, hlt⟩

/-- What is written is read, whatever follows. -/
theorem readAt_short (r : List Nat) (m : Nat) : ∀ (i n : Nat), i ≤ 9 → (i = 0 ∨ m ≠ 0) → m * 128 ^ i < 18446744073709551616 → readAt i n (shortN m ++ r) = (n + m * 128 ^ i, i + (shortN m).length, 0) := by
  induction m using Nat.strongRecOn with
  | _ m ih =>
    intro i n hi h0 hb
    have e9 : (128 : Nat) ^ 9 = 9223372036854775808 := by decide
    by_cases hm : m < 128
    · rw [shortN_lo hm, List.singleton_append, readAt_ok ?_ hm (by omega), Nat.mod_eq_of_lt hm]
      · rfl
      · rintro ⟨rfl, h1⟩
        rw [e9] at hb
        omega
    · have hi8 : i ≠ 9 := by
        rintro rfl
        rw [e9] at hb
        omega
      have hp : m / 128 * 128 ^ (i + 1) + m % 128 * 128 ^ i = m * 128 ^ i := by
        rw [Nat.pow_succ, Nat.mul_comm (128 ^ i) 128, ← Nat.mul_assoc, ← Nat.add_mul]
        congr 1
        omega
      rw [shortN_hi (by omega), List.cons_append, readAt_more (by omega) (by omega), ih (m / 128) (by omega) (i + 1) _ (by omega) (.inr (by omega)) (by omega)]
      have e : (m % 128 + 128) % 128 = m % 128 := by omega
      rw [e, List.length_cons]
      simp only [Prod.mk.injEq, and_true]
      omega

theorem readN_short (v : Nat) (r : List Nat) (hv : v < 18446744073709551616) : readN (shortN v ++ r) = (v, (shortN v).length, 0) := by
  have h := readAt_short r v 0 0 (by omega) (.inl rfl) (by simpa using hv)
  rw [readN, h]
  simp

theorem readAt_err (l : List Nat) : ∀ (i n : Nat), (readAt i n l).2.2 = 0 ∨ (readAt i n l).2.2 = 10 ∨ (readAt i n l).2.2 = 12 ∨ (readAt i n l).2.2 = 20 := by
  induction l with
  | nil => intro i n; simp [readAt]
  | cons c l ih =>
    intro i n
    rw [readAt]
    split
    · simp
    · split
      · exact ih _ _
      · split <;> simp

/-! ### numbers of n bytes -/
def bytesN : Nat → Nat → List Nat
  | _, 0 => []
  | v, n + 1 => bytesN (v / 256) n ++ [v % 256]
theorem bytesN_len (n : Nat) : ∀ v, (bytesN v n).length = n := by
  induction n with
  | zero => intro v; rfl
  | succ n ih => intro v; rw [bytesN, List.length_append, ih]; rfl
theorem bytesN_byte (n : Nat) : ∀ v, ∀ x ∈ bytesN v n, x < 256 := by
  induction n with
  | zero => intro v x hx; cases hx
  | succ n ih =>
    intro v x hx
    rw [bytesN] at hx
    rcases List.mem_append.1 hx with h | h
    · exact ih _ x h
    · simp at h; omega

def numN (l : List Nat) : Nat := l.foldl (fun a c => a * 256 + c) 0
theorem numN_snoc (l : List Nat) (c : Nat) : numN (l ++ [c]) = numN l * 256 + c := by simp [numN]
theorem numN_take {l : List Nat} {k : Nat} (h : k < l.length) : numN (l.take (k + 1)) = numN (l.take k) * 256 + l[k] := by
  rw [List.take_succ_eq_append_getElem h, numN_snoc]
theorem numN_lt (l : List Nat) (h8 : ∀ x ∈ l, x < 256) (k : Nat) : numN (l.take k) < 256 ^ k := by
  induction k with
  | zero => simp [numN]
  | succ k ih =>
    by_cases h : k < l.length
    · rw [numN_take h, Nat.pow_succ]
      have := h8 _ (List.getElem_mem h)
      omega
    · rw [List.take_of_length_le (by omega)] at ih
      rw [List.take_of_length_le (by omega), Nat.pow_succ]
      omega
theorem numN_bytesN (n : Nat) : ∀ v, numN (bytesN v n) = v % 256 ^ n := by
  induction n with
  | zero => intro v; simp [bytesN, numN, Nat.mod_one]
  | succ n ih =>
    intro v
    rw [bytesN, numN_snoc, ih, Nat.pow_succ, Nat.mul_comm (256 ^ n) 256, Nat.mod_mul]
    omega

theorem pow256 {k : Nat} (h : k ≤ 7) : (256 : Nat) ^ k ≤ 72057594037927936 := by
  have : (256 : Nat) ^ k ≤ 256 ^ 7 := Nat.pow_le_pow_right (by decide) h
  have e : (256 : Nat) ^ 7 = 72057594037927936 := by decide
  omega

theorem join8_walk (m c : Nat) (hm : m < 72057594037927936) (hc : c < 256) : bits BinOp.or IntKind.u64 (IntKind.u64.wrap ((m : Int) * 256)) (c : Int) = ((m * 256 + c : Nat) : Int) := by
  have e : IntKind.u64.wrap ((m : Int) * 256) = ((m * 256 : Nat) : Int) := by simp only [IntKind.wrap_u64]; omega
  rw [e, u64_or_nat _ _ (by omega) (by omega), nat_join 8 _ _ (by omega) (by omega)]

theorem low_256 (v n : Nat) (hv : v < 18446744073709551616) (h1 : 1 ≤ n) (h8 : n ≤ 8) : lowOf (v : Int) (8 * (n : Int)) = ((v % 256 ^ n : Nat) : Int) := by
  have e : (256 : Nat) ^ n = 2 ^ (8 * n) := by rw [Nat.pow_mul]
  unfold lowOf
  rw [if_neg (by omega)]
  by_cases h : n = 8
  · subst h
    rw [if_neg (by omega), Nat.mod_eq_of_lt (by have e8 : (256 : Nat) ^ 8 = 18446744073709551616 := (by decide); omega)]
  · rw [if_pos (by omega), e]
    have ht : (8 * (n : Int)).toNat = 8 * n := by omega
    rw [ht]
    simp

theorem replicate_set (k : Nat) (tail : List Nat) (x : Nat) : (List.replicate (k + 1) 0 ++ tail).set k x = List.replicate k 0 ++ x :: tail := by
  rw [List.replicate_succ', List.append_assoc, List.set_append_right _ _ (by simp)]
  simp

/-! ### the order of bytes -/
def stepC (c : Int) (x y : Nat) : Int := if c = 0 then (if x < y then -1 else if y < x then 1 else 0) else c
def cmpAt (X Y : List Nat) : Nat → Int
  | 0 => 0
  | k + 1 => stepC (cmpAt X Y k) (X.getD k 0) (Y.getD k 0)
theorem stepC_cases (c : Int) (x y : Nat) (h : c = 0 ∨ c = 1 ∨ c = -1) : stepC c x y = 0 ∨ stepC c x y = 1 ∨ stepC c x y = -1 := by
  unfold stepC
  split
  · split
    · simp
    · split <;> simp
  · exact h
theorem cmpAt_cases (X Y : List Nat) (k : Nat) : cmpAt X Y k = 0 ∨ cmpAt X Y k = 1 ∨ cmpAt X Y k = -1 := by
  induction k with
  | zero => left; rfl
  | succ k ih => exact stepC_cases _ _ _ ih
theorem cmpAt_append {n : Nat} {X Y : List Nat} (x y : Nat) (hX : X.length = n) (hY : Y.length = n) : ∀ k, k ≤ n → cmpAt (X ++ [x]) (Y ++ [y]) k = cmpAt X Y k := by
  intro k
  induction k with
  | zero => intro _; rfl
  | succ k ih =>
    intro hk
    rw [cmpAt, cmpAt, ih (by omega)]
    congr 1
    · simp only [List.getD_eq_getElem?_getD]; rw [List.getElem?_append_left (by omega)]
    · simp only [List.getD_eq_getElem?_getD]; rw [List.getElem?_append_left (by omega)]
theorem cmpAt_bytesN (n : Nat) : ∀ v u, v < 256 ^ n → u < 256 ^ n → cmpAt (bytesN v n) (bytesN u n) n = if v < u then -1 else if u < v then 1 else 0 := by
  induction n with
  | zero => intro v u hv hu; simp at hv hu; subst hv; subst hu; rfl
  | succ n ih =>
    intro v u hv hu
    rw [Nat.pow_succ] at hv hu
    rw [cmpAt, bytesN, bytesN, cmpAt_append _ _ (bytesN_len n _) (bytesN_len n _) n (Nat.le_refl _), ih (v / 256) (u / 256) (by omega) (by omega)]
    have e1 : (bytesN (v / 256) n ++ [v % 256]).getD n 0 = v % 256 := by simp [List.getD_eq_getElem?_getD, bytesN_len]
    have e2 : (bytesN (u / 256) n ++ [u % 256]).getD n 0 = u % 256 := by simp [List.getD_eq_getElem?_getD, bytesN_len]
    rw [e1, e2]
    unfold stepC
    by_cases h1 : v / 256 < u / 256
    · rw [if_pos h1, if_neg (by decide), if_pos (by omega)]
    · by_cases h2 : u / 256 < v / 256
      · rw [if_neg h1, if_pos h2, if_neg (by decide), if_neg (by omega), if_pos (by omega)]
      · rw [if_neg h1, if_neg h2, if_pos rfl]
        by_cases h3 : v % 256 < u % 256
        · rw [if_pos h3, if_pos (by omega)]
        · by_cases h4 : u % 256 < v % 256
          · rw [if_neg h3, if_pos h4, if_neg (by omega), if_pos (by omega)]
          · rw [if_neg h3, if_neg h4, if_neg (by omega), if_neg (by omega)]

end Go.Proofs.Ytljnboimadhkoaa
