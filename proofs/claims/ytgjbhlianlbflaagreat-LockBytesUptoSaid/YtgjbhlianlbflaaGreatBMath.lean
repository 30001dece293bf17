/-
  The plain arithmetic of package num: no program in it. Numbers are Ints or Nats, bytes are Nats below 256.
-/
import Derived.WalkKit
import Derived.Laws.BitsAllLaws
import Derived.Laws.Bits64b
namespace Go.Proofs.YtgjbhlianlbflaaGreat
open Go.RowKit
def bv (x : Nat) : Value := .int .u8 (x : Int)
def shortN (v : Nat) : List Nat := if v < 128 then [v] else (v % 128 + 128) :: shortN (v / 128)
termination_by v
decreasing_by omega
theorem shortN_lo {v : Nat} (h : v < 128) : shortN v = [v] := by rw [shortN, if_pos h]
theorem shortN_hi {v : Nat} (h : 128 ≤ v) : shortN v = (v % 128 + 128) :: shortN (v / 128) := by rw [shortN, if_neg (by omega)]
theorem shortN_ne (v : Nat) : shortN v ≠ [] := by
  rw [shortN]; split <;> simp
theorem shortN_pos (v : Nat) : 0 < (shortN v).length := List.length_pos_iff.2 (shortN_ne v)
theorem shortN_len (k : Nat) : ∀ v, v < 128 ^ (k + 1) → (shortN v).length ≤ k + 1 := by
  induction k with
  | zero => intro v h; rw [shortN_lo (by omega)]; simp
  | succ k ih =>
    intro v h
    by_cases hv : v < 128
    · rw [shortN_lo hv]; simp
    · rw [shortN_hi (by omega)]
      have h1 : v / 128 < 128 ^ (k + 1) := Nat.div_lt_of_lt_mul (by rw [Nat.pow_succ] at h; omega)
      have h2 := ih _ h1
      rw [List.length_cons]
      omega
theorem shortN_len10 {v : Nat} (h : v < 18446744073709551616) : (shortN v).length ≤ 10 := shortN_len 9 v (by omega)
theorem or128_walk (v : Nat) : bits BinOp.or IntKind.u8 ((v : Int) % 256) 128 = ((v % 128 + 128 : Nat) : Int) := by
  have e1 : (v : Int) % 256 = ((v % 256 : Nat) : Int) := by omega
  rw [e1]
  have h : bits BinOp.or IntKind.u8 ((v % 256 : Nat) : Int) ((128 : Nat) : Int) = _ := u8_or_nat (v % 256) 128 (by omega) (by omega)
  refine Eq.trans h ?_
  congr 1
  have hcases : v / 128 % 2 = 0 ∨ v / 128 % 2 = 1 := by omega
  rcases hcases with hc | hc
  · have : v % 256 = v % 128 := by omega
    rw [this, Nat.or_comm]
    rw [nat_join 7 128 (v % 128) (by decide) (by omega)]
    omega
  · have : v % 256 = 128 + v % 128 := by omega
    rw [this]
    have e := nat_join 7 128 (v % 128) (by decide) (by omega)
    rw [← e, Nat.or_comm 128 (v % 128), Nat.or_assoc, Nat.or_self, Nat.or_comm, e]
    omega
def readAt (i v : Nat) : List Nat → Nat × Nat × Nat
  | [] => (0, 0, 20)
  | c :: r =>
    if i = 9 ∧ 1 < c then (0, 0, 12)
    else if 128 ≤ c then readAt (i + 1) (v + c % 128 * 128 ^ i) r
    else if c = 0 ∧ 0 < i then (0, 0, 10)
    else (v + c % 128 * 128 ^ i, i + 1, 0)
def readN (l : List Nat) : Nat × Nat × Nat := readAt 0 0 l
theorem readAt_more {i v c : Nat} {r : List Nat} (h : ¬(i = 9 ∧ 1 < c)) (hc : 128 ≤ c) : readAt i v (c :: r) = readAt (i + 1) (v + c % 128 * 128 ^ i) r := by rw [readAt, if_neg h, if_pos hc]
theorem readAt_ok {i v c : Nat} {r : List Nat} (h : ¬(i = 9 ∧ 1 < c)) (hc : c < 128) (h0 : ¬(c = 0 ∧ 0 < i)) : readAt i v (c :: r) = (v + c % 128 * 128 ^ i, i + 1, 0) := by
  rw [readAt, if_neg h, if_neg (by omega), if_neg h0]
theorem readAt_short (r : List Nat) (m : Nat) : ∀ (i n : Nat), i ≤ 9 → (i = 0 ∨ m ≠ 0) → m * 128 ^ i < 18446744073709551616 → readAt i n (shortN m ++ r) = (n + m * 128 ^ i, i + (shortN m).length, 0) := by
  induction m using Nat.strongRecOn with
  | _ m ih =>
    intro i n hi h0 hb
    have e9 : (128 : Nat) ^ 9 = 9223372036854775808 := by decide
    by_cases hm : m < 128
    · rw [shortN_lo hm, List.singleton_append, readAt_ok ?_ hm (by omega), Nat.mod_eq_of_lt hm]
      · rfl
      · rintro ⟨rfl, h1⟩
        rw [e9] at hb
        omega
    · have hi8 : i ≠ 9 := by
        rintro rfl
        rw [e9] at hb
        omega
      have hp : m / 128 * 128 ^ (i + 1) + m % 128 * 128 ^ i = m * 128 ^ i := by
        rw [Nat.pow_succ, Nat.mul_comm (128 ^ i) 128, ← Nat.mul_assoc, ← Nat.add_mul]
        congr 1
        omega
      rw [shortN_hi (by omega), List.cons_append, readAt_more (by omega) (by omega), ih (m / 128) (by omega) (i + 1) _ (by omega) (.inr (by omega)) (by omega)]
      have e : (m % 128 + 128) % 128 = m % 128 := by omega
      rw [e, List.length_cons]
      simp only [Prod.mk.injEq, and_true]
      omega
theorem readN_short (v : Nat) (r : List Nat) (hv : v < 18446744073709551616) : readN (shortN v ++ r) = (v, (shortN v).length, 0) := by
  have h := readAt_short r v 0 0 (by omega) (.inl rfl) (by simpa using hv)
  rw [readN, h]
  simp
def bytesN : Nat → Nat → List Nat
  | _, 0 => []
  | v, n + 1 => bytesN (v / 256) n ++ [v % 256]
theorem bytesN_len (n : Nat) : ∀ v, (bytesN v n).length = n := by
  induction n with
  | zero => intro v; rfl
  | succ n ih => intro v; rw [bytesN, List.length_append, ih]; rfl
def numN (l : List Nat) : Nat := l.foldl (fun a c => a * 256 + c) 0
theorem numN_snoc (l : List Nat) (c : Nat) : numN (l ++ [c]) = numN l * 256 + c := by simp [numN]
theorem numN_bytesN (n : Nat) : ∀ v, numN (bytesN v n) = v % 256 ^ n := by
  induction n with
  | zero => intro v; simp [bytesN, numN, Nat.mod_one]
  | succ n ih =>
    intro v
    rw [bytesN, numN_snoc, ih, Nat.pow_succ, Nat.mul_comm (256 ^ n) 256, Nat.mod_mul]
    omega
theorem replicate_set (k : Nat) (tail : List Nat) (x : Nat) : (List.replicate (k + 1) 0 ++ tail).set k x = List.replicate k 0 ++ x :: tail := by
  rw [List.replicate_succ', List.append_assoc, List.set_append_right _ _ (by simp)]
  simp
end Go.Proofs.YtgjbhlianlbflaaGreat
