/-
  The plain arithmetic of package sum: no program in it. The sum's word as a natural number; a message as one number, its first byte the lowest.
-/
import Derived.WalkKit
import Derived.Laws.BitsAllLaws
import Derived.Test.YtilocedppkmikaaMath
namespace Go.Proofs.Ytilocedppkmikaa
open Go.RowKit

/-! ### one bit -/
def crcPoly : Nat := 3988292384
def crcStep (s : Nat) : Nat := s / 2 ^^^ (if s % 2 = 1 then crcPoly else 0)
def crcRounds : Nat → Nat → Nat
  | 0, s => s
  | k + 1, s => crcRounds k (crcStep s)

theorem crcRounds_succ (k s : Nat) : crcRounds (k + 1) s = crcStep (crcRounds k s) := by
  induction k generalizing s with
  | zero => rfl
  | succ k ih => rw [crcRounds, ih]; rfl
theorem crcRounds_add (j k s : Nat) : crcRounds (j + k) s = crcRounds k (crcRounds j s) := by
  induction j generalizing s with
  | zero => simp [crcRounds]
  | succ j ih => rw [show j + 1 + k = (j + k) + 1 by omega, crcRounds, crcRounds, ih]

theorem xor_half (a b : Nat) : (a ^^^ b) / 2 = a / 2 ^^^ b / 2 := by
  apply Nat.eq_of_testBit_eq
  intro i
  rw [Nat.testBit_xor, Nat.testBit_div_two, Nat.testBit_div_two, Nat.testBit_div_two, Nat.testBit_xor]
theorem xor_parity (a b : Nat) : (a ^^^ b) % 2 = (a % 2 + b % 2) % 2 := by
  have h : ((a ^^^ b) % 2 = 1) ↔ ¬ (a % 2 = 1 ↔ b % 2 = 1) := by
    have := Nat.testBit_xor a b 0
    simp only [Nat.testBit_zero] at this
    have h2 : decide ((a ^^^ b) % 2 = 1) = (decide (a % 2 = 1) ^^ decide (b % 2 = 1)) := this
    by_cases ha : a % 2 = 1 <;> by_cases hb : b % 2 = 1 <;> simp [ha, hb] at h2 ⊢ <;> omega
  by_cases hx : (a ^^^ b) % 2 = 1
  · have := h.1 hx
    by_cases ha : a % 2 = 1 <;> by_cases hb : b % 2 = 1 <;> simp [ha, hb] at this <;> omega
  · have := mt h.2 hx
    by_cases ha : a % 2 = 1 <;> by_cases hb : b % 2 = 1 <;> simp [ha, hb] at this <;> omega

theorem xor_four (a b c d : Nat) : (a ^^^ b) ^^^ (c ^^^ d) = (a ^^^ c) ^^^ (b ^^^ d) := by
  rw [Nat.xor_assoc, Nat.xor_assoc, ← Nat.xor_assoc b c d, Nat.xor_comm b c, Nat.xor_assoc c b d]

theorem crcStep_xor (a b : Nat) : crcStep (a ^^^ b) = crcStep a ^^^ crcStep b := by
  unfold crcStep
  rw [xor_half, xor_four]
  congr 1
  have h := xor_parity a b
  by_cases ha : a % 2 = 1 <;> by_cases hb : b % 2 = 1
  · rw [if_neg (by omega), if_pos ha, if_pos hb, Nat.xor_self]
  · rw [if_pos (by omega), if_pos ha, if_neg hb, Nat.xor_zero]
  · rw [if_pos (by omega), if_neg ha, if_pos hb, Nat.zero_xor]
  · rw [if_neg (by omega), if_neg ha, if_neg hb, Nat.xor_zero]
theorem crcRounds_xor (k a b : Nat) : crcRounds k (a ^^^ b) = crcRounds k a ^^^ crcRounds k b := by
  induction k generalizing a b with
  | zero => rfl
  | succ k ih => rw [crcRounds, crcStep_xor, ih]; rfl
theorem crcStep_two (x : Nat) : crcStep (2 * x) = x := by
  unfold crcStep
  rw [if_neg (by omega), Nat.xor_zero]
  omega
theorem crcRounds_pow (k x : Nat) : crcRounds k (2 ^ k * x) = x := by
  induction k generalizing x with
  | zero => simp [crcRounds]
  | succ k ih => rw [crcRounds, show 2 ^ (k + 1) * x = 2 * (2 ^ k * x) by rw [Nat.pow_succ]; rw [Nat.mul_comm (2 ^ k) 2, Nat.mul_assoc], crcStep_two, ih]
theorem crcStep_lt {s : Nat} (h : s < 4294967296) : crcStep s < 4294967296 := by
  unfold crcStep
  have : (if s % 2 = 1 then crcPoly else 0) < 2 ^ 32 := by split <;> decide
  exact Nat.xor_lt_two_pow (n := 32) (by omega) this
theorem crcRounds_lt (k : Nat) {s : Nat} (h : s < 4294967296) : crcRounds k s < 4294967296 := by
  induction k generalizing s with
  | zero => exact h
  | succ k ih => exact ih (crcStep_lt h)
theorem crcStep_ne {s : Nat} (h : s < 4294967296) (h0 : s ≠ 0) : crcStep s ≠ 0 := by
  unfold crcStep
  intro he
  have he' : s / 2 = if s % 2 = 1 then crcPoly else 0 := by
    have h1 := congrArg (fun z => z ^^^ (if s % 2 = 1 then crcPoly else 0)) he
    simpa only [Nat.xor_assoc, Nat.xor_self, Nat.xor_zero, Nat.zero_xor] using h1
  split at he'
  · unfold crcPoly at he'; omega
  · omega
theorem crcRounds_ne (k : Nat) {s : Nat} (h : s < 4294967296) (h0 : s ≠ 0) : crcRounds k s ≠ 0 := by
  induction k generalizing s with
  | zero => exact h0
  | succ k ih => exact ih (crcStep_lt h) (crcStep_ne h h0)
/-- A row of at most 32 bits, turned anywhere, is told. -/
theorem crcRounds_burst {n at_ m : Nat} (ha : at_ ≤ n) (hm : m < 4294967296) (h0 : m ≠ 0) : crcRounds n (2 ^ at_ * m) ≠ 0 := by
  obtain ⟨d, rfl⟩ : ∃ d, n = at_ + d := ⟨n - at_, by omega⟩
  rw [crcRounds_add, crcRounds_pow]
  exact crcRounds_ne d hm h0

/-! ### bytes -/
def crcByte (s c : Nat) : Nat := crcRounds 8 (s ^^^ c)
def crcFold (s : Nat) (l : List Nat) : Nat := l.foldl crcByte s
def crcOf (l : List Nat) : Nat := 4294967295 - crcFold 4294967295 l
/-- A message as one number. -/
def numLE : List Nat → Nat
  | [] => 0
  | c :: l => c + 256 * numLE l

theorem xor_lt32 {a b : Nat} (ha : a < 4294967296) (hb : b < 4294967296) : a ^^^ b < 4294967296 := Nat.xor_lt_two_pow (n := 32) ha hb
theorem crcByte_lt {s c : Nat} (hs : s < 4294967296) (hc : c < 256) : crcByte s c < 4294967296 := crcRounds_lt 8 (xor_lt32 hs (by omega))
theorem crcFold_lt {s : Nat} {l : List Nat} (hs : s < 4294967296) (hl : ∀ x ∈ l, x < 256) : crcFold s l < 4294967296 := by
  induction l generalizing s with
  | nil => exact hs
  | cons c l ih => exact ih (crcByte_lt hs (hl c (by simp))) (fun x hx => hl x (by simp [hx]))
theorem crcFold_take {l : List Nat} {k : Nat} (s : Nat) (h : k < l.length) : crcFold s (l.take (k + 1)) = crcByte (crcFold s (l.take k)) l[k] := by
  unfold crcFold
  rw [List.take_succ_eq_append_getElem h, List.foldl_append]
  rfl
theorem crcFold_append (s : Nat) (a b : List Nat) : crcFold s (a ++ b) = crcFold (crcFold s a) b := by
  unfold crcFold; rw [List.foldl_append]

/-- Adding what begins behind a number is xoring it. -/
theorem add_xor (k : Nat) {c : Nat} (x : Nat) (hc : c < 2 ^ k) : c + 2 ^ k * x = c ^^^ 2 ^ k * x := by
  rw [Nat.add_comm, Nat.two_pow_add_eq_or_of_lt hc, Nat.or_comm]
  apply Nat.eq_of_testBit_eq
  intro i
  rw [Nat.testBit_or, Nat.testBit_xor, Nat.testBit_two_pow_mul]
  by_cases hi : k ≤ i
  · have : c.testBit i = false := Nat.testBit_lt_two_pow (Nat.lt_of_lt_of_le hc (Nat.pow_le_pow_right (by decide) hi))
    rw [this]; simp
  · simp [hi]
theorem numLE_cons {c : Nat} (l : List Nat) (hc : c < 256) : numLE (c :: l) = c ^^^ 2 ^ 8 * numLE l := add_xor 8 (numLE l) hc

theorem crcFold_num (s : Nat) {l : List Nat} (hl : ∀ x ∈ l, x < 256) : crcFold s l = crcRounds (8 * l.length) (s ^^^ numLE l) := by
  induction l generalizing s with
  | nil => simp [crcFold, crcRounds, numLE]
  | cons c l ih =>
    have h1 : crcFold s (c :: l) = crcFold (crcByte s c) l := rfl
    rw [h1, ih _ (fun x hx => hl x (by simp [hx])), numLE_cons l (hl c (by simp)), List.length_cons, show 8 * (l.length + 1) = 8 + 8 * l.length by omega, crcRounds_add, ← Nat.xor_assoc, crcRounds_xor 8 (s ^^^ c), crcRounds_pow]
    rfl

theorem ones_sub {x : Nat} (hx : x < 4294967296) : 4294967295 - x = 4294967295 ^^^ x := by
  apply Nat.eq_of_testBit_eq
  intro i
  have e : 4294967295 - x = 2 ^ 32 - (x + 1) := by omega
  rw [e, Nat.testBit_two_pow_sub_succ hx, Nat.testBit_xor]
  have e2 : (4294967295 : Nat).testBit i = decide (i < 32) := by
    rw [show (4294967295 : Nat) = 2 ^ 32 - 1 by decide, Nat.testBit_two_pow_sub_one]
  rw [e2]
  by_cases hi : i < 32
  · simp [hi]
  · have : x.testBit i = false := Nat.testBit_lt_two_pow (Nat.lt_of_lt_of_le hx (Nat.pow_le_pow_right (n := 2) (i := 32) (by decide) (by omega)))
    simp [hi, this]

theorem crcOf_xor {l : List Nat} (hl : ∀ x ∈ l, x < 256) : crcOf l = 4294967295 ^^^ crcFold 4294967295 l := ones_sub (crcFold_lt (by decide) hl)
theorem crcOf_lt (l : List Nat) : crcOf l < 4294967296 := by unfold crcOf; omega

/-! ### three messages' xor -/
def xor3 : List Nat → List Nat → List Nat → List Nat
  | a :: zs_, b :: bs, c :: cs => (a ^^^ b ^^^ c) :: xor3 zs_ bs cs
  | _, _, _ => []

theorem xor_lt8 {a b : Nat} (ha : a < 256) (hb : b < 256) : a ^^^ b < 256 := Nat.xor_lt_two_pow (n := 8) ha hb

theorem xor3_byte : ∀ (a b c : List Nat), (∀ x ∈ a, x < 256) → (∀ x ∈ b, x < 256) → (∀ x ∈ c, x < 256) → ∀ x ∈ xor3 a b c, x < 256 := by
  intro a
  induction a with
  | nil => intro b c _ _ _ x hx; simp [xor3] at hx
  | cons a zs_ ih =>
    intro b c ha hb hc x hx
    cases b with
    | nil => simp [xor3] at hx
    | cons b bs =>
      cases c with
      | nil => simp [xor3] at hx
      | cons c cs =>
        rw [xor3] at hx
        rcases List.mem_cons.1 hx with rfl | hx
        · exact xor_lt8 (xor_lt8 (ha a (by simp)) (hb b (by simp))) (hc c (by simp))
        · exact ih bs cs (fun x h => ha x (by simp [h])) (fun x h => hb x (by simp [h])) (fun x h => hc x (by simp [h])) x hx
theorem xor3_len : ∀ (n : Nat) (a b c : List Nat), a.length = n → b.length = n → c.length = n → (xor3 a b c).length = n := by
  intro n
  induction n with
  | zero => intro a b c ha hb hc; rw [List.eq_nil_of_length_eq_zero ha]; rfl
  | succ n ih =>
    intro a b c ha hb hc
    cases a <;> cases b <;> cases c <;> simp at ha hb hc
    rw [xor3, List.length_cons, ih _ _ _ ha hb hc]
theorem xor3_num : ∀ (n : Nat) (a b c : List Nat), a.length = n → b.length = n → c.length = n → (∀ x ∈ a, x < 256) → (∀ x ∈ b, x < 256) → (∀ x ∈ c, x < 256) → numLE (xor3 a b c) = numLE a ^^^ numLE b ^^^ numLE c := by
  intro n
  induction n with
  | zero =>
    intro a b c ha hb hc _ _ _
    rw [List.eq_nil_of_length_eq_zero ha, List.eq_nil_of_length_eq_zero hb, List.eq_nil_of_length_eq_zero hc]
    rfl
  | succ n ih =>
    intro a b c ha hb hc xa xb xc
    cases a <;> cases b <;> cases c <;> simp at ha hb hc
    rename_i a zs_ b bs c cs
    have ba := xa a (by simp)
    have bb := xb b (by simp)
    have bc := xc c (by simp)
    rw [xor3, numLE_cons _ (xor_lt8 (xor_lt8 ba bb) bc), numLE_cons _ ba, numLE_cons _ bb, numLE_cons _ bc, ih zs_ bs cs ha hb hc (fun x h => xa x (by simp [h])) (fun x h => xb x (by simp [h])) (fun x h => xc x (by simp [h]))]
    have e : ∀ x y z : Nat, 2 ^ 8 * (x ^^^ y ^^^ z) = 2 ^ 8 * x ^^^ 2 ^ 8 * y ^^^ 2 ^ 8 * z := by
      intro x y z
      simp only [Nat.mul_comm (2 ^ 8), ← Nat.shiftLeft_eq, Nat.shiftLeft_xor_distrib]
    rw [e, xor_four a, xor_four (a ^^^ b)]

/-- Of three messages of one length the sums' xor is the sum of the messages' xor. -/
theorem crcOf_xor3 {n : Nat} {a b c : List Nat} (ha : a.length = n) (hb : b.length = n) (hc : c.length = n) (xa : ∀ x ∈ a, x < 256) (xb : ∀ x ∈ b, x < 256) (xc : ∀ x ∈ c, x < 256) :
    crcOf a ^^^ crcOf b ^^^ crcOf c = crcOf (xor3 a b c) := by
  rw [crcOf_xor xa, crcOf_xor xb, crcOf_xor xc, crcOf_xor (xor3_byte a b c xa xb xc), crcFold_num _ xa, crcFold_num _ xb, crcFold_num _ xc, crcFold_num _ (xor3_byte a b c xa xb xc), xor3_len n a b c ha hb hc, ha, hb, hc, xor3_num n a b c ha hb hc xa xb xc]
  rw [crcRounds_xor, crcRounds_xor, crcRounds_xor, crcRounds_xor _ _ (numLE a ^^^ numLE b ^^^ numLE c), crcRounds_xor _ (numLE a ^^^ numLE b), crcRounds_xor _ (numLE a)]
  generalize crcRounds (8 * n) 4294967295 = r
  generalize crcRounds (8 * n) (numLE a) = A
  generalize crcRounds (8 * n) (numLE b) = B
  generalize crcRounds (8 * n) (numLE c) = C
  generalize (4294967295 : Nat) = o
  rw [← Nat.xor_assoc o r A, ← Nat.xor_assoc o r B, ← Nat.xor_assoc o r C, ← Nat.xor_assoc o r]
  generalize o ^^^ r = q
  rw [xor_four q A q B, Nat.xor_self, Nat.zero_xor, ← Nat.xor_assoc (A ^^^ B) q C, Nat.xor_comm (A ^^^ B) q, Nat.xor_assoc q]

end Go.Proofs.Ytilocedppkmikaa
