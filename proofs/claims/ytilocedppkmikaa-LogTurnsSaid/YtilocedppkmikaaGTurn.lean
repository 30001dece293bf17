/-
  A frame of which one bit was turned, behind its number, is torn.
-/
import Derived.Test.YtilocedppkmikaaGOpen
namespace Go.Proofs.Ytilocedppkmikaa
open Go.ChangeShapes Go.WideShapes Go.ChangeAt Go.RowKit
set_option linter.unusedVariables false

theorem mul_xor (k a b : Nat) : 2 ^ k * (a ^^^ b) = 2 ^ k * a ^^^ 2 ^ k * b := by
  simp only [Nat.mul_comm (2 ^ k), ← Nat.shiftLeft_eq, Nat.shiftLeft_xor_distrib]

theorem pow_lt8 {r : Nat} (h : r < 8) : 2 ^ r < 256 := Nat.pow_lt_pow_right (a := 2) (by decide) h

theorem set_byte {L : List Nat} (h : ∀ x ∈ L, x < 256) (q y : Nat) (hy : y < 256) : ∀ x ∈ L.set q y, x < 256 := fun x hx => by
  rcases List.mem_or_eq_of_mem_set hx with h1 | h1
  · exact h x h1
  · omega

/-- One bit turned. -/
theorem turn_num : ∀ (L : List Nat) (q r : Nat) (hq : q < L.length), r < 8 → (∀ x ∈ L, x < 256) → numLE (L.set q (L[q] ^^^ 2 ^ r)) = numLE L ^^^ 2 ^ (8 * q + r) := by
  intro L
  induction L with
  | nil => intro q r hq; simp at hq
  | cons c l ih =>
    intro q r hq hr hx
    have hc := hx c (by simp)
    cases q with
    | zero =>
      simp only [List.set_cons_zero, List.getElem_cons_zero]
      rw [numLE_cons _ (xor_lt8 hc (pow_lt8 hr)), numLE_cons _ hc, Nat.mul_zero, Nat.zero_add, Nat.xor_assoc, Nat.xor_comm (2 ^ r), ← Nat.xor_assoc]
    | succ q =>
      simp only [List.set_cons_succ, List.getElem_cons_succ]
      rw [numLE_cons _ hc, numLE_cons _ hc, ih q r (by simpa using hq) hr (fun x h => hx x (by simp [h])), mul_xor, ← Nat.xor_assoc, ← Nat.pow_add, show 8 + (8 * q + r) = 8 * (q + 1) + r by omega]

/-- Of two sealed texts of one length, a row of at most 32 bits cannot be all in which they differ. -/
theorem sealed_far {p p' t' : List Nat} {N at_ m : Nat} (xp : ∀ x ∈ p, x < 256) (xp' : ∀ x ∈ p', x < 256) (hl : p.length = N) (hl' : p'.length = N) (hat : at_ ≤ 8 * (N + 4)) (hm : m < 4294967296) (h0 : m ≠ 0)
    (hd : numLE (p' ++ t') = numLE (sealed p) ^^^ 2 ^ at_ * m) (ht : t' = le4 (crcOf p')) : False := by
  have key : ∀ q : List Nat, (∀ x ∈ q, x < 256) → q.length = N → crcRounds (8 * (N + 4)) (4294967295 ^^^ numLE (sealed q)) = crcRounds 32 4294967295 := by
    intro q xq hq
    have h1 := crcFold_num 4294967295 (sealed_byte xq)
    rw [sealed_len, hq] at h1
    rw [← h1]
    unfold sealed
    rw [crcFold_append, crcFold_num _ (le4_byte _), numLE_le4 (crcOf_lt q), le4_len, crcOf_xor xq, ← Nat.xor_assoc, Nat.xor_comm (crcFold 4294967295 q), Nat.xor_assoc, Nat.xor_self, Nat.xor_zero]
  have k1 := key p xp hl
  have k2 := key p' xp' hl'
  have e : sealed p' = p' ++ t' := by rw [ht]; rfl
  rw [e, hd, ← Nat.xor_assoc, crcRounds_xor _ (4294967295 ^^^ numLE (sealed p)), k1] at k2
  have h3 : crcRounds (8 * (N + 4)) (2 ^ at_ * m) = 0 := by
    have h4 := congrArg (fun z => crcRounds 32 4294967295 ^^^ z) k2
    simpa only [← Nat.xor_assoc, Nat.xor_self, Nat.zero_xor] using h4
  exact crcRounds_burst hat hm h0 h3

theorem turn_walk (y r : Nat) (hy : y < 256) (hr : r < 8) : bits BinOp.xor IntKind.u8 (y : Int) ((2 : Int) ^ r % 256) = ((y ^^^ 2 ^ r : Nat) : Int) := by
  have hp := pow_lt8 hr
  have e : (2 : Int) ^ r % 256 = ((2 ^ r : Nat) : Int) := by
    have e0 : (2 : Int) ^ r = ((2 ^ r : Nat) : Int) := by simp
    rw [e0]
    generalize (2 : Nat) ^ r = z at *
    omega
  rw [e]
  exact u8_xor_nat y (2 ^ r) hy hp

/-- A frame of which one bit behind its number was turned: no whole frame stands there. -/
theorem torn_turned {r more : List Nat} {a Q R : Nat} (h8 : ∀ x ∈ r, x < 256) (hr : r.length ≤ 16384) (ha : a = (shortN (r.length + 4)).length) (haQ : a ≤ Q) (hQ : Q < (frameN r).length) (hR : R < 8) :
    Torn ((frameN r).set Q ((frameN r)[Q] ^^^ 2 ^ R) ++ more) := by
  intro r' m' h' e
  have hfl := frameN_len r
  have hq : Q - a < (sealed r).length := by rw [sealed_len]; omega
  have hget : (frameN r)[Q] = (sealed r)[Q - a] := by
    simp only [frameN]
    rw [List.getElem_append_right (by omega)]
    simp only [ha]
  have hset : (frameN r).set Q ((frameN r)[Q] ^^^ 2 ^ R) = shortN (r.length + 4) ++ (sealed r).set (Q - a) ((sealed r)[Q - a] ^^^ 2 ^ R) := by
    rw [hget]
    simp only [frameN]
    rw [List.set_append_right _ _ (by omega), ← ha]
  rw [hset] at e
  have hread := frame_read r' m' h'
  rw [← e, List.append_assoc, readN_short _ _ (by omega)] at hread
  simp only [Prod.mk.injEq, Nat.add_right_cancel_iff, and_true] at hread
  have hl' : r.length = r'.length := hread.1
  have e2 := (List.append_inj e (by rw [frameN_len, List.length_append, List.length_set, sealed_len, hl'])).1
  unfold frameN at e2
  rw [hl'] at e2
  have e3 := List.append_cancel_left e2
  have xs := set_byte (sealed_byte h8) (Q - a) ((sealed r)[Q - a] ^^^ 2 ^ R) (xor_lt8 (sealed_byte h8 _ (List.getElem_mem hq)) (pow_lt8 hR))
  rw [e3] at xs
  have hd := turn_num (sealed r) (Q - a) R hq hR (sealed_byte h8)
  rw [e3] at hd
  have hd2 : numLE (r' ++ le4 (crcOf r')) = numLE (sealed r) ^^^ 2 ^ (8 * (Q - a) + R) * 1 := by rw [Nat.mul_one]; exact hd
  rw [sealed_len] at hq
  exact sealed_far (N := r.length) h8 (fun x hx => xs x (by unfold sealed; exact List.mem_append_left _ hx)) rfl hl'.symm (by omega) (by decide) (by decide) hd2 rfl

end Go.Proofs.Ytilocedppkmikaa
