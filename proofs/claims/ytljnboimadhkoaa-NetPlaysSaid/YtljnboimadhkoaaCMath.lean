/-
  Sets of replicas as numbers below 256, by their bits: plain arithmetic, no program in it.
-/
import Derived.WalkKit
import Derived.Laws.BitsAllLaws
namespace Go.Proofs.Ytljnboimadhkoaa
open Go.RowKit

/-- The set of one replica; empty, if there is none of that number. -/
def alone (r : Int) : Nat := if 0 ≤ r ∧ r < 7 then 2 ^ r.toNat else 0
def withN (s : Nat) (r : Int) : Nat := s ||| alone r
def lessN (s : Nat) (r : Int) : Nat := s &&& (255 - alone r)
def hasB (s : Nat) (r : Int) : Bool := decide (0 ≤ r) && decide (r < 7) && s.testBit r.toNat
def meetN (s o : Nat) : Nat := s &&& o &&& 127
def cnt (s : Nat) : Nat := (s.testBit 0).toNat + (s.testBit 1).toNat + (s.testBit 2).toNat + (s.testBit 3).toNat + (s.testBit 4).toNat + (s.testBit 5).toNat + (s.testBit 6).toNat
/-- The first k replicas. -/
def firstN (k : Nat) : Nat := 2 ^ k - 1
/-- How many All is asked for, cut to 0 to 7. -/
def cutN (n : Int) : Nat := (min n 7).toNat

theorem seven {k : Nat} (h : k < 7) : k = 0 ∨ k = 1 ∨ k = 2 ∨ k = 3 ∨ k = 4 ∨ k = 5 ∨ k = 6 := by omega

theorem alone_lt (r : Int) : alone r < 128 := by
  unfold alone
  split
  · rcases seven (k := r.toNat) (by omega) with h | h | h | h | h | h | h <;> rw [h] <;> decide
  · decide
theorem alone_bit (r : Int) (i : Nat) : (alone r).testBit i = decide ((i : Int) = r ∧ i < 7) := by
  unfold alone
  split
  · rw [Nat.testBit_two_pow]
    exact decide_eq_decide.2 (by omega)
  · rw [Nat.zero_testBit]
    exact (decide_eq_false (by omega)).symm
theorem with_lt {s : Nat} (hs : s < 256) (r : Int) : withN s r < 256 := Nat.or_lt_two_pow (n := 8) hs (by have := alone_lt r; omega)
theorem less_lt {s : Nat} (hs : s < 256) (r : Int) : lessN s r < 256 := Nat.lt_of_le_of_lt Nat.and_le_left hs
theorem meet_lt (s o : Nat) : meetN s o < 128 := Nat.lt_of_le_of_lt Nat.and_le_right (by decide)
theorem with_bit (s : Nat) (r : Int) (i : Nat) : (withN s r).testBit i = (s.testBit i || decide ((i : Int) = r ∧ i < 7)) := by
  unfold withN; rw [Nat.testBit_or, alone_bit]
theorem comp_bit {a i : Nat} (ha : a < 256) (hi : i < 8) : (255 - a).testBit i = !a.testBit i := by
  have h := Nat.testBit_two_pow_sub_succ (x := a) (n := 8) (by omega) i
  rw [show 2 ^ 8 - (a + 1) = 255 - a by omega] at h
  rw [h, decide_eq_true hi, Bool.true_and]
theorem less_bit (s : Nat) (r : Int) {i : Nat} (hi : i < 8) : (lessN s r).testBit i = (s.testBit i && !decide ((i : Int) = r ∧ i < 7)) := by
  unfold lessN; rw [Nat.testBit_and, comp_bit (by have := alone_lt r; omega) hi, alone_bit]
theorem bit127 (i : Nat) : (127 : Nat).testBit i = decide (i < 7) := Nat.testBit_two_pow_sub_one 7 i
theorem meet_bit (s o i : Nat) : (meetN s o).testBit i = (s.testBit i && o.testBit i && decide (i < 7)) := by
  unfold meetN; rw [Nat.testBit_and, Nat.testBit_and, bit127]
theorem first_bit (k i : Nat) : (firstN k).testBit i = decide (i < k) := Nat.testBit_two_pow_sub_one k i
theorem first_lt {k : Nat} (h : k ≤ 7) : firstN k < 128 := by
  rcases (show k = 0 ∨ k = 1 ∨ k = 2 ∨ k = 3 ∨ k = 4 ∨ k = 5 ∨ k = 6 ∨ k = 7 by omega) with h | h | h | h | h | h | h | h <;> rw [h] <;> decide
theorem first_next {k : Nat} (h : k < 7) : withN (firstN k) (k : Int) = firstN (k + 1) := by
  apply Nat.eq_of_testBit_eq
  intro i
  rw [with_bit, first_bit, first_bit, ← Bool.decide_or]
  exact decide_eq_decide.2 (by omega)
theorem cut_le (n : Int) : cutN n ≤ 7 := by unfold cutN; omega

/-- What the program's operations on bytes make. -/
theorem and_walk {s r : Nat} (hs : s < 256) (hr : r < 256) : bits BinOp.and IntKind.u8 (s : Int) (r : Int) = ((s &&& r : Nat) : Int) := u8_and_nat s r hs hr
theorem or_walk {s : Nat} (hs : s < 256) (r : Int) : bits BinOp.or IntKind.u8 (s : Int) (alone r : Int) = (withN s r : Int) := u8_or_nat s _ hs (by have := alone_lt r; omega)
theorem andNot_walk {s : Nat} (hs : s < 256) (r : Int) : bits BinOp.andNot IntKind.u8 (s : Int) (alone r : Int) = (lessN s r : Int) := u8_andNot_nat s _ hs (by have := alone_lt r; omega)
theorem has_walk {s : Nat} (hs : s < 256) (r : Int) : (bits BinOp.and IntKind.u8 (s : Int) (alone r : Int) != 0) = hasB s r := by
  rw [u8_and_nat s _ hs (by have := alone_lt r; omega)]
  have key : ((s &&& alone r : Nat) : Int) != 0 ↔ hasB s r = true := by
    unfold hasB alone
    by_cases h : 0 ≤ r ∧ r < 7
    · rw [if_pos h, decide_eq_true h.1, decide_eq_true h.2, Bool.true_and, Bool.true_and, nat_bit, Nat.testBit_eq_decide_div_mod_eq]
      have hp : 0 < 2 ^ r.toNat := Nat.two_pow_pos _
      simp only [bne_iff_ne, ne_eq, decide_eq_true_eq]
      rcases Nat.mod_two_eq_zero_or_one (s / 2 ^ r.toNat) with e | e
      · rw [e]; simp
      · rw [e, Nat.one_mul]
        exact ⟨fun _ => rfl, fun _ => by omega⟩
    · rw [if_neg h, Nat.and_zero]
      simp
      omega
  rw [Bool.eq_iff_iff]; exact key
theorem hasB_nat (s : Nat) {i : Nat} (hi : i < 7) : hasB s (i : Int) = s.testBit i := by
  unfold hasB
  rw [decide_eq_true (by omega), decide_eq_true (by omega)]
  simp
theorem meet_walk {s o : Nat} (hs : s < 256) (ho : o < 256) : bits BinOp.and IntKind.u8 (bits BinOp.and IntKind.u8 (s : Int) (o : Int)) 127 = (meetN s o : Int) := by
  rw [u8_and_nat s o hs ho]
  exact u8_and_nat (s &&& o) 127 (Nat.lt_of_le_of_lt Nat.and_le_left hs) (by decide)

theorem cnt_meet_self (s : Nat) : cnt (meetN s s) = cnt s := by
  have e : ∀ i, i < 7 → (meetN s s).testBit i = s.testBit i := fun i hi => by rw [meet_bit, Bool.and_self, decide_eq_true hi, Bool.and_true]
  unfold cnt
  rw [e 0 (by decide), e 1 (by decide), e 2 (by decide), e 3 (by decide), e 4 (by decide), e 5 (by decide), e 6 (by decide)]
theorem cnt_le (s : Nat) : cnt s ≤ 7 := by
  unfold cnt
  have := Bool.toNat_le (s.testBit 0); have := Bool.toNat_le (s.testBit 1); have := Bool.toNat_le (s.testBit 2); have := Bool.toNat_le (s.testBit 3)
  have := Bool.toNat_le (s.testBit 4); have := Bool.toNat_le (s.testBit 5); have := Bool.toNat_le (s.testBit 6)
  omega

/-- The library's table of counts. -/
def pops : List Nat := [0, 1, 1, 2, 1, 2, 2, 3, 1, 2, 2, 3, 2, 3, 3, 4, 1, 2, 2, 3, 2, 3, 3, 4, 2, 3, 3, 4, 3, 4, 4, 5, 1, 2, 2, 3, 2, 3, 3, 4, 2, 3, 3, 4, 3, 4, 4, 5, 2, 3, 3, 4, 3, 4, 4, 5, 3, 4, 4, 5, 4, 5, 5, 6, 1, 2, 2, 3, 2, 3, 3, 4, 2, 3, 3, 4, 3, 4, 4, 5, 2, 3, 3, 4, 3, 4, 4, 5, 3, 4, 4, 5, 4, 5, 5, 6, 2, 3, 3, 4, 3, 4, 4, 5, 3, 4, 4, 5, 4, 5, 5, 6, 3, 4, 4, 5, 4, 5, 5, 6, 4, 5, 5, 6, 5, 6, 6, 7]
theorem pops_cnt : ∀ s : Nat, s < 128 → pops[s]? = some (cnt s) := by decide +kernel

/-- Of a byte by dividing: the bits in their order. -/
theorem half_bit (b i : Nat) : (b / 2 ^ i % 2 == 1) = b.testBit i := by rw [Nat.testBit_eq_decide_div_mod_eq]; rfl

/-! ### The numbers of a crew -/
def rightN (n : Int) : Bool := decide (n = 3) || decide (n = 5) || decide (n = 7)

theorem and_sum (p q : Bool) : p.toNat + q.toNat ≤ (p && q).toNat + 1 := by cases p <;> cases q <;> decide
theorem and_le_l (p q : Bool) : (p && q).toNat ≤ p.toNat := by cases p <;> cases q <;> decide

/-- Of the first n two sets have at least so many in common. -/
theorem meet_many (a b : Nat) {n : Nat} (hn : n ≤ 7) (ha : ∀ i, n ≤ i → a.testBit i = false) (hb : ∀ i, n ≤ i → b.testBit i = false) : cnt a + cnt b ≤ cnt (meetN a b) + n := by
  have e : ∀ i, i < 7 → (a.testBit i).toNat + (b.testBit i).toNat ≤ ((meetN a b).testBit i).toNat + (if i < n then 1 else 0) := by
    intro i hi
    rw [meet_bit, decide_eq_true hi, Bool.and_true]
    by_cases h : i < n
    · rw [if_pos h]; exact and_sum _ _
    · rw [ha i (by omega), hb i (by omega), if_neg h]; decide
  have e0 := e 0 (by decide); have e1 := e 1 (by decide); have e2 := e 2 (by decide); have e3 := e 3 (by decide); have e4 := e 4 (by decide); have e5 := e 5 (by decide); have e6 := e 6 (by decide)
  unfold cnt
  rcases (show n = 0 ∨ n = 1 ∨ n = 2 ∨ n = 3 ∨ n = 4 ∨ n = 5 ∨ n = 6 ∨ n = 7 by omega) with h | h | h | h | h | h | h | h <;> subst h <;> split at e0 <;> split at e1 <;> split at e2 <;> split at e3 <;> split at e4 <;> split at e5 <;> split at e6 <;> omega

/-- The same set without one that the other one lacks. -/
theorem meet_less (a b : Nat) {r : Int} (h : hasB a r = false) : cnt (meetN a (lessN b r)) = cnt (meetN a b) := by
  have e : ∀ i, i < 7 → (meetN a (lessN b r)).testBit i = (meetN a b).testBit i := by
    intro i hi
    rw [meet_bit, meet_bit, less_bit _ _ (by omega)]
    by_cases hr : (i : Int) = r
    · have : a.testBit i = false := by rw [← hasB_nat a hi, hr]; exact h
      rw [this]; simp
    · rw [decide_eq_false (by omega)]; simp
  unfold cnt
  rw [e 0 (by decide), e 1 (by decide), e 2 (by decide), e 3 (by decide), e 4 (by decide), e 5 (by decide), e 6 (by decide)]

/-! ### Arrays of seven truths -/
def rowOf (f : Nat → Bool) : Array Value := ((List.range 7).map fun i => Value.bool (f i)).toArray
theorem rowOf_size (f : Nat → Bool) : (rowOf f).size = 7 := by simp [rowOf]
theorem rowOf_get (f : Nat → Bool) {i : Nat} (h : i < 7) : (rowOf f)[i]? = some (.bool (f i)) := by
  simp [rowOf, List.getElem?_range h]
theorem rowOf_congr {f g : Nat → Bool} (h : ∀ i, i < 7 → f i = g i) : rowOf f = rowOf g := by
  unfold rowOf
  congr 1
  exact List.map_congr_left fun i hi => by rw [h i (List.mem_range.1 hi)]
theorem rowOf_set (f : Nat → Bool) (k : Nat) (x : Bool) : (rowOf f).setIfInBounds k (.bool x) = rowOf fun i => if i = k then x else f i := by
  apply Array.ext
  · simp [rowOf]
  · intro i h1 h2
    have hi : i < 7 := by simpa [rowOf] using h2
    rw [Array.getElem_setIfInBounds (by simpa [rowOf] using hi)]
    by_cases e : k = i
    · subst e; simp [rowOf]
    · rw [if_neg e]
      simp [rowOf, Ne.symm e]
theorem rowOf_one (f : Nat → Bool) : (rowOf f).all (·.oneCell') = true := by
  simp [rowOf, Value.oneCell']
theorem rowOf_inj {f g : Nat → Bool} (h : rowOf f = rowOf g) {i : Nat} (hi : i < 7) : f i = g i := by
  have h1 := rowOf_get f hi
  rw [h, rowOf_get g hi] at h1
  injection h1 with h1
  injection h1 with h1
  exact h1.symm

end Go.Proofs.Ytljnboimadhkoaa
