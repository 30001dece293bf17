/-
  The contracts of num.Bytes and num.Read.
-/
import Derived.Test.YtfpmmajgnijboaaNRead
import Derived.WalkKit
import Derived.WalkSpells
import Derived.WalkLawsBesides
namespace Go.Proofs.Ytfpmmajgnijboaa
open Go.RowKit

/-- What a loop that writes a number's bytes from the last one on holds. -/
def BytesRel (V n base : Nat) (w : World) (v i : Value) (wr : World) : Prop :=
  (∃ (k m : Nat) (tail : List Nat), i = .int .i64 (k : Int) ∧ k < n ∧ v = .int .u64 (m : Int) ∧ m < 18446744073709551616 ∧ tail.length + (k + 1) = n ∧ bytesN m (k + 1) ++ tail = bytesN V n ∧
    wr.ownsRow base 5 1 (.slice (some ⟨base, 0, none⟩) n n) n ((List.replicate (k + 1) 0 ++ tail).map bv) ∧ Below base w wr) ∨
  (i = .int .i64 (-1) ∧ wr.ownsRow base 5 1 (.slice (some ⟨base, 0, none⟩) n n) n ((bytesN V n).map bv) ∧ Below base w wr)

theorem bytes_step {V n base k m : Nat} {tail : List Nat} {w wr : World} {x a i : Int} (hk : k < n) (hm : m < 18446744073709551616) (hlen : tail.length + (k + 1) = n) (heq : bytesN m (k + 1) ++ tail = bytesN V n)
    (hown : wr.ownsRow base 5 1 (.slice (some ⟨base, 0, none⟩) n n) n ((List.replicate (k + 1) 0 ++ tail).map bv)) (hb : Below base w wr) (hx : x = (m : Int) % 256) (ha : a = (m : Int) / 256) (hi : i = (k : Int) - 1) :
    BytesRel V n base w (.int .u64 a) (.int .i64 i) (wr.setCell ⟨base, k, none⟩ (.int .u8 x)) := by
  subst hx; subst ha; subst hi
  have hs := (hown.stored k (.int .u8 ((m : Int) % 256))).1
  have ev : (Value.int .u8 ((m : Int) % 256)) = bv (m % 256) := by unfold bv; congr 1
  rw [ev] at hs ⊢
  rw [← List.map_set, replicate_set] at hs
  have hb' : Below base w (wr.setCell ⟨base, k, none⟩ (bv (m % 256))) := hb.setCell (Nat.le_refl _) _
  rw [bytesN, List.append_assoc, List.singleton_append] at heq
  cases k with
  | zero =>
    right
    refine ⟨by simp, ?_, hb'⟩
    rw [← heq]
    simpa [bytesN] using hs
  | succ k =>
    left
    refine ⟨k, m / 256, m % 256 :: tail, ?_, by omega, by congr 1, by omega, by simp; omega, heq, hs, hb'⟩
    congr 1
    omega

theorem zeros_of_made (n : Nat) : (madeCells (Value.int .u8 0).cells (n * 1)).toList = (List.replicate n 0).map bv := by
  rw [Nat.mul_one, show (Value.int IntKind.u8 0).cells = #[.int .u8 0] from rfl, toList_madeCells_one, List.map_replicate]
  rfl

theorem bytes_start {V n : Nat} {w w1 : World} (hV : V < 18446744073709551616) (h : w1.ownsRow w.heap.size 5 1 (.slice (some ⟨w.heap.size, 0, none⟩) n n) n (madeCells (Value.int .u8 0).cells (n * 1)).toList) (hg : w.grownBy w1 none) :
    BytesRel V n w.heap.size w (.int .u64 (V : Int)) (.int .i64 ((n : Int) - 1)) w1 := by
  have hb : Below w.heap.size w w1 := (Below.refl _ _).grown hg (Nat.le_refl _) (by intro k hk; cases hk)
  rw [zeros_of_made] at h
  cases n with
  | zero => right; exact ⟨by simp, by simpa [bytesN] using h, hb⟩
  | succ n =>
    left
    refine ⟨n, V, [], ?_, by omega, rfl, hV, by simp, by simp, by simpa using h, hb⟩
    congr 1
    omega

theorem bytes_end {V n : Nat} {w wr : World} (h : wr.ownsRow w.heap.size 5 1 (.slice (some ⟨w.heap.size, 0, none⟩) n n) n ((bytesN V n).map bv)) (hb : Below w.heap.size w wr) : Makes (bytesN V n) w (.returned (.slice (some ⟨w.heap.size, 0, none⟩) n n)) wr :=
  ⟨_, rfl, by rw [bytesN_len]; exact h, hb⟩

/-- The same, where the length is known by another name. -/
def HandsN (l : List Nat) (n : Nat) (w : World) (e : Ending) (w' : World) : Prop :=
  ∃ A cap, e = .returned (.slice A n cap) ∧ (A = none → cap = 0) ∧ n ≤ cap ∧ Sees .u8 w' A l ∧ Below w.heap.size w w'
theorem Hands.named {l : List Nat} {n : Nat} {w : World} {e : Ending} {w' : World} (h : Hands l w e w') (hn : l.length = n) : HandsN l n w e w' := by
  subst hn; exact h
def NumRel (l : List Nat) (n : Nat) (v i : Value) : Prop := ∃ k : Nat, k ≤ n ∧ i = .int .i64 (k : Int) ∧ v = .int .u64 (numN (l.take k) : Int)

end Go.Proofs.Ytfpmmajgnijboaa
