/-
  Contracts of package wire's NewIn and In.Text.
-/
import Derived.Test.YtfpmmajgnijboaaInOps
import Derived.Test.YtfpmmajgnijboaaClone
namespace Go.Proofs.Ytfpmmajgnijboaa
open Go.ChangeShapes Go.WideShapes Go.ChangeAt Go.RowKit

/-- What NewIn hands back. -/
def News (l : List Nat) (w : World) (en : Ending) (w' : World) : Prop := ∃ g, en = .returned (.pointer (some ⟨g, 0, none⟩)) ∧ InAt w' g l 0 ∧ Below w.heap.size w w' ∧ w.heap.size ≤ g

theorem makes_in {l : List Nat} {w w1 : World} {s : Value} (hown : w1.ownsRow w.heap.size 5 1 s l.length (l.map bv)) (hb : Below w.heap.size w w1) :
    News l w (.returned (.pointer (some ⟨w1.heap.size, 0, none⟩))) (w1.alloc (.cells #[s, .int .i64 0] 60)) := by
  have hsz := hb.size
  refine ⟨w1.heap.size, rfl, ?_, hb.alloc hsz _, hsz⟩
  have hbl := Blk.new w1 60 #[s, .int .i64 0]
  have hal : Below w1.heap.size w1 (w1.alloc (.cells #[s, .int .i64 0] 60)) := (Below.refl _ _).alloc (Nat.le_refl _) _
  rcases hown.2 with ⟨rfl, h0⟩ | ⟨g, cap, cur, rfl, _, _, hc, hm, _, _⟩
  · have : l = [] := List.eq_nil_of_length_eq_zero h0
    subst this
    exact ⟨none, 0, hbl, fun _ => rfl, Nat.le_refl _, by omega, Held.nil _ _ _⟩
  · exact ⟨_, cap, hbl, fun h => (by cases h), hc, by unfold maxLen at hm; omega, ((Sees.of_own hown).held).below hal⟩

set_option maxRecDepth 100000 in
set_option maxHeartbeats 400000 in
theorem newin_any (A : Option Addr) (l : List Nat) (n c : Nat) (w : World) (hn : l.length = n) (hl : n ≤ 140737488355328) (hc : A = none → c = 0) (hA : Sees .u8 w A l) :
    Calls Try.prog 20 #[.slice A n c] w (News l w) := by
  have HA := hid hA
  have HN := hid hn
  have HC := hid hc
  clear hA hn hc
  go_enter Try.func20, Try.ntmps20
  go_wp2_with fail
  with_reducible refine (clone_any A l n c _ HN.out hl HC.out HA.out).mono ?_
  rintro en w1 ⟨s, rfl, hown, hb⟩
  obtain ⟨A1, c1, rfl, _, _, _⟩ := own_slice hown
  have HM := hid (makes_in hown hb)
  clear hown hb
  go_wp2
  go_ret
  exact HM.out

/-- A text that is taken: what is left then, the error, its bytes. -/
def sText (l : List Nat) (e most : Nat) : List Nat × Nat × List Nat :=
  if (sShort l e most).2.1 = 0 ∧ (sShort l e most).2.2 ≤ (sShort l e most).1.length then ((sShort l e most).1.drop (sShort l e most).2.2, 0, (sShort l e most).1.take (sShort l e most).2.2)
  else ([], firstE (sShort l e most).2.1 20, [])

theorem sShort_bad {l : List Nat} {e most : Nat} (h : (sShort l e most).2.1 ≠ 0) (hf : Fine l e) : (sShort l e most).1 = [] ∧ (sShort l e most).2.2 = 0 := by
  unfold sShort at h ⊢
  by_cases hz : (readN l).2.2 = 0
  · rw [if_pos hz] at h ⊢
    by_cases hm : most < (readN l).1
    · rw [if_pos hm]; exact ⟨rfl, rfl⟩
    · rw [if_neg hm] at h
      exact absurd (fine_zero hf (readN_ne hz)) h
  · rw [if_neg hz]; exact ⟨rfl, rfl⟩
theorem sShort_most {l : List Nat} {e most : Nat} : (sShort l e most).2.2 ≤ most := by
  unfold sShort
  split
  · split
    · exact Nat.zero_le _
    · show (readN l).1 ≤ most; omega
  · exact Nat.zero_le _
theorem sShort_in {l : List Nat} {e most : Nat} : ∀ x ∈ (sShort l e most).1, x ∈ l := by
  unfold sShort
  split
  · split
    · intro x hx; cases hx
    · intro x hx; exact List.mem_of_mem_drop hx
  · intro x hx; cases hx
theorem sShort_len {l : List Nat} {e most : Nat} : (sShort l e most).1.length ≤ l.length := by
  unfold sShort
  split
  · split
    · simp
    · show (l.drop _).length ≤ _; rw [List.length_drop]; omega
  · simp

end Go.Proofs.Ytfpmmajgnijboaa
