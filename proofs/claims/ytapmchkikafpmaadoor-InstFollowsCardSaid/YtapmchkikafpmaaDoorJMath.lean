/-
  States of instances (package inst) by value: right ones, what may come behind what. No program in it but a string's bytes.
-/
import Derived.Test.YtapmchkikafpmaaDoorKMath
import Derived.Test.YtapmchkikafpmaaDoorAOwn
namespace Go.Proofs.YtapmchkikafpmaaDoor

/-- A state: its name, status, ballots, same, command, attributes. -/
structure J where
  r : Int
  s : Int
  st : Int
  bal : Int
  vote : Int
  same : Bool
  c : K
  f : Nat → Int

abbrev zeroK : K := ⟨0, 0, ⟨#[]⟩, 0, ⟨#[]⟩, 0, 0, 0⟩
/-- Its ballots are those of Go's types. -/
def okJ (x : J) : Prop := (0 ≤ x.bal ∧ x.bal < 4294967296) ∧ 0 ≤ x.vote ∧ x.vote < 4294967296
def zeroJ : J := ⟨0, 0, 0, 0, 0, false, zeroK, fun _ => 0⟩
/-- Are they the same, field by field? -/
def eqJ (x y : J) : Bool := (x.r == y.r && x.s == y.s) && ((x.st == y.st) && ((x.bal == y.bal) && ((x.vote == y.vote) && ((x.same == y.same) && (decide (x.c = y.c) && eqA x.f y.f)))))
def balB (b : Int) : Bool := ballotB b.toNat
def emptyJ (x : J) : J := ⟨x.r, x.s, 0, x.bal, 0, false, zeroK, fun _ => 0⟩
def newJ (r s : Int) : J := ⟨r, s, 0, 0, 0, false, zeroK, fun _ => 0⟩
def maySame (x : J) : Bool := x.st == 1 && x.vote == 0
def statB (n : Int) : Bool := decide (0 ≤ n ∧ n < 4)
def valB (x : J) : Bool := balB x.vote && decide (x.vote ≤ x.bal) && (!x.same || maySame x) && rightK x.c && ownB x.f x.r x.s
def rightJ (x : J) : Bool := nameB x.r x.s && balB x.bal && (if x.st = 0 then eqJ x (emptyJ x) else statB x.st && valB x)
def alikeJ (x y : J) : Bool := decide (x.c = y.c) && eqA x.f y.f
/-- What comes behind the checks of both. -/
def restJ (x o : J) : Bool := if o.st = 3 then x.st == 3 && alikeJ x o else if x.st = 3 then true else if x.vote = o.vote then (if x.st = o.st then x.same == o.same && alikeJ x o else decide (o.st < x.st)) else decide (o.vote < x.vote)
def followsJ (x o : J) : Bool := rightJ x && rightJ o && (x.r == o.r && x.s == o.s) && decide (o.bal ≤ x.bal) && restJ x o

theorem alike_trans {x y z : J} (h1 : alikeJ y x = true) (h2 : alikeJ z y = true) : alikeJ z x = true := by
  unfold alikeJ at *
  simp only [Bool.and_eq_true, decide_eq_true_eq, eqA_iff] at *
  exact ⟨h2.1.trans h1.1, fun i hi => (h2.2 i hi).trans (h1.2 i hi)⟩

/-- What may come behind what may come behind a state. -/
theorem follows_trans {x y z : J} (h1 : followsJ y x = true) (h2 : followsJ z y = true) : followsJ z x = true ∧ x.bal ≤ z.bal ∧ (x.st = 3 → z.st = 3 ∧ alikeJ z x = true) := by
  unfold followsJ at *
  simp only [Bool.and_eq_true, decide_eq_true_eq, beq_iff_eq] at *
  obtain ⟨⟨⟨⟨ry, rx⟩, n1, n2⟩, b1⟩, r1⟩ := h1
  obtain ⟨⟨⟨⟨rz, _⟩, m1, m2⟩, b2⟩, r2⟩ := h2
  refine ⟨⟨⟨⟨⟨rz, rx⟩, m1.trans n1, m2.trans n2⟩, by omega⟩, ?_⟩, by omega, ?_⟩
  · unfold restJ at *
    by_cases hx : x.st = 3
    · rw [if_pos hx] at r1 ⊢
      simp only [Bool.and_eq_true, beq_iff_eq] at r1 ⊢
      rw [if_pos r1.1] at r2
      simp only [Bool.and_eq_true, beq_iff_eq] at r2
      exact ⟨r2.1, alike_trans r1.2 r2.2⟩
    · rw [if_neg hx] at r1 ⊢
      by_cases hz : z.st = 3
      · rw [if_pos hz]
      · rw [if_neg hz]
        by_cases hy : y.st = 3
        · rw [if_pos hy] at r2
          simp only [Bool.and_eq_true, beq_iff_eq] at r2
          exact absurd r2.1 hz
        · rw [if_neg hy] at r1
          rw [if_neg hy, if_neg hz] at r2
          by_cases v1 : y.vote = x.vote
          · rw [if_pos v1] at r1
            by_cases v2 : z.vote = y.vote
            · rw [if_pos v2] at r2
              rw [if_pos (v2.trans v1)]
              by_cases s1 : y.st = x.st
              · rw [if_pos s1] at r1
                simp only [Bool.and_eq_true, beq_iff_eq] at r1
                by_cases s2 : z.st = y.st
                · rw [if_pos s2] at r2
                  simp only [Bool.and_eq_true, beq_iff_eq] at r2
                  rw [if_pos (s2.trans s1)]
                  simp only [Bool.and_eq_true, beq_iff_eq]
                  exact ⟨r2.1.trans r1.1, alike_trans r1.2 r2.2⟩
                · rw [if_neg s2, decide_eq_true_eq] at r2
                  rw [if_neg (by omega), decide_eq_true_eq]; omega
              · rw [if_neg s1, decide_eq_true_eq] at r1
                by_cases s2 : z.st = y.st
                · rw [if_neg (by omega), decide_eq_true_eq]; omega
                · rw [if_neg s2, decide_eq_true_eq] at r2
                  rw [if_neg (by omega), decide_eq_true_eq]; omega
            · rw [if_neg v2, decide_eq_true_eq] at r2
              rw [if_neg (by omega), decide_eq_true_eq]; omega
          · rw [if_neg v1, decide_eq_true_eq] at r1
            by_cases v2 : z.vote = y.vote
            · rw [if_neg (by omega), decide_eq_true_eq]; omega
            · rw [if_neg v2, decide_eq_true_eq] at r2
              rw [if_neg (by omega), decide_eq_true_eq]; omega
  · intro hx
    unfold restJ at *
    rw [if_pos hx] at r1
    simp only [Bool.and_eq_true, beq_iff_eq] at r1
    rw [if_pos r1.1] at r2
    simp only [Bool.and_eq_true, beq_iff_eq] at r2
    exact ⟨r2.1, alike_trans r1.2 r2.2⟩

end Go.Proofs.YtapmchkikafpmaaDoor
