/-
  Messages (package msg) by value: right ones, what asks for a value, bytes. No program in it but a string's bytes.
-/
import Derived.Test.YtohffiehmmcgbaaGreatDoorMpD
namespace Go.Proofs.YtohffiehmmcgbaaGreatDoor

/-- A message: its kind, from, to, name, ballot, answer, what is known. -/
structure Ms where
  k : Int
  a : Int
  b : Int
  r : Int
  s : Int
  bal : Int
  ok : Bool
  x : J

def okM (m : Ms) : Prop := (0 ≤ m.bal ∧ m.bal < 4294967296) ∧ okJ m.x ∧ okK m.x.c
def zeroM : Ms := ⟨0, 0, 0, 0, 0, 0, false, zeroJ⟩
def eqM (m n : Ms) : Bool := (m.k == n.k) && ((m.a == n.a) && ((m.b == n.b) && ((m.r == n.r && m.s == n.s) && ((m.bal == n.bal) && ((m.ok == n.ok) && eqJ m.x n.x)))))
def kindB (k : Int) : Bool := decide (0 < k ∧ k < 8)
def replyB (k : Int) : Bool := k == 2 || (k == 4 || k == 7)
def twoB (m : Ms) : Bool := repB m.a && repB m.b && (m.a != m.b)
/-- The status that a kind asks for. -/
def statK (k : Int) : Int := if k ≤ 1 then 1 else if k ≤ 3 then 2 else 3
def askedJ (k bal : Int) (x : J) : J := ⟨x.r, x.s, statK k, bal, bal, false, x.c, x.f⟩
def lastB (m : Ms) : Bool := replyB m.k || (!m.ok && eqJ m.x (askedJ m.k m.bal m.x))
def knownB (m : Ms) : Bool := rightJ m.x && (m.x.r == m.r && m.x.s == m.s) && lastB m
def rightM (m : Ms) : Bool := kindB m.k && twoB m && nameB m.r m.s && balB m.bal && (if m.k = 6 then !m.ok && eqJ m.x zeroJ else knownB m)

theorem eqJ_asked (k bal : Int) (x : J) : eqJ x (askedJ k bal x) = (x.st == statK k && x.bal == bal && x.vote == bal && !x.same) := by
  unfold eqJ askedJ
  simp only [BEq.rfl, Bool.true_and, Bool.and_true, decide_true, eqA_self]
  cases x.same <;> simp [Bool.and_assoc]
/-- The document's, in its own order. -/
def docM (m : Ms) : Bool := decide (1 ≤ m.k) && decide (m.k ≤ 7) && decide (0 ≤ m.a) && decide (m.a ≤ 6) && decide (0 ≤ m.b) && decide (m.b ≤ 6) && (m.a != m.b) && nameB m.r m.s && balB m.bal &&
  (if m.k = 6 then !m.ok && eqJ m.x zeroJ else rightJ m.x && (m.x.r == m.r && m.x.s == m.s) && (replyB m.k || (!m.ok && (m.x.st == statK m.k) && (m.x.bal == m.bal) && (m.x.vote == m.bal) && !m.x.same)))
theorem doc_rightM (m : Ms) : docM m = rightM m := by
  unfold docM rightM knownB lastB kindB twoB repB
  rw [eqJ_asked]
  have e : (decide (1 ≤ m.k) && decide (m.k ≤ 7) && decide (0 ≤ m.a) && decide (m.a ≤ 6) && decide (0 ≤ m.b) && decide (m.b ≤ 6) && (m.a != m.b)) = (decide (0 < m.k ∧ m.k < 8) && (decide (0 ≤ m.a ∧ m.a ≤ 6) && decide (0 ≤ m.b ∧ m.b ≤ 6) && (m.a != m.b))) := by
    rw [Bool.eq_iff_iff]
    simp only [Bool.and_eq_true, decide_eq_true_eq]
    constructor
    · rintro ⟨⟨⟨⟨⟨⟨h1, h2⟩, h3⟩, h4⟩, h5⟩, h6⟩, h7⟩; exact ⟨⟨by omega, by omega⟩, ⟨⟨h3, h4⟩, h5, h6⟩, h7⟩
    · rintro ⟨⟨h1, h2⟩, ⟨⟨h3, h4⟩, h5, h6⟩, h7⟩; exact ⟨⟨⟨⟨⟨⟨by omega, by omega⟩, h3⟩, h4⟩, h5⟩, h6⟩, h7⟩
  rw [e]
  simp only [Bool.and_assoc]

/-- What a right message tells of its parts. -/
theorem rightM_in {m : Ms} (hok : okM m) (hr : rightM m = true) : ∃ k a b r s v : Nat, m.k = k ∧ m.a = a ∧ m.b = b ∧ m.r = r ∧ m.s = s ∧ m.bal = v ∧ 0 < k ∧ k < 8 ∧ a ≤ 6 ∧ b ≤ 6 ∧ r < 7 ∧ s < 1024 ∧ v < 4294967296 ∧ ballotB v = true ∧
    (k = 6 → m.ok = false ∧ eqJ m.x zeroJ = true) ∧ (k ≠ 6 → rightJ m.x = true) := by
  unfold rightM at hr
  simp only [Bool.and_eq_true] at hr
  obtain ⟨⟨⟨⟨hk, ht⟩, hn⟩, hb⟩, hx⟩ := hr
  unfold kindB at hk
  unfold twoB repB at ht
  simp only [Bool.and_eq_true, decide_eq_true_eq] at hk ht
  obtain ⟨r, s, hr, hs, hr7, hs10, _⟩ := name_in hn
  refine ⟨m.k.toNat, m.a.toNat, m.b.toNat, r, s, m.bal.toNat, by omega, by omega, by omega, hr, hs, by have := hok.1; omega, by omega, by omega, by omega, by omega, hr7, hs10, by have := hok.1; omega, hb, fun h => ?_, fun h => ?_⟩
  · rw [if_pos (by omega)] at hx
    simpa using hx
  · rw [if_neg (by omega)] at hx
    unfold knownB at hx
    simp only [Bool.and_eq_true] at hx
    exact hx.1.1

/-- A right message's bytes. -/
def headM (m : Ms) : List Nat := (((((([] ++ [m.k.toNat]) ++ [m.a.toNat]) ++ [m.b.toNat]) ++ [m.r.toNat]) ++ shortN m.s.toNat) ++ shortN m.bal.toNat) ++ [truthN m.ok]
def tailM (m : Ms) : List Nat := if m.k = 6 then [] else encJ m.x
def encM (m : Ms) : List Nat := headM m ++ tailM m

theorem eqM_self (m : Ms) : eqM m m = true := by unfold eqM; simp [eqJ_self]
end Go.Proofs.YtohffiehmmcgbaaGreatDoor
