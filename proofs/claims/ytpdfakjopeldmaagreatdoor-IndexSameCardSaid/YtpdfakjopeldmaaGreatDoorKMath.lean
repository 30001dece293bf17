/-
  Commands as the document has them: what a kind has, right ones, bytes, texts; and that bytes and texts are read again. No program, but a string's bytes.
-/
import Derived.Test.YtpdfakjopeldmaaGreatDoorPPart
import Derived.Test.YtpdfakjopeldmaaGreatDoorMText
import Derived.Test.YtpdfakjopeldmaaGreatDoorMath
import Derived.Lib.ParseIntBCases
namespace Go.Proofs.YtpdfakjopeldmaaGreatDoor
open Go.Lib

/-- A command. -/
structure K where
  kind : Int
  num : Int
  foot : ByteArray
  req : Int
  path : ByteArray
  mode : Int
  n : Int
  time : Int
deriving DecidableEq

/-- Its numbers are those of Go's types. -/
def okK (c : K) : Prop := (0 ≤ c.num ∧ c.num < 18446744073709551616) ∧ (0 ≤ c.req ∧ c.req < 18446744073709551616) ∧ (0 ≤ c.n ∧ c.n < 18446744073709551616) ∧ (-9223372036854775808 ≤ c.kind ∧ c.kind ≤ 9223372036854775807) ∧ (-9223372036854775808 ≤ c.mode ∧ c.mode ≤ 9223372036854775807) ∧ -9223372036854775808 ≤ c.time ∧ c.time ≤ 9223372036854775807

/-- What a kind has: session, request, path, mode, number, time. -/
def h0 (k : Int) : Bool := decide (1 ≤ k ∧ k ≤ 8)
def h1 (k : Int) : Bool := decide (1 ≤ k ∧ k ≤ 7)
def h2 (k : Int) : Bool := decide (4 ≤ k ∧ k ≤ 7)
def h3 (k : Int) : Bool := decide (k = 4 ∨ k = 5)
def h4 (k : Int) : Bool := decide (k = 1 ∨ k = 7)
def h5 (k : Int) : Bool := decide (k = 1 ∨ k = 3 ∨ k = 8)
def isK (k : Int) : Bool := decide (0 ≤ k ∧ k < 9)

/-- What a kind has, at once. -/
def Sig (k : Int) (a b c d e f : Bool) : Prop := h0 k = a ∧ h1 k = b ∧ h2 k = c ∧ h3 k = d ∧ h4 k = e ∧ h5 k = f
theorem sig_cases (k : Int) : (Sig k false false false false false false ∧ ¬ (1 ≤ k ∧ k ≤ 8)) ∨ (k = 1 ∧ Sig k true true false false true true) ∨ (k = 2 ∧ Sig k true true false false false false) ∨ (k = 3 ∧ Sig k true true false false false true) ∨
    ((k = 4 ∨ k = 5) ∧ Sig k true true true true false false) ∨ (k = 6 ∧ Sig k true true true false false false) ∨ (k = 7 ∧ Sig k true true true false true false) ∨ (k = 8 ∧ Sig k true false false false false true) := by
  rcases Decidable.em (1 ≤ k ∧ k ≤ 8) with h | h
  · have : k = 1 ∨ k = 2 ∨ k = 3 ∨ k = 4 ∨ k = 5 ∨ k = 6 ∨ k = 7 ∨ k = 8 := by omega
    rcases this with rfl | rfl | rfl | rfl | rfl | rfl | rfl | rfl <;> simp [Sig, h0, h1, h2, h3, h4, h5]
  · left
    refine ⟨⟨?_, ?_, ?_, ?_, ?_, ?_⟩, h⟩
    · exact decide_eq_false h
    · exact decide_eq_false (by omega)
    · exact decide_eq_false (by omega)
    · exact decide_eq_false (by omega)
    · exact decide_eq_false (by omega)
    · exact decide_eq_false (by omega)

/-- A command without what its kind hasn't. -/
def own (c : K) : K := ⟨c.kind, if h0 c.kind then c.num else 0, if h0 c.kind then c.foot else ⟨#[]⟩, if h1 c.kind then c.req else 0, if h2 c.kind then c.path else ⟨#[]⟩, if h3 c.kind then c.mode else 0, if h4 c.kind then c.n else 0, if h5 c.kind then c.time else 0⟩
def mostN (k : Int) : Int := if k = 1 then 1048576 else 9223372036854775807
def in0 (c : K) : Bool := !h0 c.kind || right (L c.foot)
def in1 (c : K) : Bool := !h1 c.kind || decide (1 ≤ c.req)
def in2 (c : K) : Bool := !h2 c.kind || right (L c.path)
def in3 (c : K) : Bool := !h3 c.kind || decide (c.mode = 1 ∨ c.mode = 2)
def in4 (c : K) : Bool := !h4 c.kind || decide (1 ≤ c.n ∧ c.n ≤ mostN c.kind)
def in5 (c : K) : Bool := !h5 c.kind || decide (0 ≤ c.time ∧ c.time ≤ 1099511627776)
def areIn (c : K) : Bool := in0 c && in1 c && in2 c && in3 c && in4 c && in5 c
def rightK (c : K) : Bool := isK c.kind && decide (c = own c) && areIn c
/-- The document's, in its own order. -/
def lacks (c : K) : Bool := (!h0 c.kind && (decide (c.num ≠ 0) || decide (L c.foot ≠ []))) || (!h1 c.kind && decide (c.req ≠ 0)) || (!h2 c.kind && decide (L c.path ≠ [])) || (!h3 c.kind && decide (c.mode ≠ 0)) || (!h4 c.kind && decide (c.n ≠ 0)) || (!h5 c.kind && decide (c.time ≠ 0))
def docK (c : K) : Bool := isK c.kind && !lacks c && !((h0 c.kind && !right (L c.foot)) || (h1 c.kind && decide (c.req = 0)) || (h2 c.kind && !right (L c.path))) &&
  !((h3 c.kind && decide (c.mode < 1 ∨ 2 < c.mode)) || (h4 c.kind && decide (c.n = 0)) || (h4 c.kind && decide (c.kind = 1) && decide (1048576 < c.n)) || (h4 c.kind && decide (9223372036854775807 < c.n))) && decide (0 ≤ c.time) && decide (c.time ≤ 1099511627776)

theorem L_nil {s : ByteArray} : L s = [] ↔ s = ⟨#[]⟩ := by
  constructor
  · intro h
    exact L_inj.1 h
  · rintro rfl; rfl

theorem own_eq (c : K) : c = own c ↔ lacks c = false := by
  obtain ⟨k, u, f, q, p, m, n, t⟩ := c
  unfold own lacks
  cases h0 k <;> cases h1 k <;> cases h2 k <;> cases h3 k <;> cases h4 k <;> cases h5 k <;> simp [L_nil, and_assoc]

theorem kind_time (c : K) (h : lacks c = false) : h5 c.kind = false → c.time = 0 := by
  intro h5
  unfold lacks at h
  simp [h5] at h
  exact h.2

theorem doc_right (c : K) (ho : okK c) : docK c = rightK c := by
  obtain ⟨_, ⟨o1, _⟩, ⟨o2, _⟩, _⟩ := ho
  unfold docK rightK
  cases hk : isK c.kind
  · simp
  have ho := own_eq c
  cases hl : lacks c
  case true =>
    have : ¬ c = own c := by rw [ho, hl]; decide
    simp [this]
  have h1' : c = own c := by rw [ho]; exact hl
  have ht := kind_time c hl
  rw [decide_eq_true h1']
  unfold areIn in0 in1 in2 in3 in4 in5 mostN
  rcases sig_cases c.kind with ⟨⟨a, b, d, e, f, g⟩, hh⟩ | ⟨hh, a, b, d, e, f, g⟩ | ⟨hh, a, b, d, e, f, g⟩ | ⟨hh, a, b, d, e, f, g⟩ | ⟨hh, a, b, d, e, f, g⟩ | ⟨hh, a, b, d, e, f, g⟩ | ⟨hh, a, b, d, e, f, g⟩ | ⟨hh, a, b, d, e, f, g⟩
  all_goals
    cases right (L c.foot) <;> cases right (L c.path) <;> (rw [Bool.eq_iff_iff]; simp [a, b, d, e, f, g] at ht ⊢ <;> (try rw [ht]) <;> (try simp [hh]) <;> omega)

end Go.Proofs.YtpdfakjopeldmaaGreatDoor
