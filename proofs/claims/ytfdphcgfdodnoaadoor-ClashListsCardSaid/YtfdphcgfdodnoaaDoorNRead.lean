/-
  The contracts of num.ReadShort and of the document's own reader.
-/
import Derived.Test.YtfdphcgfdodnoaaDoorMath
import Derived.Test.YtfdphcgfdodnoaaDoorBase
import Derived.WalkKit
import Derived.WalkSpells
import Derived.WalkLawsBesides
namespace Go.Proofs.YtfdphcgfdodnoaaDoor
open Go.RowKit

/-- What a reader answers: the number, how many bytes, the error; the world is as it was. -/
def Tells (t : Nat × Nat × Nat) (w : World) (e : Ending) (w' : World) : Prop :=
  e = .returned (.tuple #[.int .u64 (t.1 : Int), .int .i64 (t.2.1 : Int), .int .i64 (t.2.2 : Int)]) ∧ w = w'

theorem tells3 {t : Nat × Nat × Nat} {w : World} {a b c : Int} {x y z : Nat} (h : t = (x, y, z)) (ha : a = x) (hb : b = y) (hc : c = z) :
    Tells t w (.returned (.tuple #[.int .u64 a, .int .i64 b, .int .i64 c])) w := by
  subst h; subst ha; subst hb; subst hc; exact ⟨rfl, rfl⟩

def ReadRel (l : List Nat) (v i : Value) : Prop :=
  ∃ k n : Nat, k ≤ l.length ∧ k ≤ 9 ∧ n < 128 ^ k ∧ i = .int .i64 k ∧ v = .int .u64 n ∧ readAt k n (l.drop k) = readN l

def RefRel (l : List Nat) (v p i : Value) : Prop :=
  ∃ k n : Nat, k ≤ l.length ∧ k ≤ 9 ∧ n < 128 ^ k ∧ i = .int .i64 k ∧ v = .int .u64 n ∧ p = .int .u64 ((128 ^ k : Nat) : Int) ∧ readAt k n (l.drop k) = readN l

end Go.Proofs.YtfdphcgfdodnoaaDoor
