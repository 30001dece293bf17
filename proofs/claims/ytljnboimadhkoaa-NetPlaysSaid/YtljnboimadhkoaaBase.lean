/-
  What any walk of this program wants: the row of the byte's type; what a call that makes bytes hands back.
-/
import Derived.Test.YtljnboimadhkoaaRows
import Derived.Test.YtljnboimadhkoaaMath
import Derived.Test.YtljnboimadhkoaaFrame
import Derived.WalkKit
import Derived.WalkSpells
import Derived.WalkLawsBesides
namespace Go.Proofs.Ytljnboimadhkoaa
open Go.RowKit

/-- The row of the byte's type. -/
theorem info_u8 : (Try.prog.info? 5).map (fun i => (i.zero, i.size, i.bytes)) = some (some (.int .u8 0), 1, 1) := by kernel_rfl

theorem one_at {w : World} {x : Value} (E : TypeId) : ∀ j u, [x][j]? = some u → (w.alloc (.cells #[x] E)).cell? ((⟨w.heap.size, 0, none⟩ : Addr).add j) = some u := by
  intro j u hj
  match j, hj with
  | 0, hj => simp at hj; subst hj; simp [Addr.add]
theorem one_cell {k : IntKind} {x : Int} : ∀ u ∈ [Value.int k x], u.oneCell' = true := by
  intro u hu; simp at hu; subst hu; rfl

/-- What a call that makes bytes hands back: a slice of its own over them. -/
def Makes (l : List Nat) (w : World) (e : Ending) (w' : World) : Prop :=
  ∃ s, e = .returned s ∧ w'.ownsRow w.heap.size 5 1 s l.length (l.map bv) ∧ Below w.heap.size w w'

theorem below_append {base : Nat} {w wr w1 : World} {s : Value} {n : Nat} {xs : List Value} {E : TypeId} {o : Obj} (hb : Below base w wr) (hsz : base ≤ wr.heap.size)
    (hown : wr.ownsRow base E 1 s n xs) (hg : (wr.alloc o).grownBy w1 s.ownBlock) : Below base w w1 :=
  (hb.alloc hsz o).grown hg (by simp; omega) (fun k hk => (hown.lt k hk).1)

/-- What a call that makes bytes hands back, as a caller reads it. -/
def Hands (l : List Nat) (w : World) (e : Ending) (w' : World) : Prop :=
  ∃ A cap, e = .returned (.slice A l.length cap) ∧ (A = none → cap = 0) ∧ l.length ≤ cap ∧ Sees .u8 w' A l ∧ Below w.heap.size w w'

theorem Makes.hands {l : List Nat} {w : World} {e : Ending} {w' : World} (h : Makes l w e w') : Hands l w e w' := by
  obtain ⟨s, rfl, hown, hb⟩ := h
  rcases hown.2 with ⟨rfl, h0⟩ | ⟨g, cap, cur, rfl, _, _, hc, _⟩
  · have : l = [] := List.eq_nil_of_length_eq_zero h0
    subst this
    exact ⟨none, 0, rfl, fun _ => rfl, Nat.le_refl _, Sees.nil _ _ _, hb⟩
  · exact ⟨_, cap, rfl, fun h => (by cases h), hc, Sees.of_own hown, hb⟩

end Go.Proofs.Ytljnboimadhkoaa
