/-
  A list of the law's steps among the arguments.
-/
import Derived.Test.YtgjbhlianlbflaaGreatBLkMath
import Derived.Test.YtgjbhlianlbflaaGreatBLsMini
import Derived.Test.YtgjbhlianlbflaaGreatBVals
import Derived.Deep.Slices
import Derived.ChangeSlices
import Derived.SizedLaws
namespace Go.Proofs.YtgjbhlianlbflaaGreat
open Go.ChangeShapes Go.WideShapes Go.ChangeAt Go.RowKit Go.Deep
set_option linter.unusedVariables false
set_option linter.unusedSimpArgs false
structure OpK where
  kd : Int
  mo : Int
  path : ByteArray
  u : Int
  foot : ByteArray
abbrev opK (o : OpK) : Array Value := #[.int .i64 o.kd, .int .i64 o.mo, .string o.path, .int .u64 o.u, .string o.foot]
def opL (o : OpK) : List Value := [.int .i64 o.kd, .int .i64 o.mo, .string o.path, .int .u64 o.u, .string o.foot]
def MadeK (o : OpK) : Prop := IsUk o.u ∧ OkK o.foot
def SeesOp (w : World) (A : Option Addr) (l : List OpK) : Prop := ∀ (j : Nat) (y : OpK), l[j]? = some y → ∃ b o, A = some ⟨b, o, none⟩ ∧ b < w.heap.size ∧ ∀ i v, (opL y)[i]? = some v → w.cell? ⟨b, o + j * 5 + i, none⟩ = some v
theorem SeesOp.below {w w' : World} {A : Option Addr} {l : List OpK} (h : SeesOp w A l) (hb : Below w.heap.size w w') : SeesOp w' A l := fun j x hj => by
  obtain ⟨b, o, h1, h2, h3⟩ := h j x hj
  exact ⟨b, o, h1, Nat.lt_of_lt_of_le h2 hb.size, fun i v hv => (hb.cell (p := ⟨b, o + j * 5 + i, none⟩) h2).trans (h3 i v hv)⟩
theorem lkisu {a : Int} (h : (Lit.int .u64 a).wf = true) : IsUk a := by
  simp [Lit.wf, IntKind.min, IntKind.max, IntKind.bits, IntKind.signed] at h
  unfold IsUk
  omega
theorem list5 {α : Type} {l : List α} (h : l.length = 5) : ∃ a b c d e, l = [a, b, c, d, e] := by
  match l, h with
  | [a, b, c, d, e], _ => exact ⟨a, b, c, d, e, rfl⟩
theorem pick_allK {α : Type} (d : α) {m : Nat} {p : Nat → α → Prop} (h : ∀ i, i < m → ∃ x, p i x) : ∃ F : Nat → α, ∀ i, i < m → p i (F i) := by
  classical
  exact ⟨fun i => if hi : i < m then Classical.choose (h i hi) else d, fun i hi => by simp only [dif_pos hi]; exact Classical.choose_spec (h i hi)⟩
end Go.Proofs.YtgjbhlianlbflaaGreat
