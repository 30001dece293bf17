/-
  Slices of bytes below a block, by cells; what cuts of them are; frames of a call that turns one block. No program in it.
-/
import Derived.Test.YtgjbhlianlbflaaGreatBFrame
import Derived.WalkKit
import Derived.WalkSpells
import Derived.WalkLawsBesides
import Derived.Maps.AppendAt
import Derived.Maps.RangeWalk
import Derived.Deep.AppendLies
import Derived.Deep.Draws
namespace Go.Proofs.YtgjbhlianlbflaaGreat
open Go.ChangeShapes Go.WideShapes Go.ChangeAt Go.RowKit
def Held (B : Nat) (w : World) (A : Option Addr) (l : List Nat) : Prop :=
  ∀ (j x : Nat), l[j]? = some x → ∃ b o, A = some ⟨b, o, none⟩ ∧ b < B ∧ w.cell? ⟨b, o + j, none⟩ = some (.int .u8 (x : Int))
theorem Sees.held {w : World} {A : Option Addr} {l : List Nat} (h : Sees .u8 w A l) : Held w.heap.size w A l := h
theorem Held.below {B : Nat} {w w' : World} {A : Option Addr} {l : List Nat} (h : Held B w A l) (hb : Below B w w') : Held B w' A l := fun j x hj => by
  obtain ⟨b, o, hA, hlt, hc⟩ := h j x hj
  exact ⟨b, o, hA, hlt, (hb.cell (by exact hlt)).trans hc⟩
theorem Held.more {B B' : Nat} {w : World} {A : Option Addr} {l : List Nat} (h : Held B w A l) (hB : B ≤ B') : Held B' w A l := fun j x hj => by
  obtain ⟨b, o, hA, hlt, hc⟩ := h j x hj
  exact ⟨b, o, hA, by omega, hc⟩
theorem Held.nil (B : Nat) (w : World) (A : Option Addr) : Held B w A [] := fun j x h => by simp at h
theorem Held.take {B : Nat} {w : World} {A : Option Addr} {l : List Nat} (h : Held B w A l) (i : Nat) : Held B w A (l.take i) := fun j x hj => by
  refine h j x ?_
  rw [List.getElem?_take] at hj
  split at hj
  · exact hj
  · cases hj
theorem Held.rest {B : Nat} {w : World} {b o i : Nat} {l : List Nat} (h : Held B w (some ⟨b, o, none⟩) l) : Held B w (some ⟨b, o + i, none⟩) (l.drop i) := fun j x hj => by
  rw [List.getElem?_drop] at hj
  obtain ⟨b', o', hA', hlt, hc⟩ := h _ x hj
  injection hA' with h1
  injection h1 with h2 h3
  subst h2; subst h3
  exact ⟨b, o + i, rfl, hlt, by rw [Nat.add_assoc]; exact hc⟩
def Blk (w : World) (g : Nat) (t : TypeId) (cs : Array Value) : Prop := w.heap[g]? = some (.cells cs t (0, 0))
section
variable {w w' : World} {g : Nat} {t : TypeId} {cs : Array Value}
theorem Blk.lt (h : Blk w g t cs) : g < w.heap.size := by
  rcases Nat.lt_or_ge g w.heap.size with hlt | hge
  · exact hlt
  · unfold Blk at h; rw [Array.getElem?_eq_none hge] at h; cases h
theorem Blk.heap (h : Blk w g t cs) : w.heap[g]? = some (.cells cs t (0, 0)) := h
theorem Blk.cell (h : Blk w g t cs) (i : Nat) : w.cell? ⟨g, i, none⟩ = cs[i]? := cell_of_row w g i cs t (0, 0) h
theorem Blk.frozen (h : Blk w g t cs) (i : Nat) : w.frozen? ⟨g, i, none⟩ = false := by
  unfold Blk at h
  simp [World.frozen?, h]
theorem Blk.new (w : World) (t : TypeId) (cs : Array Value) : Blk (w.alloc (.cells cs t)) w.heap.size t cs := heap_alloc_new w _
theorem Blk.drew (h : Blk w g t cs) : Blk w.drew g t cs := h
theorem Blk.drewN (h : Blk w g t cs) (n : Nat) : Blk (w.drewN n) g t cs := h
theorem Blk.alloc (h : Blk w g t cs) (o : Obj) : Blk (w.alloc o) g t cs := (Below.heap_alloc w o g h.lt).trans h
theorem Blk.set_ (h : Blk w g t cs) (i : Nat) (u : Value) : Blk (w.setCell ⟨g, i, none⟩ u) g t (cs.setIfInBounds i u) := by
  unfold Blk at h ⊢
  simp [World.setCell, Array.getElem?_modify, h]
theorem Blk.far (h : Blk w g t cs) {p : Addr} (hp : g ≠ p.block) (u : Value) : Blk (w.setCell p u) g t cs := (Below.heap_setCell w p u g hp).trans h
theorem Blk.below {B : Nat} (h : Blk w g t cs) (hb : Below B w w') (hg : g < B) : Blk w' g t cs := (hb.block g hg).trans h
theorem Blk.grown {row : Option Nat} (h : Blk w g t cs) (hb : w.grownBy w' row) (hg : some g ≠ row) : Blk w' g t cs := (hb.block g h.lt hg).trans h
end
theorem only_setCell {a w : World} {g : Nat} (h : a.grownBy w (some g)) {p : Addr} (hp : p.block = g ∨ a.heap.size ≤ p.block) (u : Value) : a.grownBy (w.setCell p u) (some g) :=
  ⟨h.os, h.tape, h.output, by simpa [World.setCell] using h.size, fun i hi hne => (Below.heap_setCell w p u i (by
    rintro rfl
    rcases hp with hp | hp
    · exact hne (by rw [hp])
    · omega)).trans (h.block i hi hne)⟩
theorem only_of_below {a w : World} (h : Below a.heap.size a w) (row : Option Nat) : a.grownBy w row := ⟨h.os, h.tape, h.output, h.size, fun i hi _ => h.block i hi⟩
end Go.Proofs.YtgjbhlianlbflaaGreat
