/-
  Slices of bytes below a block, by cells; what cuts of them are; frames of a call that turns one block. No program in it.
-/
import Derived.Test.YtljnboimadhkoaaFrame
import Derived.WalkKit
import Derived.WalkSpells
import Derived.WalkLawsBesides
import Derived.Maps.AppendAt
import Derived.Maps.RangeWalk
import Derived.Deep.AppendLies
import Derived.Deep.Draws
namespace Go.Proofs.Ytljnboimadhkoaa
open Go.ChangeShapes Go.WideShapes Go.ChangeAt Go.RowKit

/-- A slice of bytes that reads as a list, all of it below block B. -/
def Held (B : Nat) (w : World) (A : Option Addr) (l : List Nat) : Prop :=
  ∀ (j x : Nat), l[j]? = some x → ∃ b o, A = some ⟨b, o, none⟩ ∧ b < B ∧ w.cell? ⟨b, o + j, none⟩ = some (.int .u8 (x : Int))

theorem Sees.held {w : World} {A : Option Addr} {l : List Nat} (h : Sees .u8 w A l) : Held w.heap.size w A l := h
theorem Held.sees {B : Nat} {w : World} {A : Option Addr} {l : List Nat} (h : Held B w A l) (hB : B ≤ w.heap.size) : Sees .u8 w A l := fun j x hj => by
  obtain ⟨b, o, hA, hb, hc⟩ := h j x hj
  exact ⟨b, o, hA, by omega, hc⟩
theorem Held.below {B : Nat} {w w' : World} {A : Option Addr} {l : List Nat} (h : Held B w A l) (hb : Below B w w') : Held B w' A l := fun j x hj => by
  obtain ⟨b, o, hA, hlt, hc⟩ := h j x hj
  exact ⟨b, o, hA, hlt, (hb.cell (by exact hlt)).trans hc⟩
theorem Held.more {B B' : Nat} {w : World} {A : Option Addr} {l : List Nat} (h : Held B w A l) (hB : B ≤ B') : Held B' w A l := fun j x hj => by
  obtain ⟨b, o, hA, hlt, hc⟩ := h j x hj
  exact ⟨b, o, hA, by omega, hc⟩
theorem Held.nil (B : Nat) (w : World) (A : Option Addr) : Held B w A [] := fun j x h => by simp at h
theorem Held.take {B : Nat} {w : World} {A : Option Addr} {l : List Nat} (h : Held B w A l) (i : Nat) : Held B w A (l.take i) := fun j x hj => by
  refine h j x ?_
  rw [List.getElem?_take] at hj
  split at hj
  · exact hj
  · cases hj
theorem Held.rest {B : Nat} {w : World} {b o i : Nat} {l : List Nat} (h : Held B w (some ⟨b, o, none⟩) l) : Held B w (some ⟨b, o + i, none⟩) (l.drop i) := fun j x hj => by
  rw [List.getElem?_drop] at hj
  obtain ⟨b', o', hA', hlt, hc⟩ := h _ x hj
  injection hA' with h1
  injection h1 with h2 h3
  subst h2; subst h3
  exact ⟨b, o + i, rfl, hlt, by rw [Nat.add_assoc]; exact hc⟩

/-- The first k, with no room behind them. -/
theorem cut_front {P : Program} (t e : TypeId) (i : TypeInfo) (ht : P.underlying t = some (.slice e)) (hi : P.info? e = some i) {B : Nat} {w0 : World} {A : Option Addr} {l : List Nat} {n c k : Nat} (hk : k ≤ n) (hc : n ≤ c) (h : Held B w0 A l) (hA : A = none → c = 0) :
    ∃ A1, (∀ w, (Instr.slice t (.slice A n c) none (some (.int .i64 (k : Int))) (some (.int .i64 (k : Int)))).run P w = .ok (.slice A1 k k) w) ∧ (A1 = none → k = 0) ∧ Held B w0 A1 (l.take k) := by
  have he : P.elem t = e := by simp [Program.elem, ht]
  have hsz : ∀ w, (sizeOf (P.elem t)).run P w = .ok i.size w := fun w => by rw [he]; simp [sizeOf, typeInfo, hi]
  refine ⟨if k = 0 then A else A.map (·.add (0 * i.size)), fun w => ?_, fun hn' => ?_, ?_⟩
  · rw [run_slice_hm (P := P) w t A n c (by rw [ht, he]) .i64 .i64 (k : Int) (k : Int) (by omega) (by omega) (by omega), hsz]
    simp [Result.andThen, sliced]
  · by_cases h0 : k = 0
    · exact h0
    · rw [if_neg h0] at hn'
      cases A with
      | none => have := hA rfl; omega
      | some a => cases hn'
  · by_cases h0 : k = 0
    · rw [h0, List.take_zero]
      exact Held.nil _ _ _
    · rw [if_neg h0, Nat.zero_mul]
      have e : A.map (·.add 0) = A := by cases A <;> simp [Addr.add]
      rw [e]
      exact h.take k

/-- The first k, with whatever room. -/
theorem cut_rest {P : Program} (t e : TypeId) (i : TypeInfo) (ht : P.underlying t = some (.slice e)) (hi : P.info? e = some i) (hs : i.size = 1) {B : Nat} {w0 : World} {A : Option Addr} {l : List Nat} {n c k : Nat} (hn : l.length = n) (hk : k ≤ n) (hc : n ≤ c) (h : Held B w0 A l) (hA : A = none → c = 0) :
    ∃ A1, (∀ w, (Instr.slice t (.slice A n c) (some (.int .i64 (k : Int))) none none).run P w = .ok (.slice A1 (n - k) (c - k)) w) ∧ (A1 = none → c - k = 0) ∧ Held B w0 A1 (l.drop k) := by
  have he : P.elem t = e := by simp [Program.elem, ht]
  have hsz : ∀ w, (sizeOf (P.elem t)).run P w = .ok i.size w := fun w => by rw [he]; simp [sizeOf, typeInfo, hi]
  refine ⟨if c = k then A else A.map (·.add (k * i.size)), fun w => ?_, fun hn' => ?_, ?_⟩
  · rw [run_slice_l (P := P) w t A n c (by rw [ht, he]) .i64 (k : Int) (by omega) (by omega), hsz]
    simp [Result.andThen, sliced]
  · by_cases h0 : c = k
    · omega
    · rw [if_neg h0] at hn'
      cases A with
      | none => have := hA rfl; omega
      | some a => cases hn'
  · by_cases h0 : k < n
    · rw [if_neg (by omega), hs, Nat.mul_one]
      obtain ⟨b, o, rfl, _, _⟩ := h 0 l[0] (List.getElem?_eq_getElem (by omega))
      rw [show (some (⟨b, o, none⟩ : Addr)).map (·.add k) = some ⟨b, o + k, none⟩ by simp [add_plain]]
      exact h.rest
    · rw [List.drop_of_length_le (by omega)]
      exact Held.nil _ _ _

/-- From lo to hi, with whatever room. -/
theorem cut_mid {P : Program} (t e : TypeId) (i : TypeInfo) (ht : P.underlying t = some (.slice e)) (hi : P.info? e = some i) (hs : i.size = 1) {B : Nat} {w0 : World} {A : Option Addr} {l : List Nat} {n c k m : Nat} (hn : l.length = n) (hk : k ≤ m) (hm : m ≤ n) (hc : n ≤ c) (h : Held B w0 A l) (hA : A = none → c = 0) :
    ∃ A1, (∀ w, (Instr.slice t (.slice A n c) (some (.int .i64 (k : Int))) (some (.int .i64 (m : Int))) none).run P w = .ok (.slice A1 (m - k) (c - k)) w) ∧ (A1 = none → c - k = 0) ∧ Held B w0 A1 ((l.drop k).take (m - k)) := by
  have he : P.elem t = e := by simp [Program.elem, ht]
  have hsz : ∀ w, (sizeOf (P.elem t)).run P w = .ok i.size w := fun w => by rw [he]; simp [sizeOf, typeInfo, hi]
  refine ⟨if c = k then A else A.map (·.add (k * i.size)), fun w => ?_, fun hn' => ?_, ?_⟩
  · rw [run_slice_lh (P := P) w t A n c (by rw [ht, he]) .i64 .i64 (k : Int) (m : Int) (by omega) (by omega) (by omega), hsz]
    simp [Result.andThen, sliced]
  · by_cases h0 : c = k
    · omega
    · rw [if_neg h0] at hn'
      cases A with
      | none => have := hA rfl; omega
      | some a => cases hn'
  · by_cases h0 : k < n
    · rw [if_neg (by omega), hs, Nat.mul_one]
      obtain ⟨b, o, rfl, _, _⟩ := h 0 l[0] (List.getElem?_eq_getElem (by omega))
      rw [show (some (⟨b, o, none⟩ : Addr)).map (·.add k) = some ⟨b, o + k, none⟩ by simp [add_plain]]
      exact h.rest.take _
    · rw [List.drop_of_length_le (by omega), List.take_nil]
      exact Held.nil _ _ _

/-- A block that is known whole. -/
def Blk (w : World) (g : Nat) (t : TypeId) (cs : Array Value) : Prop := w.heap[g]? = some (.cells cs t (0, 0))

section
variable {w w' : World} {g : Nat} {t : TypeId} {cs : Array Value}
theorem Blk.lt (h : Blk w g t cs) : g < w.heap.size := by
  rcases Nat.lt_or_ge g w.heap.size with hlt | hge
  · exact hlt
  · unfold Blk at h; rw [Array.getElem?_eq_none hge] at h; cases h
theorem Blk.heap (h : Blk w g t cs) : w.heap[g]? = some (.cells cs t (0, 0)) := h
theorem Blk.cell (h : Blk w g t cs) (i : Nat) : w.cell? ⟨g, i, none⟩ = cs[i]? := cell_of_row w g i cs t (0, 0) h
theorem Blk.frozen (h : Blk w g t cs) (i : Nat) : w.frozen? ⟨g, i, none⟩ = false := by
  unfold Blk at h
  simp [World.frozen?, h]
theorem Blk.new (w : World) (t : TypeId) (cs : Array Value) : Blk (w.alloc (.cells cs t)) w.heap.size t cs := heap_alloc_new w _
theorem Blk.drew (h : Blk w g t cs) : Blk w.drew g t cs := h
theorem Blk.drewN (h : Blk w g t cs) (n : Nat) : Blk (w.drewN n) g t cs := h
theorem Blk.alloc (h : Blk w g t cs) (o : Obj) : Blk (w.alloc o) g t cs := (Below.heap_alloc w o g h.lt).trans h
theorem Blk.set_ (h : Blk w g t cs) (i : Nat) (u : Value) : Blk (w.setCell ⟨g, i, none⟩ u) g t (cs.setIfInBounds i u) := by
  unfold Blk at h ⊢
  simp [World.setCell, Array.getElem?_modify, h]
theorem Blk.far (h : Blk w g t cs) {p : Addr} (hp : g ≠ p.block) (u : Value) : Blk (w.setCell p u) g t cs := (Below.heap_setCell w p u g hp).trans h
theorem Blk.below {B : Nat} (h : Blk w g t cs) (hb : Below B w w') (hg : g < B) : Blk w' g t cs := (hb.block g hg).trans h
theorem Blk.grown {row : Option Nat} (h : Blk w g t cs) (hb : w.grownBy w' row) (hg : some g ≠ row) : Blk w' g t cs := (hb.block g h.lt hg).trans h
end

theorem only_drewN {a w : World} {row : Option Nat} (h : a.grownBy w row) (n : Nat) : a.grownBy (w.drewN n) row := ⟨h.os, h.tape, h.output, h.size, h.block⟩
theorem only_drew {a w : World} {row : Option Nat} (h : a.grownBy w row) : a.grownBy w.drew row := ⟨h.os, h.tape, h.output, h.size, h.block⟩
theorem only_alloc {a w : World} {row : Option Nat} (h : a.grownBy w row) (o : Obj) : a.grownBy (w.alloc o) row :=
  ⟨h.os, h.tape, h.output, Nat.le_trans h.size (by simp), fun i hi hne => (Below.heap_alloc w o i (Nat.lt_of_lt_of_le hi h.size)).trans (h.block i hi hne)⟩
theorem only_setCell {a w : World} {g : Nat} (h : a.grownBy w (some g)) {p : Addr} (hp : p.block = g ∨ a.heap.size ≤ p.block) (u : Value) : a.grownBy (w.setCell p u) (some g) :=
  ⟨h.os, h.tape, h.output, by simpa [World.setCell] using h.size, fun i hi hne => (Below.heap_setCell w p u i (by
    rintro rfl
    rcases hp with hp | hp
    · exact hne (by rw [hp])
    · omega)).trans (h.block i hi hne)⟩
theorem only_of_below {a w : World} (h : Below a.heap.size a w) (row : Option Nat) : a.grownBy w row := ⟨h.os, h.tape, h.output, h.size, fun i hi _ => h.block i hi⟩
theorem below_only {B g : Nat} {a w : World} (h : a.grownBy w (some g)) (hB : B ≤ g) (hg : B ≤ a.heap.size) : Below B a w :=
  ⟨h.os, h.tape, h.output, h.size, fun i hi => h.block i (by omega) (by simp; omega)⟩
theorem only_below {a b c : World} {g : Nat} (h : a.grownBy b (some g)) (k : Below b.heap.size b c) : a.grownBy c (some g) := h.trans (only_of_below k _)

end Go.Proofs.Ytljnboimadhkoaa
