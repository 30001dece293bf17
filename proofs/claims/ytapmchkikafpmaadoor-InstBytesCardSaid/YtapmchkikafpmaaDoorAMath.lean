/-
  Attributes as functions: the number at each of eight places (0: the sequence number; q + 1: what is covered of the replica q). No program in it.
-/
import Derived.Test.YtapmchkikafpmaaDoorHeld
import Derived.Deep.MidRow
namespace Go.Proofs.YtapmchkikafpmaaDoor
open Go.ChangeShapes Go.WideShapes Go.ChangeAt Go.RowKit

def lsA (f : Nat → Int) : List Value := (List.range 8).map fun i => Value.int .i64 (f i)
def lsD (f : Nat → Int) : List Value := (List.range 7).map fun i => Value.int .i64 (f (i + 1))
def rowA (f : Nat → Int) : Array Value := (lsA f).toArray
def upd (f : Nat → Int) (k : Nat) (x : Int) : Nat → Int := fun i => if i = k then x else f i

theorem rowA_size (f : Nat → Int) : (rowA f).size = 8 := by simp [rowA, lsA]
theorem lsD_len (f : Nat → Int) : (lsD f).length = 7 := by simp [lsD]
theorem rowA_get (f : Nat → Int) {i : Nat} (h : i < 8) : (rowA f)[i]? = some (.int .i64 (f i)) := by
  simp [rowA, lsA, List.getElem?_range h]
theorem lsD_get (f : Nat → Int) {i : Nat} (h : i < 7) : (lsD f)[i]? = some (.int .i64 (f (i + 1))) := by
  simp [lsD, List.getElem?_range h]
theorem rowA_congr {f g : Nat → Int} (h : ∀ i, i < 8 → f i = g i) : rowA f = rowA g := by
  unfold rowA lsA
  congr 1
  refine List.map_congr_left fun i hi => ?_
  rw [h i (List.mem_range.1 hi)]
theorem lsD_congr {f g : Nat → Int} (h : ∀ i, i < 7 → f (i + 1) = g (i + 1)) : lsD f = lsD g := by
  unfold lsD
  refine List.map_congr_left fun i hi => ?_
  rw [h i (List.mem_range.1 hi)]
theorem rowA_inj {f g : Nat → Int} (h : rowA f = rowA g) {i : Nat} (hi : i < 8) : f i = g i := by
  have h1 := rowA_get f hi
  rw [h, rowA_get g hi] at h1
  injection h1 with h1
  injection h1 with _ h1
  exact h1.symm
theorem rowA_set (f : Nat → Int) (k : Nat) (x : Int) : (rowA f).setIfInBounds k (.int .i64 x) = rowA (upd f k x) := by
  apply Array.ext
  · simp [rowA_size]
  · intro i h1 h2
    have hi : i < 8 := by rw [rowA_size] at h2; exact h2
    have e1 := rowA_get f hi
    have e2 := rowA_get (upd f k x) hi
    rw [Array.getElem_setIfInBounds (by rw [rowA_size]; exact hi)]
    have e3 := (Array.getElem?_eq_some_iff.1 e2).2
    rw [e3]
    have e4 := (Array.getElem?_eq_some_iff.1 e1).2
    unfold upd
    by_cases e : k = i
    · subst e; simp
    · rw [if_neg e, if_neg (Ne.symm e)]; exact e4
theorem rowA_one (f : Nat → Int) : (rowA f).all (·.oneCell') = true := by
  simp [rowA, lsA, Value.oneCell']
theorem upd_same (f : Nat → Int) (k : Nat) : upd f k (f k) = f := by
  funext i; unfold upd; split
  · next h => rw [h]
  · rfl

/-- The two numbers' greater one, at each place. -/
def mx (f g : Nat → Int) : Nat → Int := fun i => if f i < g i then g i else f i
/-- The greater ones at the first k places, the first one's at the others. -/
def mxTo (f g : Nat → Int) (k : Nat) : Nat → Int := fun i => if i < k then (if f i < g i then g i else f i) else f i
theorem mxTo_next (f g : Nat → Int) (k : Nat) : rowA (upd (mxTo f g k) k (if f k < g k then g k else f k)) = rowA (mxTo f g (k + 1)) := rowA_congr fun i _ => by
  unfold upd mxTo
  by_cases h : i = k
  · subst h; simp
  · rw [if_neg h]
    by_cases h2 : i < k
    · simp only [if_pos h2, if_pos (show i < k + 1 by omega)]
    · simp only [if_neg h2, if_neg (show ¬ i < k + 1 by omega)]
theorem mxTo_at (f g : Nat → Int) (k : Nat) : mxTo f g k k = f k := by unfold mxTo; rw [if_neg (by omega)]
theorem mxTo_none (f g : Nat → Int) : mxTo f g 0 = f := by funext i; unfold mxTo; rw [if_neg (by omega)]
theorem mxTo_all (f g : Nat → Int) {k : Nat} (h : 8 ≤ k) : rowA (mxTo f g k) = rowA (mx f g) := rowA_congr fun i hi => by
  unfold mxTo mx; simp only [if_pos (show i < k by omega)]

theorem mxTo_skip {f g : Nat → Int} {k : Nat} (h : ¬ f k < g k) : rowA (mxTo f g k) = rowA (mxTo f g (k + 1)) := by
  rw [← mxTo_next, if_neg h, ← mxTo_at f g k, upd_same]
theorem mxTo_put {f g : Nat → Int} {k : Nat} (h : f k < g k) : rowA (upd (mxTo f g k) k (g k)) = rowA (mxTo f g (k + 1)) := by
  rw [← mxTo_next, if_pos h]

/-- Is none of the eight greater? -/
def inB (f g : Nat → Int) : Bool := (List.range 8).all fun i => decide (f i ≤ g i)
theorem inB_iff {f g : Nat → Int} : inB f g = true ↔ ∀ i, i < 8 → f i ≤ g i := by simp [inB, List.all_eq_true]
/-- May they be? -/
def okB (f : Nat → Int) : Bool := decide (0 ≤ f 0 ∧ f 0 ≤ 1073741824) && (List.range 7).all fun i => decide (0 ≤ f (i + 1) ∧ f (i + 1) ≤ 1024)
theorem okB_iff {f : Nat → Int} : okB f = true ↔ (0 ≤ f 0 ∧ f 0 ≤ 1073741824) ∧ ∀ i, i < 7 → 0 ≤ f (i + 1) ∧ f (i + 1) ≤ 1024 := by simp [okB, List.all_eq_true]

/-- What a block with attributes gives. -/
theorem Blk.att {w : World} {g : Nat} {T : TypeId} {f : Nat → Int} (h : Blk w g T (rowA f)) {i : Nat} (hi : i < 8) : w.cell? ⟨g, i, none⟩ = some (.int .i64 (f i)) := (h.cell i).trans (rowA_get f hi)
theorem Blk.attSet {w : World} {g : Nat} {T : TypeId} {f : Nat → Int} (h : Blk w g T (rowA f)) (i : Nat) (x : Int) : Blk (w.setCell ⟨g, i, none⟩ (.int .i64 x)) g T (rowA (upd f i x)) := by
  have := h.set_ i (.int .i64 x)
  rwa [rowA_set] at this
theorem Blk.range {w : World} {g : Nat} {T : TypeId} {f : Nat → Int} (h : Blk w g T (rowA f)) : w.rangeAt g 1 (lsD f) := by
  intro j v hv
  have hj : j < 7 := by rw [← lsD_len f]; exact (List.getElem?_eq_some_iff.1 hv).1
  rw [lsD_get f hj] at hv
  rw [h.att (by omega), ← hv, Nat.add_comm 1 j]
theorem Blk.as {w : World} {g : Nat} {T : TypeId} {cs ds : Array Value} (h : Blk w g T cs) (e : cs = ds) : Blk w g T ds := e ▸ h

end Go.Proofs.YtapmchkikafpmaaDoor
