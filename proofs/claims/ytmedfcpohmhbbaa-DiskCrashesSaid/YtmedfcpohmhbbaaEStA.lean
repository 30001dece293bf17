/-
  What stands while the law takes a step of both disks.
-/
import Derived.Test.YtmedfcpohmhbbaaERefE
namespace Go.Proofs.Ytmedfcpohmhbbaa
open Go.ChangeShapes Go.WideShapes Go.ChangeAt Go.RowKit
set_option linter.unusedVariables false
set_option linter.unusedSimpArgs false

/-- The blocks that the document's disk keeps away from. -/
def Away (g p : Nat) (v : Nat → Value) (j : Nat) : Prop := OwnD g v j ∨ j = p ∨ j = p + 1 + 1
structure At3 (w W : World) (base g p : Nat) (d : Dk) (v0 v : Nat → Value) (dx : Dk) (x : Nat → Value) (cs oc : Array Value) (C : Option Addr) (b : List Nat) : Prop where
  disk : DiskAt W base g d v
  ref : RefAt (Away g p v) W dx x
  box : Blk W p 34 cs
  op : Blk W (p + 1) 30 oc
  res : Blk W (p + 1 + 1) 34 zrC
  arg : Apart (Away g p v) W C b
  turns : Turns (OwnD g v0) w W
  own : ∀ b, OwnD g v b → OwnD g v0 b ∨ w.heap.size ≤ b
  far : ∀ j, j < 3 → ¬ OwnD g v (p + j)

theorem At3.begin {w W : World} {base g : Nat} {d : Dk} {v : Nat → Value} {dx : Dk} {x : Nat → Value} {oc : Array Value} {C : Option Addr} {b : List Nat} (h : DiskAt w base g d v) (hx : RefAt (OwnD g v) w dx x) (hb : Apart (OwnD g v) w C b)
    (hW : ((w.alloc (.cells (rC dx x) 34)).alloc (.cells oc 30)).alloc (.cells #[.int .i64 0, .slice none 0 0, .slice none 0 0, .int .i64 0, .int .i64 0, .int .i64 0, .bool false] 34) = W) :
    At3 w W base g w.heap.size d v v dx x (rC dx x) oc C b := by
  obtain ⟨K0, K1, K2, KB⟩ := boxes3 hW
  have ap : ∀ {A : Option Addr} {l : List Nat}, Apart (OwnD g v) w A l → Apart (Away g w.heap.size v) W A l := fun h j y hj => by
    obtain ⟨bb, o, r1, r2, r3, r4⟩ := h j y hj
    refine ⟨bb, o, r1, Nat.lt_of_lt_of_le r2 KB.out.size, fun e => ?_, (KB.out.cell (by exact r2)).trans r4⟩
    rcases e with e | e | e
    · exact r3 e
    · omega
    · omega
  refine ⟨h.on KB.out, fun i hi => ?_, K0.out, K1.out, K2.out, ap hb, .of_below KB.out, fun b hb => .inl hb, fun j _ hj => by have := (h.own hj).2; omega⟩
  obtain ⟨A, c, q1, q2, q3, q4⟩ := hx i hi
  exact ⟨A, c, q1, q2, q3, ap q4⟩

section
variable {w W W1 : World} {base g p : Nat} {d d' : Dk} {v0 v : Nat → Value} {dx dx' : Dk} {x : Nat → Value} {cs oc : Array Value} {C : Option Addr} {b : List Nat}
theorem At3.lt (h : At3 w W base g p d v0 v dx x cs oc C b) : ∀ j, Away g p v j → j < W.heap.size := fun j hj => by
  rcases hj with hj | hj | hj
  · exact (h.disk.own hj).2
  · have := h.box.lt; omega
  · have := h.res.lt; omega
/-- Something is done to the disk. -/
theorem At3.did (h : At3 w W base g p d v0 v dx x cs oc C b) {r : Value} {e : Ending} (k : DoesD base g v d' r W e W1) : ∃ v1, e = .returned r ∧ At3 w W1 base g p d' v0 v1 dx x cs oc C b := by
  obtain ⟨v1, he, D, T, O⟩ := k
  have hA : Turns (Away g p v) W W1 := T.more (fun i _ hi => .inl hi)
  have hT : ∀ i, i < W.heap.size → Away g p v1 i → Away g p v i := fun i hi h => by
    rcases h with h | h | h
    · exact .inl ((O i h).resolve_right (by omega))
    · exact .inr (.inl h)
    · exact .inr (.inr h)
  have hp := h.res.lt
  refine ⟨v1, he, D, h.ref.turns hA hT, h.box.turns T (h.far 0 (by decide)), h.op.turns T (h.far 1 (by decide)), h.res.turns T (h.far 2 (by decide)), h.arg.turns hA hT, h.turns.trans T (fun i hi k => (h.own i k).resolve_right (by omega)),
    fun b hb => (O b hb).elim (h.own b) (fun k => .inr (Nat.le_trans h.turns.size k)), fun j hj k => ?_⟩
  rcases O _ k with k | k
  · exact h.far j hj k
  · omega
/-- Something is done that turns nothing. -/
theorem At3.on (h : At3 w W base g p d v0 v dx x cs oc C b) (k : Below W.heap.size W W1) : At3 w W1 base g p d v0 v dx x cs oc C b :=
  ⟨h.disk.on k, h.ref.on k, h.box.below k h.box.lt, h.op.below k h.op.lt, h.res.below k h.res.lt, h.arg.below k, h.turns.then k, h.own, h.far⟩
theorem At3.told (h : At3 w W base g p d v0 v dx x cs oc C b) (k : Below W.heap.size W W1) {x2 : Nat → Value} (hr : RefAt (Away g p v) W1 dx' x2) : At3 w W1 base g p d v0 v dx' x2 cs oc C b :=
  { h.on k with ref := hr }
/-- The document's disk is put into its box. -/
theorem At3.put (h : At3 w W base g p d v0 v dx x cs oc C b) (hw : w.heap.size = p) (ds : Array Value) : At3 w (W.setRow p ds) base g p d v0 v dx x ds oc C b := by
  have t0 : Turns (fun j => j = p) W (W.setRow p ds) := setRow_turns (S := fun j => j = p) (g := p) (Turns.refl _ _) (.inl rfl) _
  have t1 : Turns (Away g p v) W (W.setRow p ds) := t0.more (fun i _ hi => .inr (.inl hi))
  refine ⟨h.disk.stay t0 (fun b hb e => h.far 0 (by decide) (e ▸ hb)), h.ref.turns t1 (fun _ _ h => h), h.box.rowE, h.op.rowF (by omega), h.res.rowF (by omega), h.arg.turns t1 (fun _ _ h => h), ?_, h.own, h.far⟩
  exact setRow_turns h.turns (.inr (by omega)) _
/-- .. one number of it. -/
theorem At3.set (h : At3 w W base g p d v0 v dx x cs oc C b) (hw : w.heap.size = p) (i : Nat) (u : Value) (hl : dx'.l = dx.l) : At3 w (W.setCell ⟨p, i, none⟩ u) base g p d v0 v dx' x (cs.setIfInBounds i u) oc C b := by
  have t0 : Turns (fun j => j = p) W (W.setCell ⟨p, i, none⟩ u) := Turns.set (S := fun j => j = p) (p := ⟨p, i, none⟩) (Turns.refl _ _) (.inl rfl) _
  have t1 : Turns (Away g p v) W (W.setCell ⟨p, i, none⟩ u) := t0.more (fun i _ hi => .inr (.inl hi))
  refine ⟨h.disk.stay t0 (fun b hb e => h.far 0 (by decide) (e ▸ hb)), (h.ref.turns t1 (fun _ _ h => h)).of hl, h.box.set_ i u, h.op.far (p := ⟨p, i, none⟩) (by show p + 1 ≠ p; omega) _, h.res.far (p := ⟨p, i, none⟩) (by show p + 1 + 1 ≠ p; omega) _, h.arg.turns t1 (fun _ _ h => h), ?_, h.own, h.far⟩
  exact h.turns.set (.inr (by show w.heap.size ≤ p; omega)) _
end

/-- What a step leaves. -/
def Stp (base g : Nat) (v : Nat → Value) (d' dx' : Dk) (y : Bool) (w : World) (en : Ending) (w' : World) : Prop :=
  ∃ v' x', en = .returned (.tuple #[rV dx' x', .bool y]) ∧ DiskAt w' base g d' v' ∧ RefAt (OwnD g v') w' dx' x' ∧ Turns (OwnD g v) w w' ∧ ∀ b, OwnD g v' b → OwnD g v b ∨ w.heap.size ≤ b
theorem At3.fin {w W : World} {base g p : Nat} {d : Dk} {v0 v : Nat → Value} {dx : Dk} {x : Nat → Value} {cs oc : Array Value} {C : Option Addr} {b : List Nat} (h : At3 w W base g p d v0 v dx x cs oc C b) (hw : w.heap.size = p) (ds : Array Value) (y : Bool) :
    Stp base g v0 d dx y w (.returned (.tuple #[rV dx x, .bool y])) (W.setRow (p + 1 + 1) ds) := by
  have t0 : Turns (fun j => j = p + 1 + 1) W (W.setRow (p + 1 + 1) ds) := setRow_turns (S := fun j => j = p + 1 + 1) (g := p + 1 + 1) (Turns.refl _ _) (.inl rfl) _
  have t1 : Turns (Away g p v) W (W.setRow (p + 1 + 1) ds) := t0.more (fun i _ hi => .inr (.inr hi))
  exact ⟨v, x, rfl, h.disk.stay t0 (fun b hb e => h.far 2 (by decide) (by have : p + 1 + 1 = p + 2 := rfl; rw [← this, ← e]; exact hb)), h.ref.turns t1 (fun _ _ h => .inl h), setRow_turns h.turns (.inr (by omega)) _, h.own⟩

end Go.Proofs.Ytmedfcpohmhbbaa
