/-
  A disk as mathematics: what each call leaves, and tells; frames of a call that turns some blocks. No program in it.
-/
import Derived.Test.YtgjbhlianlbflaaGreatBHeld
import Derived.Maps.AppendAt
import Derived.Deep.AppendLies
namespace Go.Proofs.YtgjbhlianlbflaaGreat
open Go.ChangeShapes Go.WideShapes Go.ChangeAt Go.RowKit
set_option linter.unusedVariables false
structure Dk where
  sz : Int
  l : Nat → List Nat
  s : Nat → Nat
  arm : Bool
  un : Int
  dn : Bool
def updD {α : Type} (f : Nat → α) (k : Nat) (x : α) : Nat → α := fun i => if i = k then x else f i
theorem updD_at {α : Type} (f : Nat → α) (k : Nat) (x : α) : updD f k x k = x := by simp [updD]
theorem updD_far {α : Type} (f : Nat → α) {k i : Nat} (x : α) (h : i ≠ k) : updD f k x i = f i := by simp [updD, h]
structure Dk.Ok (d : Dk) : Prop where
  sz0 : 0 ≤ d.sz
  sz1 : d.sz ≤ 4194304
  room : ((d.l 0).length : Int) + ((d.l 1).length : Int) ≤ d.sz
  safe : ∀ k, k < 2 → d.s k ≤ (d.l k).length
  un0 : 0 ≤ d.un
  un1 : d.un ≤ 9223372036854775807
theorem Dk.Ok.len {d : Dk} (h : d.Ok) {k : Nat} (hk : k < 2) : (d.l k).length ≤ 4194304 := by
  have h1 := h.room; have h2 := h.sz1
  match k, hk with
  | 0, _ => omega
  | 1, _ => omega
def leftD (d : Dk) : Int := d.sz - ((d.l 0).length : Int) - ((d.l 1).length : Int)
def putD (d : Dk) (k : Nat) (b : List Nat) : Dk := { d with l := updD d.l k (d.l k ++ b) }
theorem Dk.Ok.put {d : Dk} (h : d.Ok) {k : Nat} (hk : k < 2) {b : List Nat} (hb : (b.length : Int) ≤ leftD d) : (putD d k b).Ok := by
  unfold leftD at hb
  have h1 := h.safe k hk
  match k, hk with
  | 0, _ =>
    refine ⟨h.sz0, h.sz1, ?_, ?_, h.un0, h.un1⟩
    · show (((updD d.l 0 (d.l 0 ++ b)) 0).length : Int) + ((updD d.l 0 (d.l 0 ++ b)) 1).length ≤ d.sz
      rw [updD_at, updD_far _ _ (by decide), List.length_append]; omega
    · intro k hk
      show d.s k ≤ (updD d.l 0 (d.l 0 ++ b) k).length
      match k, hk with
      | 0, _ => rw [updD_at, List.length_append]; omega
      | 1, _ => rw [updD_far _ _ (by decide)]; exact h.safe 1 (by decide)
  | 1, _ =>
    refine ⟨h.sz0, h.sz1, ?_, ?_, h.un0, h.un1⟩
    · show (((updD d.l 1 (d.l 1 ++ b)) 0).length : Int) + ((updD d.l 1 (d.l 1 ++ b)) 1).length ≤ d.sz
      rw [updD_at, updD_far _ _ (by decide), List.length_append]; omega
    · intro k hk
      show d.s k ≤ (updD d.l 1 (d.l 1 ++ b) k).length
      match k, hk with
      | 1, _ => rw [updD_at, List.length_append]; omega
      | 0, _ => rw [updD_far _ _ (by decide)]; exact h.safe 0 (by decide)
theorem Dk.Ok.turn {d : Dk} (h : d.Ok) {k : Nat} (hk : k < 2) {l : List Nat} {s : Nat} (hl : l.length ≤ (d.l k).length) (hs : s ≤ l.length) : ({ d with l := updD d.l k l, s := updD d.s k s } : Dk).Ok := by
  have h1 := h.room
  match k, hk with
  | 0, _ =>
    refine ⟨h.sz0, h.sz1, ?_, ?_, h.un0, h.un1⟩
    · show (((updD d.l 0 l) 0).length : Int) + ((updD d.l 0 l) 1).length ≤ d.sz
      rw [updD_at, updD_far _ _ (by decide)]; omega
    · intro k hk
      show updD d.s 0 s k ≤ (updD d.l 0 l k).length
      match k, hk with
      | 0, _ => rw [updD_at, updD_at]; exact hs
      | 1, _ => rw [updD_far _ _ (by decide), updD_far _ _ (by decide)]; exact h.safe 1 (by decide)
  | 1, _ =>
    refine ⟨h.sz0, h.sz1, ?_, ?_, h.un0, h.un1⟩
    · show (((updD d.l 1 l) 0).length : Int) + ((updD d.l 1 l) 1).length ≤ d.sz
      rw [updD_at, updD_far _ _ (by decide)]; omega
    · intro k hk
      show updD d.s 1 s k ≤ (updD d.l 1 l k).length
      match k, hk with
      | 1, _ => rw [updD_at, updD_at]; exact hs
      | 0, _ => rw [updD_far _ _ (by decide), updD_far _ _ (by decide)]; exact h.safe 0 (by decide)
structure TurnsD (S : Nat → Prop) (w w' : World) : Prop where
  os : w'.os = w.os
  tape : w'.tape = w.tape
  output : w'.output = w.output
  size : w.heap.size ≤ w'.heap.size
  block : ∀ i, i < w.heap.size → ¬ S i → w'.heap[i]? = w.heap[i]?
theorem TurnsD.refl (S : Nat → Prop) (w : World) : TurnsD S w w := ⟨rfl, rfl, rfl, Nat.le_refl _, fun _ _ _ => rfl⟩
theorem TurnsD.of_below {S : Nat → Prop} {w w' : World} (h : Below w.heap.size w w') : TurnsD S w w' := ⟨h.os, h.tape, h.output, h.size, fun i hi _ => h.block i hi⟩
theorem TurnsD.of_grown {S : Nat → Prop} {w w' : World} {row : Option Nat} (h : w.grownBy w' row) (hr : ∀ b, row = some b → S b) : TurnsD S w w' :=
  ⟨h.os, h.tape, h.output, h.size, fun i hi hs => h.block i hi (fun e => hs (hr i e.symm))⟩
theorem TurnsD.trans {S T : Nat → Prop} {a b c : World} (h : TurnsD S a b) (k : TurnsD T b c) (hT : ∀ i, i < a.heap.size → T i → S i) : TurnsD S a c :=
  ⟨k.os.trans h.os, k.tape.trans h.tape, k.output.trans h.output, Nat.le_trans h.size k.size, fun i hi hs => (k.block i (Nat.lt_of_lt_of_le hi h.size) (fun t => hs (hT i hi t))).trans (h.block i hi hs)⟩
theorem TurnsD.then {S : Nat → Prop} {a b c : World} (h : TurnsD S a b) (k : Below b.heap.size b c) : TurnsD S a c := h.trans (T := S) (TurnsD.of_below k) (fun _ _ h => h)
theorem TurnsD.below {S : Nat → Prop} {w w' : World} {B : Nat} (h : TurnsD S w w') (hB : B ≤ w.heap.size) (hS : ∀ i, i < B → ¬ S i) : Below B w w' := ⟨h.os, h.tape, h.output, h.size, fun i hi => h.block i (by omega) (hS i hi)⟩
theorem TurnsD.set {S : Nat → Prop} {a w : World} (h : TurnsD S a w) {p : Addr} (hp : S p.block ∨ a.heap.size ≤ p.block) (u : Value) : TurnsD S a (w.setCell p u) :=
  ⟨h.os, h.tape, h.output, by simpa [World.setCell] using h.size, fun i hi hs => (Below.heap_setCell w p u i (by
    rintro rfl
    rcases hp with hp | hp
    · exact hs hp
    · omega)).trans (h.block i hi hs)⟩
theorem TurnsD.more {S T : Nat → Prop} {w w' : World} (h : TurnsD S w w') (hT : ∀ i, i < w.heap.size → S i → T i) : TurnsD T w w' := ⟨h.os, h.tape, h.output, h.size, fun i hi hs => h.block i hi (fun t => hs (hT i hi t))⟩
theorem TurnsD.drew {S : Nat → Prop} {a w : World} (h : TurnsD S a w) : TurnsD S a w.drew := ⟨h.os, h.tape, h.output, h.size, h.block⟩
theorem TurnsD.drewN {S : Nat → Prop} {a w : World} (h : TurnsD S a w) (n : Nat) : TurnsD S a (w.drewN n) := ⟨h.os, h.tape, h.output, h.size, h.block⟩
theorem TurnsD.alloc {S : Nat → Prop} {a w : World} (h : TurnsD S a w) (o : Obj) : TurnsD S a (w.alloc o) :=
  ⟨h.os, h.tape, h.output, Nat.le_trans h.size (by simp), fun i hi hs => (Below.heap_alloc w o i (Nat.lt_of_lt_of_le hi h.size)).trans (h.block i hi hs)⟩
theorem Blk.turns {S : Nat → Prop} {w w' : World} {g : Nat} {t : TypeId} {cs : Array Value} (h : Blk w g t cs) (k : TurnsD S w w') (hg : ¬ S g) : Blk w' g t cs := (k.block g h.lt hg).trans h
def Apart (S : Nat → Prop) (w : World) (A : Option Addr) (l : List Nat) : Prop :=
  ∀ (j x : Nat), l[j]? = some x → ∃ b o, A = some ⟨b, o, none⟩ ∧ b < w.heap.size ∧ ¬ S b ∧ w.cell? ⟨b, o + j, none⟩ = some (.int .u8 (x : Int))
theorem Apart.turns {S T : Nat → Prop} {w w' : World} {A : Option Addr} {l : List Nat} (h : Apart S w A l) (k : TurnsD S w w') (hT : ∀ i, i < w.heap.size → T i → S i) : Apart T w' A l := fun j x hj => by
  obtain ⟨b, o, hA, hb, hS, hc⟩ := h j x hj
  exact ⟨b, o, hA, Nat.lt_of_lt_of_le hb k.size, fun t => hS (hT b hb t), (World.cell?_of_block (w := w) (by simpa using k.block b hb hS)).trans hc⟩
theorem Apart.below {S : Nat → Prop} {w w' : World} {A : Option Addr} {l : List Nat} (h : Apart S w A l) (k : Below w.heap.size w w') : Apart S w' A l := h.turns (T := S) (TurnsD.of_below k) (fun _ _ h => h)
theorem Apart.nil (S : Nat → Prop) (w : World) (A : Option Addr) : Apart S w A [] := fun j x h => by simp at h
end Go.Proofs.YtgjbhlianlbflaaGreat
