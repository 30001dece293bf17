/-
  A disk as mathematics: what each call leaves, and tells; frames of a call that turns some blocks. No program in it.
-/
import Derived.Test.YtljnboimadhkoaaHeld
import Derived.Maps.AppendAt
import Derived.Deep.AppendLies
namespace Go.Proofs.Ytljnboimadhkoaa
open Go.ChangeShapes Go.WideShapes Go.ChangeAt Go.RowKit
set_option linter.unusedVariables false

/-- A disk: its size; of each file the bytes, and how many are safe; is it armed, with how many units; is it down. -/
structure Dk where
  sz : Int
  l : Nat → List Nat
  s : Nat → Nat
  arm : Bool
  un : Int
  dn : Bool

def updD {α : Type} (f : Nat → α) (k : Nat) (x : α) : Nat → α := fun i => if i = k then x else f i
theorem updD_at {α : Type} (f : Nat → α) (k : Nat) (x : α) : updD f k x k = x := by simp [updD]
theorem updD_far {α : Type} (f : Nat → α) {k i : Nat} (x : α) (h : i ≠ k) : updD f k x i = f i := by simp [updD, h]
theorem updD_upd {α : Type} (f : Nat → α) (k : Nat) (x y : α) : updD (updD f k x) k y = updD f k y := by
  funext i; unfold updD; split <;> rfl
theorem updD_same {α : Type} (f : Nat → α) (k : Nat) : updD f k (f k) = f := by
  funext i; unfold updD; split
  · next h => rw [h]
  · rfl

structure Dk.Ok (d : Dk) : Prop where
  sz0 : 0 ≤ d.sz
  sz1 : d.sz ≤ 4194304
  room : ((d.l 0).length : Int) + ((d.l 1).length : Int) ≤ d.sz
  safe : ∀ k, k < 2 → d.s k ≤ (d.l k).length
  un0 : 0 ≤ d.un
  un1 : d.un ≤ 9223372036854775807

theorem Dk.Ok.len {d : Dk} (h : d.Ok) {k : Nat} (hk : k < 2) : (d.l k).length ≤ 4194304 := by
  have h1 := h.room; have h2 := h.sz1
  match k, hk with
  | 0, _ => omega
  | 1, _ => omega

/-- There is such a file. -/
def hasD (f : Int) : Bool := decide (0 ≤ f) && decide (f < 2)
theorem hasD_iff {f : Int} : hasD f = true ↔ ∃ k : Nat, k < 2 ∧ f = k := by
  unfold hasD
  simp only [Bool.and_eq_true, decide_eq_true_eq]
  constructor
  · rintro ⟨h1, h2⟩; exact ⟨f.toNat, by omega, by omega⟩
  · rintro ⟨k, h1, rfl⟩; omega
/-- What forbids doing anything to a file. -/
def mayD (d : Dk) (f : Int) : Int := if hasD f then (if d.dn then 40 else 0) else 12
theorem mayD_zero {d : Dk} {f : Int} (h : mayD d f = 0) : ∃ k : Nat, k < 2 ∧ f = k ∧ d.dn = false := by
  unfold mayD at h
  split at h
  · next h1 =>
    obtain ⟨k, hk, rfl⟩ := hasD_iff.1 h1
    split at h
    · omega
    · next h2 => exact ⟨k, hk, rfl, by simpa using h2⟩
  · omega
theorem mayD_at {d : Dk} {k : Nat} (hk : k < 2) (hd : d.dn = false) : mayD d (k : Int) = 0 := by
  unfold mayD
  rw [if_pos (hasD_iff.2 ⟨k, hk, rfl⟩), hd]
  rfl

def leftD (d : Dk) : Int := d.sz - ((d.l 0).length : Int) - ((d.l 1).length : Int)
/-- So many units of n are done. -/
def doneD (d : Dk) (n : Nat) : Nat := if d.arm = true then min n d.un.toNat else n
def shortD (d : Dk) (n : Nat) : Bool := d.arm && decide (d.un < (n : Int))
def errD (d : Dk) (n : Nat) : Int := if shortD d n then 40 else 0
def spentD (d : Dk) (n : Nat) : Dk := if d.arm = true then { d with un := d.un - (min n d.un.toNat : Nat), dn := d.dn || shortD d n } else d
theorem spentD_l (d : Dk) (n : Nat) : (spentD d n).l = d.l := by unfold spentD; split <;> rfl
theorem spentD_s (d : Dk) (n : Nat) : (spentD d n).s = d.s := by unfold spentD; split <;> rfl
theorem spentD_sz (d : Dk) (n : Nat) : (spentD d n).sz = d.sz := by unfold spentD; split <;> rfl
theorem doneD_le (d : Dk) (n : Nat) : doneD d n ≤ n := by unfold doneD; split <;> omega
theorem spentD_ok {d : Dk} (h : d.Ok) (n : Nat) : (spentD d n).Ok := by
  have h1 := h.un0; have h2 := h.un1
  refine ⟨by rw [spentD_sz]; exact h.sz0, by rw [spentD_sz]; exact h.sz1, by rw [spentD_sz, spentD_l]; exact h.room, by rw [spentD_l, spentD_s]; exact h.safe, ?_, ?_⟩
  · unfold spentD; split
    · simp only; omega
    · exact h1
  · unfold spentD; split
    · simp only; omega
    · exact h2

def putD (d : Dk) (k : Nat) (b : List Nat) : Dk := { d with l := updD d.l k (d.l k ++ b) }
def appD (d : Dk) (f : Int) (b : List Nat) : Dk × Int :=
  if mayD d f = 0 then
    if leftD d < (b.length : Int) then (d, 14)
    else (putD (spentD d b.length) f.toNat (b.take (doneD d b.length)), errD d b.length)
  else (d, mayD d f)
def keepD (d : Dk) (k : Nat) : Dk := { d with s := updD d.s k (d.l k).length }
def syncD (d : Dk) (f : Int) : Dk × Int :=
  if mayD d f = 0 then
    if shortD d 1 then (spentD d 1, 40) else (keepD (spentD d 1) f.toNat, 0)
  else (d, mayD d f)
def cutD (d : Dk) (k n : Nat) : Dk := { d with l := updD d.l k ((d.l k).take n), s := updD d.s k (min (d.s k) n) }
def trimD (d : Dk) (f n : Int) : Dk × Int :=
  if mayD d f = 0 then
    if n < 0 ∨ ((d.l f.toNat).length : Int) < n then (d, 12)
    else if shortD d 1 then (spentD d 1, 40) else (cutD (spentD d 1) f.toNat n.toNat, 0)
  else (d, mayD d f)
def armD (d : Dk) (n : Int) : Dk := { d with arm := true, un := if n < 0 then 0 else n }
/-- So many bytes of a file are left behind a crash. -/
def restD (d : Dk) (k : Nat) (n : Int) : Nat := d.s k + min n.toNat ((d.l k).length - d.s k)
def lossD (d : Dk) (k : Nat) (n : Int) : Dk := { d with l := updD d.l k ((d.l k).take (restD d k n)), s := updD d.s k (restD d k n) }
def upD (d : Dk) : Dk := { d with arm := false, un := 0, dn := false }
def crashD (d : Dk) (a b : Int) : Dk := upD (lossD (lossD d 0 a) 1 b)

theorem Dk.Ok.put {d : Dk} (h : d.Ok) {k : Nat} (hk : k < 2) {b : List Nat} (hb : (b.length : Int) ≤ leftD d) : (putD d k b).Ok := by
  unfold leftD at hb
  have h1 := h.safe k hk
  match k, hk with
  | 0, _ =>
    refine ⟨h.sz0, h.sz1, ?_, ?_, h.un0, h.un1⟩
    · show (((updD d.l 0 (d.l 0 ++ b)) 0).length : Int) + ((updD d.l 0 (d.l 0 ++ b)) 1).length ≤ d.sz
      rw [updD_at, updD_far _ _ (by decide), List.length_append]; omega
    · intro k hk
      show d.s k ≤ (updD d.l 0 (d.l 0 ++ b) k).length
      match k, hk with
      | 0, _ => rw [updD_at, List.length_append]; omega
      | 1, _ => rw [updD_far _ _ (by decide)]; exact h.safe 1 (by decide)
  | 1, _ =>
    refine ⟨h.sz0, h.sz1, ?_, ?_, h.un0, h.un1⟩
    · show (((updD d.l 1 (d.l 1 ++ b)) 0).length : Int) + ((updD d.l 1 (d.l 1 ++ b)) 1).length ≤ d.sz
      rw [updD_at, updD_far _ _ (by decide), List.length_append]; omega
    · intro k hk
      show d.s k ≤ (updD d.l 1 (d.l 1 ++ b) k).length
      match k, hk with
      | 1, _ => rw [updD_at, List.length_append]; omega
      | 0, _ => rw [updD_far _ _ (by decide)]; exact h.safe 0 (by decide)

/-- One file is turned for one that isn't longer. -/
theorem Dk.Ok.turn {d : Dk} (h : d.Ok) {k : Nat} (hk : k < 2) {l : List Nat} {s : Nat} (hl : l.length ≤ (d.l k).length) (hs : s ≤ l.length) : ({ d with l := updD d.l k l, s := updD d.s k s } : Dk).Ok := by
  have h1 := h.room
  match k, hk with
  | 0, _ =>
    refine ⟨h.sz0, h.sz1, ?_, ?_, h.un0, h.un1⟩
    · show (((updD d.l 0 l) 0).length : Int) + ((updD d.l 0 l) 1).length ≤ d.sz
      rw [updD_at, updD_far _ _ (by decide)]; omega
    · intro k hk
      show updD d.s 0 s k ≤ (updD d.l 0 l k).length
      match k, hk with
      | 0, _ => rw [updD_at, updD_at]; exact hs
      | 1, _ => rw [updD_far _ _ (by decide), updD_far _ _ (by decide)]; exact h.safe 1 (by decide)
  | 1, _ =>
    refine ⟨h.sz0, h.sz1, ?_, ?_, h.un0, h.un1⟩
    · show (((updD d.l 1 l) 0).length : Int) + ((updD d.l 1 l) 1).length ≤ d.sz
      rw [updD_at, updD_far _ _ (by decide)]; omega
    · intro k hk
      show updD d.s 1 s k ≤ (updD d.l 1 l k).length
      match k, hk with
      | 1, _ => rw [updD_at, updD_at]; exact hs
      | 0, _ => rw [updD_far _ _ (by decide), updD_far _ _ (by decide)]; exact h.safe 0 (by decide)
theorem keepD_ok {d : Dk} (h : d.Ok) {k : Nat} (hk : k < 2) : (keepD d k).Ok := by
  have := h.turn hk (l := d.l k) (s := (d.l k).length) (Nat.le_refl _) (Nat.le_refl _)
  rw [updD_same] at this
  exact this
theorem cutD_ok {d : Dk} (h : d.Ok) {k : Nat} (hk : k < 2) {n : Nat} (hn : n ≤ (d.l k).length) : (cutD d k n).Ok :=
  h.turn hk (by rw [List.length_take]; omega) (by rw [List.length_take]; omega)
theorem restD_le {d : Dk} (h : d.Ok) {k : Nat} (hk : k < 2) (n : Int) : restD d k n ≤ (d.l k).length := by
  have := h.safe k hk
  unfold restD; omega
theorem lossD_ok {d : Dk} (h : d.Ok) {k : Nat} (hk : k < 2) (n : Int) : (lossD d k n).Ok := by
  have := restD_le h hk n
  exact h.turn hk (by rw [List.length_take]; omega) (by rw [List.length_take]; omega)
theorem upD_ok {d : Dk} (h : d.Ok) : (upD d).Ok := ⟨h.sz0, h.sz1, h.room, h.safe, by show (0 : Int) ≤ 0; decide, by show (0 : Int) ≤ 9223372036854775807; decide⟩
theorem crashD_ok {d : Dk} (h : d.Ok) (a b : Int) : (crashD d a b).Ok := upD_ok (lossD_ok (lossD_ok h (by decide) a) (by decide) b)
theorem armD_ok {d : Dk} (h : d.Ok) {n : Int} (hn : n ≤ 9223372036854775807) : (armD d n).Ok :=
  ⟨h.sz0, h.sz1, h.room, h.safe, by show 0 ≤ (if n < 0 then 0 else n); split <;> omega, by show (if n < 0 then 0 else n) ≤ _; split <;> omega⟩
theorem appD_ok {d : Dk} (h : d.Ok) (f : Int) (b : List Nat) : (appD d f b).1.Ok := by
  unfold appD
  split
  · next h1 =>
    obtain ⟨k, hk, rfl, _⟩ := mayD_zero h1
    split
    · exact h
    · next h2 =>
      refine (spentD_ok h _).put (by simpa using hk) ?_
      have := doneD_le d b.length
      unfold leftD at h2 ⊢
      rw [spentD_sz, spentD_l, List.length_take]
      omega
  · exact h
theorem syncD_ok {d : Dk} (h : d.Ok) (f : Int) : (syncD d f).1.Ok := by
  unfold syncD
  split
  · next h1 =>
    obtain ⟨k, hk, rfl, _⟩ := mayD_zero h1
    split
    · exact spentD_ok h 1
    · exact keepD_ok (spentD_ok h 1) (by simpa using hk)
  · exact h
theorem trimD_ok {d : Dk} (h : d.Ok) (f n : Int) : (trimD d f n).1.Ok := by
  unfold trimD
  split
  · next h1 =>
    obtain ⟨k, hk, rfl, _⟩ := mayD_zero h1
    split
    · exact h
    · split
      · exact spentD_ok h 1
      · next h2 _ =>
        refine cutD_ok (spentD_ok h 1) (by simpa using hk) ?_
        rw [spentD_l]
        omega
  · exact h

theorem run_maxE (P : Program) (a b m : Int) (h : (if a < b then b else a) = m) (w : World) (ts : Array TypeId) (t : TypeId) : (Builtin.max_ ts t #[.int .i64 a, .int .i64 b]).run P w = .ok (.int .i64 m) w := by
  subst h
  by_cases h : a < b <;> simp [Builtin.max_, Builtin.max2, h]
theorem run_minE (P : Program) (a b m : Int) (h : min a b = m) (w : World) (ts : Array TypeId) (t : TypeId) : (Builtin.min_ ts t #[.int .i64 a, .int .i64 b]).run P w = .ok (.int .i64 m) w := by
  subst h
  rcases (show b < a ∨ a ≤ b by omega) with h | h
  · have : min a b = b := by omega
    rw [this]
    simp [Builtin.min_, Builtin.min2, h]
  · have : min a b = a := by omega
    rw [this]
    simp [Builtin.min_, Builtin.min2, show ¬ b < a by omega]

/-- All stands but the blocks of S, of those that there were. -/
structure TurnsD (S : Nat → Prop) (w w' : World) : Prop where
  os : w'.os = w.os
  tape : w'.tape = w.tape
  output : w'.output = w.output
  size : w.heap.size ≤ w'.heap.size
  block : ∀ i, i < w.heap.size → ¬ S i → w'.heap[i]? = w.heap[i]?

theorem TurnsD.refl (S : Nat → Prop) (w : World) : TurnsD S w w := ⟨rfl, rfl, rfl, Nat.le_refl _, fun _ _ _ => rfl⟩
theorem TurnsD.of_below {S : Nat → Prop} {w w' : World} (h : Below w.heap.size w w') : TurnsD S w w' := ⟨h.os, h.tape, h.output, h.size, fun i hi _ => h.block i hi⟩
theorem TurnsD.of_grown {S : Nat → Prop} {w w' : World} {row : Option Nat} (h : w.grownBy w' row) (hr : ∀ b, row = some b → S b) : TurnsD S w w' :=
  ⟨h.os, h.tape, h.output, h.size, fun i hi hs => h.block i hi (fun e => hs (hr i e.symm))⟩
theorem TurnsD.trans {S T : Nat → Prop} {a b c : World} (h : TurnsD S a b) (k : TurnsD T b c) (hT : ∀ i, i < a.heap.size → T i → S i) : TurnsD S a c :=
  ⟨k.os.trans h.os, k.tape.trans h.tape, k.output.trans h.output, Nat.le_trans h.size k.size, fun i hi hs => (k.block i (Nat.lt_of_lt_of_le hi h.size) (fun t => hs (hT i hi t))).trans (h.block i hi hs)⟩
theorem TurnsD.then {S : Nat → Prop} {a b c : World} (h : TurnsD S a b) (k : Below b.heap.size b c) : TurnsD S a c := h.trans (T := S) (TurnsD.of_below k) (fun _ _ h => h)
theorem TurnsD.below {S : Nat → Prop} {w w' : World} {B : Nat} (h : TurnsD S w w') (hB : B ≤ w.heap.size) (hS : ∀ i, i < B → ¬ S i) : Below B w w' := ⟨h.os, h.tape, h.output, h.size, fun i hi => h.block i (by omega) (hS i hi)⟩
theorem TurnsD.set {S : Nat → Prop} {a w : World} (h : TurnsD S a w) {p : Addr} (hp : S p.block ∨ a.heap.size ≤ p.block) (u : Value) : TurnsD S a (w.setCell p u) :=
  ⟨h.os, h.tape, h.output, by simpa [World.setCell] using h.size, fun i hi hs => (Below.heap_setCell w p u i (by
    rintro rfl
    rcases hp with hp | hp
    · exact hs hp
    · omega)).trans (h.block i hi hs)⟩
theorem TurnsD.more {S T : Nat → Prop} {w w' : World} (h : TurnsD S w w') (hT : ∀ i, i < w.heap.size → S i → T i) : TurnsD T w w' := ⟨h.os, h.tape, h.output, h.size, fun i hi hs => h.block i hi (fun t => hs (hT i hi t))⟩
theorem TurnsD.drew {S : Nat → Prop} {a w : World} (h : TurnsD S a w) : TurnsD S a w.drew := ⟨h.os, h.tape, h.output, h.size, h.block⟩
theorem TurnsD.drewN {S : Nat → Prop} {a w : World} (h : TurnsD S a w) (n : Nat) : TurnsD S a (w.drewN n) := ⟨h.os, h.tape, h.output, h.size, h.block⟩
theorem TurnsD.alloc {S : Nat → Prop} {a w : World} (h : TurnsD S a w) (o : Obj) : TurnsD S a (w.alloc o) :=
  ⟨h.os, h.tape, h.output, Nat.le_trans h.size (by simp), fun i hi hs => (Below.heap_alloc w o i (Nat.lt_of_lt_of_le hi h.size)).trans (h.block i hi hs)⟩
theorem Blk.turns {S : Nat → Prop} {w w' : World} {g : Nat} {t : TypeId} {cs : Array Value} (h : Blk w g t cs) (k : TurnsD S w w') (hg : ¬ S g) : Blk w' g t cs := (k.block g h.lt hg).trans h
theorem row_turns {S : Nat → Prop} {w w' : World} {base n : Nat} {e : TypeId} {v : Value} {xs : List Value} (h : w.ownsRow base e 1 v n xs) (k : TurnsD S w w') (hv : ∀ b, v.ownBlock = some b → ¬ S b) : w'.ownsRow base e 1 v n xs := by
  refine ⟨h.1, ?_⟩
  rcases h.2 with hn | ⟨g, cap, cur, rfl, hb, hgg, rest⟩
  · exact .inl hn
  · refine .inr ⟨g, cap, cur, rfl, hb, ?_, rest⟩
    rw [k.block g (Array.getElem?_eq_some_iff.1 hgg).1 (hv g rfl)]
    exact hgg

/-- A slice of bytes that reads as a list, in a block that isn't one of S. -/
def Apart (S : Nat → Prop) (w : World) (A : Option Addr) (l : List Nat) : Prop :=
  ∀ (j x : Nat), l[j]? = some x → ∃ b o, A = some ⟨b, o, none⟩ ∧ b < w.heap.size ∧ ¬ S b ∧ w.cell? ⟨b, o + j, none⟩ = some (.int .u8 (x : Int))
theorem Apart.sees {S : Nat → Prop} {w : World} {A : Option Addr} {l : List Nat} (h : Apart S w A l) : Sees .u8 w A l := fun j x hj => by
  obtain ⟨b, o, hA, hb, _, hc⟩ := h j x hj
  exact ⟨b, o, hA, hb, hc⟩
theorem Apart.turns {S T : Nat → Prop} {w w' : World} {A : Option Addr} {l : List Nat} (h : Apart S w A l) (k : TurnsD S w w') (hT : ∀ i, i < w.heap.size → T i → S i) : Apart T w' A l := fun j x hj => by
  obtain ⟨b, o, hA, hb, hS, hc⟩ := h j x hj
  exact ⟨b, o, hA, Nat.lt_of_lt_of_le hb k.size, fun t => hS (hT b hb t), (World.cell?_of_block (w := w) (by simpa using k.block b hb hS)).trans hc⟩
theorem Apart.of_sees {S : Nat → Prop} {w : World} {A : Option Addr} {l : List Nat} (h : Sees .u8 w A l) (hS : ∀ b o, A = some ⟨b, o, none⟩ → l ≠ [] → ¬ S b) : Apart S w A l := fun j x hj => by
  obtain ⟨b, o, hA, hb, hc⟩ := h j x hj
  exact ⟨b, o, hA, hb, hS b o hA (by rintro rfl; simp at hj), hc⟩
theorem Apart.below {S : Nat → Prop} {w w' : World} {A : Option Addr} {l : List Nat} (h : Apart S w A l) (k : Below w.heap.size w w') : Apart S w' A l := h.turns (T := S) (TurnsD.of_below k) (fun _ _ h => h)
theorem Apart.nil (S : Nat → Prop) (w : World) (A : Option Addr) : Apart S w A [] := fun j x h => by simp at h

/-- append of what is seen: where it lies, too. -/
theorem run_append_seen {P : Program} (w : World) (base : Nat) (t ty e : TypeId) (i : TypeInfo) (z : Value) (bytes : Nat) (ht : P.underlying t = some (.slice e)) (hi : P.info? e = some i) (hz : i.zero = some z) (hsize : i.size = 1) (hby : i.bytes = bytes) (hzs : z.cells.size = 1)
    (v : Value) (n : Nat) (xs : List Value) (hown : w.ownsRow base e 1 v n xs) (A : Option Addr) (c : Nat) (l : List Nat) (m : Nat) (hm : l.length = m) (hnone : A = none → c = 0) (hS : Sees .u8 w A l) (h63 : n + m ≤ maxLen) (hbytes : (n + m) * bytes ≤ 140737488355328) (hbase : base ≤ w.heap.size) :
    ∃ v' w', (Builtin.append_ #[t, t] ty #[v, .slice A m c]).run P w = .ok v' w' ∧ w'.ownsRow base e 1 v' (n + m) (xs ++ l.map fun y : Nat => Value.int .u8 (y : Int)) ∧ w.grownBy w' v.ownBlock ∧ (v'.ownBlock = v.ownBlock ∨ v'.ownBlock = some w.heap.size) := by
  subst hm
  cases A with
  | none =>
    have hl : l = [] := by
      cases l with
      | nil => rfl
      | cons y l => obtain ⟨b, o, he, _⟩ := hS 0 y rfl; cases he
    subst hl
    rw [hnone rfl]
    refine ⟨v, w, ?_, by simpa using hown, World.grownBy.refl w _, .inl rfl⟩
    exact run_append_owned_none (P := P) (w := w) base t ty e i 1 ht hi v n xs hown
  | some ad =>
    obtain ⟨v', w', hr, h1, h2, _, h4⟩ := run_append_own_at (P := P) w base t ty e i z 1 bytes ht hi hz hsize hby hzs (by decide) v n xs hown ad l.length c (l.map fun y : Nat => Value.int .u8 (y : Int)) (by simp)
      (fun j u hu => by
        rw [List.getElem?_map] at hu
        cases hj : l[j]? with
        | none => rw [hj] at hu; cases hu
        | some y =>
          rw [hj] at hu
          obtain ⟨b, off, he, _, hc⟩ := hS j y hj
          injection he with he
          subst he
          rw [add_plain, hc]
          exact hu)
      (fun u hu => by
        obtain ⟨y, _, rfl⟩ := List.mem_map.1 hu
        rfl) h63 hbytes hbase
    exact ⟨v', w', hr, h1, h2, h4⟩

/-- .. at a step of a region that draws its order. -/
theorem step_append_seen {P : Program} (w : World) {ops : Array Oper} {o : Oper} {a : Act} {K : Act → World → Prop} {Q : Exit → Act → World → Prop} {E : Prop} (hgd : o.guard = none) (s x : Operand) (t : TypeId)
    (ho : o.op = .call { callee := .builtin .append, args := #[s, x], argTypes := #[t, t] })
    (base : Nat) (e : TypeId) (i : TypeInfo) (z : Value) (bytes : Nat) (ht : P.underlying t = some (.slice e)) (hi : P.info? e = some i) (hz : i.zero = some z) (hsize : i.size = 1) (hby : i.bytes = bytes) (hzs : z.cells.size = 1)
    (v : Value) (n : Nat) (xs : List Value) (hs : a.eval s = v) (hown : w.ownsRow base e 1 v n xs) (A : Option Addr) (c : Nat) (l : List Nat) (m : Nat) (hm : l.length = m) (hx : a.eval x = .slice A m c) (hnone : A = none → c = 0) (hS : Sees .u8 w A l) (h63 : n + m ≤ maxLen) (hbytes : (n + m) * bytes ≤ 140737488355328) (hbase : base ≤ w.heap.size)
    (h : ∀ v' w', w'.ownsRow base e 1 v' (n + m) (xs ++ l.map fun y : Nat => Value.int .u8 (y : Int)) → w.grownBy w' v.ownBlock → (v'.ownBlock = v.ownBlock ∨ v'.ownBlock = some w.heap.size) → K (a.put o.dst v') w') :
    if Region.wanted o (yielded ops a.tmps) = true then Oper.wp P o a w K Q else E := by
  have hw : Region.wanted o (yielded ops a.tmps) = true := by simp [Region.wanted, hgd]
  rw [if_pos hw]
  obtain ⟨v', w', hr, h1, h2, h3⟩ := run_append_seen (P := P) w base t o.type e i z bytes ht hi hz hsize hby hzs v n xs hown A c l m hm hnone hS h63 hbytes hbase
  unfold Oper.wp execOp
  simp only [ho, resolve, invoke, builtin, Sem.run_bind, Sem.run_pure, Result.andThen_ok, List.map_toArray, List.map_cons, List.map_nil, hs, hx, hr]
  exact h v' w' h1 h2 h3

end Go.Proofs.Ytljnboimadhkoaa
