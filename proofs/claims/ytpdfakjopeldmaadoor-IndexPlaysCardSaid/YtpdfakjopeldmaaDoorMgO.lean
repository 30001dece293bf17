/-
  The contract of num.Short.
-/
import Derived.Test.YtpdfakjopeldmaaDoorMath
import Derived.Test.YtpdfakjopeldmaaDoorBase
import Derived.WalkKit
import Derived.WalkSpells
import Derived.WalkLawsBesides
import Derived.Laws.BytesArg
import Derived.Test.YtpdfakjopeldmaaDoorHeld
import Derived.Laws.IdiomStrings
namespace Go.Proofs.YtpdfakjopeldmaaDoor
open Go.RowKit

/-- What a loop that writes a short number holds: `a` is written, `n` is left. -/
def ShortRel (V : Nat) (base : Nat) (w : World) (n : Value) (s : Value) (wr : World) : Prop :=
  ∃ (m : Nat) (a : List Nat), n = .int .u64 m ∧ m < 18446744073709551616 ∧ a.length + (shortN m).length = (shortN V).length ∧ a ++ shortN m = shortN V ∧
    wr.ownsRow base 5 1 s a.length (a.map bv) ∧ Below base w wr

theorem short_step {V base m : Nat} {a : List Nat} {w wr w1 : World} {s v' : Value} {o : Obj} {x : Int} (hsz : base ≤ wr.heap.size) (hx : x = ((m % 128 + 128 : Nat) : Int))
    (hm : m < 18446744073709551616) (h128 : 128 ≤ m)
    (hlen : a.length + (shortN m).length = (shortN V).length) (happ : a ++ shortN m = shortN V) (hown : wr.ownsRow base 5 1 s a.length (a.map bv)) (hb : Below base w wr)
    (hown' : w1.ownsRow base 5 1 v' (a.length + 1) (a.map bv ++ [.int .u8 x])) (hg : (wr.alloc o).grownBy w1 s.ownBlock) :
    ShortRel V base w (.int .u64 ((m / 128 : Nat) : Int)) v' w1 := by
  subst hx
  rw [shortN_hi h128] at hlen happ
  refine ⟨m / 128, a ++ [m % 128 + 128], rfl, by omega, ?_, ?_, ?_, below_append hb hsz hown hg⟩
  · rw [← hlen]; simp; omega
  · rw [← happ]; simp
  · simpa [bv] using hown'

theorem short_end {V m : Nat} {a : List Nat} {w wr w1 : World} {s v' : Value} {o : Obj} {x : Int} (hsz : w.heap.size ≤ wr.heap.size) (hx : x = (m : Int)) (h128 : m < 128)
    (happ : a ++ shortN m = shortN V) (hown : wr.ownsRow w.heap.size 5 1 s a.length (a.map bv)) (hb : Below w.heap.size w wr)
    (hown' : w1.ownsRow w.heap.size 5 1 v' (a.length + 1) (a.map bv ++ [.int .u8 x])) (hg : (wr.alloc o).grownBy w1 s.ownBlock) :
    Makes (shortN V) w (.returned v') w1 := by
  subst hx
  rw [shortN_lo h128] at happ
  refine ⟨v', rfl, ?_, below_append hb hsz hown hg⟩
  rw [← happ]
  simpa [bv] using hown'

end Go.Proofs.YtpdfakjopeldmaaDoor

/-
  The contracts of num.ReadShort and of the document's own reader.
-/
namespace Go.Proofs.YtpdfakjopeldmaaDoor
open Go.RowKit

/-- What a reader answers: the number, how many bytes, the error; the world is as it was. -/
def Tells (t : Nat × Nat × Nat) (w : World) (e : Ending) (w' : World) : Prop :=
  e = .returned (.tuple #[.int .u64 (t.1 : Int), .int .i64 (t.2.1 : Int), .int .i64 (t.2.2 : Int)]) ∧ w = w'

theorem tells3 {t : Nat × Nat × Nat} {w : World} {a b c : Int} {x y z : Nat} (h : t = (x, y, z)) (ha : a = x) (hb : b = y) (hc : c = z) :
    Tells t w (.returned (.tuple #[.int .u64 a, .int .i64 b, .int .i64 c])) w := by
  subst h; subst ha; subst hb; subst hc; exact ⟨rfl, rfl⟩

def ReadRel (l : List Nat) (v i : Value) : Prop :=
  ∃ k n : Nat, k ≤ l.length ∧ k ≤ 9 ∧ n < 128 ^ k ∧ i = .int .i64 k ∧ v = .int .u64 n ∧ readAt k n (l.drop k) = readN l

def RefRel (l : List Nat) (v p i : Value) : Prop :=
  ∃ k n : Nat, k ≤ l.length ∧ k ≤ 9 ∧ n < 128 ^ k ∧ i = .int .i64 k ∧ v = .int .u64 n ∧ p = .int .u64 ((128 ^ k : Nat) : Int) ∧ readAt k n (l.drop k) = readN l

end Go.Proofs.YtpdfakjopeldmaaDoor

/-
  The contracts of num.Bytes and num.Read.
-/
namespace Go.Proofs.YtpdfakjopeldmaaDoor
open Go.RowKit

/-- What a loop that writes a number's bytes from the last one on holds. -/
def BytesRel (V n base : Nat) (w : World) (v i : Value) (wr : World) : Prop :=
  (∃ (k m : Nat) (tail : List Nat), i = .int .i64 (k : Int) ∧ k < n ∧ v = .int .u64 (m : Int) ∧ m < 18446744073709551616 ∧ tail.length + (k + 1) = n ∧ bytesN m (k + 1) ++ tail = bytesN V n ∧
    wr.ownsRow base 5 1 (.slice (some ⟨base, 0, none⟩) n n) n ((List.replicate (k + 1) 0 ++ tail).map bv) ∧ Below base w wr) ∨
  (i = .int .i64 (-1) ∧ wr.ownsRow base 5 1 (.slice (some ⟨base, 0, none⟩) n n) n ((bytesN V n).map bv) ∧ Below base w wr)

theorem bytes_step {V n base k m : Nat} {tail : List Nat} {w wr : World} {x a i : Int} (hk : k < n) (hm : m < 18446744073709551616) (hlen : tail.length + (k + 1) = n) (heq : bytesN m (k + 1) ++ tail = bytesN V n)
    (hown : wr.ownsRow base 5 1 (.slice (some ⟨base, 0, none⟩) n n) n ((List.replicate (k + 1) 0 ++ tail).map bv)) (hb : Below base w wr) (hx : x = (m : Int) % 256) (ha : a = (m : Int) / 256) (hi : i = (k : Int) - 1) :
    BytesRel V n base w (.int .u64 a) (.int .i64 i) (wr.setCell ⟨base, k, none⟩ (.int .u8 x)) := by
  subst hx; subst ha; subst hi
  have hs := (hown.stored k (.int .u8 ((m : Int) % 256))).1
  have ev : (Value.int .u8 ((m : Int) % 256)) = bv (m % 256) := by unfold bv; congr 1
  rw [ev] at hs ⊢
  rw [← List.map_set, replicate_set] at hs
  have hb' : Below base w (wr.setCell ⟨base, k, none⟩ (bv (m % 256))) := hb.setCell (Nat.le_refl _) _
  rw [bytesN, List.append_assoc, List.singleton_append] at heq
  cases k with
  | zero =>
    right
    refine ⟨by simp, ?_, hb'⟩
    rw [← heq]
    simpa [bytesN] using hs
  | succ k =>
    left
    refine ⟨k, m / 256, m % 256 :: tail, ?_, by omega, by congr 1, by omega, by simp; omega, heq, hs, hb'⟩
    congr 1
    omega

theorem zeros_of_made (n : Nat) : (madeCells (Value.int .u8 0).cells (n * 1)).toList = (List.replicate n 0).map bv := by
  rw [Nat.mul_one, show (Value.int IntKind.u8 0).cells = #[.int .u8 0] from rfl, toList_madeCells_one, List.map_replicate]
  rfl

theorem bytes_start {V n : Nat} {w w1 : World} (hV : V < 18446744073709551616) (h : w1.ownsRow w.heap.size 5 1 (.slice (some ⟨w.heap.size, 0, none⟩) n n) n (madeCells (Value.int .u8 0).cells (n * 1)).toList) (hg : w.grownBy w1 none) :
    BytesRel V n w.heap.size w (.int .u64 (V : Int)) (.int .i64 ((n : Int) - 1)) w1 := by
  have hb : Below w.heap.size w w1 := (Below.refl _ _).grown hg (Nat.le_refl _) (by intro k hk; cases hk)
  rw [zeros_of_made] at h
  cases n with
  | zero => right; exact ⟨by simp, by simpa [bytesN] using h, hb⟩
  | succ n =>
    left
    refine ⟨n, V, [], ?_, by omega, rfl, hV, by simp, by simp, by simpa using h, hb⟩
    congr 1
    omega

theorem bytes_end {V n : Nat} {w wr : World} (h : wr.ownsRow w.heap.size 5 1 (.slice (some ⟨w.heap.size, 0, none⟩) n n) n ((bytesN V n).map bv)) (hb : Below w.heap.size w wr) : Makes (bytesN V n) w (.returned (.slice (some ⟨w.heap.size, 0, none⟩) n n)) wr :=
  ⟨_, rfl, by rw [bytesN_len]; exact h, hb⟩

/-- The same, where the length is known by another name. -/
def HandsN (l : List Nat) (n : Nat) (w : World) (e : Ending) (w' : World) : Prop :=
  ∃ A cap, e = .returned (.slice A n cap) ∧ (A = none → cap = 0) ∧ n ≤ cap ∧ Sees .u8 w' A l ∧ Below w.heap.size w w'
theorem Hands.named {l : List Nat} {n : Nat} {w : World} {e : Ending} {w' : World} (h : Hands l w e w') (hn : l.length = n) : HandsN l n w e w' := by
  subst hn; exact h
def NumRel (l : List Nat) (n : Nat) (v i : Value) : Prop := ∃ k : Nat, k ≤ n ∧ i = .int .i64 (k : Int) ∧ v = .int .u64 (numN (l.take k) : Int)

end Go.Proofs.YtpdfakjopeldmaaDoor

/-
  Bytes as a string; the contract of bytes.Clone.
-/
namespace Go.Proofs.YtpdfakjopeldmaaDoor
open Go.RowKit

def strN (l : List Nat) : ByteArray := strOfNums (l.map fun x : Nat => (x : Int))

theorem run_convert_none0 (P : Program) (w : World) (src dst e : TypeId) (hs : P.underlying src = some (.slice e)) (he : P.underlying e = some (.int .u8)) (hd : P.underlying dst = some .string) (A : Option Addr) (c : Nat) :
    (convert src dst (.slice A 0 c)).run P w = .ok (.string ByteArray.empty) w := by
  rw [run_convert_bytes_string w src dst e _ 0 c hs he hd]
  cases A <;> simp [Conv.bytesToString, loadCells, loadCellsFrom]

theorem sees_convert {w : World} {A : Option Addr} {l : List Nat} {n : Nat} (hS : Sees .u8 w A l) (hn : l.length = n) (c : Nat) :
    (convert 108 9 (.slice A n c)).run Tryd.prog w = .ok (.string (strN l)) w := by
  cases l with
  | nil =>
    simp at hn
    subst hn
    exact run_convert_none0 _ w _ _ 5 Tryd.underlying108 Tryd.underlying5 Tryd.underlying9 A c
  | cons x l =>
    obtain ⟨b, o, rfl, _, _⟩ := hS 0 x rfl
    refine run_convert_bytes_arg w 108 5 Tryd.underlying108 Tryd.underlying5 b o n c _ (by simpa using hn) ?_ 9 Tryd.underlying9
    intro i hi
    have hi' : i < (x :: l).length := by omega
    obtain ⟨b', o', he, _, hc⟩ := hS i _ (List.getElem?_eq_getElem hi')
    injection he with he
    injection he with h1 h2
    subst h1; subst h2
    rw [hc, List.getD_eq_getElem?_getD, List.getElem?_map, List.getElem?_eq_getElem hi']
    rfl

/-- A slice that starts at a cell, or is empty: as an argument comes. -/
theorem sees_some {w : World} {a : Addr} {l : List Nat} (h : Sees .u8 w (some a) l) : l = [] ∨ ∃ b o, a = ⟨b, o, none⟩ := by
  cases l with
  | nil => exact .inl rfl
  | cons x l =>
    obtain ⟨b, o, he, _⟩ := h 0 x rfl
    injection he with he
    exact .inr ⟨b, o, he⟩
end Go.Proofs.YtpdfakjopeldmaaDoor

/-
  Contracts of package wire's Out.
-/
namespace Go.Proofs.YtpdfakjopeldmaaDoor
open Go.ChangeShapes Go.WideShapes Go.ChangeAt Go.RowKit
set_option linter.unusedVariables false

/-- An Out at block g, with the bytes l, all of it in blocks of the call's own. -/
def OutAt (w : World) (base g : Nat) (l : List Nat) : Prop :=
  base ≤ g ∧ ∃ v, Blk w g 165 #[v] ∧ w.ownsRow base 5 1 v l.length (l.map fun y : Nat => Value.int .u8 (y : Int))

theorem row_ne {w : World} {base n g : Nat} {T : TypeId} {cs : Array Value} {v : Value} {xs : List Value} (h : w.ownsRow base 5 1 v n xs) (hg : Blk w g T cs) (hne : 5 ≠ T) : v.ownBlock ≠ some g := by
  rcases h.2 with ⟨rfl, _⟩ | ⟨g', cap, cur, rfl, _, hh, _⟩
  · simp [Value.ownBlock]
  · intro he
    have : g' = g := by simpa [Value.ownBlock] using he
    subst this
    unfold Blk at hg
    rw [hh] at hg
    injection hg with hg
    injection hg with _ ht
    exact hne ht

theorem own_below {w w' : World} {base : Nat} {e : TypeId} {v : Value} {n : Nat} {xs : List Value} (h : w.ownsRow base e 1 v n xs) (hb : Below w.heap.size w w') : w'.ownsRow base e 1 v n xs :=
  h.kept (row := none) ⟨hb.os, hb.tape, hb.output, hb.size, fun k hk _ => hb.block k hk⟩ (by cases hv : v.ownBlock <;> simp)
theorem OutAt.later {w w' : World} {base g : Nat} {l : List Nat} (h : OutAt w base g l) (hb : Below w.heap.size w w') : OutAt w' base g l := by
  obtain ⟨h0, v, h1, h2⟩ := h
  exact ⟨h0, v, h1.below hb h1.lt, own_below h2 hb⟩
theorem OutAt.alloc {w : World} {base g : Nat} {l : List Nat} (h : OutAt w base g l) (o : Obj) : OutAt (w.alloc o) base g l := h.later ((Below.refl _ _).alloc (Nat.le_refl _) o)
theorem OutAt.base_le {w : World} {base g : Nat} {l : List Nat} (h : OutAt w base g l) : base ≤ w.heap.size := Nat.le_of_lt (Nat.lt_of_le_of_lt h.1 (by obtain ⟨_, v, h1, _⟩ := h; exact h1.lt))

/-- What a putting does. -/
def Puts (base g : Nat) (l : List Nat) (w : World) (en : Ending) (w' : World) : Prop := en = .returned (.pointer (some ⟨g, 0, none⟩)) ∧ OutAt w' base g l ∧ Below base w w'

theorem put_step {w w1 : World} {base g : Nat} {l bs L : List Nat} {v v' : Value} (hL : L = l ++ bs) (hg : base ≤ g) (hb : Blk w g 165 #[v]) (hown : w.ownsRow base 5 1 v l.length (l.map fun y : Nat => Value.int .u8 (y : Int)))
    (hown' : w1.ownsRow base 5 1 v' (l.length + bs.length) ((l.map fun y : Nat => Value.int .u8 (y : Int)) ++ bs.map fun y : Nat => Value.int .u8 (y : Int))) (hgr : w.grownBy w1 v.ownBlock) :
    Puts base g L w (.returned (.pointer (some ⟨g, 0, none⟩))) (w1.setCell ⟨g, 0, none⟩ v') := by
  subst hL
  have hne := row_ne hown hb (by decide)
  have hb1 : Blk w1 g 165 #[v] := hb.grown hgr (fun h => hne h.symm)
  have hne' := row_ne hown' hb1 (by decide)
  have hsz : base ≤ w.heap.size := Nat.le_of_lt (Nat.lt_of_le_of_lt hg hb.lt)
  refine ⟨rfl, ⟨hg, v', hb1.set_ 0 v', ?_⟩, Below.setCell (p := ⟨g, 0, none⟩) ((Below.refl _ _).grown hgr hsz (fun k hk => (hown.lt k hk).1)) hg _⟩
  rw [List.length_append, List.map_append]
  have hr : w1.grownBy (w1.setCell ⟨g, 0, none⟩ v') (some g) := only_setCell (p := ⟨g, 0, none⟩) (World.grownBy.refl _ _) (.inl rfl) _
  exact hown'.kept hr (.inr hne')

theorem sees_one {w : World} {x : Nat} (T : TypeId) : Sees .u8 (w.alloc (.cells #[.int .u8 (x : Int)] T)) (some ⟨w.heap.size, 0, none⟩) [x] := by
  intro j y hj
  match j, hj with
  | 0, hj =>
    simp at hj
    subst hj
    exact ⟨w.heap.size, 0, rfl, by simp, by rw [cell_of_row _ _ _ _ _ _ (heap_alloc_new w _)]; rfl⟩

def truthN (t : Bool) : Nat := if t then 1 else 0

/-- A string's bytes. -/
def bytesOfS (s : ByteArray) : List Nat := s.data.toList.map UInt8.toNat
theorem bytesOfS_len (s : ByteArray) : (bytesOfS s).length = s.size := by simp [bytesOfS]
theorem bytesOfS_byte (s : ByteArray) : ∀ x ∈ bytesOfS s, x < 256 := by
  intro x hx
  obtain ⟨b, _, rfl⟩ := List.mem_map.1 hx
  exact b.toNat_lt
theorem strN_bytesOfS (s : ByteArray) : strN (bytesOfS s) = s := by
  apply ByteArray.ext
  apply Array.toList_inj.1
  simp only [strN, strOfNums_data, bytesOfS, List.map_map]
  conv => rhs; rw [← List.map_id s.data.toList]
  apply List.map_congr_left
  intro x hx
  simp

theorem sees_bytes (w : World) (s : ByteArray) (c : Nat) (T : TypeId) (fz : Nat × Nat) : Sees .u8 (w.drew.alloc (.cells (bytesRow s c) T fz)) (some ⟨w.heap.size, 0, none⟩) (bytesOfS s) := by
  intro j x hj
  have hl : j < s.size := by have := (List.getElem?_eq_some_iff.1 hj).1; rw [bytesOfS_len] at this; exact this
  have hh : (w.drew.alloc (.cells (bytesRow s c) T fz)).heap[w.heap.size]? = some (.cells (bytesRow s c) T fz) := by
    have := heap_alloc_new w.drew (.cells (bytesRow s c) T fz)
    exact this
  refine ⟨w.heap.size, 0, rfl, (Array.getElem?_eq_some_iff.1 hh).1, ?_⟩
  rw [cell_of_row _ _ _ _ _ _ hh, Nat.zero_add]
  have hd : j < s.data.size := hl
  unfold bytesRow
  rw [Array.getElem?_append_left (by simpa using hd)]
  simp only [bytesOfS, List.getElem?_map, Array.getElem?_toList] at hj
  simp only [Array.getElem?_map, Array.getElem?_eq_getElem hd, Option.map_some] at hj ⊢
  injection hj with hj
  rw [← hj]

/-- The zero Out, in a block that has just been made. -/
theorem out_new (w : World) : OutAt (w.alloc (.cells #[.slice none 0 0] 165)) w.heap.size w.heap.size [] :=
  ⟨Nat.le_refl _, _, Blk.new _ _ _, World.ownsRow_nil _ _ _ _⟩

/-- The document's example. -/
def four : List Nat := [1, 2, 97, 98]

end Go.Proofs.YtpdfakjopeldmaaDoor

/-
  Contracts of package wire's Out once more: besides, a block of another type than bytes, but the Out's own, stays as it is.
-/
namespace Go.Proofs.YtpdfakjopeldmaaDoor
open Go.ChangeShapes Go.WideShapes Go.ChangeAt Go.RowKit
set_option linter.unusedVariables false

/-- Blocks of other types than bytes stay, but the one at g. -/
def Stays (g : Nat) (w w' : World) : Prop := w.heap.size ≤ w'.heap.size ∧ ∀ k T cs, k ≠ g → 5 ≠ T → Blk w k T cs → Blk w' k T cs
theorem Stays.of_below {g : Nat} {w w' : World} (h : Below w.heap.size w w') : Stays g w w' := ⟨h.size, fun _ _ _ _ _ hb => hb.below h hb.lt⟩
theorem Stays.trans {g : Nat} {a b c : World} (h : Stays g a b) (k : Stays g b c) : Stays g a c := ⟨Nat.le_trans h.1 k.1, fun i T cs hi hT hb => k.2 i T cs hi hT (h.2 i T cs hi hT hb)⟩
theorem Stays.drew {g : Nat} {a b : World} (h : Stays g a.drew b) : Stays g a b := h
theorem Stays.refl (g : Nat) (w : World) : Stays g w w := ⟨Nat.le_refl _, fun _ _ _ _ _ h => h⟩
def PutsK (base g : Nat) (l : List Nat) (w : World) (en : Ending) (w' : World) : Prop := Puts base g l w en w' ∧ Stays g w w'

theorem put_stays {w w1 : World} {base g n : Nat} {v v' : Value} {xs : List Value} (hown : w.ownsRow base 5 1 v n xs) (hgr : w.grownBy w1 v.ownBlock) : Stays g w (w1.setCell ⟨g, 0, none⟩ v') :=
  ⟨Nat.le_trans hgr.size (by simp), fun k T cs hk hT hb => (hb.grown hgr (fun e => row_ne hown hb hT e.symm)).far hk _⟩

end Go.Proofs.YtpdfakjopeldmaaDoor
