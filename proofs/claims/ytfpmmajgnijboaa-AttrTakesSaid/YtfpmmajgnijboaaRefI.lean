/-
  Contracts of the document's own reader of bytes (moothillref03).
-/
import Derived.Test.YtfpmmajgnijboaaNew
namespace Go.Proofs.Ytfpmmajgnijboaa
open Go.ChangeShapes Go.WideShapes Go.ChangeAt Go.RowKit

/-- What is left of L from the place on, where there is no error. -/
def rem (L : List Nat) (p e : Nat) : List Nat := if e = 0 then L.drop p else []

/-- A reader, by value. -/
abbrev reader (A : Option Addr) (n c : Nat) (p e : Int) : Value := .agg #[.slice A n c, .int .i64 p, .int .i64 e]

theorem bcell {W w1 : World} {B : Nat} (hb : Below B W w1) : (∀ b o, b < B → w1.cell? ⟨b, o, none⟩ = W.cell? ⟨b, o, none⟩) ∧ (∀ b o, b < B → w1.frozen? ⟨b, o, none⟩ = W.frozen? ⟨b, o, none⟩) :=
  ⟨fun b o h => hb.cell (p := ⟨b, o, none⟩) h, fun b o h => hb.frozen (p := ⟨b, o, none⟩) h⟩

/-- What bad makes: the value twice. -/
abbrev twice (w : World) (A : Option Addr) (n c : Nat) (p e : Int) : World :=
  (w.alloc (.cells #[.slice A n c, .int .i64 p, .int .i64 e] 43)).alloc (.cells #[.slice A n c, .int .i64 p, .int .i64 e] 43)

set_option maxRecDepth 100000 in
set_option maxHeartbeats 400000 in
theorem bad_keep (A : Option Addr) (n c : Nat) (p e x : Int) (w : World) (he : e ≠ 0) :
    Calls Try.prog 35 #[reader A n c p e, .int .i64 x] w fun en w' => en = .returned (reader A n c p e) ∧ twice w A n c p e = w' := by
  have he1 : (e == 0) = false := by rw [beq_eq_false_iff_ne]; exact he
  go_enter Try.func35, Try.ntmps35
  go_wp2
  exact bodyPost_ret (v := reader A n c p e) (by simp [results, Try.results35, go_sem]) rfl ⟨rfl, rfl⟩

set_option maxRecDepth 100000 in
set_option maxHeartbeats 400000 in
theorem bad_set (A : Option Addr) (n c : Nat) (p x : Int) (w : World) :
    Calls Try.prog 35 #[reader A n c p 0, .int .i64 x] w fun en w' => en = .returned (reader A n c p x) ∧ twice w A n c p x = w' := by
  go_enter Try.func35, Try.ntmps35
  go_wp2
  exact bodyPost_ret (v := reader A n c p x) (by simp [results, Try.results35, go_sem]) rfl ⟨rfl, rfl⟩

/-- What a taking by the document tells: the reader behind it, and the thing. -/
def Tells2 (A : Option Addr) (n c : Nat) (p e : Int) (v : Value) (w : World) (en : Ending) (w' : World) : Prop :=
  en = .returned (.tuple #[reader A n c p e, v]) ∧ Below w.heap.size w w'

theorem below_two {w w1 : World} {a b : Obj} (h : Below ((w.alloc a).alloc b).heap.size ((w.alloc a).alloc b) w1) : Below w.heap.size w w1 :=
  (((Below.refl _ _).alloc (Nat.le_refl _) _).alloc (by simp) _).trans (h.mono (by simp <;> omega))
theorem blk_two {w w1 : World} {a b : Array Value} {T : TypeId} (h : Below ((w.alloc (.cells a T)).alloc (.cells b T)).heap.size ((w.alloc (.cells a T)).alloc (.cells b T)) w1) :
    Blk w1 w.heap.size T a ∧ Blk w1 (w.heap.size + 1) T b := by
  have h1 := Blk.new (w.alloc (.cells a T)) T b
  have e : (w.alloc (.cells a T)).heap.size = w.heap.size + 1 := by simp
  rw [e] at h1
  exact ⟨((Blk.new w T a).alloc _).below h (by simp <;> omega), h1.below h (by simp)⟩
theorem blk3 {w : World} {g : Nat} {T : TypeId} {a b d : Value} (h : Blk w g T #[a, b, d]) :
    (w.cell? ⟨g, 0, none⟩ = some a ∧ w.cell? ⟨g, 1, none⟩ = some b ∧ w.cell? ⟨g, 2, none⟩ = some d) ∧ w.frozen? ⟨g, 0, none⟩ = false ∧ w.frozen? ⟨g, 1, none⟩ = false ∧ w.frozen? ⟨g, 2, none⟩ = false :=
  ⟨⟨(h.cell 0).trans rfl, (h.cell 1).trans rfl, (h.cell 2).trans rfl⟩, h.frozen 0, h.frozen 1, h.frozen 2⟩

/-- By the document: what is left, the error, the thing are as told. -/
def RefDoes (A : Option Addr) (n : Nat) (L : List Nat) (c : Nat) (l' : List Nat) (e' : Nat) (v : Value) (w : World) (en : Ending) (w' : World) : Prop :=
  ∃ p' : Nat, p' ≤ n ∧ l' = rem L p' e' ∧ Tells2 A n c (p' : Int) (e' : Int) v w en w'

theorem rem_ok {L : List Nat} {p : Nat} : rem L p 0 = L.drop p := rfl
theorem rem_err {L : List Nat} {p e : Nat} (h : e ≠ 0) : rem L p e = [] := by rw [rem, if_neg h]
theorem rem_fine (L : List Nat) (p e : Nat) : Fine (rem L p e) e := fun h => rem_err h
theorem rem_len (L : List Nat) (p e : Nat) : (rem L p e).length ≤ L.length := by
  unfold rem; split
  · rw [List.length_drop]; omega
  · simp
theorem rem_in {L : List Nat} {p e : Nat} : ∀ x ∈ rem L p e, x ∈ L := by
  unfold rem; split
  · intro x hx; exact List.mem_of_mem_drop hx
  · intro x hx; cases hx

theorem refdoes_end {A : Option Addr} {n : Nat} {L : List Nat} {c : Nat} {l' : List Nat} {e' p' : Nat} {v : Value} {w w' : World} (hp : p' ≤ n) (hl : l' = rem L p' e') (hb : Below w.heap.size w w') :
    RefDoes A n L c l' e' v w (.returned (.tuple #[reader A n c (p' : Int) (e' : Int), v])) w' := ⟨p', hp, hl, rfl, hb⟩

/-- Truth behind the byte b, with the error e1. -/
def truthE (e1 b : Nat) : Nat × Bool := if b ≤ 1 then (e1, decide (e1 = 0 ∧ b = 1)) else (10, false)
theorem sTruth_byte {l l1 : List Nat} {e e1 b : Nat} (hf : Fine l e) (h : sByte l e = (l1, e1, b)) : sTruth l e = (if b ≤ 1 then l1 else [], truthE e1 b) ∧ (2 ≤ b → e1 = 0) ∧ (e1 ≠ 0 → b = 0 ∧ l1 = []) := by
  cases l with
  | nil =>
    simp only [sByte, Prod.mk.injEq] at h
    obtain ⟨rfl, rfl, rfl⟩ := h
    have := firstE_pos (e := e) (x := 20) (by omega)
    refine ⟨?_, fun h => by omega, fun _ => ⟨rfl, rfl⟩⟩
    simp [sTruth, truthE]
  | cons x t =>
    obtain rfl := fine_zero hf (by simp)
    simp only [sByte, Prod.mk.injEq] at h
    obtain ⟨rfl, rfl, rfl⟩ := h
    refine ⟨?_, fun _ => rfl, fun h => absurd rfl h⟩
    by_cases hx : x ≤ 1
    · simp [sTruth, truthE, hx]
    · simp [sTruth, truthE, hx]

theorem below_twice (w : World) (A : Option Addr) (n c : Nat) (p e : Int) : Below w.heap.size w (twice w A n c p e) :=
  ((Below.refl _ _).alloc (Nat.le_refl _) _).alloc (by simp) _
theorem bad_to (A : Option Addr) (n c : Nat) (p x : Int) (w : World) :
    Calls Try.prog 35 #[reader A n c p 0, .int .i64 x] w fun en w' => en = .returned (reader A n c p x) ∧ Below w.heap.size w w' :=
  (bad_set A n c p x w).mono fun _ _ ⟨h1, h2⟩ => ⟨h1, h2 ▸ below_twice _ _ _ _ _ _⟩
theorem bad_as (A : Option Addr) (n c : Nat) (p e x : Int) (w : World) (he : e ≠ 0) :
    Calls Try.prog 35 #[reader A n c p e, .int .i64 x] w fun en w' => en = .returned (reader A n c p e) ∧ Below w.heap.size w w' :=
  (bad_keep A n c p e x w he).mono fun _ _ ⟨h1, h2⟩ => ⟨h1, h2 ▸ below_twice _ _ _ _ _ _⟩

/-- Three cells of a block, stored. -/
abbrev put3 (w : World) (g : Nat) (a b d : Value) : World := ((w.setCell ⟨g, 0, none⟩ a).setCell ⟨g, 1, none⟩ b).setCell ⟨g, 2, none⟩ d
theorem Blk.put3 {w : World} {g : Nat} {T : TypeId} {x y z : Value} (h : Blk w g T #[x, y, z]) (a b d : Value) : Blk (put3 w g a b d) g T #[a, b, d] := ((h.set_ 0 a).set_ 1 b).set_ 2 d
theorem Blk.put3_far {w : World} {g k : Nat} {T : TypeId} {cs : Array Value} (h : Blk w k T cs) (hk : k ≠ g) (a b d : Value) : Blk (Go.Proofs.Ytfpmmajgnijboaa.put3 w g a b d) k T cs := ((h.far hk a).far hk b).far hk d
theorem below_put3 {B g : Nat} {w0 w : World} (h : Below B w0 w) (hg : B ≤ g) (a b d : Value) : Below B w0 (put3 w g a b d) :=
  Below.setCell (p := ⟨g, 2, none⟩) (Below.setCell (p := ⟨g, 1, none⟩) (Below.setCell (p := ⟨g, 0, none⟩) h hg a) hg b) hg d
theorem put3_size (w : World) (g : Nat) (a b d : Value) : (put3 w g a b d).heap.size = w.heap.size := by simp [put3]

def EightRel (l : List Nat) (v i : Value) : Prop := ∃ k : Nat, k ≤ 8 ∧ i = .int .i64 (k : Int) ∧ v = .int .u64 (numN (l.take k) : Int)

theorem mul8_walk (m c : Nat) (hm : m < 72057594037927936) (hc : c < 256) : IntKind.u64.wrap (IntKind.u64.wrap ((m : Int) * 256) + (c : Int)) = ((m * 256 + c : Nat) : Int) := by
  rw [IntKind.wrap_u64, IntKind.wrap_u64]
  omega

end Go.Proofs.Ytfpmmajgnijboaa
