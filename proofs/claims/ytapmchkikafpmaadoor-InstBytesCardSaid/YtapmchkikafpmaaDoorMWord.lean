/-
  Contracts of names of instances (package mark): Right, Word, OfWord, Compare, and the document's Right.
-/
import Derived.Test.YtapmchkikafpmaaDoorMBallot
import Derived.Test.YtapmchkikafpmaaDoorHeld
import Derived.Laws.StructEq
import Derived.ChangeKeysEq
namespace Go.Proofs.YtapmchkikafpmaaDoor
open Go.ChangeShapes Go.WideShapes Go.ChangeAt Go.RowKit

/-- A name, by value. -/
abbrev nm (r s : Int) : Value := .agg #[.int .i64 r, .int .i64 s]

theorem blkn {w : World} {g : Nat} {T : TypeId} {a b : Value} (h : Blk w g T #[a, b]) : (w.cell? ⟨g, 0, none⟩ = some a ∧ w.cell? ⟨g, 1, none⟩ = some b) ∧ w.frozen? ⟨g, 0, none⟩ = false ∧ w.frozen? ⟨g, 1, none⟩ = false :=
  ⟨⟨(h.cell 0).trans rfl, (h.cell 1).trans rfl⟩, h.frozen 0, h.frozen 1⟩

set_option maxRecDepth 100000 in
set_option maxHeartbeats 400000 in
theorem nrefright_any (r s : Int) (w : World) :
    Calls Tryd.prog 18 #[nm r s] w fun e w' => e = .returned (.bool (nameB r s)) ∧ Below w.heap.size w w' := by
  go_enter Tryd.func18, Tryd.ntmps18
  go_wp2
  all_goals go_ret
  all_goals exact ⟨ret_bool (by unfold nameB; rw [Bool.eq_iff_iff]; simp; try omega), (Below.refl _ _).alloc (Nat.le_refl _) _⟩

set_option maxRecDepth 100000 in
set_option maxHeartbeats 400000 in
theorem nright_any (r s : Int) (w : World) :
    Calls Tryd.prog 35 #[nm r s] w fun e w' => e = .returned (.bool (nameB r s)) ∧ Below w.heap.size w w' := by
  obtain ⟨x, hx⟩ : ∃ x, repB r = x := ⟨_, rfl⟩
  have HX := hid hx
  clear hx
  cases x
  all_goals
    go_enter Tryd.func35, Tryd.ntmps35
    go_wp2_with (go_at_call 47; refine (isreplica_any _ _).mono ?_; rintro e w' ⟨rfl, rfl⟩; rw [HX.out])
    all_goals go_ret
    all_goals exact ⟨ret_bool (by have h := HX.out; unfold repB at h; simp only [decide_eq_true_eq, decide_eq_false_iff_not] at h; unfold nameB; rw [Bool.eq_iff_iff]; simp; try omega), (Below.refl _ _).alloc (Nat.le_refl _) _⟩

/-- Two names, compared. -/
theorem eq_name (r s r2 s2 : Int) (b : Bool) (hb : (r == r2 && s == s2) = b) (w : World) :
    (Op.equalIn 10000 23 (.agg #[.int .i64 r, .int .i64 s]) (.agg #[.int .i64 r2, .int .i64 s2])).run Tryd.prog w = .ok b w := by
  have ht : Tryd.prog.underlying 23 = some (.struct (Tryd.prog.fieldsOf 23)) := by kernel_rfl
  have hp : Tryd.prog.stoodInHeld 23 = false := by kernel_rfl
  rw [run_equalIn_struct w 9999 _ _ _ ht hp]
  have p1 := run_part_plain (P := Tryd.prog) (w := w) (e := 3) (by kernel_rfl) (xs := #[.int .i64 r, .int .i64 s]) (off := 0) rfl
  have p2 := run_part_plain (P := Tryd.prog) (w := w) (e := 3) (by kernel_rfl) (xs := #[.int .i64 r, .int .i64 s]) (off := 1) rfl
  have p3 := run_part_plain (P := Tryd.prog) (w := w) (e := 3) (by kernel_rfl) (xs := #[.int .i64 r2, .int .i64 s2]) (off := 0) rfl
  have p4 := run_part_plain (P := Tryd.prog) (w := w) (e := 3) (by kernel_rfl) (xs := #[.int .i64 r2, .int .i64 s2]) (off := 1) rfl
  have q1 := run_equalIn_int (P := Tryd.prog) w 9998 3 .i64 .i64 r r2 Tryd.underlying3
  have q2 := run_equalIn_int (P := Tryd.prog) w 9998 3 .i64 .i64 s s2 Tryd.underlying3
  subst hb
  cases h : (r == r2) <;> simp [Program.fieldsOf, Tryd.underlying23, Op.eqFields, p1, p2, p3, p4, q1, q2, h, Sem.run_bind, Sem.run_ite, Result.andThen_ok]
  by_cases h2 : s = s2 <;> simp [h2]

theorem nm_guard : Tryd.prog.eqGuardType Tryd.prog.depth 23 = false := by kernel_rfl

/-- A right name's word; 0 of others. -/
def wordN (r s : Int) : Nat := if nameB r s then r.toNat * 4294967296 + s.toNat else 0

theorem name_in {r s : Int} (h : nameB r s = true) : ∃ a b : Nat, r = a ∧ s = b ∧ a < 7 ∧ b < 1024 ∧ wordN r s = a * 4294967296 + b := by
  have h2 := h
  unfold nameB at h2
  rw [decide_eq_true_eq] at h2
  refine ⟨r.toNat, s.toNat, by omega, by omega, by omega, by omega, ?_⟩
  unfold wordN; rw [if_pos h]

theorem word_bits (a b : Nat) (ha : a < 7) (hb : b < 1024) : bits BinOp.or IntKind.u64 ((a : Int) * 4294967296) (b : Int) = ((a * 4294967296 + b : Nat) : Int) := by
  have h := Nat.two_pow_add_eq_or_of_lt (i := 32) (b := b) (by omega) a
  rw [show 2 ^ 32 * a = a * 4294967296 by omega] at h
  rw [h, ← u64_or_nat (a * 4294967296) b (by omega) (by omega)]
  rfl

/-- The name of two numbers, and the error. -/
def ofN (a b : Int) : (Int × Int) × Nat := if nameB a b then ((a, b), 0) else ((0, 0), 12)

/-- The order of two numbers, and of two names. -/
def cmpN (a b : Int) : Int := if a < b then -1 else if b < a then 1 else 0
def cmpNm (r s r2 s2 : Int) : Int := if cmpN r r2 ≠ 0 then cmpN r r2 else cmpN s s2

theorem cmp_lt {a b : Int} (h : a < b) : cmpN a b = -1 := by unfold cmpN; rw [if_pos h]
theorem cmp_gt {a b : Int} (h : b < a) : cmpN a b = 1 := by unfold cmpN; rw [if_neg (by omega), if_pos h]
theorem cmp_eq (a : Int) : cmpN a a = 0 := by unfold cmpN; rw [if_neg (by omega), if_neg (by omega)]

/-- What a right name's word tells. -/
theorem word_split {r s : Int} (h : nameB r s = true) : ((wordN r s : Nat) : Int) = r * 4294967296 + s ∧ wordN r s < 18446744073709551616 ∧ ((wordN r s / 4294967296 : Nat) : Int) = r ∧ ((wordN r s % 4294967296 : Nat) : Int) = s := by
  obtain ⟨a, b, rfl, rfl, ha, hb, hv⟩ := name_in h
  rw [hv]
  refine ⟨by omega, by omega, by omega, by omega⟩
/-- What a number of 64 bits names, if it names one. -/
theorem of_word (v : Nat) : (∃ q t : Int, nameB q t = true ∧ wordN q t = v ∧ ofN ((v / 4294967296 : Nat) : Int) ((v % 4294967296 : Nat) : Int) = ((q, t), 0)) ∨
    ((7 ≤ (v : Int) / 4294967296 ∨ 1024 ≤ (v : Int) % 4294967296) ∧ ofN ((v / 4294967296 : Nat) : Int) ((v % 4294967296 : Nat) : Int) = ((0, 0), 12)) := by
  cases h : nameB ((v / 4294967296 : Nat) : Int) ((v % 4294967296 : Nat) : Int)
  · right
    refine ⟨?_, by unfold ofN; rw [h]; rfl⟩
    unfold nameB at h
    rw [decide_eq_false_iff_not] at h
    omega
  · left
    refine ⟨_, _, h, ?_, by unfold ofN; rw [if_pos h]⟩
    unfold wordN
    rw [if_pos h]
    omega

/-- Two names in two blocks, one behind the other. -/
def Both (w : World) (g : Nat) (r s r2 s2 : Int) : Prop := Blk w g 23 #[.int .i64 r, .int .i64 s] ∧ Blk w (g + 1) 23 #[.int .i64 r2, .int .i64 s2]
theorem Both.start (w : World) (r s r2 s2 : Int) : Both ((w.alloc (.cells #[.int .i64 r, .int .i64 s] 23)).alloc (.cells #[.int .i64 r2, .int .i64 s2] 23)) w.heap.size r s r2 s2 := by
  have h := Blk.new (w.alloc (.cells #[.int .i64 r, .int .i64 s] 23)) 23 #[.int .i64 r2, .int .i64 s2]
  rw [show (w.alloc (.cells #[.int .i64 r, .int .i64 s] 23)).heap.size = w.heap.size + 1 by simp] at h
  exact ⟨(Blk.new w 23 _).alloc _, h⟩
theorem Both.on {w w1 : World} {g : Nat} {r s r2 s2 : Int} (h : Both w g r s r2 s2) (hb : Below w.heap.size w w1) : Both w1 g r s r2 s2 := ⟨h.1.below hb h.1.lt, h.2.below hb h.2.lt⟩
theorem Both.drew {w : World} {g : Nat} {r s r2 s2 : Int} (h : Both w g r s r2 s2) : Both w.drew g r s r2 s2 := ⟨h.1.drew, h.2.drew⟩
theorem Both.cells {w : World} {g : Nat} {r s r2 s2 : Int} (h : Both w g r s r2 s2) : w.cell? ⟨g, 0, none⟩ = some (.int .i64 r) ∧ w.cell? ⟨g, 1, none⟩ = some (.int .i64 s) ∧ w.cell? ⟨g + 1, 0, none⟩ = some (.int .i64 r2) ∧ w.cell? ⟨g + 1, 1, none⟩ = some (.int .i64 s2) :=
  ⟨(h.1.cell 0).trans rfl, (h.1.cell 1).trans rfl, (h.2.cell 0).trans rfl, (h.2.cell 1).trans rfl⟩

/-- A name that is made, and stored: the world behind that by another name. -/
theorem made2 {w0 w W : World} {g : Nat} {r s r1 s1 r2 s2 : Int} (hW : w.alloc (.cells #[.int .i64 r, .int .i64 s] 23) = W) (hk : Both w g r1 s1 r2 s2) (hb : Below w0.heap.size w0 w) :
    Hid (Blk W w.heap.size 23 #[.int .i64 r, .int .i64 s]) ∧ Hid (Both W g r1 s1 r2 s2) ∧ Hid (Below w0.heap.size w0 W) := by
  subst hW
  have h : Below w.heap.size w (w.alloc (.cells #[.int .i64 r, .int .i64 s] 23)) := (Below.refl _ _).alloc (Nat.le_refl _) _
  exact ⟨hid (Blk.new w 23 _), hid (hk.on h), hid (below_on hb h)⟩

end Go.Proofs.YtapmchkikafpmaaDoor
