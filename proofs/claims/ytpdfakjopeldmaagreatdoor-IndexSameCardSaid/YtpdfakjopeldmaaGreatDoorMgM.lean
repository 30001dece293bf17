/-
  Names and ballots as numbers (package mark): what each of their parts tells. No program.
-/
import Derived.Test.YtpdfakjopeldmaaGreatDoorFrame
import Derived.Test.YtpdfakjopeldmaaGreatDoorRows
import Derived.IntWalk
import Derived.Laws.BitsAllLaws
import Derived.Test.YtpdfakjopeldmaaGreatDoorHeld
import Derived.Laws.StructEq
import Derived.ChangeKeysEq
namespace Go.Proofs.YtpdfakjopeldmaaGreatDoor

/-- Is it a replica's number? -/
def repB (r : Int) : Bool := decide (0 ≤ r ∧ r ≤ 6)
/-- Is it a right name? -/
def nameB (r s : Int) : Bool := decide (0 ≤ r ∧ r ≤ 6 ∧ 0 ≤ s ∧ s ≤ 1023)
/-- Are they a ballot's round and replica? -/
def partsB (n r : Int) : Bool := decide ((n = 0 ∧ r = 0) ∨ (0 < n ∧ n ≤ 16777215 ∧ 0 ≤ r ∧ r ≤ 6))
/-- Is it a ballot? -/
def ballotB (b : Nat) : Bool := decide (b = 0 ∨ (8 ≤ b ∧ b / 8 ≤ 16777215 ∧ b % 8 < 7))

theorem parts_ballot (b : Nat) : partsB ((b / 8 : Nat) : Int) ((b % 8 : Nat) : Int) = ballotB b := by
  unfold partsB ballotB
  rw [decide_eq_decide]
  omega
theorem ballot_parts {n r : Int} (h : partsB n r = true) : ballotB (n.toNat * 8 + r.toNat) = true ∧ n.toNat * 8 + r.toNat < 4294967296 ∧ ((n.toNat : Nat) : Int) = n ∧ ((r.toNat : Nat) : Int) = r ∧ r.toNat < 8 := by
  unfold partsB at h
  unfold ballotB
  simp only [decide_eq_true_eq] at *
  omega

/-- The next ballot of a replica, and the error. -/
def nextN (b : Nat) (r : Int) : Nat × Nat := if repB r then (if b / 8 < 16777215 then ((b / 8 + 1) * 8 + r.toNat, 0) else (0, 60)) else (0, 12)

theorem next_cases (b : Nat) (r : Int) :
    (repB r = false ∧ nextN b r = (0, 12)) ∨ (repB r = true ∧ 16777215 ≤ b / 8 ∧ nextN b r = (0, 60)) ∨
    (∃ k : Nat, r = k ∧ k < 7 ∧ repB r = true ∧ b / 8 < 16777215 ∧ nextN b r = ((b / 8 + 1) * 8 + k, 0)) := by
  unfold nextN
  cases h : repB r
  · exact .inl ⟨rfl, rfl⟩
  · by_cases h2 : b / 8 < 16777215
    · refine .inr (.inr ?_)
      have h3 := h
      unfold repB at h3
      simp only [decide_eq_true_eq] at h3
      exact ⟨r.toNat, by omega, by omega, rfl, h2, by rw [if_pos rfl, if_pos h2]⟩
    · exact .inr (.inl ⟨rfl, by omega, by rw [if_pos rfl, if_neg h2]⟩)

/-- Two replicas' next ballots are the same just if they are. -/
theorem next_inj {b : Nat} {r q : Int} {n m : Nat} (h1 : nextN b r = (n, 0)) (h2 : nextN b q = (m, 0)) : decide (m = n) = decide (q = r) := by
  unfold nextN repB at h1 h2
  rw [decide_eq_decide]
  split at h1 <;> rename_i c1 <;> simp only [decide_eq_true_eq] at c1
  · split at h1
    · split at h2 <;> rename_i c2 <;> simp only [decide_eq_true_eq] at c2
      · simp only [Prod.mk.injEq] at h1 h2
        omega
      · simp at h2
    · simp at h1
  · simp at h1

theorem next_ok {b : Nat} {r : Int} {n : Nat} (h : nextN b r = (n, 0)) : b < n ∧ ballotB n = true ∧ ((n % 8 : Nat) : Int) = r ∧ n < 134217728 := by
  unfold nextN repB at h
  split at h <;> rename_i c1 <;> simp only [decide_eq_true_eq] at c1
  · split at h
    · simp only [Prod.mk.injEq] at h
      obtain ⟨h, _⟩ := h
      unfold ballotB
      rw [decide_eq_true_eq]
      omega
    · simp at h
  · simp at h

end Go.Proofs.YtpdfakjopeldmaaGreatDoor

/-
  Contracts of ballots (package mark) that touch no memory.
-/
namespace Go.Proofs.YtpdfakjopeldmaaGreatDoor
open Go.ChangeShapes Go.WideShapes Go.ChangeAt Go.RowKit

set_option maxHeartbeats 400000 in
theorem isreplica_any (r : Int) (w : World) :
    Calls Tryz.prog 63 #[.int .i64 r] w fun e w' => e = .returned (.bool (repB r)) ∧ w = w' := by
  go_enter Tryz.func63, Tryz.ntmps63
  go_wp2
  all_goals go_ret
  all_goals exact ⟨ret_bool (by unfold repB; rw [Bool.eq_iff_iff]; simp; try omega), rfl⟩

theorem join_bits (n k : Nat) (hn : n ≤ 16777215) (hk : k < 8) : bits BinOp.or IntKind.u32 ((n : Int) * 8) (k : Int) = ((n * 8 + k : Nat) : Int) := by
  have h := Nat.two_pow_add_eq_or_of_lt (i := 3) (b := k) (by omega) n
  rw [show 2 ^ 3 * n = n * 8 by omega] at h
  rw [h, ← u32_or_nat (n * 8) k (by omega) (by omega)]
  rfl

theorem repB_ok {k : Nat} (h : k < 7) : repB (k : Int) = true := by unfold repB; rw [decide_eq_true_eq]; omega
theorem repB_no {r : Int} (h : repB r = false) : r < 0 ∨ 6 < r := by unfold repB at h; simp only [decide_eq_false_iff_not] at h; omega

theorem u32_in {n : Int} (h : (Lit.int .u32 n).wf = true) : ∃ k : Nat, n = k ∧ k < 4294967296 := by
  have h1 : IntKind.u32.min = 0 := rfl
  have h2 : IntKind.u32.max = 4294967295 := rfl
  simp only [Lit.wf, Bool.and_eq_true, decide_eq_true_eq] at h
  exact ⟨n.toNat, by omega, by omega⟩

theorem nextN_02 : nextN 0 2 = (10, 0) := by decide
theorem nextN_100 : nextN 10 0 = (16, 0) := by decide

end Go.Proofs.YtpdfakjopeldmaaGreatDoor

/-
  Contracts of names of instances (package mark): Right, Word, OfWord, Compare, and the document's Right.
-/
namespace Go.Proofs.YtpdfakjopeldmaaGreatDoor
open Go.ChangeShapes Go.WideShapes Go.ChangeAt Go.RowKit

/-- A name, by value. -/
abbrev nm (r s : Int) : Value := .agg #[.int .i64 r, .int .i64 s]

theorem blkn {w : World} {g : Nat} {T : TypeId} {a b : Value} (h : Blk w g T #[a, b]) : (w.cell? ⟨g, 0, none⟩ = some a ∧ w.cell? ⟨g, 1, none⟩ = some b) ∧ w.frozen? ⟨g, 0, none⟩ = false ∧ w.frozen? ⟨g, 1, none⟩ = false :=
  ⟨⟨(h.cell 0).trans rfl, (h.cell 1).trans rfl⟩, h.frozen 0, h.frozen 1⟩

set_option maxRecDepth 100000 in
set_option maxHeartbeats 400000 in
theorem nrefright_any (r s : Int) (w : World) :
    Calls Tryz.prog 44 #[nm r s] w fun e w' => e = .returned (.bool (nameB r s)) ∧ Below w.heap.size w w' := by
  go_enter Tryz.func44, Tryz.ntmps44
  go_wp2
  all_goals go_ret
  all_goals exact ⟨ret_bool (by unfold nameB; rw [Bool.eq_iff_iff]; simp; try omega), (Below.refl _ _).alloc (Nat.le_refl _) _⟩

set_option maxRecDepth 100000 in
set_option maxHeartbeats 400000 in
theorem nright_any (r s : Int) (w : World) :
    Calls Tryz.prog 40 #[nm r s] w fun e w' => e = .returned (.bool (nameB r s)) ∧ Below w.heap.size w w' := by
  obtain ⟨x, hx⟩ : ∃ x, repB r = x := ⟨_, rfl⟩
  have HX := hid hx
  clear hx
  cases x
  all_goals
    go_enter Tryz.func40, Tryz.ntmps40
    go_wp2_with (go_at_call 63; refine (isreplica_any _ _).mono ?_; rintro e w' ⟨rfl, rfl⟩; rw [HX.out])
    all_goals go_ret
    all_goals exact ⟨ret_bool (by have h := HX.out; unfold repB at h; simp only [decide_eq_true_eq, decide_eq_false_iff_not] at h; unfold nameB; rw [Bool.eq_iff_iff]; simp; try omega), (Below.refl _ _).alloc (Nat.le_refl _) _⟩

/-- Two names, compared. -/
theorem eq_name (r s r2 s2 : Int) (b : Bool) (hb : (r == r2 && s == s2) = b) (w : World) :
    (Op.equalIn 10000 29 (.agg #[.int .i64 r, .int .i64 s]) (.agg #[.int .i64 r2, .int .i64 s2])).run Tryz.prog w = .ok b w := by
  have ht : Tryz.prog.underlying 29 = some (.struct (Tryz.prog.fieldsOf 29)) := by kernel_rfl
  have hp : Tryz.prog.stoodInHeld 29 = false := by kernel_rfl
  rw [run_equalIn_struct w 9999 _ _ _ ht hp]
  have p1 := run_part_plain (P := Tryz.prog) (w := w) (e := 3) (by kernel_rfl) (xs := #[.int .i64 r, .int .i64 s]) (off := 0) rfl
  have p2 := run_part_plain (P := Tryz.prog) (w := w) (e := 3) (by kernel_rfl) (xs := #[.int .i64 r, .int .i64 s]) (off := 1) rfl
  have p3 := run_part_plain (P := Tryz.prog) (w := w) (e := 3) (by kernel_rfl) (xs := #[.int .i64 r2, .int .i64 s2]) (off := 0) rfl
  have p4 := run_part_plain (P := Tryz.prog) (w := w) (e := 3) (by kernel_rfl) (xs := #[.int .i64 r2, .int .i64 s2]) (off := 1) rfl
  have q1 := run_equalIn_int (P := Tryz.prog) w 9998 3 .i64 .i64 r r2 Tryz.underlying3
  have q2 := run_equalIn_int (P := Tryz.prog) w 9998 3 .i64 .i64 s s2 Tryz.underlying3
  subst hb
  cases h : (r == r2) <;> simp [Program.fieldsOf, Tryz.underlying29, Op.eqFields, p1, p2, p3, p4, q1, q2, h, Sem.run_bind, Sem.run_ite, Result.andThen_ok]
  by_cases h2 : s = s2 <;> simp [h2]

theorem nm_guard : Tryz.prog.eqGuardType Tryz.prog.depth 29 = false := by kernel_rfl

/-- A right name's word; 0 of others. -/
def wordN (r s : Int) : Nat := if nameB r s then r.toNat * 4294967296 + s.toNat else 0

theorem name_in {r s : Int} (h : nameB r s = true) : ∃ a b : Nat, r = a ∧ s = b ∧ a < 7 ∧ b < 1024 ∧ wordN r s = a * 4294967296 + b := by
  have h2 := h
  unfold nameB at h2
  rw [decide_eq_true_eq] at h2
  refine ⟨r.toNat, s.toNat, by omega, by omega, by omega, by omega, ?_⟩
  unfold wordN; rw [if_pos h]

theorem word_bits (a b : Nat) (ha : a < 7) (hb : b < 1024) : bits BinOp.or IntKind.u64 ((a : Int) * 4294967296) (b : Int) = ((a * 4294967296 + b : Nat) : Int) := by
  have h := Nat.two_pow_add_eq_or_of_lt (i := 32) (b := b) (by omega) a
  rw [show 2 ^ 32 * a = a * 4294967296 by omega] at h
  rw [h, ← u64_or_nat (a * 4294967296) b (by omega) (by omega)]
  rfl

/-- The name of two numbers, and the error. -/
def ofN (a b : Int) : (Int × Int) × Nat := if nameB a b then ((a, b), 0) else ((0, 0), 12)

/-- The order of two numbers, and of two names. -/
def cmpN (a b : Int) : Int := if a < b then -1 else if b < a then 1 else 0
def cmpNm (r s r2 s2 : Int) : Int := if cmpN r r2 ≠ 0 then cmpN r r2 else cmpN s s2

theorem cmp_lt {a b : Int} (h : a < b) : cmpN a b = -1 := by unfold cmpN; rw [if_pos h]
theorem cmp_gt {a b : Int} (h : b < a) : cmpN a b = 1 := by unfold cmpN; rw [if_neg (by omega), if_pos h]
theorem cmp_eq (a : Int) : cmpN a a = 0 := by unfold cmpN; rw [if_neg (by omega), if_neg (by omega)]

/-- What a right name's word tells. -/
theorem word_split {r s : Int} (h : nameB r s = true) : ((wordN r s : Nat) : Int) = r * 4294967296 + s ∧ wordN r s < 18446744073709551616 ∧ ((wordN r s / 4294967296 : Nat) : Int) = r ∧ ((wordN r s % 4294967296 : Nat) : Int) = s := by
  obtain ⟨a, b, rfl, rfl, ha, hb, hv⟩ := name_in h
  rw [hv]
  refine ⟨by omega, by omega, by omega, by omega⟩
/-- What a number of 64 bits names, if it names one. -/
theorem of_word (v : Nat) : (∃ q t : Int, nameB q t = true ∧ wordN q t = v ∧ ofN ((v / 4294967296 : Nat) : Int) ((v % 4294967296 : Nat) : Int) = ((q, t), 0)) ∨
    ((7 ≤ (v : Int) / 4294967296 ∨ 1024 ≤ (v : Int) % 4294967296) ∧ ofN ((v / 4294967296 : Nat) : Int) ((v % 4294967296 : Nat) : Int) = ((0, 0), 12)) := by
  cases h : nameB ((v / 4294967296 : Nat) : Int) ((v % 4294967296 : Nat) : Int)
  · right
    refine ⟨?_, by unfold ofN; rw [h]; rfl⟩
    unfold nameB at h
    rw [decide_eq_false_iff_not] at h
    omega
  · left
    refine ⟨_, _, h, ?_, by unfold ofN; rw [if_pos h]⟩
    unfold wordN
    rw [if_pos h]
    omega

/-- Two names in two blocks, one behind the other. -/
def Both (w : World) (g : Nat) (r s r2 s2 : Int) : Prop := Blk w g 29 #[.int .i64 r, .int .i64 s] ∧ Blk w (g + 1) 29 #[.int .i64 r2, .int .i64 s2]
theorem Both.start (w : World) (r s r2 s2 : Int) : Both ((w.alloc (.cells #[.int .i64 r, .int .i64 s] 29)).alloc (.cells #[.int .i64 r2, .int .i64 s2] 29)) w.heap.size r s r2 s2 := by
  have h := Blk.new (w.alloc (.cells #[.int .i64 r, .int .i64 s] 29)) 29 #[.int .i64 r2, .int .i64 s2]
  rw [show (w.alloc (.cells #[.int .i64 r, .int .i64 s] 29)).heap.size = w.heap.size + 1 by simp] at h
  exact ⟨(Blk.new w 29 _).alloc _, h⟩
theorem Both.on {w w1 : World} {g : Nat} {r s r2 s2 : Int} (h : Both w g r s r2 s2) (hb : Below w.heap.size w w1) : Both w1 g r s r2 s2 := ⟨h.1.below hb h.1.lt, h.2.below hb h.2.lt⟩
theorem Both.drew {w : World} {g : Nat} {r s r2 s2 : Int} (h : Both w g r s r2 s2) : Both w.drew g r s r2 s2 := ⟨h.1.drew, h.2.drew⟩
theorem Both.cells {w : World} {g : Nat} {r s r2 s2 : Int} (h : Both w g r s r2 s2) : w.cell? ⟨g, 0, none⟩ = some (.int .i64 r) ∧ w.cell? ⟨g, 1, none⟩ = some (.int .i64 s) ∧ w.cell? ⟨g + 1, 0, none⟩ = some (.int .i64 r2) ∧ w.cell? ⟨g + 1, 1, none⟩ = some (.int .i64 s2) :=
  ⟨(h.1.cell 0).trans rfl, (h.1.cell 1).trans rfl, (h.2.cell 0).trans rfl, (h.2.cell 1).trans rfl⟩

/-- A name that is made, and stored: the world behind that by another name. -/
theorem made2 {w0 w W : World} {g : Nat} {r s r1 s1 r2 s2 : Int} (hW : w.alloc (.cells #[.int .i64 r, .int .i64 s] 29) = W) (hk : Both w g r1 s1 r2 s2) (hb : Below w0.heap.size w0 w) :
    Hid (Blk W w.heap.size 29 #[.int .i64 r, .int .i64 s]) ∧ Hid (Both W g r1 s1 r2 s2) ∧ Hid (Below w0.heap.size w0 W) := by
  subst hW
  have h : Below w.heap.size w (w.alloc (.cells #[.int .i64 r, .int .i64 s] 29)) := (Below.refl _ _).alloc (Nat.le_refl _) _
  exact ⟨hid (Blk.new w 29 _), hid (hk.on h), hid (below_on hb h)⟩

end Go.Proofs.YtpdfakjopeldmaaGreatDoor
