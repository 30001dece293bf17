/-
  States of instances (package inst) by value: right ones, what may come behind what. No program in it but a string's bytes.
-/
import Derived.Test.YtapmchkikafpmaaDoorKMath
import Derived.Test.YtapmchkikafpmaaDoorAOwn
import Derived.Test.YtapmchkikafpmaaDoorKEq
import Derived.Test.YtapmchkikafpmaaDoorRows
import Derived.Test.YtapmchkikafpmaaDoorKRight
import Derived.Test.YtapmchkikafpmaaDoorMPut
import Derived.Test.YtapmchkikafpmaaDoorKEnc
namespace Go.Proofs.YtapmchkikafpmaaDoor

/-- A state: its name, status, ballots, same, command, attributes. -/
structure J where
  r : Int
  s : Int
  st : Int
  bal : Int
  vote : Int
  same : Bool
  c : K
  f : Nat → Int

abbrev zeroK : K := ⟨0, 0, ⟨#[]⟩, 0, ⟨#[]⟩, 0, 0, 0⟩
/-- Its ballots are those of Go's types. -/
def okJ (x : J) : Prop := (0 ≤ x.bal ∧ x.bal < 4294967296) ∧ 0 ≤ x.vote ∧ x.vote < 4294967296
def zeroJ : J := ⟨0, 0, 0, 0, 0, false, zeroK, fun _ => 0⟩
/-- Are they the same, field by field? -/
def eqJ (x y : J) : Bool := (x.r == y.r && x.s == y.s) && ((x.st == y.st) && ((x.bal == y.bal) && ((x.vote == y.vote) && ((x.same == y.same) && (decide (x.c = y.c) && eqA x.f y.f)))))
def balB (b : Int) : Bool := ballotB b.toNat
def emptyJ (x : J) : J := ⟨x.r, x.s, 0, x.bal, 0, false, zeroK, fun _ => 0⟩
def newJ (r s : Int) : J := ⟨r, s, 0, 0, 0, false, zeroK, fun _ => 0⟩
def maySame (x : J) : Bool := x.st == 1 && x.vote == 0
def statB (n : Int) : Bool := decide (0 ≤ n ∧ n < 4)
def valB (x : J) : Bool := balB x.vote && decide (x.vote ≤ x.bal) && (!x.same || maySame x) && rightK x.c && ownB x.f x.r x.s
def rightJ (x : J) : Bool := nameB x.r x.s && balB x.bal && (if x.st = 0 then eqJ x (emptyJ x) else statB x.st && valB x)
def alikeJ (x y : J) : Bool := decide (x.c = y.c) && eqA x.f y.f
/-- What comes behind the checks of both. -/
def restJ (x o : J) : Bool := if o.st = 3 then x.st == 3 && alikeJ x o else if x.st = 3 then true else if x.vote = o.vote then (if x.st = o.st then x.same == o.same && alikeJ x o else decide (o.st < x.st)) else decide (o.vote < x.vote)
def followsJ (x o : J) : Bool := rightJ x && rightJ o && (x.r == o.r && x.s == o.s) && decide (o.bal ≤ x.bal) && restJ x o

theorem alike_trans {x y z : J} (h1 : alikeJ y x = true) (h2 : alikeJ z y = true) : alikeJ z x = true := by
  unfold alikeJ at *
  simp only [Bool.and_eq_true, decide_eq_true_eq, eqA_iff] at *
  exact ⟨h2.1.trans h1.1, fun i hi => (h2.2 i hi).trans (h1.2 i hi)⟩

/-- What may come behind what may come behind a state. -/
theorem follows_trans {x y z : J} (h1 : followsJ y x = true) (h2 : followsJ z y = true) : followsJ z x = true ∧ x.bal ≤ z.bal ∧ (x.st = 3 → z.st = 3 ∧ alikeJ z x = true) := by
  unfold followsJ at *
  simp only [Bool.and_eq_true, decide_eq_true_eq, beq_iff_eq] at *
  obtain ⟨⟨⟨⟨ry, rx⟩, n1, n2⟩, b1⟩, r1⟩ := h1
  obtain ⟨⟨⟨⟨rz, _⟩, m1, m2⟩, b2⟩, r2⟩ := h2
  refine ⟨⟨⟨⟨⟨rz, rx⟩, m1.trans n1, m2.trans n2⟩, by omega⟩, ?_⟩, by omega, ?_⟩
  · unfold restJ at *
    by_cases hx : x.st = 3
    · rw [if_pos hx] at r1 ⊢
      simp only [Bool.and_eq_true, beq_iff_eq] at r1 ⊢
      rw [if_pos r1.1] at r2
      simp only [Bool.and_eq_true, beq_iff_eq] at r2
      exact ⟨r2.1, alike_trans r1.2 r2.2⟩
    · rw [if_neg hx] at r1 ⊢
      by_cases hz : z.st = 3
      · rw [if_pos hz]
      · rw [if_neg hz]
        by_cases hy : y.st = 3
        · rw [if_pos hy] at r2
          simp only [Bool.and_eq_true, beq_iff_eq] at r2
          exact absurd r2.1 hz
        · rw [if_neg hy] at r1
          rw [if_neg hy, if_neg hz] at r2
          by_cases v1 : y.vote = x.vote
          · rw [if_pos v1] at r1
            by_cases v2 : z.vote = y.vote
            · rw [if_pos v2] at r2
              rw [if_pos (v2.trans v1)]
              by_cases s1 : y.st = x.st
              · rw [if_pos s1] at r1
                simp only [Bool.and_eq_true, beq_iff_eq] at r1
                by_cases s2 : z.st = y.st
                · rw [if_pos s2] at r2
                  simp only [Bool.and_eq_true, beq_iff_eq] at r2
                  rw [if_pos (s2.trans s1)]
                  simp only [Bool.and_eq_true, beq_iff_eq]
                  exact ⟨r2.1.trans r1.1, alike_trans r1.2 r2.2⟩
                · rw [if_neg s2, decide_eq_true_eq] at r2
                  rw [if_neg (by omega), decide_eq_true_eq]; omega
              · rw [if_neg s1, decide_eq_true_eq] at r1
                by_cases s2 : z.st = y.st
                · rw [if_neg (by omega), decide_eq_true_eq]; omega
                · rw [if_neg s2, decide_eq_true_eq] at r2
                  rw [if_neg (by omega), decide_eq_true_eq]; omega
            · rw [if_neg v2, decide_eq_true_eq] at r2
              rw [if_neg (by omega), decide_eq_true_eq]; omega
          · rw [if_neg v1, decide_eq_true_eq] at r1
            by_cases v2 : z.vote = y.vote
            · rw [if_neg (by omega), decide_eq_true_eq]; omega
            · rw [if_neg v2, decide_eq_true_eq] at r2
              rw [if_neg (by omega), decide_eq_true_eq]; omega
  · intro hx
    unfold restJ at *
    rw [if_pos hx] at r1
    simp only [Bool.and_eq_true, beq_iff_eq] at r1
    rw [if_pos r1.1] at r2
    simp only [Bool.and_eq_true, beq_iff_eq] at r2
    exact ⟨r2.1, alike_trans r1.2 r2.2⟩

end Go.Proofs.YtapmchkikafpmaaDoor

/-
  States, compared: run equations of '==' at both kinds (package inst's, and the document's own).
-/
namespace Go.Proofs.YtapmchkikafpmaaDoor
open Go.ChangeShapes Go.WideShapes Go.ChangeAt Go.RowKit
set_option linter.unusedVariables false
set_option linter.unusedSimpArgs false

/-- Field by field. -/
theorem eqf_cons {P : Program} {d : Nat} {xs ys : Array Value} {f : Field} {fs : List Field} {w : World} {a b : Value} {x y : Bool} (hf : f.name ≠ "_") (h1 : (part f.type xs f.offset).run P w = .ok a w) (h2 : (part f.type ys f.offset).run P w = .ok b w)
    (h3 : (Op.equalIn d f.type a b).run P w = .ok x w) (h4 : (Op.eqFields d xs ys fs).run P w = .ok y w) : (Op.eqFields d xs ys (f :: fs)).run P w = .ok (x && y) w := by
  simp only [Op.eqFields, if_pos hf, Sem.run_bind, h1, h2, h3, Result.andThen_ok]
  cases x
  · simp
  · simpa using h4
theorem eqf_nil {P : Program} {d : Nat} {xs ys : Array Value} {w : World} : (Op.eqFields d xs ys []).run P w = .ok true w := by simp [Op.eqFields]

/-- A state by value. -/
def rowJ (x : J) : Array Value := #[.int .i64 x.r, .int .i64 x.s, .int .i64 x.st, .int .u32 x.bal, .int .u32 x.vote, .bool x.same, .int .i64 x.c.kind, .int .u64 x.c.num, .string x.c.foot, .int .u64 x.c.req, .string x.c.path, .int .i64 x.c.mode, .int .u64 x.c.n, .int .i64 x.c.time, .int .i64 (x.f 0), .int .i64 (x.f 1), .int .i64 (x.f 2), .int .i64 (x.f 3), .int .i64 (x.f 4), .int .i64 (x.f 5), .int .i64 (x.f 6), .int .i64 (x.f 7)]
theorem rowJ_size (x : J) : (rowJ x).size = 22 := rfl

theorem eq_name1 (r s r2 s2 : Int) (b : Bool) (hb : (r == r2 && s == s2) = b) (w : World) :
    (Op.equalIn 9999 23 (.agg #[.int .i64 r, .int .i64 s]) (.agg #[.int .i64 r2, .int .i64 s2])).run Tryd.prog w = .ok b w := by
  have ht : Tryd.prog.underlying 23 = some (.struct (Tryd.prog.fieldsOf 23)) := by kernel_rfl
  have hp : Tryd.prog.stoodInHeld 23 = false := by kernel_rfl
  rw [run_equalIn_struct w 9998 _ _ _ ht hp]
  have p1 := run_part_plain (P := Tryd.prog) (w := w) (e := 3) (by kernel_rfl) (xs := #[.int .i64 r, .int .i64 s]) (off := 0) rfl
  have p2 := run_part_plain (P := Tryd.prog) (w := w) (e := 3) (by kernel_rfl) (xs := #[.int .i64 r, .int .i64 s]) (off := 1) rfl
  have p3 := run_part_plain (P := Tryd.prog) (w := w) (e := 3) (by kernel_rfl) (xs := #[.int .i64 r2, .int .i64 s2]) (off := 0) rfl
  have p4 := run_part_plain (P := Tryd.prog) (w := w) (e := 3) (by kernel_rfl) (xs := #[.int .i64 r2, .int .i64 s2]) (off := 1) rfl
  have q1 := run_equalIn_int (P := Tryd.prog) w 9997 3 .i64 .i64 r r2 Tryd.underlying3
  have q2 := run_equalIn_int (P := Tryd.prog) w 9997 3 .i64 .i64 s s2 Tryd.underlying3
  subst hb
  cases h : (r == r2) <;> simp [Program.fieldsOf, Tryd.underlying23, Op.eqFields, p1, p2, p3, p4, q1, q2, h, Sem.run_bind, Sem.run_ite, Result.andThen_ok]
  by_cases h2 : s = s2 <;> simp [h2]

theorem eq_sess1 (u : Int) (f : ByteArray) (u2 : Int) (f2 : ByteArray) (w : World) :
    (Op.equalIn 9998 28 (.agg #[.int .u64 u, .string f]) (.agg #[.int .u64 u2, .string f2])).run Tryd.prog w = .ok (u == u2 && decide (f = f2)) w := by
  have ht : Tryd.prog.underlying 28 = some (.struct (Tryd.prog.fieldsOf 28)) := by kernel_rfl
  have hp : Tryd.prog.stoodInHeld 28 = false := by kernel_rfl
  rw [run_equalIn_struct w 9997 _ _ _ ht hp]
  have p1 := run_part_plain (P := Tryd.prog) (w := w) (e := 26) (by kernel_rfl) (xs := #[.int .u64 u, .string f]) (off := 0) rfl
  have p2 := run_part_plain (P := Tryd.prog) (w := w) (e := 9) (by kernel_rfl) (xs := #[.int .u64 u, .string f]) (off := 1) rfl
  have p3 := run_part_plain (P := Tryd.prog) (w := w) (e := 26) (by kernel_rfl) (xs := #[.int .u64 u2, .string f2]) (off := 0) rfl
  have p4 := run_part_plain (P := Tryd.prog) (w := w) (e := 9) (by kernel_rfl) (xs := #[.int .u64 u2, .string f2]) (off := 1) rfl
  have q1 := run_equalIn_int (P := Tryd.prog) w 9996 26 .u64 .u64 u u2 Tryd.underlying26
  have q2 := run_equalIn_string (P := Tryd.prog) w 9996 9 f f2 Tryd.underlying9
  rw [bytes_eq] at q2
  cases h : (u == u2) <;> simp [Program.fieldsOf, Tryd.underlying28, Op.eqFields, p1, p2, p3, p4, q1, q2, h, Sem.run_bind, Sem.run_ite, Result.andThen_ok]
  by_cases h2 : f = f2 <;> simp [h2]

set_option maxRecDepth 100000 in
theorem eq_parts1 (k u : Int) (f : ByteArray) (q : Int) (s : ByteArray) (m n t k' u' : Int) (f' : ByteArray) (q' : Int) (s' : ByteArray) (m' n' t' : Int) (w : World) :
    (Op.equalIn 9999 30 (val ⟨k, u, f, q, s, m, n, t⟩) (val ⟨k', u', f', q', s', m', n', t'⟩)).run Tryd.prog w = .ok ((k == k') && ((u == u' && decide (f = f')) && ((q == q') && (decide (s = s') && ((m == m') && ((n == n') && (t == t'))))))) w := by
  have ht : Tryd.prog.underlying 30 = some (.struct (Tryd.prog.fieldsOf 30)) := by kernel_rfl
  have hp : Tryd.prog.stoodInHeld 30 = false := by kernel_rfl
  rw [run_equalIn_struct w 9998 _ _ _ ht hp]
  have s1 := run_part_sess k u f q s m n t w
  have s2 := run_part_sess k' u' f' q' s' m' n' t' w
  have s3 := eq_sess1 u f u' f' w
  have a0 := run_part_plain (P := Tryd.prog) (w := w) (e := 3) (by kernel_rfl) (xs := #[.int .i64 k, .int .u64 u, .string f, .int .u64 q, .string s, .int .i64 m, .int .u64 n, .int .i64 t]) (off := 0) rfl
  have b0 := run_part_plain (P := Tryd.prog) (w := w) (e := 3) (by kernel_rfl) (xs := #[.int .i64 k', .int .u64 u', .string f', .int .u64 q', .string s', .int .i64 m', .int .u64 n', .int .i64 t']) (off := 0) rfl
  have e0 := run_equalIn_int (P := Tryd.prog) w 9997 3 .i64 .i64 k k' Tryd.underlying3
  have a1 := run_part_plain (P := Tryd.prog) (w := w) (e := 26) (by kernel_rfl) (xs := #[.int .i64 k, .int .u64 u, .string f, .int .u64 q, .string s, .int .i64 m, .int .u64 n, .int .i64 t]) (off := 3) rfl
  have b1 := run_part_plain (P := Tryd.prog) (w := w) (e := 26) (by kernel_rfl) (xs := #[.int .i64 k', .int .u64 u', .string f', .int .u64 q', .string s', .int .i64 m', .int .u64 n', .int .i64 t']) (off := 3) rfl
  have e1 := run_equalIn_int (P := Tryd.prog) w 9997 26 .u64 .u64 q q' Tryd.underlying26
  have a2 := run_part_plain (P := Tryd.prog) (w := w) (e := 9) (by kernel_rfl) (xs := #[.int .i64 k, .int .u64 u, .string f, .int .u64 q, .string s, .int .i64 m, .int .u64 n, .int .i64 t]) (off := 4) rfl
  have b2 := run_part_plain (P := Tryd.prog) (w := w) (e := 9) (by kernel_rfl) (xs := #[.int .i64 k', .int .u64 u', .string f', .int .u64 q', .string s', .int .i64 m', .int .u64 n', .int .i64 t']) (off := 4) rfl
  have e2 := run_equalIn_string (P := Tryd.prog) w 9997 9 s s' Tryd.underlying9
  rw [bytes_eq] at e2
  have a3 := run_part_plain (P := Tryd.prog) (w := w) (e := 3) (by kernel_rfl) (xs := #[.int .i64 k, .int .u64 u, .string f, .int .u64 q, .string s, .int .i64 m, .int .u64 n, .int .i64 t]) (off := 5) rfl
  have b3 := run_part_plain (P := Tryd.prog) (w := w) (e := 3) (by kernel_rfl) (xs := #[.int .i64 k', .int .u64 u', .string f', .int .u64 q', .string s', .int .i64 m', .int .u64 n', .int .i64 t']) (off := 5) rfl
  have e3 := run_equalIn_int (P := Tryd.prog) w 9997 3 .i64 .i64 m m' Tryd.underlying3
  have a4 := run_part_plain (P := Tryd.prog) (w := w) (e := 26) (by kernel_rfl) (xs := #[.int .i64 k, .int .u64 u, .string f, .int .u64 q, .string s, .int .i64 m, .int .u64 n, .int .i64 t]) (off := 6) rfl
  have b4 := run_part_plain (P := Tryd.prog) (w := w) (e := 26) (by kernel_rfl) (xs := #[.int .i64 k', .int .u64 u', .string f', .int .u64 q', .string s', .int .i64 m', .int .u64 n', .int .i64 t']) (off := 6) rfl
  have e4 := run_equalIn_int (P := Tryd.prog) w 9997 26 .u64 .u64 n n' Tryd.underlying26
  have a5 := run_part_plain (P := Tryd.prog) (w := w) (e := 3) (by kernel_rfl) (xs := #[.int .i64 k, .int .u64 u, .string f, .int .u64 q, .string s, .int .i64 m, .int .u64 n, .int .i64 t]) (off := 7) rfl
  have b5 := run_part_plain (P := Tryd.prog) (w := w) (e := 3) (by kernel_rfl) (xs := #[.int .i64 k', .int .u64 u', .string f', .int .u64 q', .string s', .int .i64 m', .int .u64 n', .int .i64 t']) (off := 7) rfl
  have e5 := run_equalIn_int (P := Tryd.prog) w 9997 3 .i64 .i64 t t' Tryd.underlying3
  obtain ⟨x0, hx0⟩ : ∃ x, (k == k') = x := ⟨_, rfl⟩
  rw [hx0] at e0 ⊢
  obtain ⟨x1, hx1⟩ : ∃ x, (u == u' && decide (f = f')) = x := ⟨_, rfl⟩
  rw [hx1] at s3 ⊢
  obtain ⟨x2, hx2⟩ : ∃ x, (q == q') = x := ⟨_, rfl⟩
  rw [hx2] at e1 ⊢
  obtain ⟨x3, hx3⟩ : ∃ x, decide (s = s') = x := ⟨_, rfl⟩
  rw [hx3] at e2 ⊢
  obtain ⟨x4, hx4⟩ : ∃ x, (m == m') = x := ⟨_, rfl⟩
  rw [hx4] at e3 ⊢
  obtain ⟨x5, hx5⟩ : ∃ x, (n == n') = x := ⟨_, rfl⟩
  rw [hx5] at e4 ⊢
  obtain ⟨x6, hx6⟩ : ∃ x, (t == t') = x := ⟨_, rfl⟩
  rw [hx6] at e5 ⊢
  clear hx0 hx1 hx2 hx3 hx4 hx5 hx6 ht hp
  simp only [Program.fieldsOf, Tryd.underlying30]
  cases x0 <;> cases x1 <;> cases x2 <;> cases x3 <;> cases x4 <;> cases x5 <;> simp [Op.eqFields, s1, s2, s3, a0, b0, e0, a1, b1, e1, a2, b2, e2, a3, b3, e3, a4, b4, e4, a5, b5, e5, Sem.run_bind, Sem.run_ite, Result.andThen_ok]
  cases x6 <;> rfl

theorem eq_val1 (c d : K) (b : Bool) (hb : decide (c = d) = b) (w : World) : (Op.equalIn 9999 30 (val c) (val d)).run Tryd.prog w = .ok b w := by
  subst hb
  obtain ⟨k, u, f, q, s, m, n, t⟩ := c
  obtain ⟨k', u', f', q', s', m', n', t'⟩ := d
  rw [dec_val]
  exact eq_parts1 k u f q s m n t k' u' f' q' s' m' n' t' w

theorem eq_attr1 (f g : Nat → Int) (b : Bool) (hb : eqA f g = b) (w : World) : (Op.equalIn 9999 33 (.agg #[.int .i64 (f 0), .int .i64 (f 1), .int .i64 (f 2), .int .i64 (f 3), .int .i64 (f 4), .int .i64 (f 5), .int .i64 (f 6), .int .i64 (f 7)]) (.agg #[.int .i64 (g 0), .int .i64 (g 1), .int .i64 (g 2), .int .i64 (g 3), .int .i64 (g 4), .int .i64 (g 5), .int .i64 (g 6), .int .i64 (g 7)])).run Tryd.prog w = .ok b w := by
  have ht : Tryd.prog.underlying 33 = some (.struct (Tryd.prog.fieldsOf 33)) := by kernel_rfl
  have hp : Tryd.prog.stoodInHeld 33 = false := by kernel_rfl
  rw [run_equalIn_struct w 9998 _ _ _ ht hp]
  have p0 := run_part_plain (P := Tryd.prog) (w := w) (e := 3) (by kernel_rfl) (xs := cs8 f) (off := 0) rfl
  have q0 := run_part_plain (P := Tryd.prog) (w := w) (e := 3) (by kernel_rfl) (xs := cs8 g) (off := 0) rfl
  have p1 := part_deps f w
  have q1 := part_deps g w
  have e0 := run_equalIn_int (P := Tryd.prog) w 9997 3 .i64 .i64 (f 0) (g 0) Tryd.underlying3
  have e1 := eq_seven f g 9996 w
  subst hb
  unfold eqA
  obtain ⟨x, hx⟩ : ∃ x, (f 0 == g 0) = x := ⟨_, rfl⟩
  rw [hx] at e0 ⊢
  obtain ⟨y, hy⟩ : ∃ y, eqD f g = y := ⟨_, rfl⟩
  rw [hy] at e1 ⊢
  cases x <;> cases y <;> simp [Program.fieldsOf, Tryd.underlying33, Op.eqFields, p0, p1, q0, q1, e0, e1, Sem.run_bind, Sem.run_ite, Result.andThen_ok]

theorem eq_rname1 (r s r2 s2 : Int) (b : Bool) (hb : (r == r2 && s == s2) = b) (w : World) :
    (Op.equalIn 9999 40 (.agg #[.int .i64 r, .int .i64 s]) (.agg #[.int .i64 r2, .int .i64 s2])).run Tryd.prog w = .ok b w := by
  have ht : Tryd.prog.underlying 40 = some (.struct (Tryd.prog.fieldsOf 40)) := by kernel_rfl
  have hp : Tryd.prog.stoodInHeld 40 = false := by kernel_rfl
  rw [run_equalIn_struct w 9998 _ _ _ ht hp]
  have p1 := run_part_plain (P := Tryd.prog) (w := w) (e := 3) (by kernel_rfl) (xs := #[.int .i64 r, .int .i64 s]) (off := 0) rfl
  have p2 := run_part_plain (P := Tryd.prog) (w := w) (e := 3) (by kernel_rfl) (xs := #[.int .i64 r, .int .i64 s]) (off := 1) rfl
  have p3 := run_part_plain (P := Tryd.prog) (w := w) (e := 3) (by kernel_rfl) (xs := #[.int .i64 r2, .int .i64 s2]) (off := 0) rfl
  have p4 := run_part_plain (P := Tryd.prog) (w := w) (e := 3) (by kernel_rfl) (xs := #[.int .i64 r2, .int .i64 s2]) (off := 1) rfl
  have q1 := run_equalIn_int (P := Tryd.prog) w 9997 3 .i64 .i64 r r2 Tryd.underlying3
  have q2 := run_equalIn_int (P := Tryd.prog) w 9997 3 .i64 .i64 s s2 Tryd.underlying3
  subst hb
  cases h : (r == r2) <;> simp [Program.fieldsOf, Tryd.underlying40, Op.eqFields, p1, p2, p3, p4, q1, q2, h, Sem.run_bind, Sem.run_ite, Result.andThen_ok]
  by_cases h2 : s = s2 <;> simp [h2]

theorem dec_val2 (k u : Int) (f : ByteArray) (q : Int) (s : ByteArray) (m n t k' u' : Int) (f' : ByteArray) (q' : Int) (s' : ByteArray) (m' n' t' : Int) :
    decide ((⟨k, u, f, q, s, m, n, t⟩ : K) = ⟨k', u', f', q', s', m', n', t'⟩) = ((k == k') && ((u == u') && (decide (f = f') && ((q == q') && (decide (s = s') && ((m == m') && ((n == n') && ((t == t') && true)))))))) := by
  rw [Bool.eq_iff_iff]
  simp [and_assoc]

set_option maxRecDepth 100000 in
theorem eq_rparts1 (k u : Int) (f : ByteArray) (q : Int) (s : ByteArray) (m n t k' u' : Int) (f' : ByteArray) (q' : Int) (s' : ByteArray) (m' n' t' : Int) (w : World) :
    (Op.equalIn 9999 42 (val ⟨k, u, f, q, s, m, n, t⟩) (val ⟨k', u', f', q', s', m', n', t'⟩)).run Tryd.prog w = .ok ((k == k') && ((u == u') && (decide (f = f') && ((q == q') && (decide (s = s') && ((m == m') && ((n == n') && ((t == t') && true)))))))) w := by
  have ht : Tryd.prog.underlying 42 = some (.struct (Tryd.prog.fieldsOf 42)) := by kernel_rfl
  have hp : Tryd.prog.stoodInHeld 42 = false := by kernel_rfl
  rw [run_equalIn_struct w 9998 _ _ _ ht hp]
  have a0 := run_part_plain (P := Tryd.prog) (w := w) (e := 3) (by kernel_rfl) (xs := #[.int .i64 k, .int .u64 u, .string f, .int .u64 q, .string s, .int .i64 m, .int .u64 n, .int .i64 t]) (off := 0) rfl
  have b0 := run_part_plain (P := Tryd.prog) (w := w) (e := 3) (by kernel_rfl) (xs := #[.int .i64 k', .int .u64 u', .string f', .int .u64 q', .string s', .int .i64 m', .int .u64 n', .int .i64 t']) (off := 0) rfl
  have e0 := run_equalIn_int (P := Tryd.prog) w 9997 3 .i64 .i64 k k' Tryd.underlying3
  have a1 := run_part_plain (P := Tryd.prog) (w := w) (e := 26) (by kernel_rfl) (xs := #[.int .i64 k, .int .u64 u, .string f, .int .u64 q, .string s, .int .i64 m, .int .u64 n, .int .i64 t]) (off := 1) rfl
  have b1 := run_part_plain (P := Tryd.prog) (w := w) (e := 26) (by kernel_rfl) (xs := #[.int .i64 k', .int .u64 u', .string f', .int .u64 q', .string s', .int .i64 m', .int .u64 n', .int .i64 t']) (off := 1) rfl
  have e1 := run_equalIn_int (P := Tryd.prog) w 9997 26 .u64 .u64 u u' Tryd.underlying26
  have a2 := run_part_plain (P := Tryd.prog) (w := w) (e := 9) (by kernel_rfl) (xs := #[.int .i64 k, .int .u64 u, .string f, .int .u64 q, .string s, .int .i64 m, .int .u64 n, .int .i64 t]) (off := 2) rfl
  have b2 := run_part_plain (P := Tryd.prog) (w := w) (e := 9) (by kernel_rfl) (xs := #[.int .i64 k', .int .u64 u', .string f', .int .u64 q', .string s', .int .i64 m', .int .u64 n', .int .i64 t']) (off := 2) rfl
  have e2 := run_equalIn_string (P := Tryd.prog) w 9997 9 f f' Tryd.underlying9
  rw [bytes_eq] at e2
  have a3 := run_part_plain (P := Tryd.prog) (w := w) (e := 26) (by kernel_rfl) (xs := #[.int .i64 k, .int .u64 u, .string f, .int .u64 q, .string s, .int .i64 m, .int .u64 n, .int .i64 t]) (off := 3) rfl
  have b3 := run_part_plain (P := Tryd.prog) (w := w) (e := 26) (by kernel_rfl) (xs := #[.int .i64 k', .int .u64 u', .string f', .int .u64 q', .string s', .int .i64 m', .int .u64 n', .int .i64 t']) (off := 3) rfl
  have e3 := run_equalIn_int (P := Tryd.prog) w 9997 26 .u64 .u64 q q' Tryd.underlying26
  have a4 := run_part_plain (P := Tryd.prog) (w := w) (e := 9) (by kernel_rfl) (xs := #[.int .i64 k, .int .u64 u, .string f, .int .u64 q, .string s, .int .i64 m, .int .u64 n, .int .i64 t]) (off := 4) rfl
  have b4 := run_part_plain (P := Tryd.prog) (w := w) (e := 9) (by kernel_rfl) (xs := #[.int .i64 k', .int .u64 u', .string f', .int .u64 q', .string s', .int .i64 m', .int .u64 n', .int .i64 t']) (off := 4) rfl
  have e4 := run_equalIn_string (P := Tryd.prog) w 9997 9 s s' Tryd.underlying9
  rw [bytes_eq] at e4
  have a5 := run_part_plain (P := Tryd.prog) (w := w) (e := 3) (by kernel_rfl) (xs := #[.int .i64 k, .int .u64 u, .string f, .int .u64 q, .string s, .int .i64 m, .int .u64 n, .int .i64 t]) (off := 5) rfl
  have b5 := run_part_plain (P := Tryd.prog) (w := w) (e := 3) (by kernel_rfl) (xs := #[.int .i64 k', .int .u64 u', .string f', .int .u64 q', .string s', .int .i64 m', .int .u64 n', .int .i64 t']) (off := 5) rfl
  have e5 := run_equalIn_int (P := Tryd.prog) w 9997 3 .i64 .i64 m m' Tryd.underlying3
  have a6 := run_part_plain (P := Tryd.prog) (w := w) (e := 26) (by kernel_rfl) (xs := #[.int .i64 k, .int .u64 u, .string f, .int .u64 q, .string s, .int .i64 m, .int .u64 n, .int .i64 t]) (off := 6) rfl
  have b6 := run_part_plain (P := Tryd.prog) (w := w) (e := 26) (by kernel_rfl) (xs := #[.int .i64 k', .int .u64 u', .string f', .int .u64 q', .string s', .int .i64 m', .int .u64 n', .int .i64 t']) (off := 6) rfl
  have e6 := run_equalIn_int (P := Tryd.prog) w 9997 26 .u64 .u64 n n' Tryd.underlying26
  have a7 := run_part_plain (P := Tryd.prog) (w := w) (e := 3) (by kernel_rfl) (xs := #[.int .i64 k, .int .u64 u, .string f, .int .u64 q, .string s, .int .i64 m, .int .u64 n, .int .i64 t]) (off := 7) rfl
  have b7 := run_part_plain (P := Tryd.prog) (w := w) (e := 3) (by kernel_rfl) (xs := #[.int .i64 k', .int .u64 u', .string f', .int .u64 q', .string s', .int .i64 m', .int .u64 n', .int .i64 t']) (off := 7) rfl
  have e7 := run_equalIn_int (P := Tryd.prog) w 9997 3 .i64 .i64 t t' Tryd.underlying3
  simp only [Program.fieldsOf, Tryd.underlying42]
  exact eqf_cons (by decide) a0 b0 e0 (eqf_cons (by decide) a1 b1 e1 (eqf_cons (by decide) a2 b2 e2 (eqf_cons (by decide) a3 b3 e3 (eqf_cons (by decide) a4 b4 e4 (eqf_cons (by decide) a5 b5 e5 (eqf_cons (by decide) a6 b6 e6 (eqf_cons (by decide) a7 b7 e7 eqf_nil)))))))

theorem eq_rval1 (c d : K) (b : Bool) (hb : decide (c = d) = b) (w : World) : (Op.equalIn 9999 42 (val c) (val d)).run Tryd.prog w = .ok b w := by
  subst hb
  obtain ⟨k, u, f, q, s, m, n, t⟩ := c
  obtain ⟨k', u', f', q', s', m', n', t'⟩ := d
  rw [dec_val2]
  exact eq_rparts1 k u f q s m n t k' u' f' q' s' m' n' t' w

theorem eq_refa1 (f g : Nat → Int) (b : Bool) (hb : eqA f g = b) (w : World) : (Op.equalIn 9999 43 (.agg #[.int .i64 (f 0), .int .i64 (f 1), .int .i64 (f 2), .int .i64 (f 3), .int .i64 (f 4), .int .i64 (f 5), .int .i64 (f 6), .int .i64 (f 7)]) (.agg #[.int .i64 (g 0), .int .i64 (g 1), .int .i64 (g 2), .int .i64 (g 3), .int .i64 (g 4), .int .i64 (g 5), .int .i64 (g 6), .int .i64 (g 7)])).run Tryd.prog w = .ok b w := by
  have ht : Tryd.prog.underlying 43 = some (.struct (Tryd.prog.fieldsOf 43)) := by kernel_rfl
  have hp : Tryd.prog.stoodInHeld 43 = false := by kernel_rfl
  rw [run_equalIn_struct w 9998 _ _ _ ht hp]
  have p0 := run_part_plain (P := Tryd.prog) (w := w) (e := 3) (by kernel_rfl) (xs := cs8 f) (off := 0) rfl
  have q0 := run_part_plain (P := Tryd.prog) (w := w) (e := 3) (by kernel_rfl) (xs := cs8 g) (off := 0) rfl
  have p1 := part_deps f w
  have q1 := part_deps g w
  have e0 := run_equalIn_int (P := Tryd.prog) w 9997 3 .i64 .i64 (f 0) (g 0) Tryd.underlying3
  have e1 := eq_seven f g 9996 w
  subst hb
  unfold eqA
  obtain ⟨x, hx⟩ : ∃ x, (f 0 == g 0) = x := ⟨_, rfl⟩
  rw [hx] at e0 ⊢
  obtain ⟨y, hy⟩ : ∃ y, eqD f g = y := ⟨_, rfl⟩
  rw [hy] at e1 ⊢
  cases x <;> cases y <;> simp [Program.fieldsOf, Tryd.underlying43, Op.eqFields, p0, p1, q0, q1, e0, e1, Sem.run_bind, Sem.run_ite, Result.andThen_ok]

theorem run_eq_bool (d : Nat) (a b : Bool) (w : World) : (Op.equalIn (d + 1) 4 (.bool a) (.bool b)).run Tryd.prog w = .ok (a == b) w := by
  exact run_equalIn_bool w d 4 a b Tryd.underlying4

/-- The parts of a state that have parts. -/
theorem part_name (x : J) (T : TypeId) (hT : T = 23 ∨ T = 40) (w : World) : (part T (rowJ x) 0).run Tryd.prog w = .ok (.agg #[.int .i64 x.r, .int .i64 x.s]) w := by
  rcases hT with rfl | rfl <;> simp [go_sem, part, rowJ]
theorem part_cmd (x : J) (T : TypeId) (hT : T = 30 ∨ T = 42) (w : World) : (part T (rowJ x) 6).run Tryd.prog w = .ok (val x.c) w := by
  rcases hT with rfl | rfl <;> simp [go_sem, part, rowJ]
theorem part_attr (x : J) (T : TypeId) (hT : T = 33 ∨ T = 43) (w : World) : (part T (rowJ x) 14).run Tryd.prog w = .ok (va x.f) w := by
  rcases hT with rfl | rfl <;> simp [go_sem, part, rowJ]

set_option maxRecDepth 100000 in
set_option maxHeartbeats 1000000 in
theorem eq_inst (x y : J) (b : Bool) (hb : eqJ x y = b) (w : World) : (Op.equalIn 10000 35 (.agg (rowJ x)) (.agg (rowJ y))).run Tryd.prog w = .ok b w := by
  have ht : Tryd.prog.underlying 35 = some (.struct (Tryd.prog.fieldsOf 35)) := by kernel_rfl
  have hp : Tryd.prog.stoodInHeld 35 = false := by kernel_rfl
  rw [run_equalIn_struct w 9999 _ _ _ ht hp]
  have x0 := part_name x 23 (.inl rfl) w
  have x5 := part_cmd x 30 (.inl rfl) w
  have x6 := part_attr x 33 (.inl rfl) w
  have x1 := run_part_plain (P := Tryd.prog) (w := w) (e := 3) (by kernel_rfl) (xs := rowJ x) (off := 2) (v := .int .i64 x.st) rfl
  have x2 := run_part_plain (P := Tryd.prog) (w := w) (e := 25) (by kernel_rfl) (xs := rowJ x) (off := 3) (v := .int .u32 x.bal) rfl
  have x3 := run_part_plain (P := Tryd.prog) (w := w) (e := 25) (by kernel_rfl) (xs := rowJ x) (off := 4) (v := .int .u32 x.vote) rfl
  have x4 := run_part_plain (P := Tryd.prog) (w := w) (e := 4) (by kernel_rfl) (xs := rowJ x) (off := 5) (v := .bool x.same) rfl
  have y0 := part_name y 23 (.inl rfl) w
  have y5 := part_cmd y 30 (.inl rfl) w
  have y6 := part_attr y 33 (.inl rfl) w
  have y1 := run_part_plain (P := Tryd.prog) (w := w) (e := 3) (by kernel_rfl) (xs := rowJ y) (off := 2) (v := .int .i64 y.st) rfl
  have y2 := run_part_plain (P := Tryd.prog) (w := w) (e := 25) (by kernel_rfl) (xs := rowJ y) (off := 3) (v := .int .u32 y.bal) rfl
  have y3 := run_part_plain (P := Tryd.prog) (w := w) (e := 25) (by kernel_rfl) (xs := rowJ y) (off := 4) (v := .int .u32 y.vote) rfl
  have y4 := run_part_plain (P := Tryd.prog) (w := w) (e := 4) (by kernel_rfl) (xs := rowJ y) (off := 5) (v := .bool y.same) rfl
  have e0 := eq_name1 x.r x.s y.r y.s _ rfl w
  have e1 := run_equalIn_int (P := Tryd.prog) w 9998 3 .i64 .i64 x.st y.st Tryd.underlying3
  have e2 := run_equalIn_int (P := Tryd.prog) w 9998 25 .u32 .u32 x.bal y.bal Tryd.underlying25
  have e3 := run_equalIn_int (P := Tryd.prog) w 9998 25 .u32 .u32 x.vote y.vote Tryd.underlying25
  have e4 := run_eq_bool 9998 x.same y.same w
  have e5 := eq_val1 x.c y.c _ rfl w
  have e6 := eq_attr1 x.f y.f _ rfl w
  subst hb
  have hE : eqJ x y = ((x.r == y.r && x.s == y.s) && ((x.st == y.st) && ((x.bal == y.bal) && ((x.vote == y.vote) && ((x.same == y.same) && (decide (x.c = y.c) && (eqA x.f y.f && true))))))) := by unfold eqJ; rw [Bool.and_true]
  rw [hE]
  clear hE
  simp only [Program.fieldsOf, Tryd.underlying35]
  exact eqf_cons (by decide) x0 y0 e0 (eqf_cons (by decide) x1 y1 e1 (eqf_cons (by decide) x2 y2 e2 (eqf_cons (by decide) x3 y3 e3 (eqf_cons (by decide) x4 y4 e4 (eqf_cons (by decide) x5 y5 e5 (eqf_cons (by decide) x6 y6 e6 eqf_nil))))))

set_option maxRecDepth 100000 in
set_option maxHeartbeats 1000000 in
theorem eq_refx (x y : J) (b : Bool) (hb : eqJ x y = b) (w : World) : (Op.equalIn 10000 45 (.agg (rowJ x)) (.agg (rowJ y))).run Tryd.prog w = .ok b w := by
  have ht : Tryd.prog.underlying 45 = some (.struct (Tryd.prog.fieldsOf 45)) := by kernel_rfl
  have hp : Tryd.prog.stoodInHeld 45 = false := by kernel_rfl
  rw [run_equalIn_struct w 9999 _ _ _ ht hp]
  have x0 := part_name x 40 (.inr rfl) w
  have x5 := part_cmd x 42 (.inr rfl) w
  have x6 := part_attr x 43 (.inr rfl) w
  have x1 := run_part_plain (P := Tryd.prog) (w := w) (e := 3) (by kernel_rfl) (xs := rowJ x) (off := 2) (v := .int .i64 x.st) rfl
  have x2 := run_part_plain (P := Tryd.prog) (w := w) (e := 24) (by kernel_rfl) (xs := rowJ x) (off := 3) (v := .int .u32 x.bal) rfl
  have x3 := run_part_plain (P := Tryd.prog) (w := w) (e := 24) (by kernel_rfl) (xs := rowJ x) (off := 4) (v := .int .u32 x.vote) rfl
  have x4 := run_part_plain (P := Tryd.prog) (w := w) (e := 4) (by kernel_rfl) (xs := rowJ x) (off := 5) (v := .bool x.same) rfl
  have y0 := part_name y 40 (.inr rfl) w
  have y5 := part_cmd y 42 (.inr rfl) w
  have y6 := part_attr y 43 (.inr rfl) w
  have y1 := run_part_plain (P := Tryd.prog) (w := w) (e := 3) (by kernel_rfl) (xs := rowJ y) (off := 2) (v := .int .i64 y.st) rfl
  have y2 := run_part_plain (P := Tryd.prog) (w := w) (e := 24) (by kernel_rfl) (xs := rowJ y) (off := 3) (v := .int .u32 y.bal) rfl
  have y3 := run_part_plain (P := Tryd.prog) (w := w) (e := 24) (by kernel_rfl) (xs := rowJ y) (off := 4) (v := .int .u32 y.vote) rfl
  have y4 := run_part_plain (P := Tryd.prog) (w := w) (e := 4) (by kernel_rfl) (xs := rowJ y) (off := 5) (v := .bool y.same) rfl
  have e0 := eq_rname1 x.r x.s y.r y.s _ rfl w
  have e1 := run_equalIn_int (P := Tryd.prog) w 9998 3 .i64 .i64 x.st y.st Tryd.underlying3
  have e2 := run_equalIn_int (P := Tryd.prog) w 9998 24 .u32 .u32 x.bal y.bal Tryd.underlying24
  have e3 := run_equalIn_int (P := Tryd.prog) w 9998 24 .u32 .u32 x.vote y.vote Tryd.underlying24
  have e4 := run_eq_bool 9998 x.same y.same w
  have e5 := eq_rval1 x.c y.c _ rfl w
  have e6 := eq_refa1 x.f y.f _ rfl w
  subst hb
  have hE : eqJ x y = ((x.r == y.r && x.s == y.s) && ((x.st == y.st) && ((x.bal == y.bal) && ((x.vote == y.vote) && ((x.same == y.same) && (decide (x.c = y.c) && (eqA x.f y.f && true))))))) := by unfold eqJ; rw [Bool.and_true]
  rw [hE]
  clear hE
  simp only [Program.fieldsOf, Tryd.underlying45]
  exact eqf_cons (by decide) x0 y0 e0 (eqf_cons (by decide) x1 y1 e1 (eqf_cons (by decide) x2 y2 e2 (eqf_cons (by decide) x3 y3 e3 (eqf_cons (by decide) x4 y4 e4 (eqf_cons (by decide) x5 y5 e5 (eqf_cons (by decide) x6 y6 e6 eqf_nil))))))

theorem inst_guard : Tryd.prog.eqGuardType Tryd.prog.depth 35 = false := by kernel_rfl
theorem refx_guard : Tryd.prog.eqGuardType Tryd.prog.depth 45 = false := by kernel_rfl

end Go.Proofs.YtapmchkikafpmaaDoor

/-
  States in boxes; contracts of New, isStatus, maySame, Alike, empty (package inst).
-/
namespace Go.Proofs.YtapmchkikafpmaaDoor
open Go.ChangeShapes Go.WideShapes Go.ChangeAt Go.RowKit
set_option linter.unusedVariables false
set_option linter.unusedSimpArgs false

/-- A guarded load that is wanted, of a row whole, and from its midst. -/
theorem wpList_wanted {P : Program} {ops : Array Oper} {Q : Exit → Act → World → Prop} {a : Act} {w : World} {rest : List Oper} {o : Oper} (hw : Region.wanted o (yielded ops a.tmps) = true)
    (h : ∀ K : Act → World → Prop, (∀ a w, wpList P ops Q rest a w → K a w) → o.wp P a w K Q) : wpList P ops Q (o :: rest) a w :=
  wpList_step fun K hK => by simp only [hw, if_true]; exact h K hK
theorem wpList_load_midg {P : Program} {ops : Array Oper} {rest : List Oper} {op : Oper} {a : Act} {w : World} {Q : Exit → Act → World → Prop} (hw : Region.wanted op (yielded ops a.tmps) = true) (ty : TypeId) (x : Operand) (ho : op.op = .load ty x)
    (b o : Nat) (hx : a.eval x = .pointer (some ⟨b, o, none⟩)) (cs : List Value) (d : TypeDesc) (hc : w.rangeAt b o cs)
    (hu : P.underlying ty = some d) (hd : d.isRow = true) (hi : (P.info? ty).map (·.size) = some cs.length)
    (h : wpList P ops Q rest (a.put op.dst (.agg cs.toArray)) w) : wpList P ops Q (op :: rest) a w :=
  wpList_wanted hw fun _ hK => wp_load_mid ty x ho b o hx cs d hc hu hd hi (hK _ _ h)
theorem wpList_load_rowg {P : Program} {ops : Array Oper} {rest : List Oper} {o : Oper} {a : Act} {w : World} {Q : Exit → Act → World → Prop} (hw : Region.wanted o (yielded ops a.tmps) = true) (ty : TypeId) (x : Operand) (ho : o.op = .load ty x)
    (g : Nat) (hx : a.eval x = .pointer (some ⟨g, 0, none⟩)) (t : TypeId) (cs : Array Value) (fr : Nat × Nat) (d : TypeDesc) (hg : w.heap[g]? = some (.cells cs t fr))
    (hu : P.underlying ty = some d) (hd : (match d with | .struct _ | .array _ _ => true | _ => false) = true) (hi : (P.info? ty).map (·.size) = some cs.size)
    (h : wpList P ops Q rest (a.put o.dst (.agg cs)) w) : wpList P ops Q (o :: rest) a w :=
  wpList_wanted hw fun _ hK => wp_load_row ty x ho g hx t cs fr d hg hu hd hi (hK _ _ h)

theorem info_inst : (Tryd.prog.info? 35).map (·.size) = some 22 := by kernel_rfl
theorem len_inst (x : J) : (Tryd.prog.info? 35).map (·.size) = some (rowJ x).size := by rw [rowJ_size]; exact info_inst
theorem size_inst (x y : J) : (rowJ x).size = (rowJ y).size := rfl
theorem rowJ_one (x : J) : (rowJ x).all (·.oneCell') = true := by simp [rowJ, Value.oneCell']
theorem rowJ_congr {x y : J} (h : eqJ x y = true) : rowJ x = rowJ y := by
  unfold eqJ at h
  simp only [Bool.and_eq_true, beq_iff_eq, decide_eq_true_eq, eqA_iff] at h
  obtain ⟨⟨h1, h2⟩, h3, h4, h5, h6, h7, h8⟩ := h
  unfold rowJ
  rw [h1, h2, h3, h4, h5, h6, h7, h8 0 (by decide), h8 1 (by decide), h8 2 (by decide), h8 3 (by decide), h8 4 (by decide), h8 5 (by decide), h8 6 (by decide), h8 7 (by decide)]

section
variable {w : World} {g : Nat} {T : TypeId} {x : J}
theorem Blk.j0 (h : Blk w g T (rowJ x)) : w.cell? ⟨g, 0, none⟩ = some (.int .i64 x.r) := (h.cell 0).trans rfl
theorem Blk.j1 (h : Blk w g T (rowJ x)) : w.cell? ⟨g, 1, none⟩ = some (.int .i64 x.s) := (h.cell 1).trans rfl
theorem Blk.j2 (h : Blk w g T (rowJ x)) : w.cell? ⟨g, 2, none⟩ = some (.int .i64 x.st) := (h.cell 2).trans rfl
theorem Blk.j3 (h : Blk w g T (rowJ x)) : w.cell? ⟨g, 3, none⟩ = some (.int .u32 x.bal) := (h.cell 3).trans rfl
theorem Blk.j4 (h : Blk w g T (rowJ x)) : w.cell? ⟨g, 4, none⟩ = some (.int .u32 x.vote) := (h.cell 4).trans rfl
theorem Blk.j5 (h : Blk w g T (rowJ x)) : w.cell? ⟨g, 5, none⟩ = some (.bool x.same) := (h.cell 5).trans rfl
abbrev lsK (c : K) : List Value := [.int .i64 c.kind, .int .u64 c.num, .string c.foot, .int .u64 c.req, .string c.path, .int .i64 c.mode, .int .u64 c.n, .int .i64 c.time]
abbrev ls8 (f : Nat → Int) : List Value := [.int .i64 (f 0), .int .i64 (f 1), .int .i64 (f 2), .int .i64 (f 3), .int .i64 (f 4), .int .i64 (f 5), .int .i64 (f 6), .int .i64 (f 7)]
theorem Blk.jc (h : Blk w g T (rowJ x)) : w.rangeAt g 6 (lsK x.c) := by
  intro j v hv
  have hj : j < 8 := (List.getElem?_eq_some_iff.1 hv).1
  have e : j = 0 ∨ j = 1 ∨ j = 2 ∨ j = 3 ∨ j = 4 ∨ j = 5 ∨ j = 6 ∨ j = 7 := by omega
  rw [h.cell, ← hv]
  rcases e with rfl | rfl | rfl | rfl | rfl | rfl | rfl | rfl <;> rfl
theorem Blk.ja (h : Blk w g T (rowJ x)) : w.rangeAt g 14 (ls8 x.f) := by
  intro j v hv
  have hj : j < 8 := (List.getElem?_eq_some_iff.1 hv).1
  have e : j = 0 ∨ j = 1 ∨ j = 2 ∨ j = 3 ∨ j = 4 ∨ j = 5 ∨ j = 6 ∨ j = 7 := by omega
  rw [h.cell, ← hv]
  rcases e with rfl | rfl | rfl | rfl | rfl | rfl | rfl | rfl <;> rfl
end
theorem info_cmd8 (c : K) : (Tryd.prog.info? 30).map (·.size) = some (lsK c).length := by kernel_rfl
theorem info_att8 (f : Nat → Int) : (Tryd.prog.info? 33).map (·.size) = some (ls8 f).length := by kernel_rfl

theorem newrow (r s : Int) : Value.agg #[.int .i64 r, .int .i64 s, .int .i64 0, .int .u32 0, .int .u32 0, .bool false, .int .i64 0, .int .u64 0, .string ⟨#[]⟩, .int .u64 0, .string ⟨#[]⟩, .int .i64 0, .int .u64 0, .int .i64 0, .int .i64 0, .int .i64 0, .int .i64 0, .int .i64 0, .int .i64 0, .int .i64 0, .int .i64 0, .int .i64 0] = .agg (rowJ (newJ r s)) := rfl

set_option maxRecDepth 100000 in
set_option maxHeartbeats 400000 in
theorem new_any (r s : Int) (w : World) :
    Calls Tryd.prog 16 #[nm r s] w fun e w' => e = .returned (.agg (rowJ (newJ r s))) ∧ Below w.heap.size w w' := by
  go_enter Tryd.func16, Tryd.ntmps16
  go_upto_region 1 with fail
  obtain ⟨W, hW⟩ : ∃ W, (w.alloc (.cells #[.int .i64 r, .int .i64 s] 23)).alloc (.cells (rowJ zeroJ) 35) = W := ⟨_, rfl⟩
  have hW' := hW
  simp only [rowJ, zeroJ] at hW'
  rw [hW']
  clear hW'
  obtain ⟨K0, K1, KB⟩ := two_new hW
  clear hW
  obtain ⟨k, hk⟩ : ∃ k, w.heap.size = k := ⟨_, rfl⟩
  rw [hk] at K0 K1 KB
  rw [hk]
  have HK := hid hk
  clear hk
  obtain ⟨⟨c0, c1⟩, _, _⟩ := blkn K0.out
  have L1 := hid (len_inst (newJ r s))
  have L2 := hid (size_inst zeroJ (newJ r s))
  have L3 := hid (rowJ_one (newJ r s))
  go_wp2_with (refine wpList_store_row (o := ⟨none, _, _, _, _, _⟩) rfl 35 (.tmp 2) (.tmp 4) rfl (k + 1) (rowJ (newJ r s)) rfl (newrow r s) 35 _ K1.out.heap L1.out L2.out L3.out ?_)
  exact bodyPost_ret (v := .agg (rowJ (newJ r s))) (results_cell_row (p := 2) (ty := 35) (by kernel_rfl) _ _ (k + 1) 35 (rowJ (newJ r s)) (0, 0) _ rfl (setRow_heap W (k + 1) _ (rowJ (newJ r s)) _ _ K1.out.heap) Tryd.underlying35 rfl L1.out) rfl ⟨rfl, by rw [HK.out]; exact below_setRow_ KB.out (by omega)⟩

set_option maxRecDepth 100000 in
set_option maxHeartbeats 400000 in
theorem isstatus_any (n : Int) (w : World) : Calls Tryd.prog 29 #[.int .i64 n] w fun e w' => e = .returned (.bool (statB n)) ∧ w = w' := by
  go_enter Tryd.func29, Tryd.ntmps29
  go_wp2
  all_goals go_ret
  all_goals exact ⟨ret_bool (by unfold statB; rw [Bool.eq_iff_iff]; simp; try omega), rfl⟩

set_option maxRecDepth 100000 in
set_option maxHeartbeats 400000 in
theorem maysame_any (x : J) (w : World) :
    Calls Tryd.prog 56 #[.agg (rowJ x)] w fun e w' => e = .returned (.bool (maySame x)) ∧ Below w.heap.size w w' := by
  have HV : Hid (maySame x = (x.st == 1 && x.vote == 0)) := hid rfl
  go_enter Tryd.func56, Tryd.ntmps56
  go_upto_region 1 with fail
  obtain ⟨W, hW⟩ : ∃ W, w.alloc (.cells (rowJ x) 35) = W := ⟨_, rfl⟩
  rw [hW]
  obtain ⟨K0, KB⟩ := one_new hW
  clear hW
  obtain ⟨k, hk⟩ : ∃ k, w.heap.size = k := ⟨_, rfl⟩
  rw [hk] at K0 KB
  rw [hk]
  have HK := hid hk
  clear hk
  have c2 := K0.out.j2
  have c4 := K0.out.j4
  rcases Decidable.em (x.st = 1) with h | h
  · have hb : (x.st == 1) = true := beq_iff_eq.2 h
    go_wp2
    go_ret
    exact ⟨ret_bool (by rw [HV.out, hb]; simp), by rw [HK.out]; exact KB.out⟩
  · have hb : (x.st == 1) = false := beq_eq_false_iff_ne.2 h
    go_wp2
    go_ret
    exact ⟨ret_bool (by rw [HV.out, hb]; simp), by rw [HK.out]; exact KB.out⟩

/-- Two boxes of states. -/
theorem twoj_new {w W : World} {x y : J} (h : (w.alloc (.cells (rowJ x) 35)).alloc (.cells (rowJ y) 35) = W) :
    Hid (Blk W w.heap.size 35 (rowJ x)) ∧ Hid (Blk W (w.heap.size + 1) 35 (rowJ y)) ∧ Hid (Below w.heap.size w W) := two_new h

set_option maxRecDepth 100000 in
set_option maxHeartbeats 1000000 in
theorem alike_any (x y : J) (w : World) :
    Calls Tryd.prog 8 #[.agg (rowJ x), .agg (rowJ y)] w fun e w' => e = .returned (.bool (alikeJ x y)) ∧ Below w.heap.size w w' := by
  obtain ⟨a, ha⟩ : ∃ a, decide (x.c = y.c) = a := ⟨_, rfl⟩
  obtain ⟨b, hb⟩ : ∃ b, eqA x.f y.f = b := ⟨_, rfl⟩
  have HV : Hid (alikeJ x y = (a && b)) := hid (by unfold alikeJ; rw [ha, hb])
  have EQ1 := eq_val x.c y.c a ha
  have EQ2 := eq_attr x.f y.f b hb
  dsimp only [val] at EQ1
  have G1 := eq_guard
  have G2 := attr_guard
  clear ha hb
  go_enter Tryd.func8, Tryd.ntmps8
  go_upto_region 1 with fail
  obtain ⟨W, hW⟩ : ∃ W, (w.alloc (.cells (rowJ x) 35)).alloc (.cells (rowJ y) 35) = W := ⟨_, rfl⟩
  rw [hW]
  obtain ⟨K0, K1, KB⟩ := twoj_new hW
  clear hW
  obtain ⟨k, hk⟩ : ∃ k, w.heap.size = k := ⟨_, rfl⟩
  rw [hk] at K0 K1 KB
  rw [hk]
  have HK := hid hk
  clear hk
  have I1 := hid (info_cmd8 x.c)
  have I2 := hid (info_cmd8 y.c)
  have I3 := hid (info_att8 x.f)
  have I4 := hid (info_att8 y.f)
  cases a
  all_goals
    go_wp2_with (first
      | (with_reducible refine wpList_load_mid (op := ⟨some 6, _, _, _, _, _⟩) rfl 30 (.tmp 5) rfl k 6 rfl (lsK x.c) _ K0.out.jc Tryd.underlying30 rfl I1.out ?_)
      | (with_reducible refine wpList_load_mid (op := ⟨some 8, _, _, _, _, _⟩) rfl 30 (.tmp 7) rfl (k + 1) 6 rfl (lsK y.c) _ K1.out.jc Tryd.underlying30 rfl I2.out ?_)
      | (with_reducible refine wpList_load_midg (op := ⟨some 12, _, _, _, _, _⟩) (by kernel_rfl) 33 (.tmp 11) rfl k 14 rfl (ls8 x.f) _ K0.out.ja Tryd.underlying33 rfl I3.out ?_)
      | (with_reducible refine wpList_load_midg (op := ⟨some 14, _, _, _, _, _⟩) (by kernel_rfl) 33 (.tmp 13) rfl (k + 1) 14 rfl (ls8 y.f) _ K1.out.ja Tryd.underlying33 rfl I4.out ?_))
    go_ret
    exact ⟨ret_bool (by rw [HV.out]; simp), by rw [HK.out]; exact KB.out⟩

end Go.Proofs.YtapmchkikafpmaaDoor

/-
  Contracts of states (package inst): empty, hasRightValue, Right, Follows.
-/
namespace Go.Proofs.YtapmchkikafpmaaDoor
open Go.ChangeShapes Go.WideShapes Go.ChangeAt Go.RowKit Go.Lib
set_option linter.unusedVariables false
set_option linter.unusedSimpArgs false

abbrev zrow : Array Value := #[.int .i64 0, .int .i64 0, .int .i64 0, .int .u32 0, .int .u32 0, .bool false, .int .i64 0, .int .u64 0, .string ⟨#[]⟩, .int .u64 0, .string ⟨#[]⟩, .int .i64 0, .int .u64 0, .int .i64 0, .int .i64 0, .int .i64 0, .int .i64 0, .int .i64 0, .int .i64 0, .int .i64 0, .int .i64 0, .int .i64 0]
theorem zrow_is : zrow = rowJ zeroJ := rfl
theorem Blk.row {w : World} {g : Nat} {t : TypeId} {cs : Array Value} (h : Blk w g t cs) (ds : Array Value) : Blk (w.setRow g ds) g t ds := setRow_heap w g cs ds t (0, 0) h
theorem Blk.rowFar {w : World} {g : Nat} {t : TypeId} {cs : Array Value} (h : Blk w g t cs) {k : Nat} (hne : g ≠ k) (ds : Array Value) : Blk (w.setRow k ds) g t cs := (setRow_other w k g ds hne).trans h
theorem below_pay {k : Nat} {w W w' : World} (h : Below k w W) (hk : k ≤ W.heap.size) (hb : Below W.heap.size W w') : Below k w w' := h.trans (hb.mono hk)
theorem set_bal (x : J) : (rowJ (newJ x.r x.s)).setIfInBounds 3 (.int .u32 x.bal) = rowJ (emptyJ x) := rfl

set_option maxRecDepth 100000 in
set_option maxHeartbeats 1000000 in
theorem empty_any (x : J) (w : World) :
    Calls Tryd.prog 37 #[.agg (rowJ x)] w fun e w' => e = .returned (.agg (rowJ (emptyJ x))) ∧ Below w.heap.size w w' := by
  go_enter Tryd.func37, Tryd.ntmps37
  go_upto_region 1 with fail
  obtain ⟨W, hW⟩ : ∃ W, (w.alloc (.cells (rowJ x) 35)).alloc (.cells zrow 35) = W := ⟨_, rfl⟩
  rw [hW]
  obtain ⟨K0, K1, KB⟩ := two_new hW
  rw [zrow_is] at K1
  clear hW
  obtain ⟨k, hk⟩ : ∃ k, w.heap.size = k := ⟨_, rfl⟩
  rw [hk] at K0 K1 KB
  rw [hk]
  have HK := hid hk
  clear hk
  have c0 := K0.out.j0
  have c1 := K0.out.j1
  go_wp2_with fail
  with_reducible refine (new_any x.r x.s _).mono ?_
  rintro e w1 ⟨rfl, hb⟩
  have D0 := hid (K0.out.below hb K0.out.lt)
  have D1 := hid (K1.out.below hb K1.out.lt)
  have DB := hid (below_pay KB.out (by have := K0.out.lt; omega) hb)
  have HL := hid (show k + 1 < w1.heap.size by have := D1.out.lt; omega)
  clear hb K0 K1 KB c0 c1
  have L1 := hid (len_inst (newJ x.r x.s))
  have L2 := hid (size_inst zeroJ (newJ x.r x.s))
  have L3 := hid (rowJ_one (newJ x.r x.s))
  obtain ⟨n, hn⟩ : ∃ n, w1.heap.size = n := ⟨_, rfl⟩
  have E0 : Hid (Blk (w1.alloc (.cells zrow 35)) n 35 zrow) := hid (by rw [← hn]; exact Blk.new w1 35 zrow)
  go_upto_region 2 with (refine wpList_store_row (o := ⟨none, _, _, _, _, _⟩) rfl 35 (.tmp 3) (.tmp 6) rfl n (rowJ (newJ x.r x.s)) rfl rfl 35 _ E0.out.heap L1.out L2.out L3.out ?_)
  obtain ⟨W2, hW2⟩ : ∃ W2, (w1.alloc (.cells zrow 35)).setRow n (rowJ (newJ x.r x.s)) = W2 := ⟨_, rfl⟩
  rw [hW2]
  have F0 : Hid (Blk W2 k 35 (rowJ x)) := hid (by rw [← hW2]; exact (D0.out.alloc _).rowFar (by have := HL.out; omega) _)
  have F1 : Hid (Blk W2 (k + 1) 35 (rowJ zeroJ)) := hid (by rw [← hW2]; exact (D1.out.alloc _).rowFar (by have := HL.out; omega) _)
  have F2 : Hid (Blk W2 n 35 (rowJ (newJ x.r x.s))) := hid (by rw [← hW2]; exact E0.out.row _)
  have FB : Hid (Below k w W2) := hid (by rw [← hW2]; exact below_setRow_ (DB.out.trans ((Below.refl k w1).alloc (by have := HL.out; omega) _)) (by have := HL.out; omega))
  have HN : Hid (k + 1 < n) := hid (by rw [← hn]; exact HL.out)
  clear hW2 hn D0 D1 DB HL E0 L1 L2 L3
  have c3 := F0.out.j3
  have d3 := F2.out.j3
  have f3 := F2.out.frozen 3
  go_upto_region 3 with fail
  obtain ⟨W3, hW3⟩ : ∃ W3, W2.setCell ⟨n, 3, none⟩ (.int .u32 x.bal) = W3 := ⟨_, rfl⟩
  rw [hW3]
  have G1 : Hid (Blk W3 (k + 1) 35 (rowJ zeroJ)) := hid (by rw [← hW3]; exact F1.out.far (by have := HN.out; simp; omega) _)
  have G2 : Hid (Blk W3 n 35 (rowJ (emptyJ x))) := hid (by rw [← hW3, ← set_bal]; exact F2.out.set_ 3 _)
  have GB : Hid (Below k w W3) := hid (by rw [← hW3]; exact FB.out.setCell (by have := HN.out; simp; omega) _)
  clear hW3 F0 F1 F2 FB c3 d3 f3
  have L1 := hid (len_inst (emptyJ x))
  have L2 := hid (size_inst zeroJ (emptyJ x))
  have L3 := hid (rowJ_one (emptyJ x))
  go_wp2_with (first
    | (with_reducible refine wpList_load_row (o := ⟨some 10, _, _, _, _, _⟩) rfl 35 (.tmp 3) rfl n rfl 35 (rowJ (emptyJ x)) (0, 0) _ G2.out.heap Tryd.underlying35 rfl L1.out ?_)
    | (with_reducible refine wpList_store_row (o := ⟨none, _, _, _, _, _⟩) rfl 35 (.tmp 2) (.tmp 10) rfl (k + 1) (rowJ (emptyJ x)) rfl rfl 35 _ G1.out.heap L1.out L2.out L3.out ?_))
  exact bodyPost_ret (v := .agg (rowJ (emptyJ x))) (results_cell_row (p := 2) (ty := 35) (by kernel_rfl) _ _ (k + 1) 35 (rowJ (emptyJ x)) (0, 0) _ rfl (setRow_heap W3 (k + 1) _ (rowJ (emptyJ x)) _ _ G1.out.heap) Tryd.underlying35 rfl L1.out) rfl ⟨rfl, by rw [HK.out]; exact below_setRow_ GB.out (by omega)⟩

theorem okJ.bal' {x : J} (h : okJ x) : 0 ≤ x.bal ∧ x.bal < 4294967296 := h.1
theorem okJ.vote {x : J} (h : okJ x) : 0 ≤ x.vote ∧ x.vote < 4294967296 := h.2
theorem balright_int (b : Int) (w : World) (hb : 0 ≤ b ∧ b < 4294967296) :
    Calls Tryd.prog 36 #[.int .u32 b] w fun e w' => e = .returned (.bool (balB b)) ∧ w = w' := by
  obtain ⟨n, rfl⟩ : ∃ n : Nat, b = (n : Int) := ⟨b.toNat, by omega⟩
  have := ballotright_any n w (by omega)
  unfold balB
  rw [Int.toNat_natCast]
  exact this

set_option maxRecDepth 100000 in
set_option maxHeartbeats 4000000 in
theorem hasright_any (x : J) (hok : okJ x) (w : World) (hP : PartsIs w) (hf : x.c.foot.size ≤ 4611686018427387903) (hp : x.c.path.size ≤ 4611686018427387903) :
    Calls Tryd.prog 38 #[.agg (rowJ x)] w fun e w' => e = .returned (.bool (valB x)) ∧ Below w.heap.size w w' := by
  obtain ⟨va, hva⟩ : ∃ a, balB x.vote = a := ⟨_, rfl⟩
  obtain ⟨ms, hms⟩ : ∃ a, maySame x = a := ⟨_, rfl⟩
  obtain ⟨rk, hrk⟩ : ∃ a, rightK x.c = a := ⟨_, rfl⟩
  obtain ⟨ob, hob⟩ : ∃ a, ownB x.f x.r x.s = a := ⟨_, rfl⟩
  obtain ⟨sm, hsm⟩ : ∃ a, x.same = a := ⟨_, rfl⟩
  have HV : Hid (valB x = (va && decide (x.vote ≤ x.bal) && (!sm || ms) && rk && ob)) := hid (by unfold valB; rw [hva, hms, hrk, hob, hsm])
  have HO := hid hok
  have HP := hid hP
  have VA := hid hva
  have MS := hid hms
  have RK := hid hrk
  have OB := hid hob
  have SM := hid hsm
  clear hok hP hva hms hrk hob hsm
  go_enter Tryd.func38, Tryd.ntmps38
  go_upto_region 1 with fail
  obtain ⟨W, hW⟩ : ∃ W, w.alloc (.cells (rowJ x) 35) = W := ⟨_, rfl⟩
  rw [hW]
  obtain ⟨K0, KB⟩ := one_new hW
  clear hW
  have HPW := hid (HP.out.below KB.out)
  obtain ⟨k, hk⟩ : ∃ k, w.heap.size = k := ⟨_, rfl⟩
  rw [hk] at K0 KB
  rw [hk]
  have HK := hid hk
  clear hk
  have c3 := K0.out.j3
  have c4 := K0.out.j4
  have c5 := K0.out.j5
  rw [SM.out] at c5
  have HKL := hid (show k ≤ W.heap.size by have := K0.out.lt; omega)
  cases va
  · go_wp2_with fail
    with_reducible refine (balright_int x.vote _ HO.out.vote).mono ?_
    rw [VA.out]
    rintro e w1 ⟨rfl, rfl⟩
    go_wp2
    go_ret
    exact ⟨ret_bool (by rw [HV.out]; simp), by rw [HK.out]; exact KB.out⟩
  · go_wp2_with fail
    with_reducible refine (balright_int x.vote _ HO.out.vote).mono ?_
    rw [VA.out]
    rintro e w1 ⟨rfl, rfl⟩
    rcases Int.lt_or_le x.bal x.vote with hle | hle
    · have HD : Hid (decide (x.vote ≤ x.bal) = false) := hid (decide_eq_false (by omega))
      go_wp2
      go_ret
      exact ⟨ret_bool (by rw [HV.out, HD.out]; simp), by rw [HK.out]; exact KB.out⟩
    · have HD : Hid (decide (x.vote ≤ x.bal) = true) := hid (decide_eq_true hle)
      have key : ∀ (y : Bool) (w2 : World), Below W.heap.size W w2 → (y = (!sm || ms)) → Hid (Blk w2 k 35 (rowJ x) ∧ Below k w w2 ∧ PartsIs w2) := fun y w2 hb _ =>
        hid ⟨K0.out.below hb K0.out.lt, below_pay KB.out HKL.out hb, HPW.out.below hb⟩
      have HKEY := hid key
      clear key
      have I1 := hid (info_cmd8 x.c)
      have I2 := hid (info_att8 x.f)
      have I3 := hid (len_inst x)
      cases sm
      · -- not the same
        cases rk
        · go_wp2_with (with_reducible refine wpList_load_midg (op := ⟨some 24, _, _, _, _, _⟩) (by kernel_rfl) 30 (.tmp 23) rfl k 6 rfl (lsK x.c) _ K0.out.jc Tryd.underlying30 rfl I1.out ?_)
          with_reducible refine (cmdright_any x.c _ HPW.out hf hp).mono ?_
          rw [RK.out]
          rintro e w2 ⟨rfl, hb⟩
          have HB := hid (below_pay KB.out HKL.out hb)
          clear hb
          go_wp2
          go_ret
          exact ⟨ret_bool (by rw [HV.out, HD.out]; simp), by rw [HK.out]; exact HB.out⟩
        · go_wp2_with (with_reducible refine wpList_load_midg (op := ⟨some 24, _, _, _, _, _⟩) (by kernel_rfl) 30 (.tmp 23) rfl k 6 rfl (lsK x.c) _ K0.out.jc Tryd.underlying30 rfl I1.out ?_)
          with_reducible refine (cmdright_any x.c _ HPW.out hf hp).mono ?_
          rw [RK.out]
          rintro e w2 ⟨rfl, hb⟩
          have HB := hid (below_pay KB.out HKL.out hb)
          have K2 := hid (K0.out.below hb K0.out.lt)
          clear hb c3 c4 c5
          have c0 := K2.out.j0
          have c1 := K2.out.j1
          go_wp2_with (with_reducible refine wpList_load_midg (op := ⟨some 29, _, _, _, _, _⟩) (by kernel_rfl) 33 (.tmp 28) rfl k 14 rfl (ls8 x.f) _ K2.out.ja Tryd.underlying33 rfl I2.out ?_)
          with_reducible refine (owns8 x.f x.r x.s _).mono ?_
          rw [OB.out]
          rintro e w3 ⟨rfl, hb⟩
          have HB2 := hid (below_pay HB.out (by have := K2.out.lt; omega) hb)
          clear hb c0 c1
          go_wp2
          go_ret
          exact ⟨ret_bool (by rw [HV.out, HD.out]; simp), by rw [HK.out]; exact HB2.out⟩
      · cases ms
        · go_wp2_with (with_reducible refine wpList_load_rowg (o := ⟨some 18, _, _, _, _, _⟩) (by kernel_rfl) 35 (.tmp 1) rfl k rfl 35 (rowJ x) (0, 0) _ K0.out.heap Tryd.underlying35 rfl I3.out ?_)
          with_reducible refine (maysame_any x _).mono ?_
          rw [MS.out]
          rintro e w2 ⟨rfl, hb⟩
          have HB := hid (below_pay KB.out HKL.out hb)
          clear hb
          go_wp2
          go_ret
          exact ⟨ret_bool (by rw [HV.out, HD.out]; simp), by rw [HK.out]; exact HB.out⟩
        · go_wp2_with (with_reducible refine wpList_load_rowg (o := ⟨some 18, _, _, _, _, _⟩) (by kernel_rfl) 35 (.tmp 1) rfl k rfl 35 (rowJ x) (0, 0) _ K0.out.heap Tryd.underlying35 rfl I3.out ?_)
          with_reducible refine (maysame_any x _).mono ?_
          rw [MS.out]
          rintro e w2 ⟨rfl, hb⟩
          have J2 := HKEY.out true w2 hb (by rfl)
          have K2 := hid J2.out.1
          clear hb c3 c4 c5
          cases rk
          · go_wp2_with (with_reducible refine wpList_load_midg (op := ⟨some 24, _, _, _, _, _⟩) (by kernel_rfl) 30 (.tmp 23) rfl k 6 rfl (lsK x.c) _ K2.out.jc Tryd.underlying30 rfl I1.out ?_)
            with_reducible refine (cmdright_any x.c _ J2.out.2.2 hf hp).mono ?_
            rw [RK.out]
            rintro e w3 ⟨rfl, hb⟩
            have HB := hid (below_pay J2.out.2.1 (by have := K2.out.lt; omega) hb)
            clear hb
            go_wp2
            go_ret
            exact ⟨ret_bool (by rw [HV.out, HD.out]; simp), by rw [HK.out]; exact HB.out⟩
          · go_wp2_with (with_reducible refine wpList_load_midg (op := ⟨some 24, _, _, _, _, _⟩) (by kernel_rfl) 30 (.tmp 23) rfl k 6 rfl (lsK x.c) _ K2.out.jc Tryd.underlying30 rfl I1.out ?_)
            with_reducible refine (cmdright_any x.c _ J2.out.2.2 hf hp).mono ?_
            rw [RK.out]
            rintro e w3 ⟨rfl, hb⟩
            have HB := hid (below_pay J2.out.2.1 (by have := K2.out.lt; omega) hb)
            have K3 := hid (K2.out.below hb K2.out.lt)
            clear hb
            have c0 := K3.out.j0
            have c1 := K3.out.j1
            go_wp2_with (with_reducible refine wpList_load_midg (op := ⟨some 29, _, _, _, _, _⟩) (by kernel_rfl) 33 (.tmp 28) rfl k 14 rfl (ls8 x.f) _ K3.out.ja Tryd.underlying33 rfl I2.out ?_)
            with_reducible refine (owns8 x.f x.r x.s _).mono ?_
            rw [OB.out]
            rintro e w4 ⟨rfl, hb⟩
            have HB2 := hid (below_pay HB.out (by have := K3.out.lt; omega) hb)
            clear hb c0 c1
            go_wp2
            go_ret
            exact ⟨ret_bool (by rw [HV.out, HD.out]; simp), by rw [HK.out]; exact HB2.out⟩

end Go.Proofs.YtapmchkikafpmaaDoor

/-
  Contracts of states (package inst): Right, Follows.
-/
namespace Go.Proofs.YtapmchkikafpmaaDoor
open Go.ChangeShapes Go.WideShapes Go.ChangeAt Go.RowKit Go.Lib
set_option linter.unusedVariables false
set_option linter.unusedSimpArgs false

/-- In a region that draws its order: the load of a row that is known whole. -/
theorem yields_row {P : Program} {ops : Array Oper} {S : World → Prop} {op : Oper} {a : Act} (hw : Region.wanted op (yielded ops a.tmps) = true) (ty : TypeId) (x : Operand) (ho : op.op = .load ty x)
    (g : Nat) (hx : a.eval x = .pointer (some ⟨g, 0, none⟩)) (t : TypeId) (cs : Array Value) (fr : Nat × Nat) (d : TypeDesc) (hS : ∀ w, S w → w.heap[g]? = some (.cells cs t fr))
    (hu : P.underlying ty = some d) (hd : (match d with | .struct _ | .array _ _ => true | _ => false) = true) (hi : (P.info? ty).map (·.size) = some cs.size) : YieldsIf P ops S op (.agg cs) a :=
  .inl ⟨hw, fun w hw' => by
    unfold execOp
    simp only [ho, hx, Instr.loadAt, Instr.sureAddr, Sem.run_bind, Sem.run_pure, Result.andThen_ok, run_loadVar_row w g t ty cs fr d (hS w hw') hu hd hi]⟩

set_option maxRecDepth 100000 in
set_option maxHeartbeats 4000000 in
theorem jright_any (x : J) (hok : okJ x) (w : World) (hP : PartsIs w) (hf : x.c.foot.size ≤ 4611686018427387903) (hp : x.c.path.size ≤ 4611686018427387903) :
    Calls Tryd.prog 17 #[.agg (rowJ x)] w fun e w' => e = .returned (.bool (rightJ x)) ∧ Below w.heap.size w w' := by
  obtain ⟨nb, hnb⟩ : ∃ a, nameB x.r x.s = a := ⟨_, rfl⟩
  obtain ⟨ba, hba⟩ : ∃ a, balB x.bal = a := ⟨_, rfl⟩
  obtain ⟨ee, hee⟩ : ∃ a, eqJ x (emptyJ x) = a := ⟨_, rfl⟩
  obtain ⟨sb, hsb⟩ : ∃ a, statB x.st = a := ⟨_, rfl⟩
  obtain ⟨vb, hvb⟩ : ∃ a, valB x = a := ⟨_, rfl⟩
  have HV : Hid (rightJ x = (nb && ba && (if x.st = 0 then ee else sb && vb))) := hid (by unfold rightJ; rw [hnb, hba, hee, hsb, hvb])
  have HO := hid hok
  have HP := hid hP
  have NB := hid hnb
  have BA := hid hba
  have EE := hid hee
  have SB := hid hsb
  have VB := hid hvb
  clear hok hP hnb hba hee hsb hvb
  go_enter Tryd.func17, Tryd.ntmps17
  go_upto_region 1 with fail
  obtain ⟨W, hW⟩ : ∃ W, w.alloc (.cells (rowJ x) 35) = W := ⟨_, rfl⟩
  rw [hW]
  obtain ⟨K0, KB⟩ := one_new hW
  clear hW
  have HPW := hid (HP.out.below KB.out)
  obtain ⟨k, hk⟩ : ∃ k, w.heap.size = k := ⟨_, rfl⟩
  rw [hk] at K0 KB
  rw [hk]
  have HK := hid hk
  clear hk
  have c0 := K0.out.j0
  have c1 := K0.out.j1
  have HKL := hid (show k ≤ W.heap.size by have := K0.out.lt; omega)
  go_wp2_with fail
  with_reducible refine (nright_any x.r x.s _).mono ?_
  rw [NB.out]
  rintro e w1 ⟨rfl, hb⟩
  have D0 := hid (K0.out.below hb K0.out.lt)
  have DB := hid (below_pay KB.out HKL.out hb)
  have DP := hid (HPW.out.below hb)
  have DL := hid (show k ≤ w1.heap.size by have := D0.out.lt; omega)
  clear hb c0 c1 K0 KB HPW HKL
  have c2 := D0.out.j2
  have c3 := D0.out.j3
  cases nb
  · go_wp2
    go_ret
    exact ⟨ret_bool (by rw [HV.out]; simp), by rw [HK.out]; exact DB.out⟩
  · cases ba
    · go_wp2_with fail
      with_reducible refine (balright_int x.bal _ HO.out.bal').mono ?_
      rw [BA.out]
      rintro e w2 ⟨rfl, rfl⟩
      go_wp2
      go_ret
      exact ⟨ret_bool (by rw [HV.out]; simp), by rw [HK.out]; exact DB.out⟩
    · go_wp2_with fail
      with_reducible refine (balright_int x.bal _ HO.out.bal').mono ?_
      rw [BA.out]
      rintro e w2 ⟨rfl, rfl⟩
      have L1 := hid (len_inst x)
      rcases Decidable.em (x.st = 0) with h0 | h0
      · have HZ := hid h0
        have hb0 : (x.st == 0) = true := beq_iff_eq.2 h0
        clear h0
        go_upto_region 4 with fail
        clear c2 c3 hb0
        refine wp_region_held_drew (S := fun w' => Blk w' k 35 (rowJ x)) (by kernel_rfl) (by exact D0.out.drew) (fun hHeld => ?_)
        refine wpAnyH_take (i := 0) (oi := _) (v := .agg (rowJ x)) rfl (by kernel_rfl) (by kernel_rfl) (by kernel_rfl) (fun _ _ _ h => h) (yields_row (by kernel_rfl) 35 (.tmp 1) rfl k rfl 35 (rowJ x) (0, 0) _ (fun _ h => h) Tryd.underlying35 rfl L1.out) hHeld ?_
        try simp only [Act.put, List.getElem_toArray, List.getElem_cons_zero, List.getElem_cons_succ, List.setIfInBounds_toArray, List.set_cons_zero, List.set_cons_succ]
        refine wpAnyH_take (i := 1) (oi := _) (v := .agg (rowJ x)) rfl (by kernel_rfl) (by kernel_rfl) (by kernel_rfl) (fun _ _ _ h => h) (yields_row (by kernel_rfl) 35 (.tmp 1) rfl k rfl 35 (rowJ x) (0, 0) _ (fun _ h => h) Tryd.underlying35 rfl L1.out) hHeld ?_
        try simp only [Act.put, List.getElem_toArray, List.getElem_cons_zero, List.getElem_cons_succ, List.setIfInBounds_toArray, List.set_cons_zero, List.set_cons_succ]
        refine wpAnyH_ready (rs := [2]) (by kernel_rfl) (by simp) ?_
        refine AllReadyH.cons (o := _) rfl (fun K hK => ?_) AllReadyH.nil
        go_simp
        go_at_call 37
        with_reducible refine (empty_any x _).mono ?_
        rintro e w3 ⟨rfl, hb⟩
        have E0 := hid (D0.out.drew.below hb D0.out.drew.lt)
        have EB := hid (below_pay (below_drew DB.out) DL.out hb)
        clear hb
        refine hK.out _ _ (by exact E0.out) (fun hHeld => ?_)
        clear hK K
        try simp only [Act.put, List.getElem_toArray, List.getElem_cons_zero, List.getElem_cons_succ, List.setIfInBounds_toArray, List.set_cons_zero, List.set_cons_succ]
        have EQ := eq_inst x (emptyJ x) ee EE.out
        have EG := inst_guard
        refine wpAnyH_take (i := 3) (oi := _) (v := .bool ee) rfl (by kernel_rfl) (by kernel_rfl) (by kernel_rfl) (fun _ _ _ h => h) (Or.inl ⟨by kernel_rfl, ?_⟩) hHeld ?_
        focus (intro w' hSw; go_simp; try with_reducible rfl)
        try simp only [Act.put, List.getElem_toArray, List.getElem_cons_zero, List.getElem_cons_succ, List.setIfInBounds_toArray, List.set_cons_zero, List.set_cons_succ]
        clear EQ EG
        refine wpAnyH_take (i := 4) (oi := _) (v := ?_) rfl (by kernel_rfl) (by kernel_rfl) (by kernel_rfl) (fun _ _ _ h => h) (Or.inl ⟨by kernel_rfl, ?_⟩) hHeld ?_
        rotate_left 1
        focus (intro w' hSw; go_simp; try with_reducible rfl)
        try simp only [Act.put, List.getElem_toArray, List.getElem_cons_zero, List.getElem_cons_succ, List.setIfInBounds_toArray, List.set_cons_zero, List.set_cons_succ]
        refine wpAnyH_done (by kernel_rfl) ?_ _
        clear hHeld
        go_wp2
        go_ret
        exact ⟨ret_bool (by rw [HV.out, if_pos HZ.out]; simp), by rw [HK.out]; exact EB.out⟩
      · have HZ := hid h0
        have hb0 : (x.st == 0) = false := beq_eq_false_iff_ne.2 h0
        clear h0
        cases sb
        · go_wp2_with fail
          with_reducible refine (isstatus_any x.st _).mono ?_
          rw [SB.out]
          rintro e w3 ⟨rfl, rfl⟩
          go_wp2
          go_ret
          exact ⟨ret_bool (by rw [HV.out, if_neg HZ.out]; simp), by rw [HK.out]; exact DB.out⟩
        · go_wp2_with fail
          with_reducible refine (isstatus_any x.st _).mono ?_
          rw [SB.out]
          rintro e w3 ⟨rfl, rfl⟩
          go_wp2_with (with_reducible refine wpList_load_rowg (o := ⟨some 24, _, _, _, _, _⟩) (by kernel_rfl) 35 (.tmp 1) rfl k rfl 35 (rowJ x) (0, 0) _ D0.out.heap Tryd.underlying35 rfl L1.out ?_)
          with_reducible refine (hasright_any x HO.out _ DP.out hf hp).mono ?_
          rw [VB.out]
          rintro e w4 ⟨rfl, hb⟩
          have EB := hid (below_pay DB.out DL.out hb)
          clear hb
          go_wp2
          go_ret
          exact ⟨ret_bool (by rw [HV.out, if_neg HZ.out]; simp), by rw [HK.out]; exact EB.out⟩

/-- Two boxes of states, the table, and the frame. -/
def Pair (w0 : World) (k : Nat) (w : World) (x y : J) : Prop := Blk w k 35 (rowJ x) ∧ Blk w (k + 1) 35 (rowJ y) ∧ Below k w0 w ∧ PartsIs w
theorem Pair.on {w0 w w' : World} {k : Nat} {x y : J} (h : Pair w0 k w x y) (hb : Below w.heap.size w w') : Pair w0 k w' x y :=
  ⟨h.1.below hb h.1.lt, h.2.1.below hb h.2.1.lt, below_pay h.2.2.1 (by have := h.1.lt; omega) hb, h.2.2.2.below hb⟩
theorem Pair.fst {w0 w : World} {k : Nat} {x y : J} (h : Pair w0 k w x y) : Blk w k 35 (rowJ x) := h.1
theorem Pair.snd {w0 w : World} {k : Nat} {x y : J} (h : Pair w0 k w x y) : Blk w (k + 1) 35 (rowJ y) := h.2.1
theorem Pair.bel {w0 w : World} {k : Nat} {x y : J} (h : Pair w0 k w x y) : Below k w0 w := h.2.2.1
theorem Pair.parts {w0 w : World} {k : Nat} {x y : J} (h : Pair w0 k w x y) : PartsIs w := h.2.2.2

set_option maxRecDepth 100000 in
set_option maxHeartbeats 4000000 in
theorem follows_any (x y : J) (hox : okJ x) (hoy : okJ y) (w : World) (hP : PartsIs w) (hf : x.c.foot.size ≤ 4611686018427387903) (hp : x.c.path.size ≤ 4611686018427387903) (hf2 : y.c.foot.size ≤ 4611686018427387903) (hp2 : y.c.path.size ≤ 4611686018427387903) :
    Calls Tryd.prog 7 #[.agg (rowJ x), .agg (rowJ y)] w fun e w' => e = .returned (.bool (followsJ x y)) ∧ Below w.heap.size w w' := by
  obtain ⟨rx, hrx⟩ : ∃ a, rightJ x = a := ⟨_, rfl⟩
  obtain ⟨ry, hry⟩ : ∃ a, rightJ y = a := ⟨_, rfl⟩
  obtain ⟨nn, hnn⟩ : ∃ a, (x.r == y.r && x.s == y.s) = a := ⟨_, rfl⟩
  obtain ⟨al, hal⟩ : ∃ a, alikeJ x y = a := ⟨_, rfl⟩
  obtain ⟨rs, hrs⟩ : ∃ a, restJ x y = a := ⟨_, rfl⟩
  have HV : Hid (followsJ x y = (rx && ry && nn && decide (y.bal ≤ x.bal) && rs)) := hid (by unfold followsJ; rw [hrx, hry, hnn, hrs])
  have HR : Hid (rs = (if y.st = 3 then x.st == 3 && al else if x.st = 3 then true else if x.vote = y.vote then (if x.st = y.st then x.same == y.same && al else decide (y.st < x.st)) else decide (y.vote < x.vote))) := hid (by rw [← hrs]; unfold restJ; rw [hal])
  have HOX := hid hox
  have HOY := hid hoy
  have HP := hid hP
  have RX := hid hrx
  have RY := hid hry
  have AL := hid hal
  have EQ := eq_name x.r x.s y.r y.s nn hnn
  have EG := nm_guard
  clear hox hoy hP hrx hry hnn hal hrs
  go_enter Tryd.func7, Tryd.ntmps7
  go_upto_region 1 with fail
  obtain ⟨W, hW⟩ : ∃ W, (w.alloc (.cells (rowJ x) 35)).alloc (.cells (rowJ y) 35) = W := ⟨_, rfl⟩
  rw [hW]
  obtain ⟨K0, K1, KB⟩ := twoj_new hW
  clear hW
  have HPW := hid (HP.out.below KB.out)
  obtain ⟨k, hk⟩ : ∃ k, w.heap.size = k := ⟨_, rfl⟩
  rw [hk] at K0 K1 KB
  rw [hk]
  have HK := hid hk
  clear hk
  have A0 : Hid (Pair w k W x y) := hid ⟨K0.out, K1.out, KB.out, HPW.out⟩
  clear K0 K1 KB HPW
  have L1 := hid (len_inst x)
  have L2 := hid (len_inst y)
  go_wp2_with (with_reducible refine wpList_load_row (o := ⟨some 5, _, _, _, _, _⟩) rfl 35 (.tmp 2) rfl k rfl 35 (rowJ x) (0, 0) _ A0.out.fst.heap Tryd.underlying35 rfl L1.out ?_)
  with_reducible refine (jright_any x HOX.out _ A0.out.parts hf hp).mono ?_
  rw [RX.out]
  rintro e w1 ⟨rfl, hb⟩
  have A1 := hid (A0.out.on hb)
  clear hb A0
  cases rx
  · go_wp2
    go_ret
    exact ⟨ret_bool (by rw [HV.out]; simp), by rw [HK.out]; exact A1.out.bel⟩
  go_wp2_with (with_reducible refine wpList_load_rowg (o := ⟨some 9, _, _, _, _, _⟩) (by kernel_rfl) 35 (.tmp 3) rfl (k + 1) rfl 35 (rowJ y) (0, 0) _ A1.out.snd.heap Tryd.underlying35 rfl L2.out ?_)
  with_reducible refine (jright_any y HOY.out _ A1.out.parts hf2 hp2).mono ?_
  rw [RY.out]
  rintro e w2 ⟨rfl, hb⟩
  have A2 := hid (A1.out.on hb)
  clear hb A1
  cases ry
  · go_wp2
    go_ret
    exact ⟨ret_bool (by rw [HV.out]; simp), by rw [HK.out]; exact A2.out.bel⟩
  have c0 := A2.out.fst.j0
  have c1 := A2.out.fst.j1
  have c2 := A2.out.fst.j2
  have c3 := A2.out.fst.j3
  have c4 := A2.out.fst.j4
  have c5 := A2.out.fst.j5
  have d0 := A2.out.snd.j0
  have d1 := A2.out.snd.j1
  have d2 := A2.out.snd.j2
  have d3 := A2.out.snd.j3
  have d4 := A2.out.snd.j4
  have d5 := A2.out.snd.j5
  cases nn
  · go_wp2
    go_ret
    exact ⟨ret_bool (by rw [HV.out]; simp), by rw [HK.out]; exact A2.out.bel⟩
  rcases Int.lt_or_le x.bal y.bal with hbal | hbal
  · have HD : Hid (decide (y.bal ≤ x.bal) = false) := hid (decide_eq_false (by omega))
    go_wp2
    go_ret
    exact ⟨ret_bool (by rw [HV.out, HD.out]; simp), by rw [HK.out]; exact A2.out.bel⟩
  have HD : Hid (decide (y.bal ≤ x.bal) = true) := hid (decide_eq_true hbal)
  have HF : Hid (followsJ x y = rs) := hid (by rw [HV.out, HD.out]; simp)
  rcases Decidable.em (y.st = 3) with hy3 | hy3
  · have hby : (y.st == 3) = true := beq_iff_eq.2 hy3
    have HY := hid hy3
    clear hy3
    rcases Decidable.em (x.st = 3) with hx3 | hx3
    · have hbx : (x.st == 3) = true := beq_iff_eq.2 hx3
      have HX := hid hx3
      clear hx3
      go_wp2_with (first
        | (with_reducible refine wpList_load_rowg (o := ⟨some 35, _, _, _, _, _⟩) (by kernel_rfl) 35 (.tmp 2) rfl k rfl 35 (rowJ x) (0, 0) _ A2.out.fst.heap Tryd.underlying35 rfl L1.out ?_)
        | (with_reducible refine wpList_load_rowg (o := ⟨some 36, _, _, _, _, _⟩) (by kernel_rfl) 35 (.tmp 3) rfl (k + 1) rfl 35 (rowJ y) (0, 0) _ A2.out.snd.heap Tryd.underlying35 rfl L2.out ?_))
      with_reducible refine (alike_any x y _).mono ?_
      rw [AL.out]
      rintro e w3 ⟨rfl, hb⟩
      have A3 := hid (A2.out.on hb)
      clear hb A2
      go_wp2
      go_ret
      exact ⟨ret_bool (by rw [HF.out, HR.out, if_pos HY.out, HX.out]; simp), by rw [HK.out]; exact A3.out.bel⟩
    · have hbx : (x.st == 3) = false := beq_eq_false_iff_ne.2 hx3
      go_wp2
      go_ret
      exact ⟨ret_bool (by rw [HF.out, HR.out, if_pos HY.out, hbx]; simp), by rw [HK.out]; exact A2.out.bel⟩
  have hby : (y.st == 3) = false := beq_eq_false_iff_ne.2 hy3
  have HY := hid hy3
  clear hy3
  rcases Decidable.em (x.st = 3) with hx3 | hx3
  · have hbx : (x.st == 3) = true := beq_iff_eq.2 hx3
    have HX := hid hx3
    clear hx3
    go_wp2
    go_ret
    exact ⟨ret_bool (by rw [HF.out, HR.out, if_neg HY.out, if_pos HX.out]), by rw [HK.out]; exact A2.out.bel⟩
  have hbx : (x.st == 3) = false := beq_eq_false_iff_ne.2 hx3
  have HX := hid hx3
  clear hx3
  rcases Decidable.em (x.vote = y.vote) with hv | hv
  · have hbv : (x.vote != y.vote) = false := by rw [hv]; simp
    have HVT := hid hv
    clear hv
    rcases Decidable.em (x.st = y.st) with hs | hs
    · have hbs : (x.st != y.st) = false := by rw [hs]; simp
      have HS := hid hs
      clear hs
      obtain ⟨sx, hsx⟩ : ∃ a, (x.same == y.same) = a := ⟨_, rfl⟩
      have HSX : Hid (rs = (sx && al)) := hid (by rw [HR.out, if_neg HY.out, if_neg HX.out, if_pos HVT.out, if_pos HS.out, hsx])
      cases sx
      · go_wp2
        go_ret
        exact ⟨ret_bool (by rw [HF.out, HSX.out]; simp), by rw [HK.out]; exact A2.out.bel⟩
      · go_wp2_with (first
          | (with_reducible refine wpList_load_rowg (o := ⟨some 71, _, _, _, _, _⟩) (by kernel_rfl) 35 (.tmp 2) rfl k rfl 35 (rowJ x) (0, 0) _ A2.out.fst.heap Tryd.underlying35 rfl L1.out ?_)
          | (with_reducible refine wpList_load_rowg (o := ⟨some 72, _, _, _, _, _⟩) (by kernel_rfl) 35 (.tmp 3) rfl (k + 1) rfl 35 (rowJ y) (0, 0) _ A2.out.snd.heap Tryd.underlying35 rfl L2.out ?_))
        with_reducible refine (alike_any x y _).mono ?_
        rw [AL.out]
        rintro e w3 ⟨rfl, hb⟩
        have A3 := hid (A2.out.on hb)
        clear hb A2
        go_wp2
        go_ret
        exact ⟨ret_bool (by rw [HF.out, HSX.out]; simp), by rw [HK.out]; exact A3.out.bel⟩
    · have hbs : (x.st != y.st) = true := bne_iff_ne.2 hs
      have HS := hid hs
      clear hs
      go_wp2
      go_ret
      exact ⟨ret_bool (by rw [HF.out, HR.out, if_neg HY.out, if_neg HX.out, if_pos HVT.out, if_neg HS.out]), by rw [HK.out]; exact A2.out.bel⟩
  · have hbv : (x.vote != y.vote) = true := bne_iff_ne.2 hv
    have HVT := hid hv
    clear hv
    go_wp2
    go_ret
    exact ⟨ret_bool (by rw [HF.out, HR.out, if_neg HY.out, if_neg HX.out, if_neg HVT.out]), by rw [HK.out]; exact A2.out.bel⟩

end Go.Proofs.YtapmchkikafpmaaDoor

/-
  The contracts of Put and Bytes (package inst) of a state with nothing known; the laws' anchor and small.
-/
namespace Go.Proofs.YtapmchkikafpmaaDoor
open Go.ChangeShapes Go.WideShapes Go.ChangeAt Go.RowKit Go.Lib
set_option linter.unusedVariables false
set_option linter.unusedSimpArgs false

/-- While a state in a box of the call's own is put. -/
def PutJ (w0 w : World) (base g b : Nat) (x : J) (l : List Nat) : Prop := OutAt w base g l ∧ Blk w b 35 (rowJ x) ∧ g < b ∧ Below base w0 w ∧ Stays g w0 w
theorem PutJ.put {w0 w w' : World} {base g b : Nat} {x : J} {l l' : List Nat} (h : PutJ w0 w base g b x l) (ho : OutAt w' base g l') (hb : Below base w w') (hs : Stays g w w') : PutJ w0 w' base g b x l' :=
  ⟨ho, hs.2 b _ _ (Nat.ne_of_gt h.2.2.1) (by decide) h.2.1, h.2.2.1, h.2.2.2.1.trans hb, h.2.2.2.2.trans hs⟩
theorem PutJ.oat {w0 w : World} {base g b : Nat} {x : J} {l : List Nat} (h : PutJ w0 w base g b x l) : OutAt w base g l := h.1
theorem PutJ.blk {w0 w : World} {base g b : Nat} {x : J} {l : List Nat} (h : PutJ w0 w base g b x l) : Blk w b 35 (rowJ x) := h.2.1
theorem PutJ.bel {w0 w : World} {base g b : Nat} {x : J} {l : List Nat} (h : PutJ w0 w base g b x l) : Below base w0 w := h.2.2.2.1
theorem PutJ.stays {w0 w : World} {base g b : Nat} {x : J} {l : List Nat} (h : PutJ w0 w base g b x l) : Stays g w0 w := h.2.2.2.2
theorem OutAt.glt' {w : World} {base g : Nat} {l : List Nat} (h : OutAt w base g l) : g < w.heap.size := by
  obtain ⟨_, v, h1, _⟩ := h
  exact h1.lt
theorem putj_new {w W : World} {base g : Nat} {l : List Nat} {x : J} (h : OutAt w base g l) (hW : w.alloc (.cells (rowJ x) 35) = W) : Hid (PutJ w W base g w.heap.size x l) := by
  subst hW
  exact hid ⟨h.alloc _, Blk.new _ _ _, h.glt', (Below.refl _ _).alloc h.base_le _, Stays.of_below ((Below.refl _ _).alloc (Nat.le_refl _) _)⟩

/-- A state's bytes ahead of its value. -/
def headJ (l : List Nat) (a b v t : Nat) : List Nat := (((l ++ [a]) ++ shortN b) ++ shortN v) ++ [t]

set_option maxRecDepth 100000 in
set_option maxHeartbeats 1000000 in
theorem put_none (base g : Nat) (l : List Nat) (x : J) (a b v : Nat) (w : World) (h : OutAt w base g l) (hr : x.r = a) (hs : x.s = b) (hbal : x.bal = v) (ht : x.st = 0) (ha : a < 7) (hb : b < 1024) (hv : v < 4294967296) (hlen : l.length ≤ 1000000) :
    Calls Tryd.prog 22 #[.agg (rowJ x), .pointer (some ⟨g, 0, none⟩)] w (PutsN base g (headJ l a b v 0) w) := by
  have HI := hid h
  have h1 : ((l ++ [a]) ++ shortN b).length ≤ 1000011 := by
    have := shortN_len10 (v := b) (by omega)
    rw [List.length_append, List.length_append]; simp; omega
  have h2 : (((l ++ [a]) ++ shortN b) ++ shortN v).length ≤ 1000021 := by
    have := shortN_len10 (v := v) (by omega)
    rw [List.length_append]; omega
  have HE : Hid (headJ l a b v 0 = (((l ++ [a]) ++ shortN b) ++ shortN v) ++ [0]) := hid rfl
  obtain ⟨L1, hL1⟩ : ∃ L, (l ++ [a]) ++ shortN b = L := ⟨_, rfl⟩
  rw [hL1] at h1 h2 HE
  obtain ⟨L2, hL2⟩ : ∃ L, L1 ++ shortN v = L := ⟨_, rfl⟩
  rw [hL2] at h2 HE
  have HL1 := hid hL1
  have HL2 := hid hL2
  clear h hL1 hL2
  go_enter Tryd.func22, Tryd.ntmps22
  go_upto_region 1 with fail
  obtain ⟨W, hW⟩ : ∃ W, w.alloc (.cells (rowJ x) 35) = W := ⟨_, rfl⟩
  rw [hW]
  have A0 := putj_new HI.out hW
  clear hW HI
  obtain ⟨k, hk⟩ : ∃ k, w.heap.size = k := ⟨_, rfl⟩
  rw [hk] at A0 ⊢
  clear hk
  have c0 := A0.out.blk.j0
  have c1 := A0.out.blk.j1
  rw [hr] at c0
  rw [hs] at c1
  go_wp2_with fail
  with_reducible refine (idput_any base g l L1 a b _ A0.out.oat ha hb (by omega) HL1.out.symm).mono ?_
  rintro en w1 ⟨rfl, ho, hb1, hs1⟩
  have A1 := hid (A0.out.put ho hb1 hs1)
  clear ho hb1 hs1 A0 c0 c1
  have c3 := A1.out.blk.j3
  rw [hbal] at c3
  go_wp2_with fail
  with_reducible refine (ballotput_any base g L1 v _ A1.out.oat hv (by omega)).mono ?_
  rw [HL2.out]
  rintro en w2 ⟨rfl, ho, hb1, hs1⟩
  have A2 := hid (A1.out.put ho hb1 hs1)
  clear ho hb1 hs1 A1 c3
  have c2 := A2.out.blk.j2
  rw [ht] at c2
  go_wp2_with fail
  with_reducible refine (outbytek_any base g L2 0 _ _ A2.out.oat (by omega) (by omega)).mono ?_
  rintro en w3 ⟨⟨rfl, ho, hb1⟩, hs1⟩
  have A3 := hid (A2.out.put ho hb1 hs1)
  clear ho hb1 hs1 A2 c2
  have c2 := A3.out.blk.j2
  rw [ht] at c2
  have R : Hid (OutAt w3 base g (headJ l a b v 0) ∧ Below base w w3 ∧ Stays g w w3) := hid ⟨by rw [HE.out]; exact A3.out.oat, A3.out.bel, A3.out.stays⟩
  clear A3
  go_wp2
  go_end0
  exact ⟨rfl, R.out⟩

def one2 : List Nat := [1, 2, 0, 0]
theorem one2_is : headJ [] 1 2 0 0 = one2 := by unfold headJ; rw [shortN_lo (by decide), shortN_lo (by decide)]; rfl

set_option maxRecDepth 100000 in
set_option maxHeartbeats 1000000 in
theorem bytes12 (w : World) :
    Calls Tryd.prog 11 #[.agg (rowJ (newJ 1 2))] w (Hands one2 w) := by
  go_enter Tryd.func11, Tryd.ntmps11
  go_upto_region 2 with fail
  obtain ⟨W, hW⟩ : ∃ W, (w.alloc (.cells (rowJ (newJ 1 2)) 35)).alloc (.cells #[.slice none 0 0] 60) = W := ⟨_, rfl⟩
  rw [hW]
  obtain ⟨K0, K1, KB⟩ := two_new hW
  clear hW
  have KL : Hid (w.heap.size + 1 < W.heap.size) := hid K1.out.lt
  have HO : Hid (OutAt W w.heap.size (w.heap.size + 1) []) := hid ⟨by omega, _, K1.out, World.ownsRow_nil _ _ _ _⟩
  have L1 := hid (len_inst (newJ 1 2))
  go_wp2_with (with_reducible refine wpList_load_row (o := ⟨some 5, _, _, _, _, _⟩) rfl 35 (.tmp 1) rfl w.heap.size rfl 35 (rowJ (newJ 1 2)) (0, 0) _ K0.out.heap Tryd.underlying35 rfl L1.out ?_)
  refine (put_none w.heap.size (w.heap.size + 1) [] (newJ 1 2) 1 2 0 _ HO.out rfl rfl rfl rfl (by decide) (by decide) (by decide) (by decide)).mono ?_
  rw [one2_is]
  rintro en w1 ⟨rfl, ho, hb, hs⟩
  have HO1 := hid ho
  have HB1 := hid (KB.out.trans hb)
  clear ho hb hs K0 K1 KB HO
  go_wp2_with fail
  with_reducible refine (outbytes_any w.heap.size (w.heap.size + 1) one2 _ HO1.out (by decide)).mono ?_
  intro e w2 hm
  obtain ⟨A, ca, rfl, h1, h2, h3, h4⟩ := hm.hands
  have H1 := hid h1
  have H3 := hid h3
  have H4 := hid (HB1.out.trans (h4.mono HB1.out.size))
  clear h1 h3 h4 hm
  go_wp2
  go_ret
  exact ⟨A, ca, rfl, H1.out, h2, H3.out, H4.out⟩

set_option maxRecDepth 100000 in
set_option maxHeartbeats 1000000 in
theorem anchor10 (w : World) :
    Calls Tryd.prog 5 #[] w fun e w' => e = .returned (.bool true) ∧ Below w.heap.size w w' := by
  go_enter Tryd.func5, Tryd.ntmps5
  go_wp2_with fail
  with_reducible refine (new_any 1 2 _).mono ?_
  rintro en w1 ⟨rfl, hb⟩
  have HB1 := hid hb
  clear hb
  go_wp2_with fail
  with_reducible refine (bytes12 _).mono ?_
  rintro en w2 ⟨A, ca, rfl, h1, h2, hs, h4⟩
  obtain ⟨b, o, rfl, _, q0⟩ := hs 0 1 rfl
  obtain ⟨b1, o1, h1', _, q1⟩ := hs 1 2 rfl
  obtain ⟨b2, o2, h2', _, q2⟩ := hs 2 0 rfl
  obtain ⟨b3, o3, h3', _, q3⟩ := hs 3 0 rfl
  injection h1' with h1'
  injection h1' with h11 h12
  subst h11; subst h12
  injection h2' with h2'
  injection h2' with h21 h22
  subst h21; subst h22
  injection h3' with h3'
  injection h3' with h31 h32
  subst h31; subst h32
  rw [show one2.length = 4 from rfl]
  have HB3 : Hid (Below w.heap.size w w2) := hid (HB1.out.trans (h4.mono HB1.out.size))
  have q0' : w2.cell? ⟨b, o, none⟩ = some (.int .u8 1) := q0
  have q1' : w2.cell? ⟨b, o + 1, none⟩ = some (.int .u8 2) := q1
  have q2' : w2.cell? ⟨b, o + 2, none⟩ = some (.int .u8 0) := q2
  have q3' : w2.cell? ⟨b, o + 3, none⟩ = some (.int .u8 0) := q3
  clear hs h1 h2 h4 q0 q1 q2 q3 HB1
  go_wp2
  go_ret
  exact ⟨rfl, HB3.out⟩

/-- Are texts short enough to be gone through? -/
def smallJ (x : J) : Bool := decide (x.c.path.size < 200) && decide (x.c.foot.size < 200)
theorem smallJ_in {x : J} (h : smallJ x = true) : x.c.foot.size < 200 ∧ x.c.path.size < 200 := by
  unfold smallJ at h
  simp only [Bool.and_eq_true, decide_eq_true_eq] at h
  exact ⟨h.2, h.1⟩
theorem Blk.j8 {w : World} {g : Nat} {T : TypeId} {x : J} (h : Blk w g T (rowJ x)) : w.cell? ⟨g, 8, none⟩ = some (.string x.c.foot) := (h.cell 8).trans rfl
theorem Blk.j10 {w : World} {g : Nat} {T : TypeId} {x : J} (h : Blk w g T (rowJ x)) : w.cell? ⟨g, 10, none⟩ = some (.string x.c.path) := (h.cell 10).trans rfl

set_option maxRecDepth 100000 in
set_option maxHeartbeats 400000 in
theorem small10 (x : J) (w : World) :
    Calls Tryd.prog 6 #[.agg (rowJ x)] w fun e w' => e = .returned (.bool (smallJ x)) ∧ Below w.heap.size w w' := by
  have HV : Hid (smallJ x = (decide (x.c.path.size < 200) && decide (x.c.foot.size < 200))) := hid rfl
  go_enter Tryd.func6, Tryd.ntmps6
  go_upto_region 1 with fail
  obtain ⟨W, hW⟩ : ∃ W, w.alloc (.cells (rowJ x) 35) = W := ⟨_, rfl⟩
  rw [hW]
  obtain ⟨K0, KB⟩ := one_new hW
  clear hW
  obtain ⟨k, hk⟩ : ∃ k, w.heap.size = k := ⟨_, rfl⟩
  rw [hk] at K0 KB
  rw [hk]
  have HK := hid hk
  clear hk
  have c8 := K0.out.j8
  have c10 := K0.out.j10
  rcases Nat.lt_or_ge x.c.path.size 200 with h | h
  · go_wp2
    go_ret
    exact ⟨ret_bool (by rw [HV.out, Bool.eq_iff_iff]; simp; omega), by rw [HK.out]; exact KB.out⟩
  · go_wp2
    go_ret
    exact ⟨ret_bool (by rw [HV.out, Bool.eq_iff_iff]; simp; omega), by rw [HK.out]; exact KB.out⟩

end Go.Proofs.YtapmchkikafpmaaDoor

/-
  The document's commands, compared.
-/
namespace Go.Proofs.YtapmchkikafpmaaDoor
open Go.ChangeShapes Go.WideShapes Go.ChangeAt Go.RowKit
set_option linter.unusedVariables false
set_option linter.unusedSimpArgs false

set_option maxRecDepth 100000 in
theorem eq_rparts0 (k u : Int) (f : ByteArray) (q : Int) (s : ByteArray) (m n t k' u' : Int) (f' : ByteArray) (q' : Int) (s' : ByteArray) (m' n' t' : Int) (w : World) :
    (Op.equalIn 10000 42 (val ⟨k, u, f, q, s, m, n, t⟩) (val ⟨k', u', f', q', s', m', n', t'⟩)).run Tryd.prog w = .ok ((k == k') && ((u == u') && (decide (f = f') && ((q == q') && (decide (s = s') && ((m == m') && ((n == n') && ((t == t') && true)))))))) w := by
  have ht : Tryd.prog.underlying 42 = some (.struct (Tryd.prog.fieldsOf 42)) := by kernel_rfl
  have hp : Tryd.prog.stoodInHeld 42 = false := by kernel_rfl
  rw [run_equalIn_struct w 9999 _ _ _ ht hp]
  have a0 := run_part_plain (P := Tryd.prog) (w := w) (e := 3) (by kernel_rfl) (xs := #[.int .i64 k, .int .u64 u, .string f, .int .u64 q, .string s, .int .i64 m, .int .u64 n, .int .i64 t]) (off := 0) rfl
  have b0 := run_part_plain (P := Tryd.prog) (w := w) (e := 3) (by kernel_rfl) (xs := #[.int .i64 k', .int .u64 u', .string f', .int .u64 q', .string s', .int .i64 m', .int .u64 n', .int .i64 t']) (off := 0) rfl
  have e0 := run_equalIn_int (P := Tryd.prog) w 9998 3 .i64 .i64 k k' Tryd.underlying3
  have a1 := run_part_plain (P := Tryd.prog) (w := w) (e := 26) (by kernel_rfl) (xs := #[.int .i64 k, .int .u64 u, .string f, .int .u64 q, .string s, .int .i64 m, .int .u64 n, .int .i64 t]) (off := 1) rfl
  have b1 := run_part_plain (P := Tryd.prog) (w := w) (e := 26) (by kernel_rfl) (xs := #[.int .i64 k', .int .u64 u', .string f', .int .u64 q', .string s', .int .i64 m', .int .u64 n', .int .i64 t']) (off := 1) rfl
  have e1 := run_equalIn_int (P := Tryd.prog) w 9998 26 .u64 .u64 u u' Tryd.underlying26
  have a2 := run_part_plain (P := Tryd.prog) (w := w) (e := 9) (by kernel_rfl) (xs := #[.int .i64 k, .int .u64 u, .string f, .int .u64 q, .string s, .int .i64 m, .int .u64 n, .int .i64 t]) (off := 2) rfl
  have b2 := run_part_plain (P := Tryd.prog) (w := w) (e := 9) (by kernel_rfl) (xs := #[.int .i64 k', .int .u64 u', .string f', .int .u64 q', .string s', .int .i64 m', .int .u64 n', .int .i64 t']) (off := 2) rfl
  have e2 := run_equalIn_string (P := Tryd.prog) w 9998 9 f f' Tryd.underlying9
  rw [bytes_eq] at e2
  have a3 := run_part_plain (P := Tryd.prog) (w := w) (e := 26) (by kernel_rfl) (xs := #[.int .i64 k, .int .u64 u, .string f, .int .u64 q, .string s, .int .i64 m, .int .u64 n, .int .i64 t]) (off := 3) rfl
  have b3 := run_part_plain (P := Tryd.prog) (w := w) (e := 26) (by kernel_rfl) (xs := #[.int .i64 k', .int .u64 u', .string f', .int .u64 q', .string s', .int .i64 m', .int .u64 n', .int .i64 t']) (off := 3) rfl
  have e3 := run_equalIn_int (P := Tryd.prog) w 9998 26 .u64 .u64 q q' Tryd.underlying26
  have a4 := run_part_plain (P := Tryd.prog) (w := w) (e := 9) (by kernel_rfl) (xs := #[.int .i64 k, .int .u64 u, .string f, .int .u64 q, .string s, .int .i64 m, .int .u64 n, .int .i64 t]) (off := 4) rfl
  have b4 := run_part_plain (P := Tryd.prog) (w := w) (e := 9) (by kernel_rfl) (xs := #[.int .i64 k', .int .u64 u', .string f', .int .u64 q', .string s', .int .i64 m', .int .u64 n', .int .i64 t']) (off := 4) rfl
  have e4 := run_equalIn_string (P := Tryd.prog) w 9998 9 s s' Tryd.underlying9
  rw [bytes_eq] at e4
  have a5 := run_part_plain (P := Tryd.prog) (w := w) (e := 3) (by kernel_rfl) (xs := #[.int .i64 k, .int .u64 u, .string f, .int .u64 q, .string s, .int .i64 m, .int .u64 n, .int .i64 t]) (off := 5) rfl
  have b5 := run_part_plain (P := Tryd.prog) (w := w) (e := 3) (by kernel_rfl) (xs := #[.int .i64 k', .int .u64 u', .string f', .int .u64 q', .string s', .int .i64 m', .int .u64 n', .int .i64 t']) (off := 5) rfl
  have e5 := run_equalIn_int (P := Tryd.prog) w 9998 3 .i64 .i64 m m' Tryd.underlying3
  have a6 := run_part_plain (P := Tryd.prog) (w := w) (e := 26) (by kernel_rfl) (xs := #[.int .i64 k, .int .u64 u, .string f, .int .u64 q, .string s, .int .i64 m, .int .u64 n, .int .i64 t]) (off := 6) rfl
  have b6 := run_part_plain (P := Tryd.prog) (w := w) (e := 26) (by kernel_rfl) (xs := #[.int .i64 k', .int .u64 u', .string f', .int .u64 q', .string s', .int .i64 m', .int .u64 n', .int .i64 t']) (off := 6) rfl
  have e6 := run_equalIn_int (P := Tryd.prog) w 9998 26 .u64 .u64 n n' Tryd.underlying26
  have a7 := run_part_plain (P := Tryd.prog) (w := w) (e := 3) (by kernel_rfl) (xs := #[.int .i64 k, .int .u64 u, .string f, .int .u64 q, .string s, .int .i64 m, .int .u64 n, .int .i64 t]) (off := 7) rfl
  have b7 := run_part_plain (P := Tryd.prog) (w := w) (e := 3) (by kernel_rfl) (xs := #[.int .i64 k', .int .u64 u', .string f', .int .u64 q', .string s', .int .i64 m', .int .u64 n', .int .i64 t']) (off := 7) rfl
  have e7 := run_equalIn_int (P := Tryd.prog) w 9998 3 .i64 .i64 t t' Tryd.underlying3
  simp only [Program.fieldsOf, Tryd.underlying42]
  exact eqf_cons (by decide) a0 b0 e0 (eqf_cons (by decide) a1 b1 e1 (eqf_cons (by decide) a2 b2 e2 (eqf_cons (by decide) a3 b3 e3 (eqf_cons (by decide) a4 b4 e4 (eqf_cons (by decide) a5 b5 e5 (eqf_cons (by decide) a6 b6 e6 (eqf_cons (by decide) a7 b7 e7 eqf_nil)))))))

theorem eq_refc (c d : K) (b : Bool) (hb : decide (c = d) = b) (w : World) : (Op.equalIn 10000 42 (val c) (val d)).run Tryd.prog w = .ok b w := by
  subst hb
  obtain ⟨k, u, f, q, s, m, n, t⟩ := c
  obtain ⟨k', u', f', q', s', m', n', t'⟩ := d
  rw [dec_val2]
  exact eq_rparts0 k u f q s m n t k' u' f' q' s' m' n' t' w
theorem refc_guard : Tryd.prog.eqGuardType Tryd.prog.depth 42 = false := by kernel_rfl

end Go.Proofs.YtapmchkikafpmaaDoor
