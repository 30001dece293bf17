/-
  States, compared: run equations of '==' at both kinds (package inst's, and the document's own).
-/
import Derived.Test.YtapmchkikafpmaaDoorJMath
import Derived.Test.YtapmchkikafpmaaDoorKEq
namespace Go.Proofs.YtapmchkikafpmaaDoor
open Go.ChangeShapes Go.WideShapes Go.ChangeAt Go.RowKit
set_option linter.unusedVariables false
set_option linter.unusedSimpArgs false

/-- Field by field. -/
theorem eqf_cons {P : Program} {d : Nat} {xs ys : Array Value} {f : Field} {fs : List Field} {w : World} {a b : Value} {x y : Bool} (hf : f.name ≠ "_") (h1 : (part f.type xs f.offset).run P w = .ok a w) (h2 : (part f.type ys f.offset).run P w = .ok b w)
    (h3 : (Op.equalIn d f.type a b).run P w = .ok x w) (h4 : (Op.eqFields d xs ys fs).run P w = .ok y w) : (Op.eqFields d xs ys (f :: fs)).run P w = .ok (x && y) w := by
  simp only [Op.eqFields, if_pos hf, Sem.run_bind, h1, h2, h3, Result.andThen_ok]
  cases x
  · simp
  · simpa using h4
theorem eqf_nil {P : Program} {d : Nat} {xs ys : Array Value} {w : World} : (Op.eqFields d xs ys []).run P w = .ok true w := by simp [Op.eqFields]

/-- A state by value. -/
def rowJ (x : J) : Array Value := #[.int .i64 x.r, .int .i64 x.s, .int .i64 x.st, .int .u32 x.bal, .int .u32 x.vote, .bool x.same, .int .i64 x.c.kind, .int .u64 x.c.num, .string x.c.foot, .int .u64 x.c.req, .string x.c.path, .int .i64 x.c.mode, .int .u64 x.c.n, .int .i64 x.c.time, .int .i64 (x.f 0), .int .i64 (x.f 1), .int .i64 (x.f 2), .int .i64 (x.f 3), .int .i64 (x.f 4), .int .i64 (x.f 5), .int .i64 (x.f 6), .int .i64 (x.f 7)]
theorem rowJ_size (x : J) : (rowJ x).size = 22 := rfl

theorem eq_name1 (r s r2 s2 : Int) (b : Bool) (hb : (r == r2 && s == s2) = b) (w : World) :
    (Op.equalIn 9999 23 (.agg #[.int .i64 r, .int .i64 s]) (.agg #[.int .i64 r2, .int .i64 s2])).run Tryd.prog w = .ok b w := by
  have ht : Tryd.prog.underlying 23 = some (.struct (Tryd.prog.fieldsOf 23)) := by kernel_rfl
  have hp : Tryd.prog.stoodInHeld 23 = false := by kernel_rfl
  rw [run_equalIn_struct w 9998 _ _ _ ht hp]
  have p1 := run_part_plain (P := Tryd.prog) (w := w) (e := 3) (by kernel_rfl) (xs := #[.int .i64 r, .int .i64 s]) (off := 0) rfl
  have p2 := run_part_plain (P := Tryd.prog) (w := w) (e := 3) (by kernel_rfl) (xs := #[.int .i64 r, .int .i64 s]) (off := 1) rfl
  have p3 := run_part_plain (P := Tryd.prog) (w := w) (e := 3) (by kernel_rfl) (xs := #[.int .i64 r2, .int .i64 s2]) (off := 0) rfl
  have p4 := run_part_plain (P := Tryd.prog) (w := w) (e := 3) (by kernel_rfl) (xs := #[.int .i64 r2, .int .i64 s2]) (off := 1) rfl
  have q1 := run_equalIn_int (P := Tryd.prog) w 9997 3 .i64 .i64 r r2 Tryd.underlying3
  have q2 := run_equalIn_int (P := Tryd.prog) w 9997 3 .i64 .i64 s s2 Tryd.underlying3
  subst hb
  cases h : (r == r2) <;> simp [Program.fieldsOf, Tryd.underlying23, Op.eqFields, p1, p2, p3, p4, q1, q2, h, Sem.run_bind, Sem.run_ite, Result.andThen_ok]
  by_cases h2 : s = s2 <;> simp [h2]

theorem eq_sess1 (u : Int) (f : ByteArray) (u2 : Int) (f2 : ByteArray) (w : World) :
    (Op.equalIn 9998 28 (.agg #[.int .u64 u, .string f]) (.agg #[.int .u64 u2, .string f2])).run Tryd.prog w = .ok (u == u2 && decide (f = f2)) w := by
  have ht : Tryd.prog.underlying 28 = some (.struct (Tryd.prog.fieldsOf 28)) := by kernel_rfl
  have hp : Tryd.prog.stoodInHeld 28 = false := by kernel_rfl
  rw [run_equalIn_struct w 9997 _ _ _ ht hp]
  have p1 := run_part_plain (P := Tryd.prog) (w := w) (e := 26) (by kernel_rfl) (xs := #[.int .u64 u, .string f]) (off := 0) rfl
  have p2 := run_part_plain (P := Tryd.prog) (w := w) (e := 9) (by kernel_rfl) (xs := #[.int .u64 u, .string f]) (off := 1) rfl
  have p3 := run_part_plain (P := Tryd.prog) (w := w) (e := 26) (by kernel_rfl) (xs := #[.int .u64 u2, .string f2]) (off := 0) rfl
  have p4 := run_part_plain (P := Tryd.prog) (w := w) (e := 9) (by kernel_rfl) (xs := #[.int .u64 u2, .string f2]) (off := 1) rfl
  have q1 := run_equalIn_int (P := Tryd.prog) w 9996 26 .u64 .u64 u u2 Tryd.underlying26
  have q2 := run_equalIn_string (P := Tryd.prog) w 9996 9 f f2 Tryd.underlying9
  rw [bytes_eq] at q2
  cases h : (u == u2) <;> simp [Program.fieldsOf, Tryd.underlying28, Op.eqFields, p1, p2, p3, p4, q1, q2, h, Sem.run_bind, Sem.run_ite, Result.andThen_ok]
  by_cases h2 : f = f2 <;> simp [h2]

set_option maxRecDepth 100000 in
theorem eq_parts1 (k u : Int) (f : ByteArray) (q : Int) (s : ByteArray) (m n t k' u' : Int) (f' : ByteArray) (q' : Int) (s' : ByteArray) (m' n' t' : Int) (w : World) :
    (Op.equalIn 9999 30 (val ⟨k, u, f, q, s, m, n, t⟩) (val ⟨k', u', f', q', s', m', n', t'⟩)).run Tryd.prog w = .ok ((k == k') && ((u == u' && decide (f = f')) && ((q == q') && (decide (s = s') && ((m == m') && ((n == n') && (t == t'))))))) w := by
  have ht : Tryd.prog.underlying 30 = some (.struct (Tryd.prog.fieldsOf 30)) := by kernel_rfl
  have hp : Tryd.prog.stoodInHeld 30 = false := by kernel_rfl
  rw [run_equalIn_struct w 9998 _ _ _ ht hp]
  have s1 := run_part_sess k u f q s m n t w
  have s2 := run_part_sess k' u' f' q' s' m' n' t' w
  have s3 := eq_sess1 u f u' f' w
  have a0 := run_part_plain (P := Tryd.prog) (w := w) (e := 3) (by kernel_rfl) (xs := #[.int .i64 k, .int .u64 u, .string f, .int .u64 q, .string s, .int .i64 m, .int .u64 n, .int .i64 t]) (off := 0) rfl
  have b0 := run_part_plain (P := Tryd.prog) (w := w) (e := 3) (by kernel_rfl) (xs := #[.int .i64 k', .int .u64 u', .string f', .int .u64 q', .string s', .int .i64 m', .int .u64 n', .int .i64 t']) (off := 0) rfl
  have e0 := run_equalIn_int (P := Tryd.prog) w 9997 3 .i64 .i64 k k' Tryd.underlying3
  have a1 := run_part_plain (P := Tryd.prog) (w := w) (e := 26) (by kernel_rfl) (xs := #[.int .i64 k, .int .u64 u, .string f, .int .u64 q, .string s, .int .i64 m, .int .u64 n, .int .i64 t]) (off := 3) rfl
  have b1 := run_part_plain (P := Tryd.prog) (w := w) (e := 26) (by kernel_rfl) (xs := #[.int .i64 k', .int .u64 u', .string f', .int .u64 q', .string s', .int .i64 m', .int .u64 n', .int .i64 t']) (off := 3) rfl
  have e1 := run_equalIn_int (P := Tryd.prog) w 9997 26 .u64 .u64 q q' Tryd.underlying26
  have a2 := run_part_plain (P := Tryd.prog) (w := w) (e := 9) (by kernel_rfl) (xs := #[.int .i64 k, .int .u64 u, .string f, .int .u64 q, .string s, .int .i64 m, .int .u64 n, .int .i64 t]) (off := 4) rfl
  have b2 := run_part_plain (P := Tryd.prog) (w := w) (e := 9) (by kernel_rfl) (xs := #[.int .i64 k', .int .u64 u', .string f', .int .u64 q', .string s', .int .i64 m', .int .u64 n', .int .i64 t']) (off := 4) rfl
  have e2 := run_equalIn_string (P := Tryd.prog) w 9997 9 s s' Tryd.underlying9
  rw [bytes_eq] at e2
  have a3 := run_part_plain (P := Tryd.prog) (w := w) (e := 3) (by kernel_rfl) (xs := #[.int .i64 k, .int .u64 u, .string f, .int .u64 q, .string s, .int .i64 m, .int .u64 n, .int .i64 t]) (off := 5) rfl
  have b3 := run_part_plain (P := Tryd.prog) (w := w) (e := 3) (by kernel_rfl) (xs := #[.int .i64 k', .int .u64 u', .string f', .int .u64 q', .string s', .int .i64 m', .int .u64 n', .int .i64 t']) (off := 5) rfl
  have e3 := run_equalIn_int (P := Tryd.prog) w 9997 3 .i64 .i64 m m' Tryd.underlying3
  have a4 := run_part_plain (P := Tryd.prog) (w := w) (e := 26) (by kernel_rfl) (xs := #[.int .i64 k, .int .u64 u, .string f, .int .u64 q, .string s, .int .i64 m, .int .u64 n, .int .i64 t]) (off := 6) rfl
  have b4 := run_part_plain (P := Tryd.prog) (w := w) (e := 26) (by kernel_rfl) (xs := #[.int .i64 k', .int .u64 u', .string f', .int .u64 q', .string s', .int .i64 m', .int .u64 n', .int .i64 t']) (off := 6) rfl
  have e4 := run_equalIn_int (P := Tryd.prog) w 9997 26 .u64 .u64 n n' Tryd.underlying26
  have a5 := run_part_plain (P := Tryd.prog) (w := w) (e := 3) (by kernel_rfl) (xs := #[.int .i64 k, .int .u64 u, .string f, .int .u64 q, .string s, .int .i64 m, .int .u64 n, .int .i64 t]) (off := 7) rfl
  have b5 := run_part_plain (P := Tryd.prog) (w := w) (e := 3) (by kernel_rfl) (xs := #[.int .i64 k', .int .u64 u', .string f', .int .u64 q', .string s', .int .i64 m', .int .u64 n', .int .i64 t']) (off := 7) rfl
  have e5 := run_equalIn_int (P := Tryd.prog) w 9997 3 .i64 .i64 t t' Tryd.underlying3
  obtain ⟨x0, hx0⟩ : ∃ x, (k == k') = x := ⟨_, rfl⟩
  rw [hx0] at e0 ⊢
  obtain ⟨x1, hx1⟩ : ∃ x, (u == u' && decide (f = f')) = x := ⟨_, rfl⟩
  rw [hx1] at s3 ⊢
  obtain ⟨x2, hx2⟩ : ∃ x, (q == q') = x := ⟨_, rfl⟩
  rw [hx2] at e1 ⊢
  obtain ⟨x3, hx3⟩ : ∃ x, decide (s = s') = x := ⟨_, rfl⟩
  rw [hx3] at e2 ⊢
  obtain ⟨x4, hx4⟩ : ∃ x, (m == m') = x := ⟨_, rfl⟩
  rw [hx4] at e3 ⊢
  obtain ⟨x5, hx5⟩ : ∃ x, (n == n') = x := ⟨_, rfl⟩
  rw [hx5] at e4 ⊢
  obtain ⟨x6, hx6⟩ : ∃ x, (t == t') = x := ⟨_, rfl⟩
  rw [hx6] at e5 ⊢
  clear hx0 hx1 hx2 hx3 hx4 hx5 hx6 ht hp
  simp only [Program.fieldsOf, Tryd.underlying30]
  cases x0 <;> cases x1 <;> cases x2 <;> cases x3 <;> cases x4 <;> cases x5 <;> simp [Op.eqFields, s1, s2, s3, a0, b0, e0, a1, b1, e1, a2, b2, e2, a3, b3, e3, a4, b4, e4, a5, b5, e5, Sem.run_bind, Sem.run_ite, Result.andThen_ok]
  cases x6 <;> rfl

theorem eq_val1 (c d : K) (b : Bool) (hb : decide (c = d) = b) (w : World) : (Op.equalIn 9999 30 (val c) (val d)).run Tryd.prog w = .ok b w := by
  subst hb
  obtain ⟨k, u, f, q, s, m, n, t⟩ := c
  obtain ⟨k', u', f', q', s', m', n', t'⟩ := d
  rw [dec_val]
  exact eq_parts1 k u f q s m n t k' u' f' q' s' m' n' t' w

theorem eq_attr1 (f g : Nat → Int) (b : Bool) (hb : eqA f g = b) (w : World) : (Op.equalIn 9999 33 (.agg #[.int .i64 (f 0), .int .i64 (f 1), .int .i64 (f 2), .int .i64 (f 3), .int .i64 (f 4), .int .i64 (f 5), .int .i64 (f 6), .int .i64 (f 7)]) (.agg #[.int .i64 (g 0), .int .i64 (g 1), .int .i64 (g 2), .int .i64 (g 3), .int .i64 (g 4), .int .i64 (g 5), .int .i64 (g 6), .int .i64 (g 7)])).run Tryd.prog w = .ok b w := by
  have ht : Tryd.prog.underlying 33 = some (.struct (Tryd.prog.fieldsOf 33)) := by kernel_rfl
  have hp : Tryd.prog.stoodInHeld 33 = false := by kernel_rfl
  rw [run_equalIn_struct w 9998 _ _ _ ht hp]
  have p0 := run_part_plain (P := Tryd.prog) (w := w) (e := 3) (by kernel_rfl) (xs := cs8 f) (off := 0) rfl
  have q0 := run_part_plain (P := Tryd.prog) (w := w) (e := 3) (by kernel_rfl) (xs := cs8 g) (off := 0) rfl
  have p1 := part_deps f w
  have q1 := part_deps g w
  have e0 := run_equalIn_int (P := Tryd.prog) w 9997 3 .i64 .i64 (f 0) (g 0) Tryd.underlying3
  have e1 := eq_seven f g 9996 w
  subst hb
  unfold eqA
  obtain ⟨x, hx⟩ : ∃ x, (f 0 == g 0) = x := ⟨_, rfl⟩
  rw [hx] at e0 ⊢
  obtain ⟨y, hy⟩ : ∃ y, eqD f g = y := ⟨_, rfl⟩
  rw [hy] at e1 ⊢
  cases x <;> cases y <;> simp [Program.fieldsOf, Tryd.underlying33, Op.eqFields, p0, p1, q0, q1, e0, e1, Sem.run_bind, Sem.run_ite, Result.andThen_ok]

theorem eq_rname1 (r s r2 s2 : Int) (b : Bool) (hb : (r == r2 && s == s2) = b) (w : World) :
    (Op.equalIn 9999 40 (.agg #[.int .i64 r, .int .i64 s]) (.agg #[.int .i64 r2, .int .i64 s2])).run Tryd.prog w = .ok b w := by
  have ht : Tryd.prog.underlying 40 = some (.struct (Tryd.prog.fieldsOf 40)) := by kernel_rfl
  have hp : Tryd.prog.stoodInHeld 40 = false := by kernel_rfl
  rw [run_equalIn_struct w 9998 _ _ _ ht hp]
  have p1 := run_part_plain (P := Tryd.prog) (w := w) (e := 3) (by kernel_rfl) (xs := #[.int .i64 r, .int .i64 s]) (off := 0) rfl
  have p2 := run_part_plain (P := Tryd.prog) (w := w) (e := 3) (by kernel_rfl) (xs := #[.int .i64 r, .int .i64 s]) (off := 1) rfl
  have p3 := run_part_plain (P := Tryd.prog) (w := w) (e := 3) (by kernel_rfl) (xs := #[.int .i64 r2, .int .i64 s2]) (off := 0) rfl
  have p4 := run_part_plain (P := Tryd.prog) (w := w) (e := 3) (by kernel_rfl) (xs := #[.int .i64 r2, .int .i64 s2]) (off := 1) rfl
  have q1 := run_equalIn_int (P := Tryd.prog) w 9997 3 .i64 .i64 r r2 Tryd.underlying3
  have q2 := run_equalIn_int (P := Tryd.prog) w 9997 3 .i64 .i64 s s2 Tryd.underlying3
  subst hb
  cases h : (r == r2) <;> simp [Program.fieldsOf, Tryd.underlying40, Op.eqFields, p1, p2, p3, p4, q1, q2, h, Sem.run_bind, Sem.run_ite, Result.andThen_ok]
  by_cases h2 : s = s2 <;> simp [h2]

theorem dec_val2 (k u : Int) (f : ByteArray) (q : Int) (s : ByteArray) (m n t k' u' : Int) (f' : ByteArray) (q' : Int) (s' : ByteArray) (m' n' t' : Int) :
    decide ((⟨k, u, f, q, s, m, n, t⟩ : K) = ⟨k', u', f', q', s', m', n', t'⟩) = ((k == k') && ((u == u') && (decide (f = f') && ((q == q') && (decide (s = s') && ((m == m') && ((n == n') && ((t == t') && true)))))))) := by
  rw [Bool.eq_iff_iff]
  simp [and_assoc]

set_option maxRecDepth 100000 in
theorem eq_rparts1 (k u : Int) (f : ByteArray) (q : Int) (s : ByteArray) (m n t k' u' : Int) (f' : ByteArray) (q' : Int) (s' : ByteArray) (m' n' t' : Int) (w : World) :
    (Op.equalIn 9999 42 (val ⟨k, u, f, q, s, m, n, t⟩) (val ⟨k', u', f', q', s', m', n', t'⟩)).run Tryd.prog w = .ok ((k == k') && ((u == u') && (decide (f = f') && ((q == q') && (decide (s = s') && ((m == m') && ((n == n') && ((t == t') && true)))))))) w := by
  have ht : Tryd.prog.underlying 42 = some (.struct (Tryd.prog.fieldsOf 42)) := by kernel_rfl
  have hp : Tryd.prog.stoodInHeld 42 = false := by kernel_rfl
  rw [run_equalIn_struct w 9998 _ _ _ ht hp]
  have a0 := run_part_plain (P := Tryd.prog) (w := w) (e := 3) (by kernel_rfl) (xs := #[.int .i64 k, .int .u64 u, .string f, .int .u64 q, .string s, .int .i64 m, .int .u64 n, .int .i64 t]) (off := 0) rfl
  have b0 := run_part_plain (P := Tryd.prog) (w := w) (e := 3) (by kernel_rfl) (xs := #[.int .i64 k', .int .u64 u', .string f', .int .u64 q', .string s', .int .i64 m', .int .u64 n', .int .i64 t']) (off := 0) rfl
  have e0 := run_equalIn_int (P := Tryd.prog) w 9997 3 .i64 .i64 k k' Tryd.underlying3
  have a1 := run_part_plain (P := Tryd.prog) (w := w) (e := 26) (by kernel_rfl) (xs := #[.int .i64 k, .int .u64 u, .string f, .int .u64 q, .string s, .int .i64 m, .int .u64 n, .int .i64 t]) (off := 1) rfl
  have b1 := run_part_plain (P := Tryd.prog) (w := w) (e := 26) (by kernel_rfl) (xs := #[.int .i64 k', .int .u64 u', .string f', .int .u64 q', .string s', .int .i64 m', .int .u64 n', .int .i64 t']) (off := 1) rfl
  have e1 := run_equalIn_int (P := Tryd.prog) w 9997 26 .u64 .u64 u u' Tryd.underlying26
  have a2 := run_part_plain (P := Tryd.prog) (w := w) (e := 9) (by kernel_rfl) (xs := #[.int .i64 k, .int .u64 u, .string f, .int .u64 q, .string s, .int .i64 m, .int .u64 n, .int .i64 t]) (off := 2) rfl
  have b2 := run_part_plain (P := Tryd.prog) (w := w) (e := 9) (by kernel_rfl) (xs := #[.int .i64 k', .int .u64 u', .string f', .int .u64 q', .string s', .int .i64 m', .int .u64 n', .int .i64 t']) (off := 2) rfl
  have e2 := run_equalIn_string (P := Tryd.prog) w 9997 9 f f' Tryd.underlying9
  rw [bytes_eq] at e2
  have a3 := run_part_plain (P := Tryd.prog) (w := w) (e := 26) (by kernel_rfl) (xs := #[.int .i64 k, .int .u64 u, .string f, .int .u64 q, .string s, .int .i64 m, .int .u64 n, .int .i64 t]) (off := 3) rfl
  have b3 := run_part_plain (P := Tryd.prog) (w := w) (e := 26) (by kernel_rfl) (xs := #[.int .i64 k', .int .u64 u', .string f', .int .u64 q', .string s', .int .i64 m', .int .u64 n', .int .i64 t']) (off := 3) rfl
  have e3 := run_equalIn_int (P := Tryd.prog) w 9997 26 .u64 .u64 q q' Tryd.underlying26
  have a4 := run_part_plain (P := Tryd.prog) (w := w) (e := 9) (by kernel_rfl) (xs := #[.int .i64 k, .int .u64 u, .string f, .int .u64 q, .string s, .int .i64 m, .int .u64 n, .int .i64 t]) (off := 4) rfl
  have b4 := run_part_plain (P := Tryd.prog) (w := w) (e := 9) (by kernel_rfl) (xs := #[.int .i64 k', .int .u64 u', .string f', .int .u64 q', .string s', .int .i64 m', .int .u64 n', .int .i64 t']) (off := 4) rfl
  have e4 := run_equalIn_string (P := Tryd.prog) w 9997 9 s s' Tryd.underlying9
  rw [bytes_eq] at e4
  have a5 := run_part_plain (P := Tryd.prog) (w := w) (e := 3) (by kernel_rfl) (xs := #[.int .i64 k, .int .u64 u, .string f, .int .u64 q, .string s, .int .i64 m, .int .u64 n, .int .i64 t]) (off := 5) rfl
  have b5 := run_part_plain (P := Tryd.prog) (w := w) (e := 3) (by kernel_rfl) (xs := #[.int .i64 k', .int .u64 u', .string f', .int .u64 q', .string s', .int .i64 m', .int .u64 n', .int .i64 t']) (off := 5) rfl
  have e5 := run_equalIn_int (P := Tryd.prog) w 9997 3 .i64 .i64 m m' Tryd.underlying3
  have a6 := run_part_plain (P := Tryd.prog) (w := w) (e := 26) (by kernel_rfl) (xs := #[.int .i64 k, .int .u64 u, .string f, .int .u64 q, .string s, .int .i64 m, .int .u64 n, .int .i64 t]) (off := 6) rfl
  have b6 := run_part_plain (P := Tryd.prog) (w := w) (e := 26) (by kernel_rfl) (xs := #[.int .i64 k', .int .u64 u', .string f', .int .u64 q', .string s', .int .i64 m', .int .u64 n', .int .i64 t']) (off := 6) rfl
  have e6 := run_equalIn_int (P := Tryd.prog) w 9997 26 .u64 .u64 n n' Tryd.underlying26
  have a7 := run_part_plain (P := Tryd.prog) (w := w) (e := 3) (by kernel_rfl) (xs := #[.int .i64 k, .int .u64 u, .string f, .int .u64 q, .string s, .int .i64 m, .int .u64 n, .int .i64 t]) (off := 7) rfl
  have b7 := run_part_plain (P := Tryd.prog) (w := w) (e := 3) (by kernel_rfl) (xs := #[.int .i64 k', .int .u64 u', .string f', .int .u64 q', .string s', .int .i64 m', .int .u64 n', .int .i64 t']) (off := 7) rfl
  have e7 := run_equalIn_int (P := Tryd.prog) w 9997 3 .i64 .i64 t t' Tryd.underlying3
  simp only [Program.fieldsOf, Tryd.underlying42]
  exact eqf_cons (by decide) a0 b0 e0 (eqf_cons (by decide) a1 b1 e1 (eqf_cons (by decide) a2 b2 e2 (eqf_cons (by decide) a3 b3 e3 (eqf_cons (by decide) a4 b4 e4 (eqf_cons (by decide) a5 b5 e5 (eqf_cons (by decide) a6 b6 e6 (eqf_cons (by decide) a7 b7 e7 eqf_nil)))))))

theorem eq_rval1 (c d : K) (b : Bool) (hb : decide (c = d) = b) (w : World) : (Op.equalIn 9999 42 (val c) (val d)).run Tryd.prog w = .ok b w := by
  subst hb
  obtain ⟨k, u, f, q, s, m, n, t⟩ := c
  obtain ⟨k', u', f', q', s', m', n', t'⟩ := d
  rw [dec_val2]
  exact eq_rparts1 k u f q s m n t k' u' f' q' s' m' n' t' w

theorem eq_refa1 (f g : Nat → Int) (b : Bool) (hb : eqA f g = b) (w : World) : (Op.equalIn 9999 43 (.agg #[.int .i64 (f 0), .int .i64 (f 1), .int .i64 (f 2), .int .i64 (f 3), .int .i64 (f 4), .int .i64 (f 5), .int .i64 (f 6), .int .i64 (f 7)]) (.agg #[.int .i64 (g 0), .int .i64 (g 1), .int .i64 (g 2), .int .i64 (g 3), .int .i64 (g 4), .int .i64 (g 5), .int .i64 (g 6), .int .i64 (g 7)])).run Tryd.prog w = .ok b w := by
  have ht : Tryd.prog.underlying 43 = some (.struct (Tryd.prog.fieldsOf 43)) := by kernel_rfl
  have hp : Tryd.prog.stoodInHeld 43 = false := by kernel_rfl
  rw [run_equalIn_struct w 9998 _ _ _ ht hp]
  have p0 := run_part_plain (P := Tryd.prog) (w := w) (e := 3) (by kernel_rfl) (xs := cs8 f) (off := 0) rfl
  have q0 := run_part_plain (P := Tryd.prog) (w := w) (e := 3) (by kernel_rfl) (xs := cs8 g) (off := 0) rfl
  have p1 := part_deps f w
  have q1 := part_deps g w
  have e0 := run_equalIn_int (P := Tryd.prog) w 9997 3 .i64 .i64 (f 0) (g 0) Tryd.underlying3
  have e1 := eq_seven f g 9996 w
  subst hb
  unfold eqA
  obtain ⟨x, hx⟩ : ∃ x, (f 0 == g 0) = x := ⟨_, rfl⟩
  rw [hx] at e0 ⊢
  obtain ⟨y, hy⟩ : ∃ y, eqD f g = y := ⟨_, rfl⟩
  rw [hy] at e1 ⊢
  cases x <;> cases y <;> simp [Program.fieldsOf, Tryd.underlying43, Op.eqFields, p0, p1, q0, q1, e0, e1, Sem.run_bind, Sem.run_ite, Result.andThen_ok]

theorem run_eq_bool (d : Nat) (a b : Bool) (w : World) : (Op.equalIn (d + 1) 4 (.bool a) (.bool b)).run Tryd.prog w = .ok (a == b) w := by
  exact run_equalIn_bool w d 4 a b Tryd.underlying4

/-- The parts of a state that have parts. -/
theorem part_name (x : J) (T : TypeId) (hT : T = 23 ∨ T = 40) (w : World) : (part T (rowJ x) 0).run Tryd.prog w = .ok (.agg #[.int .i64 x.r, .int .i64 x.s]) w := by
  rcases hT with rfl | rfl <;> simp [go_sem, part, rowJ]
theorem part_cmd (x : J) (T : TypeId) (hT : T = 30 ∨ T = 42) (w : World) : (part T (rowJ x) 6).run Tryd.prog w = .ok (val x.c) w := by
  rcases hT with rfl | rfl <;> simp [go_sem, part, rowJ]
theorem part_attr (x : J) (T : TypeId) (hT : T = 33 ∨ T = 43) (w : World) : (part T (rowJ x) 14).run Tryd.prog w = .ok (va x.f) w := by
  rcases hT with rfl | rfl <;> simp [go_sem, part, rowJ]

set_option maxRecDepth 100000 in
set_option maxHeartbeats 1000000 in
theorem eq_inst (x y : J) (b : Bool) (hb : eqJ x y = b) (w : World) : (Op.equalIn 10000 35 (.agg (rowJ x)) (.agg (rowJ y))).run Tryd.prog w = .ok b w := by
  have ht : Tryd.prog.underlying 35 = some (.struct (Tryd.prog.fieldsOf 35)) := by kernel_rfl
  have hp : Tryd.prog.stoodInHeld 35 = false := by kernel_rfl
  rw [run_equalIn_struct w 9999 _ _ _ ht hp]
  have x0 := part_name x 23 (.inl rfl) w
  have x5 := part_cmd x 30 (.inl rfl) w
  have x6 := part_attr x 33 (.inl rfl) w
  have x1 := run_part_plain (P := Tryd.prog) (w := w) (e := 3) (by kernel_rfl) (xs := rowJ x) (off := 2) (v := .int .i64 x.st) rfl
  have x2 := run_part_plain (P := Tryd.prog) (w := w) (e := 25) (by kernel_rfl) (xs := rowJ x) (off := 3) (v := .int .u32 x.bal) rfl
  have x3 := run_part_plain (P := Tryd.prog) (w := w) (e := 25) (by kernel_rfl) (xs := rowJ x) (off := 4) (v := .int .u32 x.vote) rfl
  have x4 := run_part_plain (P := Tryd.prog) (w := w) (e := 4) (by kernel_rfl) (xs := rowJ x) (off := 5) (v := .bool x.same) rfl
  have y0 := part_name y 23 (.inl rfl) w
  have y5 := part_cmd y 30 (.inl rfl) w
  have y6 := part_attr y 33 (.inl rfl) w
  have y1 := run_part_plain (P := Tryd.prog) (w := w) (e := 3) (by kernel_rfl) (xs := rowJ y) (off := 2) (v := .int .i64 y.st) rfl
  have y2 := run_part_plain (P := Tryd.prog) (w := w) (e := 25) (by kernel_rfl) (xs := rowJ y) (off := 3) (v := .int .u32 y.bal) rfl
  have y3 := run_part_plain (P := Tryd.prog) (w := w) (e := 25) (by kernel_rfl) (xs := rowJ y) (off := 4) (v := .int .u32 y.vote) rfl
  have y4 := run_part_plain (P := Tryd.prog) (w := w) (e := 4) (by kernel_rfl) (xs := rowJ y) (off := 5) (v := .bool y.same) rfl
  have e0 := eq_name1 x.r x.s y.r y.s _ rfl w
  have e1 := run_equalIn_int (P := Tryd.prog) w 9998 3 .i64 .i64 x.st y.st Tryd.underlying3
  have e2 := run_equalIn_int (P := Tryd.prog) w 9998 25 .u32 .u32 x.bal y.bal Tryd.underlying25
  have e3 := run_equalIn_int (P := Tryd.prog) w 9998 25 .u32 .u32 x.vote y.vote Tryd.underlying25
  have e4 := run_eq_bool 9998 x.same y.same w
  have e5 := eq_val1 x.c y.c _ rfl w
  have e6 := eq_attr1 x.f y.f _ rfl w
  subst hb
  have hE : eqJ x y = ((x.r == y.r && x.s == y.s) && ((x.st == y.st) && ((x.bal == y.bal) && ((x.vote == y.vote) && ((x.same == y.same) && (decide (x.c = y.c) && (eqA x.f y.f && true))))))) := by unfold eqJ; rw [Bool.and_true]
  rw [hE]
  clear hE
  simp only [Program.fieldsOf, Tryd.underlying35]
  exact eqf_cons (by decide) x0 y0 e0 (eqf_cons (by decide) x1 y1 e1 (eqf_cons (by decide) x2 y2 e2 (eqf_cons (by decide) x3 y3 e3 (eqf_cons (by decide) x4 y4 e4 (eqf_cons (by decide) x5 y5 e5 (eqf_cons (by decide) x6 y6 e6 eqf_nil))))))

set_option maxRecDepth 100000 in
set_option maxHeartbeats 1000000 in
theorem eq_refx (x y : J) (b : Bool) (hb : eqJ x y = b) (w : World) : (Op.equalIn 10000 45 (.agg (rowJ x)) (.agg (rowJ y))).run Tryd.prog w = .ok b w := by
  have ht : Tryd.prog.underlying 45 = some (.struct (Tryd.prog.fieldsOf 45)) := by kernel_rfl
  have hp : Tryd.prog.stoodInHeld 45 = false := by kernel_rfl
  rw [run_equalIn_struct w 9999 _ _ _ ht hp]
  have x0 := part_name x 40 (.inr rfl) w
  have x5 := part_cmd x 42 (.inr rfl) w
  have x6 := part_attr x 43 (.inr rfl) w
  have x1 := run_part_plain (P := Tryd.prog) (w := w) (e := 3) (by kernel_rfl) (xs := rowJ x) (off := 2) (v := .int .i64 x.st) rfl
  have x2 := run_part_plain (P := Tryd.prog) (w := w) (e := 24) (by kernel_rfl) (xs := rowJ x) (off := 3) (v := .int .u32 x.bal) rfl
  have x3 := run_part_plain (P := Tryd.prog) (w := w) (e := 24) (by kernel_rfl) (xs := rowJ x) (off := 4) (v := .int .u32 x.vote) rfl
  have x4 := run_part_plain (P := Tryd.prog) (w := w) (e := 4) (by kernel_rfl) (xs := rowJ x) (off := 5) (v := .bool x.same) rfl
  have y0 := part_name y 40 (.inr rfl) w
  have y5 := part_cmd y 42 (.inr rfl) w
  have y6 := part_attr y 43 (.inr rfl) w
  have y1 := run_part_plain (P := Tryd.prog) (w := w) (e := 3) (by kernel_rfl) (xs := rowJ y) (off := 2) (v := .int .i64 y.st) rfl
  have y2 := run_part_plain (P := Tryd.prog) (w := w) (e := 24) (by kernel_rfl) (xs := rowJ y) (off := 3) (v := .int .u32 y.bal) rfl
  have y3 := run_part_plain (P := Tryd.prog) (w := w) (e := 24) (by kernel_rfl) (xs := rowJ y) (off := 4) (v := .int .u32 y.vote) rfl
  have y4 := run_part_plain (P := Tryd.prog) (w := w) (e := 4) (by kernel_rfl) (xs := rowJ y) (off := 5) (v := .bool y.same) rfl
  have e0 := eq_rname1 x.r x.s y.r y.s _ rfl w
  have e1 := run_equalIn_int (P := Tryd.prog) w 9998 3 .i64 .i64 x.st y.st Tryd.underlying3
  have e2 := run_equalIn_int (P := Tryd.prog) w 9998 24 .u32 .u32 x.bal y.bal Tryd.underlying24
  have e3 := run_equalIn_int (P := Tryd.prog) w 9998 24 .u32 .u32 x.vote y.vote Tryd.underlying24
  have e4 := run_eq_bool 9998 x.same y.same w
  have e5 := eq_rval1 x.c y.c _ rfl w
  have e6 := eq_refa1 x.f y.f _ rfl w
  subst hb
  have hE : eqJ x y = ((x.r == y.r && x.s == y.s) && ((x.st == y.st) && ((x.bal == y.bal) && ((x.vote == y.vote) && ((x.same == y.same) && (decide (x.c = y.c) && (eqA x.f y.f && true))))))) := by unfold eqJ; rw [Bool.and_true]
  rw [hE]
  clear hE
  simp only [Program.fieldsOf, Tryd.underlying45]
  exact eqf_cons (by decide) x0 y0 e0 (eqf_cons (by decide) x1 y1 e1 (eqf_cons (by decide) x2 y2 e2 (eqf_cons (by decide) x3 y3 e3 (eqf_cons (by decide) x4 y4 e4 (eqf_cons (by decide) x5 y5 e5 (eqf_cons (by decide) x6 y6 e6 eqf_nil))))))

theorem inst_guard : Tryd.prog.eqGuardType Tryd.prog.depth 35 = false := by kernel_rfl
theorem refx_guard : Tryd.prog.eqGuardType Tryd.prog.depth 45 = false := by kernel_rfl

end Go.Proofs.YtapmchkikafpmaaDoor
