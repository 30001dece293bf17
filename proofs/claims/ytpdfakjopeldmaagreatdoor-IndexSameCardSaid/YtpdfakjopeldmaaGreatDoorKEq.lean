/-
  Two commands, compared.
-/
import Derived.Test.YtpdfakjopeldmaaGreatDoorKBase
namespace Go.Proofs.YtpdfakjopeldmaaGreatDoor
open Go.ChangeShapes Go.WideShapes Go.ChangeAt Go.RowKit Go.Lib

theorem bytes_eq (a b : ByteArray) : (a.toList == b.toList) = decide (a = b) := by
  rw [toList_L, toList_L]
  by_cases h : a = b
  · subst h; simp
  · rw [decide_eq_false h, beq_eq_false_iff_ne]
    exact fun e => h (L_inj.1 e)

theorem eq_sess (u : Int) (f : ByteArray) (u2 : Int) (f2 : ByteArray) (w : World) :
    (Op.equalIn 9999 25 (.agg #[.int .u64 u, .string f]) (.agg #[.int .u64 u2, .string f2])).run Tryz.prog w = .ok (u == u2 && decide (f = f2)) w := by
  have ht : Tryz.prog.underlying 25 = some (.struct (Tryz.prog.fieldsOf 25)) := by kernel_rfl
  have hp : Tryz.prog.stoodInHeld 25 = false := by kernel_rfl
  rw [run_equalIn_struct w 9998 _ _ _ ht hp]
  have p1 := run_part_plain (P := Tryz.prog) (w := w) (e := 23) (by kernel_rfl) (xs := #[.int .u64 u, .string f]) (off := 0) rfl
  have p2 := run_part_plain (P := Tryz.prog) (w := w) (e := 9) (by kernel_rfl) (xs := #[.int .u64 u, .string f]) (off := 1) rfl
  have p3 := run_part_plain (P := Tryz.prog) (w := w) (e := 23) (by kernel_rfl) (xs := #[.int .u64 u2, .string f2]) (off := 0) rfl
  have p4 := run_part_plain (P := Tryz.prog) (w := w) (e := 9) (by kernel_rfl) (xs := #[.int .u64 u2, .string f2]) (off := 1) rfl
  have q1 := run_equalIn_int (P := Tryz.prog) w 9997 23 .u64 .u64 u u2 Tryz.underlying23
  have q2 := run_equalIn_string (P := Tryz.prog) w 9997 9 f f2 Tryz.underlying9
  rw [bytes_eq] at q2
  cases h : (u == u2) <;> simp [Program.fieldsOf, Tryz.underlying25, Op.eqFields, p1, p2, p3, p4, q1, q2, h, Sem.run_bind, Sem.run_ite, Result.andThen_ok]
  by_cases h2 : f = f2 <;> simp [h2]

theorem run_part_sess (k u : Int) (f : ByteArray) (q : Int) (s : ByteArray) (m n t : Int) (w : World) :
    (part 25 #[.int .i64 k, .int .u64 u, .string f, .int .u64 q, .string s, .int .i64 m, .int .u64 n, .int .i64 t] 1).run Tryz.prog w = .ok (.agg #[.int .u64 u, .string f]) w := by
  simp [go_sem, part]

theorem dec_val (k u : Int) (f : ByteArray) (q : Int) (s : ByteArray) (m n t k' u' : Int) (f' : ByteArray) (q' : Int) (s' : ByteArray) (m' n' t' : Int) :
    decide ((⟨k, u, f, q, s, m, n, t⟩ : K) = ⟨k', u', f', q', s', m', n', t'⟩) = ((k == k') && ((u == u' && decide (f = f')) && ((q == q') && (decide (s = s') && ((m == m') && ((n == n') && (t == t'))))))) := by
  rw [Bool.eq_iff_iff]
  simp [and_assoc]

set_option maxRecDepth 100000 in
theorem eq_parts (k u : Int) (f : ByteArray) (q : Int) (s : ByteArray) (m n t k' u' : Int) (f' : ByteArray) (q' : Int) (s' : ByteArray) (m' n' t' : Int) (w : World) :
    (Op.equalIn 10000 27 (val ⟨k, u, f, q, s, m, n, t⟩) (val ⟨k', u', f', q', s', m', n', t'⟩)).run Tryz.prog w = .ok ((k == k') && ((u == u' && decide (f = f')) && ((q == q') && (decide (s = s') && ((m == m') && ((n == n') && (t == t'))))))) w := by
  have ht : Tryz.prog.underlying 27 = some (.struct (Tryz.prog.fieldsOf 27)) := by kernel_rfl
  have hp : Tryz.prog.stoodInHeld 27 = false := by kernel_rfl
  rw [run_equalIn_struct w 9999 _ _ _ ht hp]
  have s1 := run_part_sess k u f q s m n t w
  have s2 := run_part_sess k' u' f' q' s' m' n' t' w
  have s3 := eq_sess u f u' f' w
  have a0 := run_part_plain (P := Tryz.prog) (w := w) (e := 3) (by kernel_rfl) (xs := #[.int .i64 k, .int .u64 u, .string f, .int .u64 q, .string s, .int .i64 m, .int .u64 n, .int .i64 t]) (off := 0) rfl
  have b0 := run_part_plain (P := Tryz.prog) (w := w) (e := 3) (by kernel_rfl) (xs := #[.int .i64 k', .int .u64 u', .string f', .int .u64 q', .string s', .int .i64 m', .int .u64 n', .int .i64 t']) (off := 0) rfl
  have e0 := run_equalIn_int (P := Tryz.prog) w 9998 3 .i64 .i64 k k' Tryz.underlying3
  have a1 := run_part_plain (P := Tryz.prog) (w := w) (e := 23) (by kernel_rfl) (xs := #[.int .i64 k, .int .u64 u, .string f, .int .u64 q, .string s, .int .i64 m, .int .u64 n, .int .i64 t]) (off := 3) rfl
  have b1 := run_part_plain (P := Tryz.prog) (w := w) (e := 23) (by kernel_rfl) (xs := #[.int .i64 k', .int .u64 u', .string f', .int .u64 q', .string s', .int .i64 m', .int .u64 n', .int .i64 t']) (off := 3) rfl
  have e1 := run_equalIn_int (P := Tryz.prog) w 9998 23 .u64 .u64 q q' Tryz.underlying23
  have a2 := run_part_plain (P := Tryz.prog) (w := w) (e := 9) (by kernel_rfl) (xs := #[.int .i64 k, .int .u64 u, .string f, .int .u64 q, .string s, .int .i64 m, .int .u64 n, .int .i64 t]) (off := 4) rfl
  have b2 := run_part_plain (P := Tryz.prog) (w := w) (e := 9) (by kernel_rfl) (xs := #[.int .i64 k', .int .u64 u', .string f', .int .u64 q', .string s', .int .i64 m', .int .u64 n', .int .i64 t']) (off := 4) rfl
  have e2 := run_equalIn_string (P := Tryz.prog) w 9998 9 s s' Tryz.underlying9
  rw [bytes_eq] at e2
  have a3 := run_part_plain (P := Tryz.prog) (w := w) (e := 3) (by kernel_rfl) (xs := #[.int .i64 k, .int .u64 u, .string f, .int .u64 q, .string s, .int .i64 m, .int .u64 n, .int .i64 t]) (off := 5) rfl
  have b3 := run_part_plain (P := Tryz.prog) (w := w) (e := 3) (by kernel_rfl) (xs := #[.int .i64 k', .int .u64 u', .string f', .int .u64 q', .string s', .int .i64 m', .int .u64 n', .int .i64 t']) (off := 5) rfl
  have e3 := run_equalIn_int (P := Tryz.prog) w 9998 3 .i64 .i64 m m' Tryz.underlying3
  have a4 := run_part_plain (P := Tryz.prog) (w := w) (e := 23) (by kernel_rfl) (xs := #[.int .i64 k, .int .u64 u, .string f, .int .u64 q, .string s, .int .i64 m, .int .u64 n, .int .i64 t]) (off := 6) rfl
  have b4 := run_part_plain (P := Tryz.prog) (w := w) (e := 23) (by kernel_rfl) (xs := #[.int .i64 k', .int .u64 u', .string f', .int .u64 q', .string s', .int .i64 m', .int .u64 n', .int .i64 t']) (off := 6) rfl
  have e4 := run_equalIn_int (P := Tryz.prog) w 9998 23 .u64 .u64 n n' Tryz.underlying23
  have a5 := run_part_plain (P := Tryz.prog) (w := w) (e := 3) (by kernel_rfl) (xs := #[.int .i64 k, .int .u64 u, .string f, .int .u64 q, .string s, .int .i64 m, .int .u64 n, .int .i64 t]) (off := 7) rfl
  have b5 := run_part_plain (P := Tryz.prog) (w := w) (e := 3) (by kernel_rfl) (xs := #[.int .i64 k', .int .u64 u', .string f', .int .u64 q', .string s', .int .i64 m', .int .u64 n', .int .i64 t']) (off := 7) rfl
  have e5 := run_equalIn_int (P := Tryz.prog) w 9998 3 .i64 .i64 t t' Tryz.underlying3
  obtain ⟨x0, hx0⟩ : ∃ x, (k == k') = x := ⟨_, rfl⟩
  rw [hx0] at e0 ⊢
  obtain ⟨x1, hx1⟩ : ∃ x, (u == u' && decide (f = f')) = x := ⟨_, rfl⟩
  rw [hx1] at s3 ⊢
  obtain ⟨x2, hx2⟩ : ∃ x, (q == q') = x := ⟨_, rfl⟩
  rw [hx2] at e1 ⊢
  obtain ⟨x3, hx3⟩ : ∃ x, decide (s = s') = x := ⟨_, rfl⟩
  rw [hx3] at e2 ⊢
  obtain ⟨x4, hx4⟩ : ∃ x, (m == m') = x := ⟨_, rfl⟩
  rw [hx4] at e3 ⊢
  obtain ⟨x5, hx5⟩ : ∃ x, (n == n') = x := ⟨_, rfl⟩
  rw [hx5] at e4 ⊢
  obtain ⟨x6, hx6⟩ : ∃ x, (t == t') = x := ⟨_, rfl⟩
  rw [hx6] at e5 ⊢
  clear hx0 hx1 hx2 hx3 hx4 hx5 hx6 ht hp
  simp only [Program.fieldsOf, Tryz.underlying27]
  cases x0 <;> cases x1 <;> cases x2 <;> cases x3 <;> cases x4 <;> cases x5 <;> simp [Op.eqFields, s1, s2, s3, a0, b0, e0, a1, b1, e1, a2, b2, e2, a3, b3, e3, a4, b4, e4, a5, b5, e5, Sem.run_bind, Sem.run_ite, Result.andThen_ok]
  cases x6 <;> rfl

theorem eq_val (c d : K) (b : Bool) (hb : decide (c = d) = b) (w : World) : (Op.equalIn 10000 27 (val c) (val d)).run Tryz.prog w = .ok b w := by
  subst hb
  obtain ⟨k, u, f, q, s, m, n, t⟩ := c
  obtain ⟨k', u', f', q', s', m', n', t'⟩ := d
  rw [dec_val]
  exact eq_parts k u f q s m n t k' u' f' q' s' m' n' t' w

theorem eq_guard : Tryz.prog.eqGuardType Tryz.prog.depth 27 = false := by kernel_rfl

end Go.Proofs.YtpdfakjopeldmaaGreatDoor
