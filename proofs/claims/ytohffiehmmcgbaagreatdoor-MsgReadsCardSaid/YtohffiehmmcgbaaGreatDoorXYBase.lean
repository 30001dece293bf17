/-
  Messages in boxes; contracts of package msg: isKind, isReply, isReplica, isBetweenTwo, statusOf, asked.
-/
import Derived.Test.YtohffiehmmcgbaaGreatDoorXD
import Derived.Test.YtohffiehmmcgbaaGreatDoorXA
import Derived.Test.YtohffiehmmcgbaaGreatDoorXC
namespace Go.Proofs.YtohffiehmmcgbaaGreatDoor
structure Ms where
  k : Int
  a : Int
  b : Int
  r : Int
  s : Int
  bal : Int
  ok : Bool
  x : J
def okM (m : Ms) : Prop := (0 ≤ m.bal ∧ m.bal < 4294967296) ∧ okJ m.x ∧ okK m.x.c
def zeroM : Ms := ⟨0, 0, 0, 0, 0, 0, false, zeroJ⟩
def eqM (m n : Ms) : Bool := (m.k == n.k) && ((m.a == n.a) && ((m.b == n.b) && ((m.r == n.r && m.s == n.s) && ((m.bal == n.bal) && ((m.ok == n.ok) && eqJ m.x n.x)))))
def kindB (k : Int) : Bool := decide (0 < k ∧ k < 8)
def replyB (k : Int) : Bool := k == 2 || (k == 4 || k == 7)
def twoB (m : Ms) : Bool := repB m.a && repB m.b && (m.a != m.b)
def statK (k : Int) : Int := if k ≤ 1 then 1 else if k ≤ 3 then 2 else 3
def askedJ (k bal : Int) (x : J) : J := ⟨x.r, x.s, statK k, bal, bal, false, x.c, x.f⟩
def lastB (m : Ms) : Bool := replyB m.k || (!m.ok && eqJ m.x (askedJ m.k m.bal m.x))
def knownB (m : Ms) : Bool := rightJ m.x && (m.x.r == m.r && m.x.s == m.s) && lastB m
def rightM (m : Ms) : Bool := kindB m.k && twoB m && nameB m.r m.s && balB m.bal && (if m.k = 6 then !m.ok && eqJ m.x zeroJ else knownB m)
theorem eqJ_asked (k bal : Int) (x : J) : eqJ x (askedJ k bal x) = (x.st == statK k && x.bal == bal && x.vote == bal && !x.same) := by
  unfold eqJ askedJ
  simp only [BEq.rfl, Bool.true_and, Bool.and_true, decide_true, eqA_self]
  cases x.same <;> simp [Bool.and_assoc]
def docM (m : Ms) : Bool := decide (1 ≤ m.k) && decide (m.k ≤ 7) && decide (0 ≤ m.a) && decide (m.a ≤ 6) && decide (0 ≤ m.b) && decide (m.b ≤ 6) && (m.a != m.b) && nameB m.r m.s && balB m.bal &&
  (if m.k = 6 then !m.ok && eqJ m.x zeroJ else rightJ m.x && (m.x.r == m.r && m.x.s == m.s) && (replyB m.k || (!m.ok && (m.x.st == statK m.k) && (m.x.bal == m.bal) && (m.x.vote == m.bal) && !m.x.same)))
theorem doc_rightM (m : Ms) : docM m = rightM m := by
  unfold docM rightM knownB lastB kindB twoB repB
  rw [eqJ_asked]
  have e : (decide (1 ≤ m.k) && decide (m.k ≤ 7) && decide (0 ≤ m.a) && decide (m.a ≤ 6) && decide (0 ≤ m.b) && decide (m.b ≤ 6) && (m.a != m.b)) = (decide (0 < m.k ∧ m.k < 8) && (decide (0 ≤ m.a ∧ m.a ≤ 6) && decide (0 ≤ m.b ∧ m.b ≤ 6) && (m.a != m.b))) := by
    rw [Bool.eq_iff_iff]
    simp only [Bool.and_eq_true, decide_eq_true_eq]
    constructor
    · rintro ⟨⟨⟨⟨⟨⟨h1, h2⟩, h3⟩, h4⟩, h5⟩, h6⟩, h7⟩; exact ⟨⟨by omega, by omega⟩, ⟨⟨h3, h4⟩, h5, h6⟩, h7⟩
    · rintro ⟨⟨h1, h2⟩, ⟨⟨h3, h4⟩, h5, h6⟩, h7⟩; exact ⟨⟨⟨⟨⟨⟨by omega, by omega⟩, h3⟩, h4⟩, h5⟩, h6⟩, h7⟩
  rw [e]
  simp only [Bool.and_assoc]
theorem rightM_in {m : Ms} (hok : okM m) (hr : rightM m = true) : ∃ k a b r s v : Nat, m.k = k ∧ m.a = a ∧ m.b = b ∧ m.r = r ∧ m.s = s ∧ m.bal = v ∧ 0 < k ∧ k < 8 ∧ a ≤ 6 ∧ b ≤ 6 ∧ r < 7 ∧ s < 1024 ∧ v < 4294967296 ∧ ballotB v = true ∧
    (k = 6 → m.ok = false ∧ eqJ m.x zeroJ = true) ∧ (k ≠ 6 → rightJ m.x = true) := by
  unfold rightM at hr
  simp only [Bool.and_eq_true] at hr
  obtain ⟨⟨⟨⟨hk, ht⟩, hn⟩, hb⟩, hx⟩ := hr
  unfold kindB at hk
  unfold twoB repB at ht
  simp only [Bool.and_eq_true, decide_eq_true_eq] at hk ht
  obtain ⟨r, s, hr, hs, hr7, hs10, _⟩ := name_in hn
  refine ⟨m.k.toNat, m.a.toNat, m.b.toNat, r, s, m.bal.toNat, by omega, by omega, by omega, hr, hs, by have := hok.1; omega, by omega, by omega, by omega, by omega, hr7, hs10, by have := hok.1; omega, hb, fun h => ?_, fun h => ?_⟩
  · rw [if_pos (by omega)] at hx
    simpa using hx
  · rw [if_neg (by omega)] at hx
    unfold knownB at hx
    simp only [Bool.and_eq_true] at hx
    exact hx.1.1
def headM (m : Ms) : List Nat := (((((([] ++ [m.k.toNat]) ++ [m.a.toNat]) ++ [m.b.toNat]) ++ [m.r.toNat]) ++ shortN m.s.toNat) ++ shortN m.bal.toNat) ++ [truthN m.ok]
def tailM (m : Ms) : List Nat := if m.k = 6 then [] else encJ m.x
def encM (m : Ms) : List Nat := headM m ++ tailM m
theorem eqM_self (m : Ms) : eqM m m = true := by unfold eqM; simp [eqJ_self]
end Go.Proofs.YtohffiehmmcgbaaGreatDoor
namespace Go.Proofs.YtohffiehmmcgbaaGreatDoor
open Go.ChangeShapes Go.WideShapes Go.ChangeAt Go.RowKit
set_option linter.unusedVariables false
set_option linter.unusedSimpArgs false
def rowM (m : Ms) : Array Value := #[.int .i64 m.k, .int .i64 m.a, .int .i64 m.b, .int .i64 m.r, .int .i64 m.s, .int .u32 m.bal, .bool m.ok, .int .i64 m.x.r, .int .i64 m.x.s, .int .i64 m.x.st, .int .u32 m.x.bal, .int .u32 m.x.vote, .bool m.x.same, .int .i64 m.x.c.kind, .int .u64 m.x.c.num, .string m.x.c.foot, .int .u64 m.x.c.req, .string m.x.c.path, .int .i64 m.x.c.mode, .int .u64 m.x.c.n, .int .i64 m.x.c.time, .int .i64 (m.x.f 0), .int .i64 (m.x.f 1), .int .i64 (m.x.f 2), .int .i64 (m.x.f 3), .int .i64 (m.x.f 4), .int .i64 (m.x.f 5), .int .i64 (m.x.f 6), .int .i64 (m.x.f 7)]
theorem rowM_size (m : Ms) : (rowM m).size = 29 := rfl
abbrev lsJ (x : J) : List Value := [.int .i64 x.r, .int .i64 x.s, .int .i64 x.st, .int .u32 x.bal, .int .u32 x.vote, .bool x.same, .int .i64 x.c.kind, .int .u64 x.c.num, .string x.c.foot, .int .u64 x.c.req, .string x.c.path, .int .i64 x.c.mode, .int .u64 x.c.n, .int .i64 x.c.time, .int .i64 (x.f 0), .int .i64 (x.f 1), .int .i64 (x.f 2), .int .i64 (x.f 3), .int .i64 (x.f 4), .int .i64 (x.f 5), .int .i64 (x.f 6), .int .i64 (x.f 7)]
theorem eq_nameY (r s r2 s2 : Int) (b : Bool) (hb : (r == r2 && s == s2) = b) (w : World) :
    (Op.equalIn 9998 25 (.agg #[.int .i64 r, .int .i64 s]) (.agg #[.int .i64 r2, .int .i64 s2])).run Tryz.prog w = .ok b w := by
  have ht : Tryz.prog.underlying 25 = some (.struct (Tryz.prog.fieldsOf 25)) := by kernel_rfl
  have hp : Tryz.prog.stoodInHeld 25 = false := by kernel_rfl
  rw [run_equalIn_struct w 9997 _ _ _ ht hp]
  have p1 := run_part_plain (P := Tryz.prog) (w := w) (e := 3) (by kernel_rfl) (xs := #[.int .i64 r, .int .i64 s]) (off := 0) rfl
  have p2 := run_part_plain (P := Tryz.prog) (w := w) (e := 3) (by kernel_rfl) (xs := #[.int .i64 r, .int .i64 s]) (off := 1) rfl
  have p3 := run_part_plain (P := Tryz.prog) (w := w) (e := 3) (by kernel_rfl) (xs := #[.int .i64 r2, .int .i64 s2]) (off := 0) rfl
  have p4 := run_part_plain (P := Tryz.prog) (w := w) (e := 3) (by kernel_rfl) (xs := #[.int .i64 r2, .int .i64 s2]) (off := 1) rfl
  have q1 := run_equalIn_int (P := Tryz.prog) w 9996 3 .i64 .i64 r r2 Tryz.underlying3
  have q2 := run_equalIn_int (P := Tryz.prog) w 9996 3 .i64 .i64 s s2 Tryz.underlying3
  subst hb
  cases h : (r == r2) <;> simp [Program.fieldsOf, Tryz.underlying25, Op.eqFields, p1, p2, p3, p4, q1, q2, h, Sem.run_bind, Sem.run_ite, Result.andThen_ok]
  by_cases h2 : s = s2 <;> simp [h2]
theorem eq_sessY (u : Int) (f : ByteArray) (u2 : Int) (f2 : ByteArray) (w : World) :
    (Op.equalIn 9997 30 (.agg #[.int .u64 u, .string f]) (.agg #[.int .u64 u2, .string f2])).run Tryz.prog w = .ok (u == u2 && decide (f = f2)) w := by
  have ht : Tryz.prog.underlying 30 = some (.struct (Tryz.prog.fieldsOf 30)) := by kernel_rfl
  have hp : Tryz.prog.stoodInHeld 30 = false := by kernel_rfl
  rw [run_equalIn_struct w 9996 _ _ _ ht hp]
  have p1 := run_part_plain (P := Tryz.prog) (w := w) (e := 28) (by kernel_rfl) (xs := #[.int .u64 u, .string f]) (off := 0) rfl
  have p2 := run_part_plain (P := Tryz.prog) (w := w) (e := 9) (by kernel_rfl) (xs := #[.int .u64 u, .string f]) (off := 1) rfl
  have p3 := run_part_plain (P := Tryz.prog) (w := w) (e := 28) (by kernel_rfl) (xs := #[.int .u64 u2, .string f2]) (off := 0) rfl
  have p4 := run_part_plain (P := Tryz.prog) (w := w) (e := 9) (by kernel_rfl) (xs := #[.int .u64 u2, .string f2]) (off := 1) rfl
  have q1 := run_equalIn_int (P := Tryz.prog) w 9995 28 .u64 .u64 u u2 Tryz.underlying28
  have q2 := run_equalIn_string (P := Tryz.prog) w 9995 9 f f2 Tryz.underlying9
  rw [bytes_eq] at q2
  cases h : (u == u2) <;> simp [Program.fieldsOf, Tryz.underlying30, Op.eqFields, p1, p2, p3, p4, q1, q2, h, Sem.run_bind, Sem.run_ite, Result.andThen_ok]
  by_cases h2 : f = f2 <;> simp [h2]
set_option maxRecDepth 100000 in
theorem eq_partsY (k u : Int) (f : ByteArray) (q : Int) (s : ByteArray) (m n t k' u' : Int) (f' : ByteArray) (q' : Int) (s' : ByteArray) (m' n' t' : Int) (w : World) :
    (Op.equalIn 9998 32 (val ⟨k, u, f, q, s, m, n, t⟩) (val ⟨k', u', f', q', s', m', n', t'⟩)).run Tryz.prog w = .ok ((k == k') && ((u == u' && decide (f = f')) && ((q == q') && (decide (s = s') && ((m == m') && ((n == n') && (t == t'))))))) w := by
  have ht : Tryz.prog.underlying 32 = some (.struct (Tryz.prog.fieldsOf 32)) := by kernel_rfl
  have hp : Tryz.prog.stoodInHeld 32 = false := by kernel_rfl
  rw [run_equalIn_struct w 9997 _ _ _ ht hp]
  have s1 := run_part_sess k u f q s m n t w
  have s2 := run_part_sess k' u' f' q' s' m' n' t' w
  have s3 := eq_sessY u f u' f' w
  have a0 := run_part_plain (P := Tryz.prog) (w := w) (e := 3) (by kernel_rfl) (xs := #[.int .i64 k, .int .u64 u, .string f, .int .u64 q, .string s, .int .i64 m, .int .u64 n, .int .i64 t]) (off := 0) rfl
  have b0 := run_part_plain (P := Tryz.prog) (w := w) (e := 3) (by kernel_rfl) (xs := #[.int .i64 k', .int .u64 u', .string f', .int .u64 q', .string s', .int .i64 m', .int .u64 n', .int .i64 t']) (off := 0) rfl
  have e0 := run_equalIn_int (P := Tryz.prog) w 9996 3 .i64 .i64 k k' Tryz.underlying3
  have a1 := run_part_plain (P := Tryz.prog) (w := w) (e := 28) (by kernel_rfl) (xs := #[.int .i64 k, .int .u64 u, .string f, .int .u64 q, .string s, .int .i64 m, .int .u64 n, .int .i64 t]) (off := 3) rfl
  have b1 := run_part_plain (P := Tryz.prog) (w := w) (e := 28) (by kernel_rfl) (xs := #[.int .i64 k', .int .u64 u', .string f', .int .u64 q', .string s', .int .i64 m', .int .u64 n', .int .i64 t']) (off := 3) rfl
  have e1 := run_equalIn_int (P := Tryz.prog) w 9996 28 .u64 .u64 q q' Tryz.underlying28
  have a2 := run_part_plain (P := Tryz.prog) (w := w) (e := 9) (by kernel_rfl) (xs := #[.int .i64 k, .int .u64 u, .string f, .int .u64 q, .string s, .int .i64 m, .int .u64 n, .int .i64 t]) (off := 4) rfl
  have b2 := run_part_plain (P := Tryz.prog) (w := w) (e := 9) (by kernel_rfl) (xs := #[.int .i64 k', .int .u64 u', .string f', .int .u64 q', .string s', .int .i64 m', .int .u64 n', .int .i64 t']) (off := 4) rfl
  have e2 := run_equalIn_string (P := Tryz.prog) w 9996 9 s s' Tryz.underlying9
  rw [bytes_eq] at e2
  have a3 := run_part_plain (P := Tryz.prog) (w := w) (e := 3) (by kernel_rfl) (xs := #[.int .i64 k, .int .u64 u, .string f, .int .u64 q, .string s, .int .i64 m, .int .u64 n, .int .i64 t]) (off := 5) rfl
  have b3 := run_part_plain (P := Tryz.prog) (w := w) (e := 3) (by kernel_rfl) (xs := #[.int .i64 k', .int .u64 u', .string f', .int .u64 q', .string s', .int .i64 m', .int .u64 n', .int .i64 t']) (off := 5) rfl
  have e3 := run_equalIn_int (P := Tryz.prog) w 9996 3 .i64 .i64 m m' Tryz.underlying3
  have a4 := run_part_plain (P := Tryz.prog) (w := w) (e := 28) (by kernel_rfl) (xs := #[.int .i64 k, .int .u64 u, .string f, .int .u64 q, .string s, .int .i64 m, .int .u64 n, .int .i64 t]) (off := 6) rfl
  have b4 := run_part_plain (P := Tryz.prog) (w := w) (e := 28) (by kernel_rfl) (xs := #[.int .i64 k', .int .u64 u', .string f', .int .u64 q', .string s', .int .i64 m', .int .u64 n', .int .i64 t']) (off := 6) rfl
  have e4 := run_equalIn_int (P := Tryz.prog) w 9996 28 .u64 .u64 n n' Tryz.underlying28
  have a5 := run_part_plain (P := Tryz.prog) (w := w) (e := 3) (by kernel_rfl) (xs := #[.int .i64 k, .int .u64 u, .string f, .int .u64 q, .string s, .int .i64 m, .int .u64 n, .int .i64 t]) (off := 7) rfl
  have b5 := run_part_plain (P := Tryz.prog) (w := w) (e := 3) (by kernel_rfl) (xs := #[.int .i64 k', .int .u64 u', .string f', .int .u64 q', .string s', .int .i64 m', .int .u64 n', .int .i64 t']) (off := 7) rfl
  have e5 := run_equalIn_int (P := Tryz.prog) w 9996 3 .i64 .i64 t t' Tryz.underlying3
  obtain ⟨x0, hx0⟩ : ∃ x, (k == k') = x := ⟨_, rfl⟩
  rw [hx0] at e0 ⊢
  obtain ⟨x1, hx1⟩ : ∃ x, (u == u' && decide (f = f')) = x := ⟨_, rfl⟩
  rw [hx1] at s3 ⊢
  obtain ⟨x2, hx2⟩ : ∃ x, (q == q') = x := ⟨_, rfl⟩
  rw [hx2] at e1 ⊢
  obtain ⟨x3, hx3⟩ : ∃ x, decide (s = s') = x := ⟨_, rfl⟩
  rw [hx3] at e2 ⊢
  obtain ⟨x4, hx4⟩ : ∃ x, (m == m') = x := ⟨_, rfl⟩
  rw [hx4] at e3 ⊢
  obtain ⟨x5, hx5⟩ : ∃ x, (n == n') = x := ⟨_, rfl⟩
  rw [hx5] at e4 ⊢
  obtain ⟨x6, hx6⟩ : ∃ x, (t == t') = x := ⟨_, rfl⟩
  rw [hx6] at e5 ⊢
  clear hx0 hx1 hx2 hx3 hx4 hx5 hx6 ht hp
  simp only [Program.fieldsOf, Tryz.underlying32]
  cases x0 <;> cases x1 <;> cases x2 <;> cases x3 <;> cases x4 <;> cases x5 <;> simp [Op.eqFields, s1, s2, s3, a0, b0, e0, a1, b1, e1, a2, b2, e2, a3, b3, e3, a4, b4, e4, a5, b5, e5, Sem.run_bind, Sem.run_ite, Result.andThen_ok]
  cases x6 <;> rfl
theorem eq_valY (c d : K) (b : Bool) (hb : decide (c = d) = b) (w : World) : (Op.equalIn 9998 32 (val c) (val d)).run Tryz.prog w = .ok b w := by
  subst hb
  obtain ⟨k, u, f, q, s, m, n, t⟩ := c
  obtain ⟨k', u', f', q', s', m', n', t'⟩ := d
  rw [dec_val]
  exact eq_partsY k u f q s m n t k' u' f' q' s' m' n' t' w
theorem eq_attrY (f g : Nat → Int) (b : Bool) (hb : eqA f g = b) (w : World) : (Op.equalIn 9998 35 (.agg #[.int .i64 (f 0), .int .i64 (f 1), .int .i64 (f 2), .int .i64 (f 3), .int .i64 (f 4), .int .i64 (f 5), .int .i64 (f 6), .int .i64 (f 7)]) (.agg #[.int .i64 (g 0), .int .i64 (g 1), .int .i64 (g 2), .int .i64 (g 3), .int .i64 (g 4), .int .i64 (g 5), .int .i64 (g 6), .int .i64 (g 7)])).run Tryz.prog w = .ok b w := by
  have ht : Tryz.prog.underlying 35 = some (.struct (Tryz.prog.fieldsOf 35)) := by kernel_rfl
  have hp : Tryz.prog.stoodInHeld 35 = false := by kernel_rfl
  rw [run_equalIn_struct w 9997 _ _ _ ht hp]
  have p0 := run_part_plain (P := Tryz.prog) (w := w) (e := 3) (by kernel_rfl) (xs := cs8 f) (off := 0) rfl
  have q0 := run_part_plain (P := Tryz.prog) (w := w) (e := 3) (by kernel_rfl) (xs := cs8 g) (off := 0) rfl
  have p1 := part_deps f w
  have q1 := part_deps g w
  have e0 := run_equalIn_int (P := Tryz.prog) w 9996 3 .i64 .i64 (f 0) (g 0) Tryz.underlying3
  have e1 := eq_seven f g 9995 w
  subst hb
  unfold eqA
  obtain ⟨x, hx⟩ : ∃ x, (f 0 == g 0) = x := ⟨_, rfl⟩
  rw [hx] at e0 ⊢
  obtain ⟨y, hy⟩ : ∃ y, eqD f g = y := ⟨_, rfl⟩
  rw [hy] at e1 ⊢
  cases x <;> cases y <;> simp [Program.fieldsOf, Tryz.underlying35, Op.eqFields, p0, p1, q0, q1, e0, e1, Sem.run_bind, Sem.run_ite, Result.andThen_ok]
set_option maxRecDepth 100000 in
set_option maxHeartbeats 1000000 in
theorem eq_inst9 (x y : J) (b : Bool) (hb : eqJ x y = b) (w : World) : (Op.equalIn 9999 37 (.agg (rowJ x)) (.agg (rowJ y))).run Tryz.prog w = .ok b w := by
  have ht : Tryz.prog.underlying 37 = some (.struct (Tryz.prog.fieldsOf 37)) := by kernel_rfl
  have hp : Tryz.prog.stoodInHeld 37 = false := by kernel_rfl
  rw [run_equalIn_struct w 9998 _ _ _ ht hp]
  have x0 := part_name x 25 (.inl rfl) w
  have x5 := part_cmd x 32 (.inl rfl) w
  have x6 := part_attr x 35 (.inl rfl) w
  have x1 := run_part_plain (P := Tryz.prog) (w := w) (e := 3) (by kernel_rfl) (xs := rowJ x) (off := 2) (v := .int .i64 x.st) rfl
  have x2 := run_part_plain (P := Tryz.prog) (w := w) (e := 27) (by kernel_rfl) (xs := rowJ x) (off := 3) (v := .int .u32 x.bal) rfl
  have x3 := run_part_plain (P := Tryz.prog) (w := w) (e := 27) (by kernel_rfl) (xs := rowJ x) (off := 4) (v := .int .u32 x.vote) rfl
  have x4 := run_part_plain (P := Tryz.prog) (w := w) (e := 4) (by kernel_rfl) (xs := rowJ x) (off := 5) (v := .bool x.same) rfl
  have y0 := part_name y 25 (.inl rfl) w
  have y5 := part_cmd y 32 (.inl rfl) w
  have y6 := part_attr y 35 (.inl rfl) w
  have y1 := run_part_plain (P := Tryz.prog) (w := w) (e := 3) (by kernel_rfl) (xs := rowJ y) (off := 2) (v := .int .i64 y.st) rfl
  have y2 := run_part_plain (P := Tryz.prog) (w := w) (e := 27) (by kernel_rfl) (xs := rowJ y) (off := 3) (v := .int .u32 y.bal) rfl
  have y3 := run_part_plain (P := Tryz.prog) (w := w) (e := 27) (by kernel_rfl) (xs := rowJ y) (off := 4) (v := .int .u32 y.vote) rfl
  have y4 := run_part_plain (P := Tryz.prog) (w := w) (e := 4) (by kernel_rfl) (xs := rowJ y) (off := 5) (v := .bool y.same) rfl
  have e0 := eq_nameY x.r x.s y.r y.s _ rfl w
  have e1 := run_equalIn_int (P := Tryz.prog) w 9997 3 .i64 .i64 x.st y.st Tryz.underlying3
  have e2 := run_equalIn_int (P := Tryz.prog) w 9997 27 .u32 .u32 x.bal y.bal Tryz.underlying27
  have e3 := run_equalIn_int (P := Tryz.prog) w 9997 27 .u32 .u32 x.vote y.vote Tryz.underlying27
  have e4 := run_eq_bool 9997 x.same y.same w
  have e5 := eq_valY x.c y.c _ rfl w
  have e6 := eq_attrY x.f y.f _ rfl w
  subst hb
  have hE : eqJ x y = ((x.r == y.r && x.s == y.s) && ((x.st == y.st) && ((x.bal == y.bal) && ((x.vote == y.vote) && ((x.same == y.same) && (decide (x.c = y.c) && (eqA x.f y.f && true))))))) := by unfold eqJ; rw [Bool.and_true]
  rw [hE]
  clear hE
  simp only [Program.fieldsOf, Tryz.underlying37]
  exact eqf_cons (by decide) x0 y0 e0 (eqf_cons (by decide) x1 y1 e1 (eqf_cons (by decide) x2 y2 e2 (eqf_cons (by decide) x3 y3 e3 (eqf_cons (by decide) x4 y4 e4 (eqf_cons (by decide) x5 y5 e5 (eqf_cons (by decide) x6 y6 e6 eqf_nil))))))
theorem part_mname (m : Ms) (w : World) : (part 25 (rowM m) 3).run Tryz.prog w = .ok (.agg #[.int .i64 m.r, .int .i64 m.s]) w := by simp [go_sem, part, rowM]
theorem part_known (m : Ms) (w : World) : (part 37 (rowM m) 7).run Tryz.prog w = .ok (.agg (rowJ m.x)) w := by simp [go_sem, part, rowM, rowJ]
set_option maxRecDepth 100000 in
set_option maxHeartbeats 1000000 in
theorem eq_msg (x y : Ms) (b : Bool) (hb : eqM x y = b) (w : World) : (Op.equalIn 10000 64 (.agg (rowM x)) (.agg (rowM y))).run Tryz.prog w = .ok b w := by
  have ht : Tryz.prog.underlying 64 = some (.struct (Tryz.prog.fieldsOf 64)) := by kernel_rfl
  have hp : Tryz.prog.stoodInHeld 64 = false := by kernel_rfl
  rw [run_equalIn_struct w 9999 _ _ _ ht hp]
  have x0 := run_part_plain (P := Tryz.prog) (w := w) (e := 3) (by kernel_rfl) (xs := rowM x) (off := 0) (v := .int .i64 x.k) rfl
  have x1 := run_part_plain (P := Tryz.prog) (w := w) (e := 3) (by kernel_rfl) (xs := rowM x) (off := 1) (v := .int .i64 x.a) rfl
  have x2 := run_part_plain (P := Tryz.prog) (w := w) (e := 3) (by kernel_rfl) (xs := rowM x) (off := 2) (v := .int .i64 x.b) rfl
  have x3 := part_mname x w
  have x4 := run_part_plain (P := Tryz.prog) (w := w) (e := 27) (by kernel_rfl) (xs := rowM x) (off := 5) (v := .int .u32 x.bal) rfl
  have x5 := run_part_plain (P := Tryz.prog) (w := w) (e := 4) (by kernel_rfl) (xs := rowM x) (off := 6) (v := .bool x.ok) rfl
  have x6 := part_known x w
  have y0 := run_part_plain (P := Tryz.prog) (w := w) (e := 3) (by kernel_rfl) (xs := rowM y) (off := 0) (v := .int .i64 y.k) rfl
  have y1 := run_part_plain (P := Tryz.prog) (w := w) (e := 3) (by kernel_rfl) (xs := rowM y) (off := 1) (v := .int .i64 y.a) rfl
  have y2 := run_part_plain (P := Tryz.prog) (w := w) (e := 3) (by kernel_rfl) (xs := rowM y) (off := 2) (v := .int .i64 y.b) rfl
  have y3 := part_mname y w
  have y4 := run_part_plain (P := Tryz.prog) (w := w) (e := 27) (by kernel_rfl) (xs := rowM y) (off := 5) (v := .int .u32 y.bal) rfl
  have y5 := run_part_plain (P := Tryz.prog) (w := w) (e := 4) (by kernel_rfl) (xs := rowM y) (off := 6) (v := .bool y.ok) rfl
  have y6 := part_known y w
  have e0 := run_equalIn_int (P := Tryz.prog) w 9998 3 .i64 .i64 x.k y.k Tryz.underlying3
  have e1 := run_equalIn_int (P := Tryz.prog) w 9998 3 .i64 .i64 x.a y.a Tryz.underlying3
  have e2 := run_equalIn_int (P := Tryz.prog) w 9998 3 .i64 .i64 x.b y.b Tryz.underlying3
  have e3 := eq_name1 x.r x.s y.r y.s _ rfl w
  have e4 := run_equalIn_int (P := Tryz.prog) w 9998 27 .u32 .u32 x.bal y.bal Tryz.underlying27
  have e5 := run_eq_bool 9998 x.ok y.ok w
  have e6 := eq_inst9 x.x y.x _ rfl w
  subst hb
  have hE : eqM x y = ((x.k == y.k) && ((x.a == y.a) && ((x.b == y.b) && ((x.r == y.r && x.s == y.s) && ((x.bal == y.bal) && ((x.ok == y.ok) && (eqJ x.x y.x && true))))))) := by unfold eqM; rw [Bool.and_true]
  rw [hE]
  clear hE
  simp only [Program.fieldsOf, Tryz.underlying64]
  exact eqf_cons (by decide) x0 y0 e0 (eqf_cons (by decide) x1 y1 e1 (eqf_cons (by decide) x2 y2 e2 (eqf_cons (by decide) x3 y3 e3 (eqf_cons (by decide) x4 y4 e4 (eqf_cons (by decide) x5 y5 e5 (eqf_cons (by decide) x6 y6 e6 eqf_nil))))))
theorem msg_guard : Tryz.prog.eqGuardType Tryz.prog.depth 64 = false := by kernel_rfl
end Go.Proofs.YtohffiehmmcgbaaGreatDoor
namespace Go.Proofs.YtohffiehmmcgbaaGreatDoor
open Go.ChangeShapes Go.WideShapes Go.ChangeAt Go.RowKit Go.Lib
set_option linter.unusedVariables false
set_option linter.unusedSimpArgs false
theorem info_msg : (Tryz.prog.info? 64).map (·.size) = some 29 := by kernel_rfl
theorem len_msg (m : Ms) : (Tryz.prog.info? 64).map (·.size) = some (rowM m).size := by rw [rowM_size]; exact info_msg
theorem size_msg (m n : Ms) : (rowM m).size = (rowM n).size := rfl
theorem rowM_one (m : Ms) : (rowM m).all (·.oneCell') = true := by simp [rowM, Value.oneCell']
theorem rowM_congr {m n : Ms} (h : eqM m n = true) : rowM m = rowM n := by
  unfold eqM eqJ at h
  simp only [Bool.and_eq_true, beq_iff_eq, decide_eq_true_eq, eqA_iff] at h
  obtain ⟨k1, k2, k3, ⟨k4, k5⟩, k6, k7, ⟨h1, h2⟩, h3, h4, h5, h6, h7, h8⟩ := h
  unfold rowM
  rw [k1, k2, k3, k4, k5, k6, k7, h1, h2, h3, h4, h5, h6, h7, h8 0 (by decide), h8 1 (by decide), h8 2 (by decide), h8 3 (by decide), h8 4 (by decide), h8 5 (by decide), h8 6 (by decide), h8 7 (by decide)]
section
variable {w : World} {g : Nat} {T : TypeId} {m : Ms}
theorem Blk.m0 (h : Blk w g T (rowM m)) : w.cell? ⟨g, 0, none⟩ = some (.int .i64 m.k) := (h.cell 0).trans rfl
theorem Blk.m1 (h : Blk w g T (rowM m)) : w.cell? ⟨g, 1, none⟩ = some (.int .i64 m.a) := (h.cell 1).trans rfl
theorem Blk.m2 (h : Blk w g T (rowM m)) : w.cell? ⟨g, 2, none⟩ = some (.int .i64 m.b) := (h.cell 2).trans rfl
theorem Blk.m3 (h : Blk w g T (rowM m)) : w.cell? ⟨g, 3, none⟩ = some (.int .i64 m.r) := (h.cell 3).trans rfl
theorem Blk.m4 (h : Blk w g T (rowM m)) : w.cell? ⟨g, 4, none⟩ = some (.int .i64 m.s) := (h.cell 4).trans rfl
theorem Blk.m5 (h : Blk w g T (rowM m)) : w.cell? ⟨g, 5, none⟩ = some (.int .u32 m.bal) := (h.cell 5).trans rfl
theorem Blk.m6 (h : Blk w g T (rowM m)) : w.cell? ⟨g, 6, none⟩ = some (.bool m.ok) := (h.cell 6).trans rfl
theorem Blk.m7 (h : Blk w g T (rowM m)) : w.cell? ⟨g, 7, none⟩ = some (.int .i64 m.x.r) := (h.cell 7).trans rfl
theorem Blk.m8 (h : Blk w g T (rowM m)) : w.cell? ⟨g, 8, none⟩ = some (.int .i64 m.x.s) := (h.cell 8).trans rfl
theorem rowM_at (m : Ms) (j : Nat) (hj : j < 22) : (rowM m)[7 + j]? = (lsJ m.x)[j]? := by
  have e : j = 0 ∨ j = 1 ∨ j = 2 ∨ j = 3 ∨ j = 4 ∨ j = 5 ∨ j = 6 ∨ j = 7 ∨ j = 8 ∨ j = 9 ∨ j = 10 ∨ j = 11 ∨ j = 12 ∨ j = 13 ∨ j = 14 ∨ j = 15 ∨ j = 16 ∨ j = 17 ∨ j = 18 ∨ j = 19 ∨ j = 20 ∨ j = 21 := by omega
  rcases e with rfl | rfl | rfl | rfl | rfl | rfl | rfl | rfl | rfl | rfl | rfl | rfl | rfl | rfl | rfl | rfl | rfl | rfl | rfl | rfl | rfl | rfl <;> rfl
theorem Blk.mx (h : Blk w g T (rowM m)) : w.rangeAt g 7 (lsJ m.x) := by
  intro j v hv
  have hj : j < 22 := (List.getElem?_eq_some_iff.1 hv).1
  rw [h.cell, rowM_at m j hj, hv]
end
theorem wpList_load_known {P : Program} {ops : Array Oper} {rest : List Oper} {op : Oper} {a : Act} {w : World} {Q : Exit → Act → World → Prop} {m : Ms} {T : TypeId} (hgd : op.guard = none) (ty : TypeId) (x : Operand) (ho : op.op = .load ty x)
    (b : Nat) (hx : a.eval x = .pointer (some ⟨b, 7, none⟩)) (hc : Blk w b T (rowM m)) (d : TypeDesc)
    (hu : P.underlying ty = some d) (hd : d.isRow = true) (hi : (P.info? ty).map (·.size) = some 22)
    (h : wpList P ops Q rest (a.put op.dst (.agg (rowJ m.x))) w) : wpList P ops Q (op :: rest) a w :=
  wpList_load_mid hgd ty x ho b 7 hx (lsJ m.x) d hc.mx hu hd hi h
theorem wpList_load_knowng {P : Program} {ops : Array Oper} {rest : List Oper} {op : Oper} {a : Act} {w : World} {Q : Exit → Act → World → Prop} {m : Ms} {T : TypeId} (hw : Region.wanted op (yielded ops a.tmps) = true) (ty : TypeId) (x : Operand) (ho : op.op = .load ty x)
    (b : Nat) (hx : a.eval x = .pointer (some ⟨b, 7, none⟩)) (hc : Blk w b T (rowM m)) (d : TypeDesc)
    (hu : P.underlying ty = some d) (hd : d.isRow = true) (hi : (P.info? ty).map (·.size) = some 22)
    (h : wpList P ops Q rest (a.put op.dst (.agg (rowJ m.x))) w) : wpList P ops Q (op :: rest) a w :=
  wpList_load_midg hw ty x ho b 7 hx (lsJ m.x) d hc.mx hu hd hi h
theorem yields_known {P : Program} {ops : Array Oper} {S : World → Prop} {op : Oper} {a : Act} {m : Ms} {T : TypeId} (hw : Region.wanted op (yielded ops a.tmps) = true) (ty : TypeId) (x : Operand) (ho : op.op = .load ty x)
    (b : Nat) (hx : a.eval x = .pointer (some ⟨b, 7, none⟩)) (hS : ∀ w, S w → Blk w b T (rowM m)) (d : TypeDesc)
    (hu : P.underlying ty = some d) (hd : d.isRow = true) (hi : (P.info? ty).map (·.size) = some 22) : YieldsIf P ops S op (.agg (rowJ m.x)) a :=
  yieldsIf_load_mid hw ty x ho b 7 hx (lsJ m.x) d (fun w h => (hS w h).mx) hu hd hi
set_option maxRecDepth 100000 in
set_option maxHeartbeats 400000 in
theorem mkind_any (n : Int) (w : World) : Calls Tryz.prog 71 #[.int .i64 n] w fun e w' => e = .returned (.bool (kindB n)) ∧ w = w' := by
  go_enter Tryz.func71, Tryz.ntmps71
  go_wp2
  all_goals go_ret
  all_goals exact ⟨ret_bool (by unfold kindB; rw [Bool.eq_iff_iff]; simp; try omega), rfl⟩
set_option maxRecDepth 100000 in
set_option maxHeartbeats 400000 in
theorem isrep_any (r : Int) (w : World) : Calls Tryz.prog 126 #[.int .i64 r] w fun e w' => e = .returned (.bool (repB r)) ∧ w = w' := by
  go_enter Tryz.func126, Tryz.ntmps126
  go_wp2
  all_goals go_ret
  all_goals exact ⟨ret_bool (by unfold repB; rw [Bool.eq_iff_iff]; simp; try omega), rfl⟩
set_option maxRecDepth 100000 in
set_option maxHeartbeats 400000 in
theorem isreply_any (n : Int) (w : World) : Calls Tryz.prog 74 #[.int .i64 n] w fun e w' => e = .returned (.bool (replyB n)) ∧ w = w' := by
  rcases Decidable.em (n = 2) with h | h
  · subst h
    go_enter Tryz.func74, Tryz.ntmps74
    go_wp2
    go_ret
    exact ⟨rfl, rfl⟩
  · have h2 : (n == 2) = false := beq_eq_false_iff_ne.2 h
    rcases Decidable.em (n = 4) with h' | h'
    · subst h'
      go_enter Tryz.func74, Tryz.ntmps74
      go_wp2
      go_ret
      exact ⟨rfl, rfl⟩
    · have h4 : (n == 4) = false := beq_eq_false_iff_ne.2 h'
      have HV : Hid (replyB n = (n == 7)) := hid (by unfold replyB; rw [h2, h4]; simp)
      go_enter Tryz.func74, Tryz.ntmps74
      go_wp2
      go_ret
      exact ⟨ret_bool (by rw [HV.out]), rfl⟩
set_option maxRecDepth 100000 in
set_option maxHeartbeats 1000000 in
theorem between_any (m : Ms) (w : World) :
    Calls Tryz.prog 72 #[.agg (rowM m)] w fun e w' => e = .returned (.bool (twoB m)) ∧ Below w.heap.size w w' := by
  obtain ⟨x, hx⟩ : ∃ x, repB m.a = x := ⟨_, rfl⟩
  obtain ⟨y, hy⟩ : ∃ y, repB m.b = y := ⟨_, rfl⟩
  have HV : Hid (twoB m = (x && y && (m.a != m.b))) := hid (by unfold twoB; rw [hx, hy])
  have HX := hid hx
  have HY := hid hy
  clear hx hy
  go_enter Tryz.func72, Tryz.ntmps72
  go_upto_region 1 with fail
  obtain ⟨W, hW⟩ : ∃ W, w.alloc (.cells (rowM m) 64) = W := ⟨_, rfl⟩
  rw [hW]
  obtain ⟨K0, KB⟩ := one_new hW
  clear hW
  obtain ⟨k, hk⟩ : ∃ k, w.heap.size = k := ⟨_, rfl⟩
  rw [hk] at K0 KB
  rw [hk]
  have HK := hid hk
  clear hk
  have c1 := K0.out.m1
  have c2 := K0.out.m2
  go_wp2_with fail
  with_reducible refine (isrep_any m.a _).mono ?_
  rw [HX.out]
  rintro e w1 ⟨rfl, rfl⟩
  cases x
  · go_wp2
    go_ret
    exact ⟨ret_bool (by rw [HV.out]; simp), by rw [HK.out]; exact KB.out⟩
  go_wp2_with fail
  with_reducible refine (isrep_any m.b _).mono ?_
  rw [HY.out]
  rintro e w1 ⟨rfl, rfl⟩
  cases y
  · go_wp2
    go_ret
    exact ⟨ret_bool (by rw [HV.out]; simp), by rw [HK.out]; exact KB.out⟩
  go_wp2
  go_ret
  exact ⟨ret_bool (by rw [HV.out]; simp), by rw [HK.out]; exact KB.out⟩
set_option maxRecDepth 100000 in
set_option maxHeartbeats 400000 in
theorem statusof1_any (n : Int) (hn : n = 1 ∨ n = 3 ∨ n = 5) (w : World) : Calls Tryz.prog 128 #[.int .i64 n] w fun e w' => e = .returned (.int .i64 (statK n)) ∧ w = w' := by
  rcases hn with rfl | rfl | rfl
  all_goals
    go_enter Tryz.func128, Tryz.ntmps128
    go_wp2
    go_ret
    exact ⟨rfl, rfl⟩
end Go.Proofs.YtohffiehmmcgbaaGreatDoor
