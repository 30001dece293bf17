/-
  Entries are compared.
-/
import Derived.Test.YtpdfakjopeldmaaGreatDoorZDPl
import Derived.Test.YtpdfakjopeldmaaGreatDoorKEq
namespace Go.Proofs.YtpdfakjopeldmaaGreatDoor
open Go.ChangeShapes Go.WideShapes Go.ChangeAt Go.RowKit Go.Lib
set_option linter.unusedVariables false
set_option linter.unusedSimpArgs false

theorem eqf_consE {P : Program} {d : Nat} {xs ys : Array Value} {f : Field} {fs : List Field} {w : World} {a b : Value} {x y : Bool} (hf : f.name ≠ "_") (h1 : (part f.type xs f.offset).run P w = .ok a w) (h2 : (part f.type ys f.offset).run P w = .ok b w)
    (h3 : (Op.equalIn d f.type a b).run P w = .ok x w) (h4 : (Op.eqFields d xs ys fs).run P w = .ok y w) : (Op.eqFields d xs ys (f :: fs)).run P w = .ok (x && y) w := by
  simp only [Op.eqFields, if_pos hf, Sem.run_bind, h1, h2, h3, Result.andThen_ok]
  cases x
  · simp
  · simpa using h4
theorem eqf_nilE {P : Program} {d : Nat} {xs ys : Array Value} {w : World} : (Op.eqFields d xs ys []).run P w = .ok true w := by simp [Op.eqFields]
set_option maxRecDepth 100000 in
theorem key_same9 (f : ByteArray) (u : Int) (w : World) : (Op.equalIn 9999 36 (.agg #[.string f, .int .u64 u]) (.agg #[.string f, .int .u64 u])).run Tryz.prog w = .ok true w := by
  have ht : Tryz.prog.underlying 36 = some (.struct (Tryz.prog.fieldsOf 36)) := by kernel_rfl
  have hp : Tryz.prog.stoodInHeld 36 = false := by kernel_rfl
  rw [run_equalIn_struct w 9998 _ _ _ ht hp]
  have p1 := run_part_plain (P := Tryz.prog) (w := w) (e := 9) (by kernel_rfl) (xs := #[.string f, .int .u64 u]) (off := 0) rfl
  have p2 := run_part_plain (P := Tryz.prog) (w := w) (e := 23) (by kernel_rfl) (xs := #[.string f, .int .u64 u]) (off := 1) rfl
  have q1 := run_equalIn_string (P := Tryz.prog) w 9997 9 f f Tryz.underlying9
  have q2 := run_equalIn_int (P := Tryz.prog) w 9997 23 .u64 .u64 u u Tryz.underlying23
  simp only [beq_self_eq_true] at q1 q2
  simp only [Program.fieldsOf, Tryz.underlying36]
  change _ = Result.ok (true && (true && true)) w
  exact eqf_consE (by decide) p1 p1 q1 (eqf_consE (by decide) p2 p2 q2 eqf_nilE)
set_option maxRecDepth 100000 in
theorem attr_same9 (f : Nat → Int) (w : World) : (Op.equalIn 9999 39 (.agg (rowA f)) (.agg (rowA f))).run Tryz.prog w = .ok true w := by
  have ht : Tryz.prog.underlying 39 = some (.struct (Tryz.prog.fieldsOf 39)) := by kernel_rfl
  have hp : Tryz.prog.stoodInHeld 39 = false := by kernel_rfl
  rw [run_equalIn_struct w 9998 _ _ _ ht hp]
  have p0 := run_part_plain (P := Tryz.prog) (w := w) (e := 3) (by kernel_rfl) (xs := cs8 f) (off := 0) rfl
  have p1 := part_deps f w
  have e0 := run_equalIn_int (P := Tryz.prog) w 9997 3 .i64 .i64 (f 0) (f 0) Tryz.underlying3
  have e1 := eq_seven f f 9996 w
  have e2 : eqD f f = true := by have h := eqA_self f; unfold eqA at h; rw [Bool.and_eq_true] at h; exact h.2
  rw [e2] at e1
  simp only [beq_self_eq_true] at e0
  simp only [Program.fieldsOf, Tryz.underlying39]
  change _ = Result.ok (true && (true && true)) w
  exact eqf_consE (by decide) p0 p0 e0 (eqf_consE (by decide) p1 p1 e1 eqf_nilE)
theorem part_key (f : ByteArray) (u : Int) (a : Nat → Int) (w : World) : (part 36 (#[.string f, .int .u64 u, .int .i64 (a 0), .int .i64 (a 1), .int .i64 (a 2), .int .i64 (a 3), .int .i64 (a 4), .int .i64 (a 5), .int .i64 (a 6), .int .i64 (a 7)]) 0).run Tryz.prog w = .ok (.agg #[.string f, .int .u64 u]) w := by
  simp [go_sem, part]
theorem part_att (f : ByteArray) (u : Int) (a : Nat → Int) (w : World) : (part 39 (#[.string f, .int .u64 u, .int .i64 (a 0), .int .i64 (a 1), .int .i64 (a 2), .int .i64 (a 3), .int .i64 (a 4), .int .i64 (a 5), .int .i64 (a 6), .int .i64 (a 7)]) 2).run Tryz.prog w = .ok (.agg (rowA a)) w := by
  simp [go_sem, part]
  rfl
set_option maxRecDepth 100000 in
theorem entry_same (f : ByteArray) (u : Int) (a : Nat → Int) (w : World) : (Op.equalIn 10000 41 (.agg #[.string f, .int .u64 u, .int .i64 (a 0), .int .i64 (a 1), .int .i64 (a 2), .int .i64 (a 3), .int .i64 (a 4), .int .i64 (a 5), .int .i64 (a 6), .int .i64 (a 7)]) (.agg #[.string f, .int .u64 u, .int .i64 (a 0), .int .i64 (a 1), .int .i64 (a 2), .int .i64 (a 3), .int .i64 (a 4), .int .i64 (a 5), .int .i64 (a 6), .int .i64 (a 7)])).run Tryz.prog w = .ok true w := by
  have ht : Tryz.prog.underlying 41 = some (.struct (Tryz.prog.fieldsOf 41)) := by kernel_rfl
  have hp : Tryz.prog.stoodInHeld 41 = false := by kernel_rfl
  rw [run_equalIn_struct w 9999 _ _ _ ht hp]
  simp only [Program.fieldsOf, Tryz.underlying41]
  change _ = Result.ok (true && (true && true)) w
  exact eqf_consE (by decide) (part_key f u a w) (part_key f u a w) (key_same9 f u w) (eqf_consE (by decide) (part_att f u a w) (part_att f u a w) (attr_same9 a w) eqf_nilE)
theorem entry_guard : Tryz.prog.eqGuardType Tryz.prog.depth 41 = false := by kernel_rfl

end Go.Proofs.YtpdfakjopeldmaaGreatDoor
