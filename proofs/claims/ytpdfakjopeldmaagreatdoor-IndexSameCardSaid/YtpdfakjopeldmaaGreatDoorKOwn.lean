/-
  The contract of own (package cmd), once for each class of kinds.
-/
import Derived.Test.YtpdfakjopeldmaaGreatDoorKBase
namespace Go.Proofs.YtpdfakjopeldmaaGreatDoor
open Go.ChangeShapes Go.WideShapes Go.ChangeAt Go.RowKit Go.Lib
set_option linter.unusedSimpArgs false
set_option linter.unusedVariables false

set_option maxRecDepth 100000 in
set_option maxHeartbeats 1000000 in
theorem own_0 (k u : Int) (f : ByteArray) (q : Int) (s : ByteArray) (m n t : Int) (w : World) (hP : PartsIs w) (hs : Sig k false false false false false false) :
    Calls Tryz.prog 99 #[val ⟨k, u, f, q, s, m, n, t⟩] w fun e w' => e = .returned (val ⟨k, 0, ⟨#[]⟩, 0, ⟨#[]⟩, 0, 0, 0⟩) ∧ Below w.heap.size w w' := by
  obtain ⟨s0, s1, s2, s3, s4, s5⟩ := hs
  have S0 := hid s0
  have S1 := hid s1
  have S2 := hid s2
  have S3 := hid s3
  have S4 := hid s4
  have S5 := hid s5
  have A0 := hid ((Boxed.start hP ⟨k, u, f, q, s, m, n, t⟩).alloc (.cells (cellsOf ⟨0, 0, ⟨#[]⟩, 0, ⟨#[]⟩, 0, 0, 0⟩) 27))
  have R0 : Hid (Boxed w ((w.alloc (.cells (cellsOf ⟨k, u, f, q, s, m, n, t⟩) 27)).alloc (.cells (cellsOf ⟨0, 0, ⟨#[]⟩, 0, ⟨#[]⟩, 0, 0, 0⟩) 27)) (w.heap.size + 1) ⟨0, 0, ⟨#[]⟩, 0, ⟨#[]⟩, 0, 0, 0⟩) := hid ⟨by have h := Blk.new (w.alloc (.cells (cellsOf ⟨k, u, f, q, s, m, n, t⟩) 27)) 27 (cellsOf ⟨0, 0, ⟨#[]⟩, 0, ⟨#[]⟩, 0, 0, 0⟩); simpa using h, by omega, A0.out.below, hP⟩
  clear s0 s1 s2 s3 s4 s5 hP
  go_enter Tryz.func99, Tryz.ntmps99
  go_wp2_with fail
  with_reducible refine (has_0 ⟨k, u, f, q, s, m, n, t⟩ false _ S0.out A0.out.parts).mono ?_
  rintro e w1 ⟨rfl, hb⟩
  have A1 := hid (A0.out.on hb)
  have R1 := hid (R0.out.on hb)
  clear hb A0 R0 S0
  obtain ⟨⟨c0, c1, c2, c3, c4, c5, c6, c7⟩, f0, f1, f2, f3, f4, f5, f6, f7⟩ := cells8 A1.out.1
  have A1s := hid ((A1.out.set_ 1 (.int .u64 0) ⟨k, 0, f, q, s, m, n, t⟩ rfl).set_ 2 (.string ⟨#[]⟩) ⟨k, 0, ⟨#[]⟩, q, s, m, n, t⟩ rfl)
  have R1s := hid ((R1.out.far (p := ⟨w.heap.size, 1, none⟩) (by simp) (Nat.le_refl _) (.int .u64 0)).far (p := ⟨w.heap.size, 2, none⟩) (by simp) (Nat.le_refl _) (.string ⟨#[]⟩))
  clear A1 R1
  go_wp2_with fail
  with_reducible refine (has_1 ⟨k, 0, ⟨#[]⟩, q, s, m, n, t⟩ false _ S1.out A1s.out.parts).mono ?_
  rintro e w2 ⟨rfl, hb⟩
  have A2 := hid (A1s.out.on hb)
  have R2 := hid (R1s.out.on hb)
  clear hb A1s R1s S1 c0 c1 c2 c3 c4 c5 c6 c7 f0 f1 f2 f3 f4 f5 f6 f7
  obtain ⟨⟨c0, c1, c2, c3, c4, c5, c6, c7⟩, f0, f1, f2, f3, f4, f5, f6, f7⟩ := cells8 A2.out.1
  have A2s := hid (A2.out.set_ 3 (.int .u64 0) ⟨k, 0, ⟨#[]⟩, 0, s, m, n, t⟩ rfl)
  have R2s := hid (R2.out.far (p := ⟨w.heap.size, 3, none⟩) (by simp) (Nat.le_refl _) (.int .u64 0))
  clear A2 R2
  go_wp2_with fail
  with_reducible refine (has_2 ⟨k, 0, ⟨#[]⟩, 0, s, m, n, t⟩ false _ S2.out A2s.out.parts).mono ?_
  rintro e w3 ⟨rfl, hb⟩
  have A3 := hid (A2s.out.on hb)
  have R3 := hid (R2s.out.on hb)
  clear hb A2s R2s S2 c0 c1 c2 c3 c4 c5 c6 c7 f0 f1 f2 f3 f4 f5 f6 f7
  obtain ⟨⟨c0, c1, c2, c3, c4, c5, c6, c7⟩, f0, f1, f2, f3, f4, f5, f6, f7⟩ := cells8 A3.out.1
  have A3s := hid (A3.out.set_ 4 (.string ⟨#[]⟩) ⟨k, 0, ⟨#[]⟩, 0, ⟨#[]⟩, m, n, t⟩ rfl)
  have R3s := hid (R3.out.far (p := ⟨w.heap.size, 4, none⟩) (by simp) (Nat.le_refl _) (.string ⟨#[]⟩))
  clear A3 R3
  go_wp2_with fail
  with_reducible refine (has_3 ⟨k, 0, ⟨#[]⟩, 0, ⟨#[]⟩, m, n, t⟩ false _ S3.out A3s.out.parts).mono ?_
  rintro e w4 ⟨rfl, hb⟩
  have A4 := hid (A3s.out.on hb)
  have R4 := hid (R3s.out.on hb)
  clear hb A3s R3s S3 c0 c1 c2 c3 c4 c5 c6 c7 f0 f1 f2 f3 f4 f5 f6 f7
  obtain ⟨⟨c0, c1, c2, c3, c4, c5, c6, c7⟩, f0, f1, f2, f3, f4, f5, f6, f7⟩ := cells8 A4.out.1
  have A4s := hid (A4.out.set_ 5 (.int .i64 0) ⟨k, 0, ⟨#[]⟩, 0, ⟨#[]⟩, 0, n, t⟩ rfl)
  have R4s := hid (R4.out.far (p := ⟨w.heap.size, 5, none⟩) (by simp) (Nat.le_refl _) (.int .i64 0))
  clear A4 R4
  go_wp2_with fail
  with_reducible refine (has_4 ⟨k, 0, ⟨#[]⟩, 0, ⟨#[]⟩, 0, n, t⟩ false _ S4.out A4s.out.parts).mono ?_
  rintro e w5 ⟨rfl, hb⟩
  have A5 := hid (A4s.out.on hb)
  have R5 := hid (R4s.out.on hb)
  clear hb A4s R4s S4 c0 c1 c2 c3 c4 c5 c6 c7 f0 f1 f2 f3 f4 f5 f6 f7
  obtain ⟨⟨c0, c1, c2, c3, c4, c5, c6, c7⟩, f0, f1, f2, f3, f4, f5, f6, f7⟩ := cells8 A5.out.1
  have A5s := hid (A5.out.set_ 6 (.int .u64 0) ⟨k, 0, ⟨#[]⟩, 0, ⟨#[]⟩, 0, 0, t⟩ rfl)
  have R5s := hid (R5.out.far (p := ⟨w.heap.size, 6, none⟩) (by simp) (Nat.le_refl _) (.int .u64 0))
  clear A5 R5
  go_wp2_with fail
  with_reducible refine (has_5 ⟨k, 0, ⟨#[]⟩, 0, ⟨#[]⟩, 0, 0, t⟩ false _ S5.out A5s.out.parts).mono ?_
  rintro e w6 ⟨rfl, hb⟩
  have A6 := hid (A5s.out.on hb)
  have R6 := hid (R5s.out.on hb)
  clear hb A5s R5s S5 c0 c1 c2 c3 c4 c5 c6 c7 f0 f1 f2 f3 f4 f5 f6 f7
  obtain ⟨⟨c0, c1, c2, c3, c4, c5, c6, c7⟩, f0, f1, f2, f3, f4, f5, f6, f7⟩ := cells8 A6.out.1
  have A6s := hid (A6.out.set_ 7 (.int .i64 0) ⟨k, 0, ⟨#[]⟩, 0, ⟨#[]⟩, 0, 0, 0⟩ rfl)
  have R6s := hid (R6.out.far (p := ⟨w.heap.size, 7, none⟩) (by simp) (Nat.le_refl _) (.int .i64 0))
  clear A6 R6
  obtain ⟨⟨d0, d1, d2, d3, d4, d5, d6, d7⟩, g0, g1, g2, g3, g4, g5, g6, g7⟩ := cells8 R6s.out.1
  have E := hid (R6s.out.put ⟨k, 0, ⟨#[]⟩, 0, ⟨#[]⟩, 0, 0, 0⟩)
  go_wp2
  refine bodyPost_ret (v := val ⟨k, 0, ⟨#[]⟩, 0, ⟨#[]⟩, 0, 0, 0⟩) (by simp [results, Tryz.results99, go_sem, d0, d1, d2, d3, d4, d5, d6, d7]) rfl ⟨rfl, E.out.below⟩

set_option maxRecDepth 100000 in
set_option maxHeartbeats 1000000 in
theorem own_1 (k u : Int) (f : ByteArray) (q : Int) (s : ByteArray) (m n t : Int) (w : World) (hP : PartsIs w) (hs : Sig k true true false false true true) :
    Calls Tryz.prog 99 #[val ⟨k, u, f, q, s, m, n, t⟩] w fun e w' => e = .returned (val ⟨k, u, f, q, ⟨#[]⟩, 0, n, t⟩) ∧ Below w.heap.size w w' := by
  obtain ⟨s0, s1, s2, s3, s4, s5⟩ := hs
  have S0 := hid s0
  have S1 := hid s1
  have S2 := hid s2
  have S3 := hid s3
  have S4 := hid s4
  have S5 := hid s5
  have A0 := hid ((Boxed.start hP ⟨k, u, f, q, s, m, n, t⟩).alloc (.cells (cellsOf ⟨0, 0, ⟨#[]⟩, 0, ⟨#[]⟩, 0, 0, 0⟩) 27))
  have R0 : Hid (Boxed w ((w.alloc (.cells (cellsOf ⟨k, u, f, q, s, m, n, t⟩) 27)).alloc (.cells (cellsOf ⟨0, 0, ⟨#[]⟩, 0, ⟨#[]⟩, 0, 0, 0⟩) 27)) (w.heap.size + 1) ⟨0, 0, ⟨#[]⟩, 0, ⟨#[]⟩, 0, 0, 0⟩) := hid ⟨by have h := Blk.new (w.alloc (.cells (cellsOf ⟨k, u, f, q, s, m, n, t⟩) 27)) 27 (cellsOf ⟨0, 0, ⟨#[]⟩, 0, ⟨#[]⟩, 0, 0, 0⟩); simpa using h, by omega, A0.out.below, hP⟩
  clear s0 s1 s2 s3 s4 s5 hP
  go_enter Tryz.func99, Tryz.ntmps99
  go_wp2_with fail
  with_reducible refine (has_0 ⟨k, u, f, q, s, m, n, t⟩ true _ S0.out A0.out.parts).mono ?_
  rintro e w1 ⟨rfl, hb⟩
  have A1 := hid (A0.out.on hb)
  have R1 := hid (R0.out.on hb)
  clear hb A0 R0 S0
  obtain ⟨⟨c0, c1, c2, c3, c4, c5, c6, c7⟩, f0, f1, f2, f3, f4, f5, f6, f7⟩ := cells8 A1.out.1
  go_wp2_with fail
  with_reducible refine (has_1 ⟨k, u, f, q, s, m, n, t⟩ true _ S1.out A1.out.parts).mono ?_
  rintro e w2 ⟨rfl, hb⟩
  have A2 := hid (A1.out.on hb)
  have R2 := hid (R1.out.on hb)
  clear hb A1 R1 S1 c0 c1 c2 c3 c4 c5 c6 c7 f0 f1 f2 f3 f4 f5 f6 f7
  obtain ⟨⟨c0, c1, c2, c3, c4, c5, c6, c7⟩, f0, f1, f2, f3, f4, f5, f6, f7⟩ := cells8 A2.out.1
  go_wp2_with fail
  with_reducible refine (has_2 ⟨k, u, f, q, s, m, n, t⟩ false _ S2.out A2.out.parts).mono ?_
  rintro e w3 ⟨rfl, hb⟩
  have A3 := hid (A2.out.on hb)
  have R3 := hid (R2.out.on hb)
  clear hb A2 R2 S2 c0 c1 c2 c3 c4 c5 c6 c7 f0 f1 f2 f3 f4 f5 f6 f7
  obtain ⟨⟨c0, c1, c2, c3, c4, c5, c6, c7⟩, f0, f1, f2, f3, f4, f5, f6, f7⟩ := cells8 A3.out.1
  have A3s := hid (A3.out.set_ 4 (.string ⟨#[]⟩) ⟨k, u, f, q, ⟨#[]⟩, m, n, t⟩ rfl)
  have R3s := hid (R3.out.far (p := ⟨w.heap.size, 4, none⟩) (by simp) (Nat.le_refl _) (.string ⟨#[]⟩))
  clear A3 R3
  go_wp2_with fail
  with_reducible refine (has_3 ⟨k, u, f, q, ⟨#[]⟩, m, n, t⟩ false _ S3.out A3s.out.parts).mono ?_
  rintro e w4 ⟨rfl, hb⟩
  have A4 := hid (A3s.out.on hb)
  have R4 := hid (R3s.out.on hb)
  clear hb A3s R3s S3 c0 c1 c2 c3 c4 c5 c6 c7 f0 f1 f2 f3 f4 f5 f6 f7
  obtain ⟨⟨c0, c1, c2, c3, c4, c5, c6, c7⟩, f0, f1, f2, f3, f4, f5, f6, f7⟩ := cells8 A4.out.1
  have A4s := hid (A4.out.set_ 5 (.int .i64 0) ⟨k, u, f, q, ⟨#[]⟩, 0, n, t⟩ rfl)
  have R4s := hid (R4.out.far (p := ⟨w.heap.size, 5, none⟩) (by simp) (Nat.le_refl _) (.int .i64 0))
  clear A4 R4
  go_wp2_with fail
  with_reducible refine (has_4 ⟨k, u, f, q, ⟨#[]⟩, 0, n, t⟩ true _ S4.out A4s.out.parts).mono ?_
  rintro e w5 ⟨rfl, hb⟩
  have A5 := hid (A4s.out.on hb)
  have R5 := hid (R4s.out.on hb)
  clear hb A4s R4s S4 c0 c1 c2 c3 c4 c5 c6 c7 f0 f1 f2 f3 f4 f5 f6 f7
  obtain ⟨⟨c0, c1, c2, c3, c4, c5, c6, c7⟩, f0, f1, f2, f3, f4, f5, f6, f7⟩ := cells8 A5.out.1
  go_wp2_with fail
  with_reducible refine (has_5 ⟨k, u, f, q, ⟨#[]⟩, 0, n, t⟩ true _ S5.out A5.out.parts).mono ?_
  rintro e w6 ⟨rfl, hb⟩
  have A6 := hid (A5.out.on hb)
  have R6 := hid (R5.out.on hb)
  clear hb A5 R5 S5 c0 c1 c2 c3 c4 c5 c6 c7 f0 f1 f2 f3 f4 f5 f6 f7
  obtain ⟨⟨c0, c1, c2, c3, c4, c5, c6, c7⟩, f0, f1, f2, f3, f4, f5, f6, f7⟩ := cells8 A6.out.1
  obtain ⟨⟨d0, d1, d2, d3, d4, d5, d6, d7⟩, g0, g1, g2, g3, g4, g5, g6, g7⟩ := cells8 R6.out.1
  have E := hid (R6.out.put ⟨k, u, f, q, ⟨#[]⟩, 0, n, t⟩)
  go_wp2
  refine bodyPost_ret (v := val ⟨k, u, f, q, ⟨#[]⟩, 0, n, t⟩) (by simp [results, Tryz.results99, go_sem, d0, d1, d2, d3, d4, d5, d6, d7]) rfl ⟨rfl, E.out.below⟩

set_option maxRecDepth 100000 in
set_option maxHeartbeats 1000000 in
theorem own_2 (k u : Int) (f : ByteArray) (q : Int) (s : ByteArray) (m n t : Int) (w : World) (hP : PartsIs w) (hs : Sig k true true false false false false) :
    Calls Tryz.prog 99 #[val ⟨k, u, f, q, s, m, n, t⟩] w fun e w' => e = .returned (val ⟨k, u, f, q, ⟨#[]⟩, 0, 0, 0⟩) ∧ Below w.heap.size w w' := by
  obtain ⟨s0, s1, s2, s3, s4, s5⟩ := hs
  have S0 := hid s0
  have S1 := hid s1
  have S2 := hid s2
  have S3 := hid s3
  have S4 := hid s4
  have S5 := hid s5
  have A0 := hid ((Boxed.start hP ⟨k, u, f, q, s, m, n, t⟩).alloc (.cells (cellsOf ⟨0, 0, ⟨#[]⟩, 0, ⟨#[]⟩, 0, 0, 0⟩) 27))
  have R0 : Hid (Boxed w ((w.alloc (.cells (cellsOf ⟨k, u, f, q, s, m, n, t⟩) 27)).alloc (.cells (cellsOf ⟨0, 0, ⟨#[]⟩, 0, ⟨#[]⟩, 0, 0, 0⟩) 27)) (w.heap.size + 1) ⟨0, 0, ⟨#[]⟩, 0, ⟨#[]⟩, 0, 0, 0⟩) := hid ⟨by have h := Blk.new (w.alloc (.cells (cellsOf ⟨k, u, f, q, s, m, n, t⟩) 27)) 27 (cellsOf ⟨0, 0, ⟨#[]⟩, 0, ⟨#[]⟩, 0, 0, 0⟩); simpa using h, by omega, A0.out.below, hP⟩
  clear s0 s1 s2 s3 s4 s5 hP
  go_enter Tryz.func99, Tryz.ntmps99
  go_wp2_with fail
  with_reducible refine (has_0 ⟨k, u, f, q, s, m, n, t⟩ true _ S0.out A0.out.parts).mono ?_
  rintro e w1 ⟨rfl, hb⟩
  have A1 := hid (A0.out.on hb)
  have R1 := hid (R0.out.on hb)
  clear hb A0 R0 S0
  obtain ⟨⟨c0, c1, c2, c3, c4, c5, c6, c7⟩, f0, f1, f2, f3, f4, f5, f6, f7⟩ := cells8 A1.out.1
  go_wp2_with fail
  with_reducible refine (has_1 ⟨k, u, f, q, s, m, n, t⟩ true _ S1.out A1.out.parts).mono ?_
  rintro e w2 ⟨rfl, hb⟩
  have A2 := hid (A1.out.on hb)
  have R2 := hid (R1.out.on hb)
  clear hb A1 R1 S1 c0 c1 c2 c3 c4 c5 c6 c7 f0 f1 f2 f3 f4 f5 f6 f7
  obtain ⟨⟨c0, c1, c2, c3, c4, c5, c6, c7⟩, f0, f1, f2, f3, f4, f5, f6, f7⟩ := cells8 A2.out.1
  go_wp2_with fail
  with_reducible refine (has_2 ⟨k, u, f, q, s, m, n, t⟩ false _ S2.out A2.out.parts).mono ?_
  rintro e w3 ⟨rfl, hb⟩
  have A3 := hid (A2.out.on hb)
  have R3 := hid (R2.out.on hb)
  clear hb A2 R2 S2 c0 c1 c2 c3 c4 c5 c6 c7 f0 f1 f2 f3 f4 f5 f6 f7
  obtain ⟨⟨c0, c1, c2, c3, c4, c5, c6, c7⟩, f0, f1, f2, f3, f4, f5, f6, f7⟩ := cells8 A3.out.1
  have A3s := hid (A3.out.set_ 4 (.string ⟨#[]⟩) ⟨k, u, f, q, ⟨#[]⟩, m, n, t⟩ rfl)
  have R3s := hid (R3.out.far (p := ⟨w.heap.size, 4, none⟩) (by simp) (Nat.le_refl _) (.string ⟨#[]⟩))
  clear A3 R3
  go_wp2_with fail
  with_reducible refine (has_3 ⟨k, u, f, q, ⟨#[]⟩, m, n, t⟩ false _ S3.out A3s.out.parts).mono ?_
  rintro e w4 ⟨rfl, hb⟩
  have A4 := hid (A3s.out.on hb)
  have R4 := hid (R3s.out.on hb)
  clear hb A3s R3s S3 c0 c1 c2 c3 c4 c5 c6 c7 f0 f1 f2 f3 f4 f5 f6 f7
  obtain ⟨⟨c0, c1, c2, c3, c4, c5, c6, c7⟩, f0, f1, f2, f3, f4, f5, f6, f7⟩ := cells8 A4.out.1
  have A4s := hid (A4.out.set_ 5 (.int .i64 0) ⟨k, u, f, q, ⟨#[]⟩, 0, n, t⟩ rfl)
  have R4s := hid (R4.out.far (p := ⟨w.heap.size, 5, none⟩) (by simp) (Nat.le_refl _) (.int .i64 0))
  clear A4 R4
  go_wp2_with fail
  with_reducible refine (has_4 ⟨k, u, f, q, ⟨#[]⟩, 0, n, t⟩ false _ S4.out A4s.out.parts).mono ?_
  rintro e w5 ⟨rfl, hb⟩
  have A5 := hid (A4s.out.on hb)
  have R5 := hid (R4s.out.on hb)
  clear hb A4s R4s S4 c0 c1 c2 c3 c4 c5 c6 c7 f0 f1 f2 f3 f4 f5 f6 f7
  obtain ⟨⟨c0, c1, c2, c3, c4, c5, c6, c7⟩, f0, f1, f2, f3, f4, f5, f6, f7⟩ := cells8 A5.out.1
  have A5s := hid (A5.out.set_ 6 (.int .u64 0) ⟨k, u, f, q, ⟨#[]⟩, 0, 0, t⟩ rfl)
  have R5s := hid (R5.out.far (p := ⟨w.heap.size, 6, none⟩) (by simp) (Nat.le_refl _) (.int .u64 0))
  clear A5 R5
  go_wp2_with fail
  with_reducible refine (has_5 ⟨k, u, f, q, ⟨#[]⟩, 0, 0, t⟩ false _ S5.out A5s.out.parts).mono ?_
  rintro e w6 ⟨rfl, hb⟩
  have A6 := hid (A5s.out.on hb)
  have R6 := hid (R5s.out.on hb)
  clear hb A5s R5s S5 c0 c1 c2 c3 c4 c5 c6 c7 f0 f1 f2 f3 f4 f5 f6 f7
  obtain ⟨⟨c0, c1, c2, c3, c4, c5, c6, c7⟩, f0, f1, f2, f3, f4, f5, f6, f7⟩ := cells8 A6.out.1
  have A6s := hid (A6.out.set_ 7 (.int .i64 0) ⟨k, u, f, q, ⟨#[]⟩, 0, 0, 0⟩ rfl)
  have R6s := hid (R6.out.far (p := ⟨w.heap.size, 7, none⟩) (by simp) (Nat.le_refl _) (.int .i64 0))
  clear A6 R6
  obtain ⟨⟨d0, d1, d2, d3, d4, d5, d6, d7⟩, g0, g1, g2, g3, g4, g5, g6, g7⟩ := cells8 R6s.out.1
  have E := hid (R6s.out.put ⟨k, u, f, q, ⟨#[]⟩, 0, 0, 0⟩)
  go_wp2
  refine bodyPost_ret (v := val ⟨k, u, f, q, ⟨#[]⟩, 0, 0, 0⟩) (by simp [results, Tryz.results99, go_sem, d0, d1, d2, d3, d4, d5, d6, d7]) rfl ⟨rfl, E.out.below⟩

set_option maxRecDepth 100000 in
set_option maxHeartbeats 1000000 in
theorem own_3 (k u : Int) (f : ByteArray) (q : Int) (s : ByteArray) (m n t : Int) (w : World) (hP : PartsIs w) (hs : Sig k true true false false false true) :
    Calls Tryz.prog 99 #[val ⟨k, u, f, q, s, m, n, t⟩] w fun e w' => e = .returned (val ⟨k, u, f, q, ⟨#[]⟩, 0, 0, t⟩) ∧ Below w.heap.size w w' := by
  obtain ⟨s0, s1, s2, s3, s4, s5⟩ := hs
  have S0 := hid s0
  have S1 := hid s1
  have S2 := hid s2
  have S3 := hid s3
  have S4 := hid s4
  have S5 := hid s5
  have A0 := hid ((Boxed.start hP ⟨k, u, f, q, s, m, n, t⟩).alloc (.cells (cellsOf ⟨0, 0, ⟨#[]⟩, 0, ⟨#[]⟩, 0, 0, 0⟩) 27))
  have R0 : Hid (Boxed w ((w.alloc (.cells (cellsOf ⟨k, u, f, q, s, m, n, t⟩) 27)).alloc (.cells (cellsOf ⟨0, 0, ⟨#[]⟩, 0, ⟨#[]⟩, 0, 0, 0⟩) 27)) (w.heap.size + 1) ⟨0, 0, ⟨#[]⟩, 0, ⟨#[]⟩, 0, 0, 0⟩) := hid ⟨by have h := Blk.new (w.alloc (.cells (cellsOf ⟨k, u, f, q, s, m, n, t⟩) 27)) 27 (cellsOf ⟨0, 0, ⟨#[]⟩, 0, ⟨#[]⟩, 0, 0, 0⟩); simpa using h, by omega, A0.out.below, hP⟩
  clear s0 s1 s2 s3 s4 s5 hP
  go_enter Tryz.func99, Tryz.ntmps99
  go_wp2_with fail
  with_reducible refine (has_0 ⟨k, u, f, q, s, m, n, t⟩ true _ S0.out A0.out.parts).mono ?_
  rintro e w1 ⟨rfl, hb⟩
  have A1 := hid (A0.out.on hb)
  have R1 := hid (R0.out.on hb)
  clear hb A0 R0 S0
  obtain ⟨⟨c0, c1, c2, c3, c4, c5, c6, c7⟩, f0, f1, f2, f3, f4, f5, f6, f7⟩ := cells8 A1.out.1
  go_wp2_with fail
  with_reducible refine (has_1 ⟨k, u, f, q, s, m, n, t⟩ true _ S1.out A1.out.parts).mono ?_
  rintro e w2 ⟨rfl, hb⟩
  have A2 := hid (A1.out.on hb)
  have R2 := hid (R1.out.on hb)
  clear hb A1 R1 S1 c0 c1 c2 c3 c4 c5 c6 c7 f0 f1 f2 f3 f4 f5 f6 f7
  obtain ⟨⟨c0, c1, c2, c3, c4, c5, c6, c7⟩, f0, f1, f2, f3, f4, f5, f6, f7⟩ := cells8 A2.out.1
  go_wp2_with fail
  with_reducible refine (has_2 ⟨k, u, f, q, s, m, n, t⟩ false _ S2.out A2.out.parts).mono ?_
  rintro e w3 ⟨rfl, hb⟩
  have A3 := hid (A2.out.on hb)
  have R3 := hid (R2.out.on hb)
  clear hb A2 R2 S2 c0 c1 c2 c3 c4 c5 c6 c7 f0 f1 f2 f3 f4 f5 f6 f7
  obtain ⟨⟨c0, c1, c2, c3, c4, c5, c6, c7⟩, f0, f1, f2, f3, f4, f5, f6, f7⟩ := cells8 A3.out.1
  have A3s := hid (A3.out.set_ 4 (.string ⟨#[]⟩) ⟨k, u, f, q, ⟨#[]⟩, m, n, t⟩ rfl)
  have R3s := hid (R3.out.far (p := ⟨w.heap.size, 4, none⟩) (by simp) (Nat.le_refl _) (.string ⟨#[]⟩))
  clear A3 R3
  go_wp2_with fail
  with_reducible refine (has_3 ⟨k, u, f, q, ⟨#[]⟩, m, n, t⟩ false _ S3.out A3s.out.parts).mono ?_
  rintro e w4 ⟨rfl, hb⟩
  have A4 := hid (A3s.out.on hb)
  have R4 := hid (R3s.out.on hb)
  clear hb A3s R3s S3 c0 c1 c2 c3 c4 c5 c6 c7 f0 f1 f2 f3 f4 f5 f6 f7
  obtain ⟨⟨c0, c1, c2, c3, c4, c5, c6, c7⟩, f0, f1, f2, f3, f4, f5, f6, f7⟩ := cells8 A4.out.1
  have A4s := hid (A4.out.set_ 5 (.int .i64 0) ⟨k, u, f, q, ⟨#[]⟩, 0, n, t⟩ rfl)
  have R4s := hid (R4.out.far (p := ⟨w.heap.size, 5, none⟩) (by simp) (Nat.le_refl _) (.int .i64 0))
  clear A4 R4
  go_wp2_with fail
  with_reducible refine (has_4 ⟨k, u, f, q, ⟨#[]⟩, 0, n, t⟩ false _ S4.out A4s.out.parts).mono ?_
  rintro e w5 ⟨rfl, hb⟩
  have A5 := hid (A4s.out.on hb)
  have R5 := hid (R4s.out.on hb)
  clear hb A4s R4s S4 c0 c1 c2 c3 c4 c5 c6 c7 f0 f1 f2 f3 f4 f5 f6 f7
  obtain ⟨⟨c0, c1, c2, c3, c4, c5, c6, c7⟩, f0, f1, f2, f3, f4, f5, f6, f7⟩ := cells8 A5.out.1
  have A5s := hid (A5.out.set_ 6 (.int .u64 0) ⟨k, u, f, q, ⟨#[]⟩, 0, 0, t⟩ rfl)
  have R5s := hid (R5.out.far (p := ⟨w.heap.size, 6, none⟩) (by simp) (Nat.le_refl _) (.int .u64 0))
  clear A5 R5
  go_wp2_with fail
  with_reducible refine (has_5 ⟨k, u, f, q, ⟨#[]⟩, 0, 0, t⟩ true _ S5.out A5s.out.parts).mono ?_
  rintro e w6 ⟨rfl, hb⟩
  have A6 := hid (A5s.out.on hb)
  have R6 := hid (R5s.out.on hb)
  clear hb A5s R5s S5 c0 c1 c2 c3 c4 c5 c6 c7 f0 f1 f2 f3 f4 f5 f6 f7
  obtain ⟨⟨c0, c1, c2, c3, c4, c5, c6, c7⟩, f0, f1, f2, f3, f4, f5, f6, f7⟩ := cells8 A6.out.1
  obtain ⟨⟨d0, d1, d2, d3, d4, d5, d6, d7⟩, g0, g1, g2, g3, g4, g5, g6, g7⟩ := cells8 R6.out.1
  have E := hid (R6.out.put ⟨k, u, f, q, ⟨#[]⟩, 0, 0, t⟩)
  go_wp2
  refine bodyPost_ret (v := val ⟨k, u, f, q, ⟨#[]⟩, 0, 0, t⟩) (by simp [results, Tryz.results99, go_sem, d0, d1, d2, d3, d4, d5, d6, d7]) rfl ⟨rfl, E.out.below⟩

set_option maxRecDepth 100000 in
set_option maxHeartbeats 1000000 in
theorem own_4 (k u : Int) (f : ByteArray) (q : Int) (s : ByteArray) (m n t : Int) (w : World) (hP : PartsIs w) (hs : Sig k true true true true false false) :
    Calls Tryz.prog 99 #[val ⟨k, u, f, q, s, m, n, t⟩] w fun e w' => e = .returned (val ⟨k, u, f, q, s, m, 0, 0⟩) ∧ Below w.heap.size w w' := by
  obtain ⟨s0, s1, s2, s3, s4, s5⟩ := hs
  have S0 := hid s0
  have S1 := hid s1
  have S2 := hid s2
  have S3 := hid s3
  have S4 := hid s4
  have S5 := hid s5
  have A0 := hid ((Boxed.start hP ⟨k, u, f, q, s, m, n, t⟩).alloc (.cells (cellsOf ⟨0, 0, ⟨#[]⟩, 0, ⟨#[]⟩, 0, 0, 0⟩) 27))
  have R0 : Hid (Boxed w ((w.alloc (.cells (cellsOf ⟨k, u, f, q, s, m, n, t⟩) 27)).alloc (.cells (cellsOf ⟨0, 0, ⟨#[]⟩, 0, ⟨#[]⟩, 0, 0, 0⟩) 27)) (w.heap.size + 1) ⟨0, 0, ⟨#[]⟩, 0, ⟨#[]⟩, 0, 0, 0⟩) := hid ⟨by have h := Blk.new (w.alloc (.cells (cellsOf ⟨k, u, f, q, s, m, n, t⟩) 27)) 27 (cellsOf ⟨0, 0, ⟨#[]⟩, 0, ⟨#[]⟩, 0, 0, 0⟩); simpa using h, by omega, A0.out.below, hP⟩
  clear s0 s1 s2 s3 s4 s5 hP
  go_enter Tryz.func99, Tryz.ntmps99
  go_wp2_with fail
  with_reducible refine (has_0 ⟨k, u, f, q, s, m, n, t⟩ true _ S0.out A0.out.parts).mono ?_
  rintro e w1 ⟨rfl, hb⟩
  have A1 := hid (A0.out.on hb)
  have R1 := hid (R0.out.on hb)
  clear hb A0 R0 S0
  obtain ⟨⟨c0, c1, c2, c3, c4, c5, c6, c7⟩, f0, f1, f2, f3, f4, f5, f6, f7⟩ := cells8 A1.out.1
  go_wp2_with fail
  with_reducible refine (has_1 ⟨k, u, f, q, s, m, n, t⟩ true _ S1.out A1.out.parts).mono ?_
  rintro e w2 ⟨rfl, hb⟩
  have A2 := hid (A1.out.on hb)
  have R2 := hid (R1.out.on hb)
  clear hb A1 R1 S1 c0 c1 c2 c3 c4 c5 c6 c7 f0 f1 f2 f3 f4 f5 f6 f7
  obtain ⟨⟨c0, c1, c2, c3, c4, c5, c6, c7⟩, f0, f1, f2, f3, f4, f5, f6, f7⟩ := cells8 A2.out.1
  go_wp2_with fail
  with_reducible refine (has_2 ⟨k, u, f, q, s, m, n, t⟩ true _ S2.out A2.out.parts).mono ?_
  rintro e w3 ⟨rfl, hb⟩
  have A3 := hid (A2.out.on hb)
  have R3 := hid (R2.out.on hb)
  clear hb A2 R2 S2 c0 c1 c2 c3 c4 c5 c6 c7 f0 f1 f2 f3 f4 f5 f6 f7
  obtain ⟨⟨c0, c1, c2, c3, c4, c5, c6, c7⟩, f0, f1, f2, f3, f4, f5, f6, f7⟩ := cells8 A3.out.1
  go_wp2_with fail
  with_reducible refine (has_3 ⟨k, u, f, q, s, m, n, t⟩ true _ S3.out A3.out.parts).mono ?_
  rintro e w4 ⟨rfl, hb⟩
  have A4 := hid (A3.out.on hb)
  have R4 := hid (R3.out.on hb)
  clear hb A3 R3 S3 c0 c1 c2 c3 c4 c5 c6 c7 f0 f1 f2 f3 f4 f5 f6 f7
  obtain ⟨⟨c0, c1, c2, c3, c4, c5, c6, c7⟩, f0, f1, f2, f3, f4, f5, f6, f7⟩ := cells8 A4.out.1
  go_wp2_with fail
  with_reducible refine (has_4 ⟨k, u, f, q, s, m, n, t⟩ false _ S4.out A4.out.parts).mono ?_
  rintro e w5 ⟨rfl, hb⟩
  have A5 := hid (A4.out.on hb)
  have R5 := hid (R4.out.on hb)
  clear hb A4 R4 S4 c0 c1 c2 c3 c4 c5 c6 c7 f0 f1 f2 f3 f4 f5 f6 f7
  obtain ⟨⟨c0, c1, c2, c3, c4, c5, c6, c7⟩, f0, f1, f2, f3, f4, f5, f6, f7⟩ := cells8 A5.out.1
  have A5s := hid (A5.out.set_ 6 (.int .u64 0) ⟨k, u, f, q, s, m, 0, t⟩ rfl)
  have R5s := hid (R5.out.far (p := ⟨w.heap.size, 6, none⟩) (by simp) (Nat.le_refl _) (.int .u64 0))
  clear A5 R5
  go_wp2_with fail
  with_reducible refine (has_5 ⟨k, u, f, q, s, m, 0, t⟩ false _ S5.out A5s.out.parts).mono ?_
  rintro e w6 ⟨rfl, hb⟩
  have A6 := hid (A5s.out.on hb)
  have R6 := hid (R5s.out.on hb)
  clear hb A5s R5s S5 c0 c1 c2 c3 c4 c5 c6 c7 f0 f1 f2 f3 f4 f5 f6 f7
  obtain ⟨⟨c0, c1, c2, c3, c4, c5, c6, c7⟩, f0, f1, f2, f3, f4, f5, f6, f7⟩ := cells8 A6.out.1
  have A6s := hid (A6.out.set_ 7 (.int .i64 0) ⟨k, u, f, q, s, m, 0, 0⟩ rfl)
  have R6s := hid (R6.out.far (p := ⟨w.heap.size, 7, none⟩) (by simp) (Nat.le_refl _) (.int .i64 0))
  clear A6 R6
  obtain ⟨⟨d0, d1, d2, d3, d4, d5, d6, d7⟩, g0, g1, g2, g3, g4, g5, g6, g7⟩ := cells8 R6s.out.1
  have E := hid (R6s.out.put ⟨k, u, f, q, s, m, 0, 0⟩)
  go_wp2
  refine bodyPost_ret (v := val ⟨k, u, f, q, s, m, 0, 0⟩) (by simp [results, Tryz.results99, go_sem, d0, d1, d2, d3, d4, d5, d6, d7]) rfl ⟨rfl, E.out.below⟩

set_option maxRecDepth 100000 in
set_option maxHeartbeats 1000000 in
theorem own_6 (k u : Int) (f : ByteArray) (q : Int) (s : ByteArray) (m n t : Int) (w : World) (hP : PartsIs w) (hs : Sig k true true true false false false) :
    Calls Tryz.prog 99 #[val ⟨k, u, f, q, s, m, n, t⟩] w fun e w' => e = .returned (val ⟨k, u, f, q, s, 0, 0, 0⟩) ∧ Below w.heap.size w w' := by
  obtain ⟨s0, s1, s2, s3, s4, s5⟩ := hs
  have S0 := hid s0
  have S1 := hid s1
  have S2 := hid s2
  have S3 := hid s3
  have S4 := hid s4
  have S5 := hid s5
  have A0 := hid ((Boxed.start hP ⟨k, u, f, q, s, m, n, t⟩).alloc (.cells (cellsOf ⟨0, 0, ⟨#[]⟩, 0, ⟨#[]⟩, 0, 0, 0⟩) 27))
  have R0 : Hid (Boxed w ((w.alloc (.cells (cellsOf ⟨k, u, f, q, s, m, n, t⟩) 27)).alloc (.cells (cellsOf ⟨0, 0, ⟨#[]⟩, 0, ⟨#[]⟩, 0, 0, 0⟩) 27)) (w.heap.size + 1) ⟨0, 0, ⟨#[]⟩, 0, ⟨#[]⟩, 0, 0, 0⟩) := hid ⟨by have h := Blk.new (w.alloc (.cells (cellsOf ⟨k, u, f, q, s, m, n, t⟩) 27)) 27 (cellsOf ⟨0, 0, ⟨#[]⟩, 0, ⟨#[]⟩, 0, 0, 0⟩); simpa using h, by omega, A0.out.below, hP⟩
  clear s0 s1 s2 s3 s4 s5 hP
  go_enter Tryz.func99, Tryz.ntmps99
  go_wp2_with fail
  with_reducible refine (has_0 ⟨k, u, f, q, s, m, n, t⟩ true _ S0.out A0.out.parts).mono ?_
  rintro e w1 ⟨rfl, hb⟩
  have A1 := hid (A0.out.on hb)
  have R1 := hid (R0.out.on hb)
  clear hb A0 R0 S0
  obtain ⟨⟨c0, c1, c2, c3, c4, c5, c6, c7⟩, f0, f1, f2, f3, f4, f5, f6, f7⟩ := cells8 A1.out.1
  go_wp2_with fail
  with_reducible refine (has_1 ⟨k, u, f, q, s, m, n, t⟩ true _ S1.out A1.out.parts).mono ?_
  rintro e w2 ⟨rfl, hb⟩
  have A2 := hid (A1.out.on hb)
  have R2 := hid (R1.out.on hb)
  clear hb A1 R1 S1 c0 c1 c2 c3 c4 c5 c6 c7 f0 f1 f2 f3 f4 f5 f6 f7
  obtain ⟨⟨c0, c1, c2, c3, c4, c5, c6, c7⟩, f0, f1, f2, f3, f4, f5, f6, f7⟩ := cells8 A2.out.1
  go_wp2_with fail
  with_reducible refine (has_2 ⟨k, u, f, q, s, m, n, t⟩ true _ S2.out A2.out.parts).mono ?_
  rintro e w3 ⟨rfl, hb⟩
  have A3 := hid (A2.out.on hb)
  have R3 := hid (R2.out.on hb)
  clear hb A2 R2 S2 c0 c1 c2 c3 c4 c5 c6 c7 f0 f1 f2 f3 f4 f5 f6 f7
  obtain ⟨⟨c0, c1, c2, c3, c4, c5, c6, c7⟩, f0, f1, f2, f3, f4, f5, f6, f7⟩ := cells8 A3.out.1
  go_wp2_with fail
  with_reducible refine (has_3 ⟨k, u, f, q, s, m, n, t⟩ false _ S3.out A3.out.parts).mono ?_
  rintro e w4 ⟨rfl, hb⟩
  have A4 := hid (A3.out.on hb)
  have R4 := hid (R3.out.on hb)
  clear hb A3 R3 S3 c0 c1 c2 c3 c4 c5 c6 c7 f0 f1 f2 f3 f4 f5 f6 f7
  obtain ⟨⟨c0, c1, c2, c3, c4, c5, c6, c7⟩, f0, f1, f2, f3, f4, f5, f6, f7⟩ := cells8 A4.out.1
  have A4s := hid (A4.out.set_ 5 (.int .i64 0) ⟨k, u, f, q, s, 0, n, t⟩ rfl)
  have R4s := hid (R4.out.far (p := ⟨w.heap.size, 5, none⟩) (by simp) (Nat.le_refl _) (.int .i64 0))
  clear A4 R4
  go_wp2_with fail
  with_reducible refine (has_4 ⟨k, u, f, q, s, 0, n, t⟩ false _ S4.out A4s.out.parts).mono ?_
  rintro e w5 ⟨rfl, hb⟩
  have A5 := hid (A4s.out.on hb)
  have R5 := hid (R4s.out.on hb)
  clear hb A4s R4s S4 c0 c1 c2 c3 c4 c5 c6 c7 f0 f1 f2 f3 f4 f5 f6 f7
  obtain ⟨⟨c0, c1, c2, c3, c4, c5, c6, c7⟩, f0, f1, f2, f3, f4, f5, f6, f7⟩ := cells8 A5.out.1
  have A5s := hid (A5.out.set_ 6 (.int .u64 0) ⟨k, u, f, q, s, 0, 0, t⟩ rfl)
  have R5s := hid (R5.out.far (p := ⟨w.heap.size, 6, none⟩) (by simp) (Nat.le_refl _) (.int .u64 0))
  clear A5 R5
  go_wp2_with fail
  with_reducible refine (has_5 ⟨k, u, f, q, s, 0, 0, t⟩ false _ S5.out A5s.out.parts).mono ?_
  rintro e w6 ⟨rfl, hb⟩
  have A6 := hid (A5s.out.on hb)
  have R6 := hid (R5s.out.on hb)
  clear hb A5s R5s S5 c0 c1 c2 c3 c4 c5 c6 c7 f0 f1 f2 f3 f4 f5 f6 f7
  obtain ⟨⟨c0, c1, c2, c3, c4, c5, c6, c7⟩, f0, f1, f2, f3, f4, f5, f6, f7⟩ := cells8 A6.out.1
  have A6s := hid (A6.out.set_ 7 (.int .i64 0) ⟨k, u, f, q, s, 0, 0, 0⟩ rfl)
  have R6s := hid (R6.out.far (p := ⟨w.heap.size, 7, none⟩) (by simp) (Nat.le_refl _) (.int .i64 0))
  clear A6 R6
  obtain ⟨⟨d0, d1, d2, d3, d4, d5, d6, d7⟩, g0, g1, g2, g3, g4, g5, g6, g7⟩ := cells8 R6s.out.1
  have E := hid (R6s.out.put ⟨k, u, f, q, s, 0, 0, 0⟩)
  go_wp2
  refine bodyPost_ret (v := val ⟨k, u, f, q, s, 0, 0, 0⟩) (by simp [results, Tryz.results99, go_sem, d0, d1, d2, d3, d4, d5, d6, d7]) rfl ⟨rfl, E.out.below⟩

set_option maxRecDepth 100000 in
set_option maxHeartbeats 1000000 in
theorem own_7 (k u : Int) (f : ByteArray) (q : Int) (s : ByteArray) (m n t : Int) (w : World) (hP : PartsIs w) (hs : Sig k true true true false true false) :
    Calls Tryz.prog 99 #[val ⟨k, u, f, q, s, m, n, t⟩] w fun e w' => e = .returned (val ⟨k, u, f, q, s, 0, n, 0⟩) ∧ Below w.heap.size w w' := by
  obtain ⟨s0, s1, s2, s3, s4, s5⟩ := hs
  have S0 := hid s0
  have S1 := hid s1
  have S2 := hid s2
  have S3 := hid s3
  have S4 := hid s4
  have S5 := hid s5
  have A0 := hid ((Boxed.start hP ⟨k, u, f, q, s, m, n, t⟩).alloc (.cells (cellsOf ⟨0, 0, ⟨#[]⟩, 0, ⟨#[]⟩, 0, 0, 0⟩) 27))
  have R0 : Hid (Boxed w ((w.alloc (.cells (cellsOf ⟨k, u, f, q, s, m, n, t⟩) 27)).alloc (.cells (cellsOf ⟨0, 0, ⟨#[]⟩, 0, ⟨#[]⟩, 0, 0, 0⟩) 27)) (w.heap.size + 1) ⟨0, 0, ⟨#[]⟩, 0, ⟨#[]⟩, 0, 0, 0⟩) := hid ⟨by have h := Blk.new (w.alloc (.cells (cellsOf ⟨k, u, f, q, s, m, n, t⟩) 27)) 27 (cellsOf ⟨0, 0, ⟨#[]⟩, 0, ⟨#[]⟩, 0, 0, 0⟩); simpa using h, by omega, A0.out.below, hP⟩
  clear s0 s1 s2 s3 s4 s5 hP
  go_enter Tryz.func99, Tryz.ntmps99
  go_wp2_with fail
  with_reducible refine (has_0 ⟨k, u, f, q, s, m, n, t⟩ true _ S0.out A0.out.parts).mono ?_
  rintro e w1 ⟨rfl, hb⟩
  have A1 := hid (A0.out.on hb)
  have R1 := hid (R0.out.on hb)
  clear hb A0 R0 S0
  obtain ⟨⟨c0, c1, c2, c3, c4, c5, c6, c7⟩, f0, f1, f2, f3, f4, f5, f6, f7⟩ := cells8 A1.out.1
  go_wp2_with fail
  with_reducible refine (has_1 ⟨k, u, f, q, s, m, n, t⟩ true _ S1.out A1.out.parts).mono ?_
  rintro e w2 ⟨rfl, hb⟩
  have A2 := hid (A1.out.on hb)
  have R2 := hid (R1.out.on hb)
  clear hb A1 R1 S1 c0 c1 c2 c3 c4 c5 c6 c7 f0 f1 f2 f3 f4 f5 f6 f7
  obtain ⟨⟨c0, c1, c2, c3, c4, c5, c6, c7⟩, f0, f1, f2, f3, f4, f5, f6, f7⟩ := cells8 A2.out.1
  go_wp2_with fail
  with_reducible refine (has_2 ⟨k, u, f, q, s, m, n, t⟩ true _ S2.out A2.out.parts).mono ?_
  rintro e w3 ⟨rfl, hb⟩
  have A3 := hid (A2.out.on hb)
  have R3 := hid (R2.out.on hb)
  clear hb A2 R2 S2 c0 c1 c2 c3 c4 c5 c6 c7 f0 f1 f2 f3 f4 f5 f6 f7
  obtain ⟨⟨c0, c1, c2, c3, c4, c5, c6, c7⟩, f0, f1, f2, f3, f4, f5, f6, f7⟩ := cells8 A3.out.1
  go_wp2_with fail
  with_reducible refine (has_3 ⟨k, u, f, q, s, m, n, t⟩ false _ S3.out A3.out.parts).mono ?_
  rintro e w4 ⟨rfl, hb⟩
  have A4 := hid (A3.out.on hb)
  have R4 := hid (R3.out.on hb)
  clear hb A3 R3 S3 c0 c1 c2 c3 c4 c5 c6 c7 f0 f1 f2 f3 f4 f5 f6 f7
  obtain ⟨⟨c0, c1, c2, c3, c4, c5, c6, c7⟩, f0, f1, f2, f3, f4, f5, f6, f7⟩ := cells8 A4.out.1
  have A4s := hid (A4.out.set_ 5 (.int .i64 0) ⟨k, u, f, q, s, 0, n, t⟩ rfl)
  have R4s := hid (R4.out.far (p := ⟨w.heap.size, 5, none⟩) (by simp) (Nat.le_refl _) (.int .i64 0))
  clear A4 R4
  go_wp2_with fail
  with_reducible refine (has_4 ⟨k, u, f, q, s, 0, n, t⟩ true _ S4.out A4s.out.parts).mono ?_
  rintro e w5 ⟨rfl, hb⟩
  have A5 := hid (A4s.out.on hb)
  have R5 := hid (R4s.out.on hb)
  clear hb A4s R4s S4 c0 c1 c2 c3 c4 c5 c6 c7 f0 f1 f2 f3 f4 f5 f6 f7
  obtain ⟨⟨c0, c1, c2, c3, c4, c5, c6, c7⟩, f0, f1, f2, f3, f4, f5, f6, f7⟩ := cells8 A5.out.1
  go_wp2_with fail
  with_reducible refine (has_5 ⟨k, u, f, q, s, 0, n, t⟩ false _ S5.out A5.out.parts).mono ?_
  rintro e w6 ⟨rfl, hb⟩
  have A6 := hid (A5.out.on hb)
  have R6 := hid (R5.out.on hb)
  clear hb A5 R5 S5 c0 c1 c2 c3 c4 c5 c6 c7 f0 f1 f2 f3 f4 f5 f6 f7
  obtain ⟨⟨c0, c1, c2, c3, c4, c5, c6, c7⟩, f0, f1, f2, f3, f4, f5, f6, f7⟩ := cells8 A6.out.1
  have A6s := hid (A6.out.set_ 7 (.int .i64 0) ⟨k, u, f, q, s, 0, n, 0⟩ rfl)
  have R6s := hid (R6.out.far (p := ⟨w.heap.size, 7, none⟩) (by simp) (Nat.le_refl _) (.int .i64 0))
  clear A6 R6
  obtain ⟨⟨d0, d1, d2, d3, d4, d5, d6, d7⟩, g0, g1, g2, g3, g4, g5, g6, g7⟩ := cells8 R6s.out.1
  have E := hid (R6s.out.put ⟨k, u, f, q, s, 0, n, 0⟩)
  go_wp2
  refine bodyPost_ret (v := val ⟨k, u, f, q, s, 0, n, 0⟩) (by simp [results, Tryz.results99, go_sem, d0, d1, d2, d3, d4, d5, d6, d7]) rfl ⟨rfl, E.out.below⟩

set_option maxRecDepth 100000 in
set_option maxHeartbeats 1000000 in
theorem own_8 (k u : Int) (f : ByteArray) (q : Int) (s : ByteArray) (m n t : Int) (w : World) (hP : PartsIs w) (hs : Sig k true false false false false true) :
    Calls Tryz.prog 99 #[val ⟨k, u, f, q, s, m, n, t⟩] w fun e w' => e = .returned (val ⟨k, u, f, 0, ⟨#[]⟩, 0, 0, t⟩) ∧ Below w.heap.size w w' := by
  obtain ⟨s0, s1, s2, s3, s4, s5⟩ := hs
  have S0 := hid s0
  have S1 := hid s1
  have S2 := hid s2
  have S3 := hid s3
  have S4 := hid s4
  have S5 := hid s5
  have A0 := hid ((Boxed.start hP ⟨k, u, f, q, s, m, n, t⟩).alloc (.cells (cellsOf ⟨0, 0, ⟨#[]⟩, 0, ⟨#[]⟩, 0, 0, 0⟩) 27))
  have R0 : Hid (Boxed w ((w.alloc (.cells (cellsOf ⟨k, u, f, q, s, m, n, t⟩) 27)).alloc (.cells (cellsOf ⟨0, 0, ⟨#[]⟩, 0, ⟨#[]⟩, 0, 0, 0⟩) 27)) (w.heap.size + 1) ⟨0, 0, ⟨#[]⟩, 0, ⟨#[]⟩, 0, 0, 0⟩) := hid ⟨by have h := Blk.new (w.alloc (.cells (cellsOf ⟨k, u, f, q, s, m, n, t⟩) 27)) 27 (cellsOf ⟨0, 0, ⟨#[]⟩, 0, ⟨#[]⟩, 0, 0, 0⟩); simpa using h, by omega, A0.out.below, hP⟩
  clear s0 s1 s2 s3 s4 s5 hP
  go_enter Tryz.func99, Tryz.ntmps99
  go_wp2_with fail
  with_reducible refine (has_0 ⟨k, u, f, q, s, m, n, t⟩ true _ S0.out A0.out.parts).mono ?_
  rintro e w1 ⟨rfl, hb⟩
  have A1 := hid (A0.out.on hb)
  have R1 := hid (R0.out.on hb)
  clear hb A0 R0 S0
  obtain ⟨⟨c0, c1, c2, c3, c4, c5, c6, c7⟩, f0, f1, f2, f3, f4, f5, f6, f7⟩ := cells8 A1.out.1
  go_wp2_with fail
  with_reducible refine (has_1 ⟨k, u, f, q, s, m, n, t⟩ false _ S1.out A1.out.parts).mono ?_
  rintro e w2 ⟨rfl, hb⟩
  have A2 := hid (A1.out.on hb)
  have R2 := hid (R1.out.on hb)
  clear hb A1 R1 S1 c0 c1 c2 c3 c4 c5 c6 c7 f0 f1 f2 f3 f4 f5 f6 f7
  obtain ⟨⟨c0, c1, c2, c3, c4, c5, c6, c7⟩, f0, f1, f2, f3, f4, f5, f6, f7⟩ := cells8 A2.out.1
  have A2s := hid (A2.out.set_ 3 (.int .u64 0) ⟨k, u, f, 0, s, m, n, t⟩ rfl)
  have R2s := hid (R2.out.far (p := ⟨w.heap.size, 3, none⟩) (by simp) (Nat.le_refl _) (.int .u64 0))
  clear A2 R2
  go_wp2_with fail
  with_reducible refine (has_2 ⟨k, u, f, 0, s, m, n, t⟩ false _ S2.out A2s.out.parts).mono ?_
  rintro e w3 ⟨rfl, hb⟩
  have A3 := hid (A2s.out.on hb)
  have R3 := hid (R2s.out.on hb)
  clear hb A2s R2s S2 c0 c1 c2 c3 c4 c5 c6 c7 f0 f1 f2 f3 f4 f5 f6 f7
  obtain ⟨⟨c0, c1, c2, c3, c4, c5, c6, c7⟩, f0, f1, f2, f3, f4, f5, f6, f7⟩ := cells8 A3.out.1
  have A3s := hid (A3.out.set_ 4 (.string ⟨#[]⟩) ⟨k, u, f, 0, ⟨#[]⟩, m, n, t⟩ rfl)
  have R3s := hid (R3.out.far (p := ⟨w.heap.size, 4, none⟩) (by simp) (Nat.le_refl _) (.string ⟨#[]⟩))
  clear A3 R3
  go_wp2_with fail
  with_reducible refine (has_3 ⟨k, u, f, 0, ⟨#[]⟩, m, n, t⟩ false _ S3.out A3s.out.parts).mono ?_
  rintro e w4 ⟨rfl, hb⟩
  have A4 := hid (A3s.out.on hb)
  have R4 := hid (R3s.out.on hb)
  clear hb A3s R3s S3 c0 c1 c2 c3 c4 c5 c6 c7 f0 f1 f2 f3 f4 f5 f6 f7
  obtain ⟨⟨c0, c1, c2, c3, c4, c5, c6, c7⟩, f0, f1, f2, f3, f4, f5, f6, f7⟩ := cells8 A4.out.1
  have A4s := hid (A4.out.set_ 5 (.int .i64 0) ⟨k, u, f, 0, ⟨#[]⟩, 0, n, t⟩ rfl)
  have R4s := hid (R4.out.far (p := ⟨w.heap.size, 5, none⟩) (by simp) (Nat.le_refl _) (.int .i64 0))
  clear A4 R4
  go_wp2_with fail
  with_reducible refine (has_4 ⟨k, u, f, 0, ⟨#[]⟩, 0, n, t⟩ false _ S4.out A4s.out.parts).mono ?_
  rintro e w5 ⟨rfl, hb⟩
  have A5 := hid (A4s.out.on hb)
  have R5 := hid (R4s.out.on hb)
  clear hb A4s R4s S4 c0 c1 c2 c3 c4 c5 c6 c7 f0 f1 f2 f3 f4 f5 f6 f7
  obtain ⟨⟨c0, c1, c2, c3, c4, c5, c6, c7⟩, f0, f1, f2, f3, f4, f5, f6, f7⟩ := cells8 A5.out.1
  have A5s := hid (A5.out.set_ 6 (.int .u64 0) ⟨k, u, f, 0, ⟨#[]⟩, 0, 0, t⟩ rfl)
  have R5s := hid (R5.out.far (p := ⟨w.heap.size, 6, none⟩) (by simp) (Nat.le_refl _) (.int .u64 0))
  clear A5 R5
  go_wp2_with fail
  with_reducible refine (has_5 ⟨k, u, f, 0, ⟨#[]⟩, 0, 0, t⟩ true _ S5.out A5s.out.parts).mono ?_
  rintro e w6 ⟨rfl, hb⟩
  have A6 := hid (A5s.out.on hb)
  have R6 := hid (R5s.out.on hb)
  clear hb A5s R5s S5 c0 c1 c2 c3 c4 c5 c6 c7 f0 f1 f2 f3 f4 f5 f6 f7
  obtain ⟨⟨c0, c1, c2, c3, c4, c5, c6, c7⟩, f0, f1, f2, f3, f4, f5, f6, f7⟩ := cells8 A6.out.1
  obtain ⟨⟨d0, d1, d2, d3, d4, d5, d6, d7⟩, g0, g1, g2, g3, g4, g5, g6, g7⟩ := cells8 R6.out.1
  have E := hid (R6.out.put ⟨k, u, f, 0, ⟨#[]⟩, 0, 0, t⟩)
  go_wp2
  refine bodyPost_ret (v := val ⟨k, u, f, 0, ⟨#[]⟩, 0, 0, t⟩) (by simp [results, Tryz.results99, go_sem, d0, d1, d2, d3, d4, d5, d6, d7]) rfl ⟨rfl, E.out.below⟩

theorem own_any (c : K) (w : World) (hP : PartsIs w) : Calls Tryz.prog 99 #[val c] w fun e w' => e = .returned (val (own c)) ∧ Below w.heap.size w w' := by
  obtain ⟨k, u, f, q, s, m, n, t⟩ := c
  rcases sig_cases k with ⟨h, _⟩ | ⟨_, h⟩ | ⟨_, h⟩ | ⟨_, h⟩ | ⟨_, h⟩ | ⟨_, h⟩ | ⟨_, h⟩ | ⟨_, h⟩
  · have hc := own_0 k u f q s m n t w hP h
    obtain ⟨s0, s1, s2, s3, s4, s5⟩ := h
    have he : own ⟨k, u, f, q, s, m, n, t⟩ = ⟨k, 0, ⟨#[]⟩, 0, ⟨#[]⟩, 0, 0, 0⟩ := by simp [own, s0, s1, s2, s3, s4, s5]
    rw [he]; exact hc
  · have hc := own_1 k u f q s m n t w hP h
    obtain ⟨s0, s1, s2, s3, s4, s5⟩ := h
    have he : own ⟨k, u, f, q, s, m, n, t⟩ = ⟨k, u, f, q, ⟨#[]⟩, 0, n, t⟩ := by simp [own, s0, s1, s2, s3, s4, s5]
    rw [he]; exact hc
  · have hc := own_2 k u f q s m n t w hP h
    obtain ⟨s0, s1, s2, s3, s4, s5⟩ := h
    have he : own ⟨k, u, f, q, s, m, n, t⟩ = ⟨k, u, f, q, ⟨#[]⟩, 0, 0, 0⟩ := by simp [own, s0, s1, s2, s3, s4, s5]
    rw [he]; exact hc
  · have hc := own_3 k u f q s m n t w hP h
    obtain ⟨s0, s1, s2, s3, s4, s5⟩ := h
    have he : own ⟨k, u, f, q, s, m, n, t⟩ = ⟨k, u, f, q, ⟨#[]⟩, 0, 0, t⟩ := by simp [own, s0, s1, s2, s3, s4, s5]
    rw [he]; exact hc
  · have hc := own_4 k u f q s m n t w hP h
    obtain ⟨s0, s1, s2, s3, s4, s5⟩ := h
    have he : own ⟨k, u, f, q, s, m, n, t⟩ = ⟨k, u, f, q, s, m, 0, 0⟩ := by simp [own, s0, s1, s2, s3, s4, s5]
    rw [he]; exact hc
  · have hc := own_6 k u f q s m n t w hP h
    obtain ⟨s0, s1, s2, s3, s4, s5⟩ := h
    have he : own ⟨k, u, f, q, s, m, n, t⟩ = ⟨k, u, f, q, s, 0, 0, 0⟩ := by simp [own, s0, s1, s2, s3, s4, s5]
    rw [he]; exact hc
  · have hc := own_7 k u f q s m n t w hP h
    obtain ⟨s0, s1, s2, s3, s4, s5⟩ := h
    have he : own ⟨k, u, f, q, s, m, n, t⟩ = ⟨k, u, f, q, s, 0, n, 0⟩ := by simp [own, s0, s1, s2, s3, s4, s5]
    rw [he]; exact hc
  · have hc := own_8 k u f q s m n t w hP h
    obtain ⟨s0, s1, s2, s3, s4, s5⟩ := h
    have he : own ⟨k, u, f, q, s, m, n, t⟩ = ⟨k, u, f, 0, ⟨#[]⟩, 0, 0, t⟩ := by simp [own, s0, s1, s2, s3, s4, s5]
    rw [he]; exact hc

end Go.Proofs.YtpdfakjopeldmaaGreatDoor
