/-
  The contract of withTaken (package cmd), once for each class of kinds: off a right command's bytes.
-/
import Derived.Test.YtkfnbjeknekcgaaDoorKDec
namespace Go.Proofs.YtkfnbjeknekcgaaDoor
open Go.ChangeShapes Go.WideShapes Go.ChangeAt Go.RowKit Go.Lib
set_option linter.unusedSimpArgs false
set_option linter.unusedVariables false

set_option maxRecDepth 100000 in
set_option maxHeartbeats 400000 in
theorem takeany_any (g : Nat) (l l' : List Nat) (v : Nat) (w : World) (h : InAt w g l 0) (h8 : ∀ x ∈ l, x < 256) (hl : l.length ≤ 9223372036854775807) (hs : sShort l 0 18446744073709551615 = (l', 0, v)) :
    Calls Tryd.prog 54 #[.pointer (some ⟨g, 0, none⟩)] w (Turns (fun en => en = .returned (.int .u64 (v : Int))) g l' 0 w) := by
  have HI := hid h
  have H8 := hid h8
  have HS := hid hs
  clear h h8 hs
  go_enter Tryd.func54, Tryd.ntmps54
  go_wp2_with fail
  with_reducible refine (inshort_any g l 0 18446744073709551615 18446744073709551615 l' 0 v _ HI.out (fine0 _) H8.out hl rfl HS.out).mono ?_
  rintro en w1 ⟨rfl, hin, hg⟩
  have HT := hid hin
  have HG := hid hg
  clear hin hg
  go_wp2
  go_ret
  exact ⟨rfl, HT.out, HG.out⟩

theorem in_app {a b : List Nat} (ha : ∀ x ∈ a, x < 256) (hb : ∀ x ∈ b, x < 256) : ∀ x ∈ a ++ b, x < 256 := fun x hx => (List.mem_append.1 hx).elim (ha x) (hb x)

set_option maxRecDepth 100000 in
set_option maxHeartbeats 2000000 in
theorem taken_0 (g : Nat) (k : Int) (un : Nat) (f : ByteArray) (qn : Nat) (s : ByteArray) (mn nn tn : Nat) (more : List Nat) (w : World) (hP : PartsIs w) (hg : 1 < g) (hI : InAt w g (more) 0) (hs : Sig k false false false false false false)
    (b2 : un < 18446744073709551616) (b3 : qn < 18446744073709551616) (b4 : mn ≤ 2) (b5 : nn < 18446744073709551616) (b6 : tn ≤ 1099511627776) (hf : f.size ≤ 64) (hp : s.size ≤ 64) (h8 : ∀ x ∈ more, x < 256) (hl : more.length ≤ 1000000000000000) :
    Calls Tryd.prog 37 #[val ⟨k, 0, ⟨#[]⟩, 0, ⟨#[]⟩, 0, 0, 0⟩, .pointer (some ⟨g, 0, none⟩)] w fun e w' => e = .returned (val ⟨k, 0, ⟨#[]⟩, 0, ⟨#[]⟩, 0, 0, 0⟩) ∧ InAt w' g more 0 ∧ w.grownBy w' (some g) := by
  obtain ⟨s0, s1, s2, s3, s4, s5⟩ := hs
  have S0 := hid s0
  have S1 := hid s1
  have S2 := hid s2
  have S3 := hid s3
  have S4 := hid s4
  have S5 := hid s5
  have B0 := hid h8
  have N0 : Hid (more.length ≤ 1000000000000000) := hid hl
  have W2 : IntKind.i64.wrap (mn : Int) = mn := by rw [IntKind.wrap_i64]; omega
  have W3 : IntKind.i64.wrap (tn : Int) = tn := by rw [IntKind.wrap_i64]; omega
  have A0 := hid ((TakeAt.start hI hP hg ⟨k, 0, ⟨#[]⟩, 0, ⟨#[]⟩, 0, 0, 0⟩).on ((Below.refl _ _).alloc (Nat.le_refl _) (.cells (cellsOf ⟨0, 0, ⟨#[]⟩, 0, ⟨#[]⟩, 0, 0, 0⟩) 26)))
  have R0 : Hid (TakeAt w ((w.alloc (.cells (cellsOf ⟨k, 0, ⟨#[]⟩, 0, ⟨#[]⟩, 0, 0, 0⟩) 26)).alloc (.cells (cellsOf ⟨0, 0, ⟨#[]⟩, 0, ⟨#[]⟩, 0, 0, 0⟩) 26)) g (w.heap.size + 1) ⟨0, 0, ⟨#[]⟩, 0, ⟨#[]⟩, 0, 0, 0⟩ more) := hid ⟨A0.out.1, by have h := Blk.new (w.alloc (.cells (cellsOf ⟨k, 0, ⟨#[]⟩, 0, ⟨#[]⟩, 0, 0, 0⟩) 26)) 26 (cellsOf ⟨0, 0, ⟨#[]⟩, 0, ⟨#[]⟩, 0, 0, 0⟩); simpa using h, by omega, A0.out.2.2.2.1, A0.out.2.2.2.2⟩
  clear s0 s1 s2 s3 s4 s5 hP hg hI h8
  go_enter Tryd.func37, Tryd.ntmps37
  go_wp2_with fail
  with_reducible refine (has_0 ⟨k, 0, ⟨#[]⟩, 0, ⟨#[]⟩, 0, 0, 0⟩ false _ S0.out A0.out.parts).mono ?_
  rintro e w1 ⟨rfl, hb⟩
  have A1 := hid (A0.out.on hb)
  have R1 := hid (R0.out.on hb)
  clear hb A0 R0
  obtain ⟨⟨c0, c1, c2, c3, c4, c5, c6, c7⟩, f0, f1, f2, f3, f4, f5, f6, f7⟩ := cells8 A1.out.2.1
  go_wp2_with fail
  with_reducible refine (has_1 ⟨k, 0, ⟨#[]⟩, 0, ⟨#[]⟩, 0, 0, 0⟩ false _ S1.out A1.out.parts).mono ?_
  rintro e w2 ⟨rfl, hb⟩
  have A2 := hid (A1.out.on hb)
  have R2 := hid (R1.out.on hb)
  clear hb A1 R1
  clear c0 c1 c2 c3 c4 c5 c6 c7 f0 f1 f2 f3 f4 f5 f6 f7
  obtain ⟨⟨c0, c1, c2, c3, c4, c5, c6, c7⟩, f0, f1, f2, f3, f4, f5, f6, f7⟩ := cells8 A2.out.2.1
  go_wp2_with fail
  with_reducible refine (has_2 ⟨k, 0, ⟨#[]⟩, 0, ⟨#[]⟩, 0, 0, 0⟩ false _ S2.out A2.out.parts).mono ?_
  rintro e w3 ⟨rfl, hb⟩
  have A3 := hid (A2.out.on hb)
  have R3 := hid (R2.out.on hb)
  clear hb A2 R2
  clear c0 c1 c2 c3 c4 c5 c6 c7 f0 f1 f2 f3 f4 f5 f6 f7
  obtain ⟨⟨c0, c1, c2, c3, c4, c5, c6, c7⟩, f0, f1, f2, f3, f4, f5, f6, f7⟩ := cells8 A3.out.2.1
  go_wp2_with fail
  with_reducible refine (has_3 ⟨k, 0, ⟨#[]⟩, 0, ⟨#[]⟩, 0, 0, 0⟩ false _ S3.out A3.out.parts).mono ?_
  rintro e w4 ⟨rfl, hb⟩
  have A4 := hid (A3.out.on hb)
  have R4 := hid (R3.out.on hb)
  clear hb A3 R3
  clear c0 c1 c2 c3 c4 c5 c6 c7 f0 f1 f2 f3 f4 f5 f6 f7
  obtain ⟨⟨c0, c1, c2, c3, c4, c5, c6, c7⟩, f0, f1, f2, f3, f4, f5, f6, f7⟩ := cells8 A4.out.2.1
  go_wp2_with fail
  with_reducible refine (has_4 ⟨k, 0, ⟨#[]⟩, 0, ⟨#[]⟩, 0, 0, 0⟩ false _ S4.out A4.out.parts).mono ?_
  rintro e w5 ⟨rfl, hb⟩
  have A5 := hid (A4.out.on hb)
  have R5 := hid (R4.out.on hb)
  clear hb A4 R4
  clear c0 c1 c2 c3 c4 c5 c6 c7 f0 f1 f2 f3 f4 f5 f6 f7
  obtain ⟨⟨c0, c1, c2, c3, c4, c5, c6, c7⟩, f0, f1, f2, f3, f4, f5, f6, f7⟩ := cells8 A5.out.2.1
  go_wp2_with fail
  with_reducible refine (has_5 ⟨k, 0, ⟨#[]⟩, 0, ⟨#[]⟩, 0, 0, 0⟩ false _ S5.out A5.out.parts).mono ?_
  rintro e w6 ⟨rfl, hb⟩
  have A6 := hid (A5.out.on hb)
  have R6 := hid (R5.out.on hb)
  clear hb A5 R5
  clear c0 c1 c2 c3 c4 c5 c6 c7 f0 f1 f2 f3 f4 f5 f6 f7
  obtain ⟨⟨c0, c1, c2, c3, c4, c5, c6, c7⟩, f0, f1, f2, f3, f4, f5, f6, f7⟩ := cells8 A6.out.2.1
  obtain ⟨⟨d0, d1, d2, d3, d4, d5, d6, d7⟩, g0, g1, g2, g3, g4, g5, g6, g7⟩ := cells8 R6.out.2.1
  have E := hid (R6.out.put ⟨k, 0, ⟨#[]⟩, 0, ⟨#[]⟩, 0, 0, 0⟩)
  clear R6 A6
  go_wp2
  refine bodyPost_ret (v := val ⟨k, 0, ⟨#[]⟩, 0, ⟨#[]⟩, 0, 0, 0⟩) (by simp [results, Tryd.results37, go_sem, d0, d1, d2, d3, d4, d5, d6, d7]) rfl ⟨rfl, E.out.iat, E.out.grown⟩

set_option maxRecDepth 100000 in
set_option maxHeartbeats 2000000 in
theorem taken_1 (g : Nat) (k : Int) (un : Nat) (f : ByteArray) (qn : Nat) (s : ByteArray) (mn nn tn : Nat) (more : List Nat) (w : World) (hP : PartsIs w) (hg : 1 < g) (hI : InAt w g (bytesN un 8 ++ (textN f ++ (shortN qn ++ (shortN nn ++ (shortN tn ++ (more)))))) 0) (hs : Sig k true true false false true true)
    (b2 : un < 18446744073709551616) (b3 : qn < 18446744073709551616) (b4 : mn ≤ 2) (b5 : nn < 18446744073709551616) (b6 : tn ≤ 1099511627776) (hf : f.size ≤ 64) (hp : s.size ≤ 64) (h8 : ∀ x ∈ more, x < 256) (hl : more.length ≤ 1000000000000000) :
    Calls Tryd.prog 37 #[val ⟨k, 0, ⟨#[]⟩, 0, ⟨#[]⟩, 0, 0, 0⟩, .pointer (some ⟨g, 0, none⟩)] w fun e w' => e = .returned (val ⟨k, (un : Int), f, (qn : Int), ⟨#[]⟩, 0, (nn : Int), (tn : Int)⟩) ∧ InAt w' g more 0 ∧ w.grownBy w' (some g) := by
  obtain ⟨s0, s1, s2, s3, s4, s5⟩ := hs
  have S0 := hid s0
  have S1 := hid s1
  have S2 := hid s2
  have S3 := hid s3
  have S4 := hid s4
  have S5 := hid s5
  have B5 := hid h8
  have N5 : Hid (more.length ≤ 1000000000000000) := hid hl
  obtain ⟨X4, hX4⟩ : ∃ x, shortN tn ++ more = x := ⟨_, rfl⟩
  rw [hX4] at hI
  have B4 : Hid (∀ x ∈ X4, x < 256) := hid (by rw [← hX4]; exact in_app (shortN_byte tn) B5.out)
  have N4 : Hid (X4.length ≤ 1000000000000000 + 10) := hid (by rw [← hX4, List.length_append]; have h1 := shortN_len10 (show tn < 18446744073709551616 by omega); have h2 := N5.out; omega)
  have D4 : Hid (sShort X4 0 1099511627776 = (more, 0, tn)) := hid (by rw [← hX4]; exact sShort_put tn _ _ (by omega) b6)
  clear hX4
  obtain ⟨X3, hX3⟩ : ∃ x, shortN nn ++ X4 = x := ⟨_, rfl⟩
  rw [hX3] at hI
  have B3 : Hid (∀ x ∈ X3, x < 256) := hid (by rw [← hX3]; exact in_app (shortN_byte nn) B4.out)
  have N3 : Hid (X3.length ≤ 1000000000000000 + 20) := hid (by rw [← hX3, List.length_append]; have h1 := shortN_len10 b5; have h2 := N4.out; omega)
  have D3 : Hid (sShort X3 0 18446744073709551615 = (X4, 0, nn)) := hid (by rw [← hX3]; exact sShort_put nn _ _ (by omega) (by omega))
  clear hX3
  obtain ⟨X2, hX2⟩ : ∃ x, shortN qn ++ X3 = x := ⟨_, rfl⟩
  rw [hX2] at hI
  have B2 : Hid (∀ x ∈ X2, x < 256) := hid (by rw [← hX2]; exact in_app (shortN_byte qn) B3.out)
  have N2 : Hid (X2.length ≤ 1000000000000000 + 30) := hid (by rw [← hX2, List.length_append]; have h1 := shortN_len10 b3; have h2 := N3.out; omega)
  have D2 : Hid (sShort X2 0 18446744073709551615 = (X3, 0, qn)) := hid (by rw [← hX2]; exact sShort_put qn _ _ (by omega) (by omega))
  clear hX2
  obtain ⟨X1, hX1⟩ : ∃ x, textN f ++ X2 = x := ⟨_, rfl⟩
  rw [hX1] at hI
  have B1 : Hid (∀ x ∈ X1, x < 256) := hid (by rw [← hX1]; exact in_app (textN_byte f) B2.out)
  have N1 : Hid (X1.length ≤ 1000000000000000 + 104) := hid (by rw [← hX1, List.length_append]; have h1 := textN_len f hf; have h2 := N2.out; omega)
  have D1 : Hid (sText X1 0 64 = (X2, 0, bytesOfS f)) := hid (by rw [← hX1]; exact sText_put f _ 64 hf (by omega))
  clear hX1
  obtain ⟨X0, hX0⟩ : ∃ x, bytesN un 8 ++ X1 = x := ⟨_, rfl⟩
  rw [hX0] at hI
  have B0 : Hid (∀ x ∈ X0, x < 256) := hid (by rw [← hX0]; exact in_app (bytesN_byte 8 un) B1.out)
  have N0 : Hid (X0.length ≤ 1000000000000000 + 112) := hid (by rw [← hX0, List.length_append]; have h1 := bytesN_len 8 un; have h2 := N1.out; omega)
  have D0 : Hid (sFixed X0 0 = (X1, 0, un)) := hid (by rw [← hX0]; exact sFixed_put un _ b2)
  clear hX0
  have W2 : IntKind.i64.wrap (mn : Int) = mn := by rw [IntKind.wrap_i64]; omega
  have W3 : IntKind.i64.wrap (tn : Int) = tn := by rw [IntKind.wrap_i64]; omega
  have A0 := hid ((TakeAt.start hI hP hg ⟨k, 0, ⟨#[]⟩, 0, ⟨#[]⟩, 0, 0, 0⟩).on ((Below.refl _ _).alloc (Nat.le_refl _) (.cells (cellsOf ⟨0, 0, ⟨#[]⟩, 0, ⟨#[]⟩, 0, 0, 0⟩) 26)))
  have R0 : Hid (TakeAt w ((w.alloc (.cells (cellsOf ⟨k, 0, ⟨#[]⟩, 0, ⟨#[]⟩, 0, 0, 0⟩) 26)).alloc (.cells (cellsOf ⟨0, 0, ⟨#[]⟩, 0, ⟨#[]⟩, 0, 0, 0⟩) 26)) g (w.heap.size + 1) ⟨0, 0, ⟨#[]⟩, 0, ⟨#[]⟩, 0, 0, 0⟩ X0) := hid ⟨A0.out.1, by have h := Blk.new (w.alloc (.cells (cellsOf ⟨k, 0, ⟨#[]⟩, 0, ⟨#[]⟩, 0, 0, 0⟩) 26)) 26 (cellsOf ⟨0, 0, ⟨#[]⟩, 0, ⟨#[]⟩, 0, 0, 0⟩); simpa using h, by omega, A0.out.2.2.2.1, A0.out.2.2.2.2⟩
  clear s0 s1 s2 s3 s4 s5 hP hg hI h8
  go_enter Tryd.func37, Tryd.ntmps37
  go_wp2_with fail
  with_reducible refine (has_0 ⟨k, 0, ⟨#[]⟩, 0, ⟨#[]⟩, 0, 0, 0⟩ true _ S0.out A0.out.parts).mono ?_
  rintro e w1 ⟨rfl, hb⟩
  have A1 := hid (A0.out.on hb)
  have R1 := hid (R0.out.on hb)
  clear hb A0 R0
  obtain ⟨⟨c0, c1, c2, c3, c4, c5, c6, c7⟩, f0, f1, f2, f3, f4, f5, f6, f7⟩ := cells8 A1.out.2.1
  go_wp2_with fail
  with_reducible refine (infixed_any g X0 0 X1 0 un _ A1.out.iat (fine0 _) B0.out D0.out).mono ?_
  rintro en w2 ⟨rfl, hin, hgr⟩
  have A2t := hid (A1.out.turn hin hgr)
  have R2t := hid (R1.out.turn hin hgr)
  clear hin hgr A1 R1
  clear c0 c1 c2 c3 c4 c5 c6 c7 f0 f1 f2 f3 f4 f5 f6 f7
  obtain ⟨⟨c0, c1, c2, c3, c4, c5, c6, c7⟩, f0, f1, f2, f3, f4, f5, f6, f7⟩ := cells8 A2t.out.2.1
  have A2 := hid (A2t.out.set_ 1 (.int .u64 (un : Int)) ⟨k, (un : Int), ⟨#[]⟩, 0, ⟨#[]⟩, 0, 0, 0⟩ rfl)
  have R2 := hid (R2t.out.far (p := ⟨w.heap.size, 1, none⟩) (by simp) (Nat.le_refl _) (.int .u64 (un : Int)))
  clear A2t R2t
  go_wp2_with fail
  with_reducible refine (intext_any g X1 0 64 64 X2 0 (bytesOfS f) _ A2.out.iat (fine0 _) B1.out (by have := N1.out; omega) rfl (by decide) D1.out).mono ?_
  rw [strN_bytesOfS]
  rintro en w3 ⟨rfl, hin, hgr⟩
  have A3t := hid (A2.out.turn hin hgr)
  have R3t := hid (R2.out.turn hin hgr)
  clear hin hgr A2 R2
  clear c0 c1 c2 c3 c4 c5 c6 c7 f0 f1 f2 f3 f4 f5 f6 f7
  obtain ⟨⟨c0, c1, c2, c3, c4, c5, c6, c7⟩, f0, f1, f2, f3, f4, f5, f6, f7⟩ := cells8 A3t.out.2.1
  have A3 := hid (A3t.out.set_ 2 (.string f) ⟨k, (un : Int), f, 0, ⟨#[]⟩, 0, 0, 0⟩ rfl)
  have R3 := hid (R3t.out.far (p := ⟨w.heap.size, 2, none⟩) (by simp) (Nat.le_refl _) (.string f))
  clear A3t R3t
  go_wp2_with fail
  with_reducible refine (has_1 ⟨k, (un : Int), f, 0, ⟨#[]⟩, 0, 0, 0⟩ true _ S1.out A3.out.parts).mono ?_
  rintro e w4 ⟨rfl, hb⟩
  have A4 := hid (A3.out.on hb)
  have R4 := hid (R3.out.on hb)
  clear hb A3 R3
  clear c0 c1 c2 c3 c4 c5 c6 c7 f0 f1 f2 f3 f4 f5 f6 f7
  obtain ⟨⟨c0, c1, c2, c3, c4, c5, c6, c7⟩, f0, f1, f2, f3, f4, f5, f6, f7⟩ := cells8 A4.out.2.1
  go_wp2_with fail
  with_reducible refine (takeany_any g X2 X3 qn _ A4.out.iat B2.out (by have := N2.out; omega) D2.out).mono ?_
  rintro en w5 ⟨rfl, hin, hgr⟩
  have A5t := hid (A4.out.turn hin hgr)
  have R5t := hid (R4.out.turn hin hgr)
  clear hin hgr A4 R4
  clear c0 c1 c2 c3 c4 c5 c6 c7 f0 f1 f2 f3 f4 f5 f6 f7
  obtain ⟨⟨c0, c1, c2, c3, c4, c5, c6, c7⟩, f0, f1, f2, f3, f4, f5, f6, f7⟩ := cells8 A5t.out.2.1
  have A5 := hid (A5t.out.set_ 3 (.int .u64 (qn : Int)) ⟨k, (un : Int), f, (qn : Int), ⟨#[]⟩, 0, 0, 0⟩ rfl)
  have R5 := hid (R5t.out.far (p := ⟨w.heap.size, 3, none⟩) (by simp) (Nat.le_refl _) (.int .u64 (qn : Int)))
  clear A5t R5t
  go_wp2_with fail
  with_reducible refine (has_2 ⟨k, (un : Int), f, (qn : Int), ⟨#[]⟩, 0, 0, 0⟩ false _ S2.out A5.out.parts).mono ?_
  rintro e w6 ⟨rfl, hb⟩
  have A6 := hid (A5.out.on hb)
  have R6 := hid (R5.out.on hb)
  clear hb A5 R5
  clear c0 c1 c2 c3 c4 c5 c6 c7 f0 f1 f2 f3 f4 f5 f6 f7
  obtain ⟨⟨c0, c1, c2, c3, c4, c5, c6, c7⟩, f0, f1, f2, f3, f4, f5, f6, f7⟩ := cells8 A6.out.2.1
  go_wp2_with fail
  with_reducible refine (has_3 ⟨k, (un : Int), f, (qn : Int), ⟨#[]⟩, 0, 0, 0⟩ false _ S3.out A6.out.parts).mono ?_
  rintro e w7 ⟨rfl, hb⟩
  have A7 := hid (A6.out.on hb)
  have R7 := hid (R6.out.on hb)
  clear hb A6 R6
  clear c0 c1 c2 c3 c4 c5 c6 c7 f0 f1 f2 f3 f4 f5 f6 f7
  obtain ⟨⟨c0, c1, c2, c3, c4, c5, c6, c7⟩, f0, f1, f2, f3, f4, f5, f6, f7⟩ := cells8 A7.out.2.1
  go_wp2_with fail
  with_reducible refine (has_4 ⟨k, (un : Int), f, (qn : Int), ⟨#[]⟩, 0, 0, 0⟩ true _ S4.out A7.out.parts).mono ?_
  rintro e w8 ⟨rfl, hb⟩
  have A8 := hid (A7.out.on hb)
  have R8 := hid (R7.out.on hb)
  clear hb A7 R7
  clear c0 c1 c2 c3 c4 c5 c6 c7 f0 f1 f2 f3 f4 f5 f6 f7
  obtain ⟨⟨c0, c1, c2, c3, c4, c5, c6, c7⟩, f0, f1, f2, f3, f4, f5, f6, f7⟩ := cells8 A8.out.2.1
  go_wp2_with fail
  with_reducible refine (takeany_any g X3 X4 nn _ A8.out.iat B3.out (by have := N3.out; omega) D3.out).mono ?_
  rintro en w9 ⟨rfl, hin, hgr⟩
  have A9t := hid (A8.out.turn hin hgr)
  have R9t := hid (R8.out.turn hin hgr)
  clear hin hgr A8 R8
  clear c0 c1 c2 c3 c4 c5 c6 c7 f0 f1 f2 f3 f4 f5 f6 f7
  obtain ⟨⟨c0, c1, c2, c3, c4, c5, c6, c7⟩, f0, f1, f2, f3, f4, f5, f6, f7⟩ := cells8 A9t.out.2.1
  have A9 := hid (A9t.out.set_ 6 (.int .u64 (nn : Int)) ⟨k, (un : Int), f, (qn : Int), ⟨#[]⟩, 0, (nn : Int), 0⟩ rfl)
  have R9 := hid (R9t.out.far (p := ⟨w.heap.size, 6, none⟩) (by simp) (Nat.le_refl _) (.int .u64 (nn : Int)))
  clear A9t R9t
  go_wp2_with fail
  with_reducible refine (has_5 ⟨k, (un : Int), f, (qn : Int), ⟨#[]⟩, 0, (nn : Int), 0⟩ true _ S5.out A9.out.parts).mono ?_
  rintro e w10 ⟨rfl, hb⟩
  have A10 := hid (A9.out.on hb)
  have R10 := hid (R9.out.on hb)
  clear hb A9 R9
  clear c0 c1 c2 c3 c4 c5 c6 c7 f0 f1 f2 f3 f4 f5 f6 f7
  obtain ⟨⟨c0, c1, c2, c3, c4, c5, c6, c7⟩, f0, f1, f2, f3, f4, f5, f6, f7⟩ := cells8 A10.out.2.1
  go_wp2_with fail
  with_reducible refine (inshort_any g X4 0 1099511627776 1099511627776 more 0 tn _ A10.out.iat (fine0 _) B4.out (by have := N4.out; omega) rfl D4.out).mono ?_
  rintro en w11 ⟨rfl, hin, hgr⟩
  have A11t := hid (A10.out.turn hin hgr)
  have R11t := hid (R10.out.turn hin hgr)
  clear hin hgr A10 R10
  clear c0 c1 c2 c3 c4 c5 c6 c7 f0 f1 f2 f3 f4 f5 f6 f7
  obtain ⟨⟨c0, c1, c2, c3, c4, c5, c6, c7⟩, f0, f1, f2, f3, f4, f5, f6, f7⟩ := cells8 A11t.out.2.1
  have A11 := hid (A11t.out.set_ 7 (.int .i64 (tn : Int)) ⟨k, (un : Int), f, (qn : Int), ⟨#[]⟩, 0, (nn : Int), (tn : Int)⟩ rfl)
  have R11 := hid (R11t.out.far (p := ⟨w.heap.size, 7, none⟩) (by simp) (Nat.le_refl _) (.int .i64 (tn : Int)))
  clear A11t R11t
  obtain ⟨⟨d0, d1, d2, d3, d4, d5, d6, d7⟩, g0, g1, g2, g3, g4, g5, g6, g7⟩ := cells8 R11.out.2.1
  have E := hid (R11.out.put ⟨k, (un : Int), f, (qn : Int), ⟨#[]⟩, 0, (nn : Int), (tn : Int)⟩)
  clear R11 A11
  go_wp2
  refine bodyPost_ret (v := val ⟨k, (un : Int), f, (qn : Int), ⟨#[]⟩, 0, (nn : Int), (tn : Int)⟩) (by simp [results, Tryd.results37, go_sem, d0, d1, d2, d3, d4, d5, d6, d7]) rfl ⟨rfl, E.out.iat, E.out.grown⟩

set_option maxRecDepth 100000 in
set_option maxHeartbeats 2000000 in
theorem taken_2 (g : Nat) (k : Int) (un : Nat) (f : ByteArray) (qn : Nat) (s : ByteArray) (mn nn tn : Nat) (more : List Nat) (w : World) (hP : PartsIs w) (hg : 1 < g) (hI : InAt w g (bytesN un 8 ++ (textN f ++ (shortN qn ++ (more)))) 0) (hs : Sig k true true false false false false)
    (b2 : un < 18446744073709551616) (b3 : qn < 18446744073709551616) (b4 : mn ≤ 2) (b5 : nn < 18446744073709551616) (b6 : tn ≤ 1099511627776) (hf : f.size ≤ 64) (hp : s.size ≤ 64) (h8 : ∀ x ∈ more, x < 256) (hl : more.length ≤ 1000000000000000) :
    Calls Tryd.prog 37 #[val ⟨k, 0, ⟨#[]⟩, 0, ⟨#[]⟩, 0, 0, 0⟩, .pointer (some ⟨g, 0, none⟩)] w fun e w' => e = .returned (val ⟨k, (un : Int), f, (qn : Int), ⟨#[]⟩, 0, 0, 0⟩) ∧ InAt w' g more 0 ∧ w.grownBy w' (some g) := by
  obtain ⟨s0, s1, s2, s3, s4, s5⟩ := hs
  have S0 := hid s0
  have S1 := hid s1
  have S2 := hid s2
  have S3 := hid s3
  have S4 := hid s4
  have S5 := hid s5
  have B3 := hid h8
  have N3 : Hid (more.length ≤ 1000000000000000) := hid hl
  obtain ⟨X2, hX2⟩ : ∃ x, shortN qn ++ more = x := ⟨_, rfl⟩
  rw [hX2] at hI
  have B2 : Hid (∀ x ∈ X2, x < 256) := hid (by rw [← hX2]; exact in_app (shortN_byte qn) B3.out)
  have N2 : Hid (X2.length ≤ 1000000000000000 + 10) := hid (by rw [← hX2, List.length_append]; have h1 := shortN_len10 b3; have h2 := N3.out; omega)
  have D2 : Hid (sShort X2 0 18446744073709551615 = (more, 0, qn)) := hid (by rw [← hX2]; exact sShort_put qn _ _ (by omega) (by omega))
  clear hX2
  obtain ⟨X1, hX1⟩ : ∃ x, textN f ++ X2 = x := ⟨_, rfl⟩
  rw [hX1] at hI
  have B1 : Hid (∀ x ∈ X1, x < 256) := hid (by rw [← hX1]; exact in_app (textN_byte f) B2.out)
  have N1 : Hid (X1.length ≤ 1000000000000000 + 84) := hid (by rw [← hX1, List.length_append]; have h1 := textN_len f hf; have h2 := N2.out; omega)
  have D1 : Hid (sText X1 0 64 = (X2, 0, bytesOfS f)) := hid (by rw [← hX1]; exact sText_put f _ 64 hf (by omega))
  clear hX1
  obtain ⟨X0, hX0⟩ : ∃ x, bytesN un 8 ++ X1 = x := ⟨_, rfl⟩
  rw [hX0] at hI
  have B0 : Hid (∀ x ∈ X0, x < 256) := hid (by rw [← hX0]; exact in_app (bytesN_byte 8 un) B1.out)
  have N0 : Hid (X0.length ≤ 1000000000000000 + 92) := hid (by rw [← hX0, List.length_append]; have h1 := bytesN_len 8 un; have h2 := N1.out; omega)
  have D0 : Hid (sFixed X0 0 = (X1, 0, un)) := hid (by rw [← hX0]; exact sFixed_put un _ b2)
  clear hX0
  have W2 : IntKind.i64.wrap (mn : Int) = mn := by rw [IntKind.wrap_i64]; omega
  have W3 : IntKind.i64.wrap (tn : Int) = tn := by rw [IntKind.wrap_i64]; omega
  have A0 := hid ((TakeAt.start hI hP hg ⟨k, 0, ⟨#[]⟩, 0, ⟨#[]⟩, 0, 0, 0⟩).on ((Below.refl _ _).alloc (Nat.le_refl _) (.cells (cellsOf ⟨0, 0, ⟨#[]⟩, 0, ⟨#[]⟩, 0, 0, 0⟩) 26)))
  have R0 : Hid (TakeAt w ((w.alloc (.cells (cellsOf ⟨k, 0, ⟨#[]⟩, 0, ⟨#[]⟩, 0, 0, 0⟩) 26)).alloc (.cells (cellsOf ⟨0, 0, ⟨#[]⟩, 0, ⟨#[]⟩, 0, 0, 0⟩) 26)) g (w.heap.size + 1) ⟨0, 0, ⟨#[]⟩, 0, ⟨#[]⟩, 0, 0, 0⟩ X0) := hid ⟨A0.out.1, by have h := Blk.new (w.alloc (.cells (cellsOf ⟨k, 0, ⟨#[]⟩, 0, ⟨#[]⟩, 0, 0, 0⟩) 26)) 26 (cellsOf ⟨0, 0, ⟨#[]⟩, 0, ⟨#[]⟩, 0, 0, 0⟩); simpa using h, by omega, A0.out.2.2.2.1, A0.out.2.2.2.2⟩
  clear s0 s1 s2 s3 s4 s5 hP hg hI h8
  go_enter Tryd.func37, Tryd.ntmps37
  go_wp2_with fail
  with_reducible refine (has_0 ⟨k, 0, ⟨#[]⟩, 0, ⟨#[]⟩, 0, 0, 0⟩ true _ S0.out A0.out.parts).mono ?_
  rintro e w1 ⟨rfl, hb⟩
  have A1 := hid (A0.out.on hb)
  have R1 := hid (R0.out.on hb)
  clear hb A0 R0
  obtain ⟨⟨c0, c1, c2, c3, c4, c5, c6, c7⟩, f0, f1, f2, f3, f4, f5, f6, f7⟩ := cells8 A1.out.2.1
  go_wp2_with fail
  with_reducible refine (infixed_any g X0 0 X1 0 un _ A1.out.iat (fine0 _) B0.out D0.out).mono ?_
  rintro en w2 ⟨rfl, hin, hgr⟩
  have A2t := hid (A1.out.turn hin hgr)
  have R2t := hid (R1.out.turn hin hgr)
  clear hin hgr A1 R1
  clear c0 c1 c2 c3 c4 c5 c6 c7 f0 f1 f2 f3 f4 f5 f6 f7
  obtain ⟨⟨c0, c1, c2, c3, c4, c5, c6, c7⟩, f0, f1, f2, f3, f4, f5, f6, f7⟩ := cells8 A2t.out.2.1
  have A2 := hid (A2t.out.set_ 1 (.int .u64 (un : Int)) ⟨k, (un : Int), ⟨#[]⟩, 0, ⟨#[]⟩, 0, 0, 0⟩ rfl)
  have R2 := hid (R2t.out.far (p := ⟨w.heap.size, 1, none⟩) (by simp) (Nat.le_refl _) (.int .u64 (un : Int)))
  clear A2t R2t
  go_wp2_with fail
  with_reducible refine (intext_any g X1 0 64 64 X2 0 (bytesOfS f) _ A2.out.iat (fine0 _) B1.out (by have := N1.out; omega) rfl (by decide) D1.out).mono ?_
  rw [strN_bytesOfS]
  rintro en w3 ⟨rfl, hin, hgr⟩
  have A3t := hid (A2.out.turn hin hgr)
  have R3t := hid (R2.out.turn hin hgr)
  clear hin hgr A2 R2
  clear c0 c1 c2 c3 c4 c5 c6 c7 f0 f1 f2 f3 f4 f5 f6 f7
  obtain ⟨⟨c0, c1, c2, c3, c4, c5, c6, c7⟩, f0, f1, f2, f3, f4, f5, f6, f7⟩ := cells8 A3t.out.2.1
  have A3 := hid (A3t.out.set_ 2 (.string f) ⟨k, (un : Int), f, 0, ⟨#[]⟩, 0, 0, 0⟩ rfl)
  have R3 := hid (R3t.out.far (p := ⟨w.heap.size, 2, none⟩) (by simp) (Nat.le_refl _) (.string f))
  clear A3t R3t
  go_wp2_with fail
  with_reducible refine (has_1 ⟨k, (un : Int), f, 0, ⟨#[]⟩, 0, 0, 0⟩ true _ S1.out A3.out.parts).mono ?_
  rintro e w4 ⟨rfl, hb⟩
  have A4 := hid (A3.out.on hb)
  have R4 := hid (R3.out.on hb)
  clear hb A3 R3
  clear c0 c1 c2 c3 c4 c5 c6 c7 f0 f1 f2 f3 f4 f5 f6 f7
  obtain ⟨⟨c0, c1, c2, c3, c4, c5, c6, c7⟩, f0, f1, f2, f3, f4, f5, f6, f7⟩ := cells8 A4.out.2.1
  go_wp2_with fail
  with_reducible refine (takeany_any g X2 more qn _ A4.out.iat B2.out (by have := N2.out; omega) D2.out).mono ?_
  rintro en w5 ⟨rfl, hin, hgr⟩
  have A5t := hid (A4.out.turn hin hgr)
  have R5t := hid (R4.out.turn hin hgr)
  clear hin hgr A4 R4
  clear c0 c1 c2 c3 c4 c5 c6 c7 f0 f1 f2 f3 f4 f5 f6 f7
  obtain ⟨⟨c0, c1, c2, c3, c4, c5, c6, c7⟩, f0, f1, f2, f3, f4, f5, f6, f7⟩ := cells8 A5t.out.2.1
  have A5 := hid (A5t.out.set_ 3 (.int .u64 (qn : Int)) ⟨k, (un : Int), f, (qn : Int), ⟨#[]⟩, 0, 0, 0⟩ rfl)
  have R5 := hid (R5t.out.far (p := ⟨w.heap.size, 3, none⟩) (by simp) (Nat.le_refl _) (.int .u64 (qn : Int)))
  clear A5t R5t
  go_wp2_with fail
  with_reducible refine (has_2 ⟨k, (un : Int), f, (qn : Int), ⟨#[]⟩, 0, 0, 0⟩ false _ S2.out A5.out.parts).mono ?_
  rintro e w6 ⟨rfl, hb⟩
  have A6 := hid (A5.out.on hb)
  have R6 := hid (R5.out.on hb)
  clear hb A5 R5
  clear c0 c1 c2 c3 c4 c5 c6 c7 f0 f1 f2 f3 f4 f5 f6 f7
  obtain ⟨⟨c0, c1, c2, c3, c4, c5, c6, c7⟩, f0, f1, f2, f3, f4, f5, f6, f7⟩ := cells8 A6.out.2.1
  go_wp2_with fail
  with_reducible refine (has_3 ⟨k, (un : Int), f, (qn : Int), ⟨#[]⟩, 0, 0, 0⟩ false _ S3.out A6.out.parts).mono ?_
  rintro e w7 ⟨rfl, hb⟩
  have A7 := hid (A6.out.on hb)
  have R7 := hid (R6.out.on hb)
  clear hb A6 R6
  clear c0 c1 c2 c3 c4 c5 c6 c7 f0 f1 f2 f3 f4 f5 f6 f7
  obtain ⟨⟨c0, c1, c2, c3, c4, c5, c6, c7⟩, f0, f1, f2, f3, f4, f5, f6, f7⟩ := cells8 A7.out.2.1
  go_wp2_with fail
  with_reducible refine (has_4 ⟨k, (un : Int), f, (qn : Int), ⟨#[]⟩, 0, 0, 0⟩ false _ S4.out A7.out.parts).mono ?_
  rintro e w8 ⟨rfl, hb⟩
  have A8 := hid (A7.out.on hb)
  have R8 := hid (R7.out.on hb)
  clear hb A7 R7
  clear c0 c1 c2 c3 c4 c5 c6 c7 f0 f1 f2 f3 f4 f5 f6 f7
  obtain ⟨⟨c0, c1, c2, c3, c4, c5, c6, c7⟩, f0, f1, f2, f3, f4, f5, f6, f7⟩ := cells8 A8.out.2.1
  go_wp2_with fail
  with_reducible refine (has_5 ⟨k, (un : Int), f, (qn : Int), ⟨#[]⟩, 0, 0, 0⟩ false _ S5.out A8.out.parts).mono ?_
  rintro e w9 ⟨rfl, hb⟩
  have A9 := hid (A8.out.on hb)
  have R9 := hid (R8.out.on hb)
  clear hb A8 R8
  clear c0 c1 c2 c3 c4 c5 c6 c7 f0 f1 f2 f3 f4 f5 f6 f7
  obtain ⟨⟨c0, c1, c2, c3, c4, c5, c6, c7⟩, f0, f1, f2, f3, f4, f5, f6, f7⟩ := cells8 A9.out.2.1
  obtain ⟨⟨d0, d1, d2, d3, d4, d5, d6, d7⟩, g0, g1, g2, g3, g4, g5, g6, g7⟩ := cells8 R9.out.2.1
  have E := hid (R9.out.put ⟨k, (un : Int), f, (qn : Int), ⟨#[]⟩, 0, 0, 0⟩)
  clear R9 A9
  go_wp2
  refine bodyPost_ret (v := val ⟨k, (un : Int), f, (qn : Int), ⟨#[]⟩, 0, 0, 0⟩) (by simp [results, Tryd.results37, go_sem, d0, d1, d2, d3, d4, d5, d6, d7]) rfl ⟨rfl, E.out.iat, E.out.grown⟩

set_option maxRecDepth 100000 in
set_option maxHeartbeats 2000000 in
theorem taken_3 (g : Nat) (k : Int) (un : Nat) (f : ByteArray) (qn : Nat) (s : ByteArray) (mn nn tn : Nat) (more : List Nat) (w : World) (hP : PartsIs w) (hg : 1 < g) (hI : InAt w g (bytesN un 8 ++ (textN f ++ (shortN qn ++ (shortN tn ++ (more))))) 0) (hs : Sig k true true false false false true)
    (b2 : un < 18446744073709551616) (b3 : qn < 18446744073709551616) (b4 : mn ≤ 2) (b5 : nn < 18446744073709551616) (b6 : tn ≤ 1099511627776) (hf : f.size ≤ 64) (hp : s.size ≤ 64) (h8 : ∀ x ∈ more, x < 256) (hl : more.length ≤ 1000000000000000) :
    Calls Tryd.prog 37 #[val ⟨k, 0, ⟨#[]⟩, 0, ⟨#[]⟩, 0, 0, 0⟩, .pointer (some ⟨g, 0, none⟩)] w fun e w' => e = .returned (val ⟨k, (un : Int), f, (qn : Int), ⟨#[]⟩, 0, 0, (tn : Int)⟩) ∧ InAt w' g more 0 ∧ w.grownBy w' (some g) := by
  obtain ⟨s0, s1, s2, s3, s4, s5⟩ := hs
  have S0 := hid s0
  have S1 := hid s1
  have S2 := hid s2
  have S3 := hid s3
  have S4 := hid s4
  have S5 := hid s5
  have B4 := hid h8
  have N4 : Hid (more.length ≤ 1000000000000000) := hid hl
  obtain ⟨X3, hX3⟩ : ∃ x, shortN tn ++ more = x := ⟨_, rfl⟩
  rw [hX3] at hI
  have B3 : Hid (∀ x ∈ X3, x < 256) := hid (by rw [← hX3]; exact in_app (shortN_byte tn) B4.out)
  have N3 : Hid (X3.length ≤ 1000000000000000 + 10) := hid (by rw [← hX3, List.length_append]; have h1 := shortN_len10 (show tn < 18446744073709551616 by omega); have h2 := N4.out; omega)
  have D3 : Hid (sShort X3 0 1099511627776 = (more, 0, tn)) := hid (by rw [← hX3]; exact sShort_put tn _ _ (by omega) b6)
  clear hX3
  obtain ⟨X2, hX2⟩ : ∃ x, shortN qn ++ X3 = x := ⟨_, rfl⟩
  rw [hX2] at hI
  have B2 : Hid (∀ x ∈ X2, x < 256) := hid (by rw [← hX2]; exact in_app (shortN_byte qn) B3.out)
  have N2 : Hid (X2.length ≤ 1000000000000000 + 20) := hid (by rw [← hX2, List.length_append]; have h1 := shortN_len10 b3; have h2 := N3.out; omega)
  have D2 : Hid (sShort X2 0 18446744073709551615 = (X3, 0, qn)) := hid (by rw [← hX2]; exact sShort_put qn _ _ (by omega) (by omega))
  clear hX2
  obtain ⟨X1, hX1⟩ : ∃ x, textN f ++ X2 = x := ⟨_, rfl⟩
  rw [hX1] at hI
  have B1 : Hid (∀ x ∈ X1, x < 256) := hid (by rw [← hX1]; exact in_app (textN_byte f) B2.out)
  have N1 : Hid (X1.length ≤ 1000000000000000 + 94) := hid (by rw [← hX1, List.length_append]; have h1 := textN_len f hf; have h2 := N2.out; omega)
  have D1 : Hid (sText X1 0 64 = (X2, 0, bytesOfS f)) := hid (by rw [← hX1]; exact sText_put f _ 64 hf (by omega))
  clear hX1
  obtain ⟨X0, hX0⟩ : ∃ x, bytesN un 8 ++ X1 = x := ⟨_, rfl⟩
  rw [hX0] at hI
  have B0 : Hid (∀ x ∈ X0, x < 256) := hid (by rw [← hX0]; exact in_app (bytesN_byte 8 un) B1.out)
  have N0 : Hid (X0.length ≤ 1000000000000000 + 102) := hid (by rw [← hX0, List.length_append]; have h1 := bytesN_len 8 un; have h2 := N1.out; omega)
  have D0 : Hid (sFixed X0 0 = (X1, 0, un)) := hid (by rw [← hX0]; exact sFixed_put un _ b2)
  clear hX0
  have W2 : IntKind.i64.wrap (mn : Int) = mn := by rw [IntKind.wrap_i64]; omega
  have W3 : IntKind.i64.wrap (tn : Int) = tn := by rw [IntKind.wrap_i64]; omega
  have A0 := hid ((TakeAt.start hI hP hg ⟨k, 0, ⟨#[]⟩, 0, ⟨#[]⟩, 0, 0, 0⟩).on ((Below.refl _ _).alloc (Nat.le_refl _) (.cells (cellsOf ⟨0, 0, ⟨#[]⟩, 0, ⟨#[]⟩, 0, 0, 0⟩) 26)))
  have R0 : Hid (TakeAt w ((w.alloc (.cells (cellsOf ⟨k, 0, ⟨#[]⟩, 0, ⟨#[]⟩, 0, 0, 0⟩) 26)).alloc (.cells (cellsOf ⟨0, 0, ⟨#[]⟩, 0, ⟨#[]⟩, 0, 0, 0⟩) 26)) g (w.heap.size + 1) ⟨0, 0, ⟨#[]⟩, 0, ⟨#[]⟩, 0, 0, 0⟩ X0) := hid ⟨A0.out.1, by have h := Blk.new (w.alloc (.cells (cellsOf ⟨k, 0, ⟨#[]⟩, 0, ⟨#[]⟩, 0, 0, 0⟩) 26)) 26 (cellsOf ⟨0, 0, ⟨#[]⟩, 0, ⟨#[]⟩, 0, 0, 0⟩); simpa using h, by omega, A0.out.2.2.2.1, A0.out.2.2.2.2⟩
  clear s0 s1 s2 s3 s4 s5 hP hg hI h8
  go_enter Tryd.func37, Tryd.ntmps37
  go_wp2_with fail
  with_reducible refine (has_0 ⟨k, 0, ⟨#[]⟩, 0, ⟨#[]⟩, 0, 0, 0⟩ true _ S0.out A0.out.parts).mono ?_
  rintro e w1 ⟨rfl, hb⟩
  have A1 := hid (A0.out.on hb)
  have R1 := hid (R0.out.on hb)
  clear hb A0 R0
  obtain ⟨⟨c0, c1, c2, c3, c4, c5, c6, c7⟩, f0, f1, f2, f3, f4, f5, f6, f7⟩ := cells8 A1.out.2.1
  go_wp2_with fail
  with_reducible refine (infixed_any g X0 0 X1 0 un _ A1.out.iat (fine0 _) B0.out D0.out).mono ?_
  rintro en w2 ⟨rfl, hin, hgr⟩
  have A2t := hid (A1.out.turn hin hgr)
  have R2t := hid (R1.out.turn hin hgr)
  clear hin hgr A1 R1
  clear c0 c1 c2 c3 c4 c5 c6 c7 f0 f1 f2 f3 f4 f5 f6 f7
  obtain ⟨⟨c0, c1, c2, c3, c4, c5, c6, c7⟩, f0, f1, f2, f3, f4, f5, f6, f7⟩ := cells8 A2t.out.2.1
  have A2 := hid (A2t.out.set_ 1 (.int .u64 (un : Int)) ⟨k, (un : Int), ⟨#[]⟩, 0, ⟨#[]⟩, 0, 0, 0⟩ rfl)
  have R2 := hid (R2t.out.far (p := ⟨w.heap.size, 1, none⟩) (by simp) (Nat.le_refl _) (.int .u64 (un : Int)))
  clear A2t R2t
  go_wp2_with fail
  with_reducible refine (intext_any g X1 0 64 64 X2 0 (bytesOfS f) _ A2.out.iat (fine0 _) B1.out (by have := N1.out; omega) rfl (by decide) D1.out).mono ?_
  rw [strN_bytesOfS]
  rintro en w3 ⟨rfl, hin, hgr⟩
  have A3t := hid (A2.out.turn hin hgr)
  have R3t := hid (R2.out.turn hin hgr)
  clear hin hgr A2 R2
  clear c0 c1 c2 c3 c4 c5 c6 c7 f0 f1 f2 f3 f4 f5 f6 f7
  obtain ⟨⟨c0, c1, c2, c3, c4, c5, c6, c7⟩, f0, f1, f2, f3, f4, f5, f6, f7⟩ := cells8 A3t.out.2.1
  have A3 := hid (A3t.out.set_ 2 (.string f) ⟨k, (un : Int), f, 0, ⟨#[]⟩, 0, 0, 0⟩ rfl)
  have R3 := hid (R3t.out.far (p := ⟨w.heap.size, 2, none⟩) (by simp) (Nat.le_refl _) (.string f))
  clear A3t R3t
  go_wp2_with fail
  with_reducible refine (has_1 ⟨k, (un : Int), f, 0, ⟨#[]⟩, 0, 0, 0⟩ true _ S1.out A3.out.parts).mono ?_
  rintro e w4 ⟨rfl, hb⟩
  have A4 := hid (A3.out.on hb)
  have R4 := hid (R3.out.on hb)
  clear hb A3 R3
  clear c0 c1 c2 c3 c4 c5 c6 c7 f0 f1 f2 f3 f4 f5 f6 f7
  obtain ⟨⟨c0, c1, c2, c3, c4, c5, c6, c7⟩, f0, f1, f2, f3, f4, f5, f6, f7⟩ := cells8 A4.out.2.1
  go_wp2_with fail
  with_reducible refine (takeany_any g X2 X3 qn _ A4.out.iat B2.out (by have := N2.out; omega) D2.out).mono ?_
  rintro en w5 ⟨rfl, hin, hgr⟩
  have A5t := hid (A4.out.turn hin hgr)
  have R5t := hid (R4.out.turn hin hgr)
  clear hin hgr A4 R4
  clear c0 c1 c2 c3 c4 c5 c6 c7 f0 f1 f2 f3 f4 f5 f6 f7
  obtain ⟨⟨c0, c1, c2, c3, c4, c5, c6, c7⟩, f0, f1, f2, f3, f4, f5, f6, f7⟩ := cells8 A5t.out.2.1
  have A5 := hid (A5t.out.set_ 3 (.int .u64 (qn : Int)) ⟨k, (un : Int), f, (qn : Int), ⟨#[]⟩, 0, 0, 0⟩ rfl)
  have R5 := hid (R5t.out.far (p := ⟨w.heap.size, 3, none⟩) (by simp) (Nat.le_refl _) (.int .u64 (qn : Int)))
  clear A5t R5t
  go_wp2_with fail
  with_reducible refine (has_2 ⟨k, (un : Int), f, (qn : Int), ⟨#[]⟩, 0, 0, 0⟩ false _ S2.out A5.out.parts).mono ?_
  rintro e w6 ⟨rfl, hb⟩
  have A6 := hid (A5.out.on hb)
  have R6 := hid (R5.out.on hb)
  clear hb A5 R5
  clear c0 c1 c2 c3 c4 c5 c6 c7 f0 f1 f2 f3 f4 f5 f6 f7
  obtain ⟨⟨c0, c1, c2, c3, c4, c5, c6, c7⟩, f0, f1, f2, f3, f4, f5, f6, f7⟩ := cells8 A6.out.2.1
  go_wp2_with fail
  with_reducible refine (has_3 ⟨k, (un : Int), f, (qn : Int), ⟨#[]⟩, 0, 0, 0⟩ false _ S3.out A6.out.parts).mono ?_
  rintro e w7 ⟨rfl, hb⟩
  have A7 := hid (A6.out.on hb)
  have R7 := hid (R6.out.on hb)
  clear hb A6 R6
  clear c0 c1 c2 c3 c4 c5 c6 c7 f0 f1 f2 f3 f4 f5 f6 f7
  obtain ⟨⟨c0, c1, c2, c3, c4, c5, c6, c7⟩, f0, f1, f2, f3, f4, f5, f6, f7⟩ := cells8 A7.out.2.1
  go_wp2_with fail
  with_reducible refine (has_4 ⟨k, (un : Int), f, (qn : Int), ⟨#[]⟩, 0, 0, 0⟩ false _ S4.out A7.out.parts).mono ?_
  rintro e w8 ⟨rfl, hb⟩
  have A8 := hid (A7.out.on hb)
  have R8 := hid (R7.out.on hb)
  clear hb A7 R7
  clear c0 c1 c2 c3 c4 c5 c6 c7 f0 f1 f2 f3 f4 f5 f6 f7
  obtain ⟨⟨c0, c1, c2, c3, c4, c5, c6, c7⟩, f0, f1, f2, f3, f4, f5, f6, f7⟩ := cells8 A8.out.2.1
  go_wp2_with fail
  with_reducible refine (has_5 ⟨k, (un : Int), f, (qn : Int), ⟨#[]⟩, 0, 0, 0⟩ true _ S5.out A8.out.parts).mono ?_
  rintro e w9 ⟨rfl, hb⟩
  have A9 := hid (A8.out.on hb)
  have R9 := hid (R8.out.on hb)
  clear hb A8 R8
  clear c0 c1 c2 c3 c4 c5 c6 c7 f0 f1 f2 f3 f4 f5 f6 f7
  obtain ⟨⟨c0, c1, c2, c3, c4, c5, c6, c7⟩, f0, f1, f2, f3, f4, f5, f6, f7⟩ := cells8 A9.out.2.1
  go_wp2_with fail
  with_reducible refine (inshort_any g X3 0 1099511627776 1099511627776 more 0 tn _ A9.out.iat (fine0 _) B3.out (by have := N3.out; omega) rfl D3.out).mono ?_
  rintro en w10 ⟨rfl, hin, hgr⟩
  have A10t := hid (A9.out.turn hin hgr)
  have R10t := hid (R9.out.turn hin hgr)
  clear hin hgr A9 R9
  clear c0 c1 c2 c3 c4 c5 c6 c7 f0 f1 f2 f3 f4 f5 f6 f7
  obtain ⟨⟨c0, c1, c2, c3, c4, c5, c6, c7⟩, f0, f1, f2, f3, f4, f5, f6, f7⟩ := cells8 A10t.out.2.1
  have A10 := hid (A10t.out.set_ 7 (.int .i64 (tn : Int)) ⟨k, (un : Int), f, (qn : Int), ⟨#[]⟩, 0, 0, (tn : Int)⟩ rfl)
  have R10 := hid (R10t.out.far (p := ⟨w.heap.size, 7, none⟩) (by simp) (Nat.le_refl _) (.int .i64 (tn : Int)))
  clear A10t R10t
  obtain ⟨⟨d0, d1, d2, d3, d4, d5, d6, d7⟩, g0, g1, g2, g3, g4, g5, g6, g7⟩ := cells8 R10.out.2.1
  have E := hid (R10.out.put ⟨k, (un : Int), f, (qn : Int), ⟨#[]⟩, 0, 0, (tn : Int)⟩)
  clear R10 A10
  go_wp2
  refine bodyPost_ret (v := val ⟨k, (un : Int), f, (qn : Int), ⟨#[]⟩, 0, 0, (tn : Int)⟩) (by simp [results, Tryd.results37, go_sem, d0, d1, d2, d3, d4, d5, d6, d7]) rfl ⟨rfl, E.out.iat, E.out.grown⟩

set_option maxRecDepth 100000 in
set_option maxHeartbeats 2000000 in
theorem taken_4 (g : Nat) (k : Int) (un : Nat) (f : ByteArray) (qn : Nat) (s : ByteArray) (mn nn tn : Nat) (more : List Nat) (w : World) (hP : PartsIs w) (hg : 1 < g) (hI : InAt w g (bytesN un 8 ++ (textN f ++ (shortN qn ++ (textN s ++ ([mn] ++ (more)))))) 0) (hs : Sig k true true true true false false)
    (b2 : un < 18446744073709551616) (b3 : qn < 18446744073709551616) (b4 : mn ≤ 2) (b5 : nn < 18446744073709551616) (b6 : tn ≤ 1099511627776) (hf : f.size ≤ 64) (hp : s.size ≤ 64) (h8 : ∀ x ∈ more, x < 256) (hl : more.length ≤ 1000000000000000) :
    Calls Tryd.prog 37 #[val ⟨k, 0, ⟨#[]⟩, 0, ⟨#[]⟩, 0, 0, 0⟩, .pointer (some ⟨g, 0, none⟩)] w fun e w' => e = .returned (val ⟨k, (un : Int), f, (qn : Int), s, (mn : Int), 0, 0⟩) ∧ InAt w' g more 0 ∧ w.grownBy w' (some g) := by
  obtain ⟨s0, s1, s2, s3, s4, s5⟩ := hs
  have S0 := hid s0
  have S1 := hid s1
  have S2 := hid s2
  have S3 := hid s3
  have S4 := hid s4
  have S5 := hid s5
  have B5 := hid h8
  have N5 : Hid (more.length ≤ 1000000000000000) := hid hl
  obtain ⟨X4, hX4⟩ : ∃ x, [mn] ++ more = x := ⟨_, rfl⟩
  rw [hX4] at hI
  have B4 : Hid (∀ x ∈ X4, x < 256) := hid (by rw [← hX4]; exact in_app ((fun x hx => by rw [List.mem_singleton.1 hx]; omega)) B5.out)
  have N4 : Hid (X4.length ≤ 1000000000000000 + 1) := hid (by rw [← hX4, List.length_append]; have h1 : [mn].length = 1 := rfl; have h2 := N5.out; omega)
  have D4 : Hid (sByte X4 0 = (more, 0, mn)) := hid (by rw [← hX4]; exact sByte_put mn _)
  clear hX4
  obtain ⟨X3, hX3⟩ : ∃ x, textN s ++ X4 = x := ⟨_, rfl⟩
  rw [hX3] at hI
  have B3 : Hid (∀ x ∈ X3, x < 256) := hid (by rw [← hX3]; exact in_app (textN_byte s) B4.out)
  have N3 : Hid (X3.length ≤ 1000000000000000 + 75) := hid (by rw [← hX3, List.length_append]; have h1 := textN_len s hp; have h2 := N4.out; omega)
  have D3 : Hid (sText X3 0 64 = (X4, 0, bytesOfS s)) := hid (by rw [← hX3]; exact sText_put s _ 64 hp (by omega))
  clear hX3
  obtain ⟨X2, hX2⟩ : ∃ x, shortN qn ++ X3 = x := ⟨_, rfl⟩
  rw [hX2] at hI
  have B2 : Hid (∀ x ∈ X2, x < 256) := hid (by rw [← hX2]; exact in_app (shortN_byte qn) B3.out)
  have N2 : Hid (X2.length ≤ 1000000000000000 + 85) := hid (by rw [← hX2, List.length_append]; have h1 := shortN_len10 b3; have h2 := N3.out; omega)
  have D2 : Hid (sShort X2 0 18446744073709551615 = (X3, 0, qn)) := hid (by rw [← hX2]; exact sShort_put qn _ _ (by omega) (by omega))
  clear hX2
  obtain ⟨X1, hX1⟩ : ∃ x, textN f ++ X2 = x := ⟨_, rfl⟩
  rw [hX1] at hI
  have B1 : Hid (∀ x ∈ X1, x < 256) := hid (by rw [← hX1]; exact in_app (textN_byte f) B2.out)
  have N1 : Hid (X1.length ≤ 1000000000000000 + 159) := hid (by rw [← hX1, List.length_append]; have h1 := textN_len f hf; have h2 := N2.out; omega)
  have D1 : Hid (sText X1 0 64 = (X2, 0, bytesOfS f)) := hid (by rw [← hX1]; exact sText_put f _ 64 hf (by omega))
  clear hX1
  obtain ⟨X0, hX0⟩ : ∃ x, bytesN un 8 ++ X1 = x := ⟨_, rfl⟩
  rw [hX0] at hI
  have B0 : Hid (∀ x ∈ X0, x < 256) := hid (by rw [← hX0]; exact in_app (bytesN_byte 8 un) B1.out)
  have N0 : Hid (X0.length ≤ 1000000000000000 + 167) := hid (by rw [← hX0, List.length_append]; have h1 := bytesN_len 8 un; have h2 := N1.out; omega)
  have D0 : Hid (sFixed X0 0 = (X1, 0, un)) := hid (by rw [← hX0]; exact sFixed_put un _ b2)
  clear hX0
  have W2 : IntKind.i64.wrap (mn : Int) = mn := by rw [IntKind.wrap_i64]; omega
  have W3 : IntKind.i64.wrap (tn : Int) = tn := by rw [IntKind.wrap_i64]; omega
  have A0 := hid ((TakeAt.start hI hP hg ⟨k, 0, ⟨#[]⟩, 0, ⟨#[]⟩, 0, 0, 0⟩).on ((Below.refl _ _).alloc (Nat.le_refl _) (.cells (cellsOf ⟨0, 0, ⟨#[]⟩, 0, ⟨#[]⟩, 0, 0, 0⟩) 26)))
  have R0 : Hid (TakeAt w ((w.alloc (.cells (cellsOf ⟨k, 0, ⟨#[]⟩, 0, ⟨#[]⟩, 0, 0, 0⟩) 26)).alloc (.cells (cellsOf ⟨0, 0, ⟨#[]⟩, 0, ⟨#[]⟩, 0, 0, 0⟩) 26)) g (w.heap.size + 1) ⟨0, 0, ⟨#[]⟩, 0, ⟨#[]⟩, 0, 0, 0⟩ X0) := hid ⟨A0.out.1, by have h := Blk.new (w.alloc (.cells (cellsOf ⟨k, 0, ⟨#[]⟩, 0, ⟨#[]⟩, 0, 0, 0⟩) 26)) 26 (cellsOf ⟨0, 0, ⟨#[]⟩, 0, ⟨#[]⟩, 0, 0, 0⟩); simpa using h, by omega, A0.out.2.2.2.1, A0.out.2.2.2.2⟩
  clear s0 s1 s2 s3 s4 s5 hP hg hI h8
  go_enter Tryd.func37, Tryd.ntmps37
  go_wp2_with fail
  with_reducible refine (has_0 ⟨k, 0, ⟨#[]⟩, 0, ⟨#[]⟩, 0, 0, 0⟩ true _ S0.out A0.out.parts).mono ?_
  rintro e w1 ⟨rfl, hb⟩
  have A1 := hid (A0.out.on hb)
  have R1 := hid (R0.out.on hb)
  clear hb A0 R0
  obtain ⟨⟨c0, c1, c2, c3, c4, c5, c6, c7⟩, f0, f1, f2, f3, f4, f5, f6, f7⟩ := cells8 A1.out.2.1
  go_wp2_with fail
  with_reducible refine (infixed_any g X0 0 X1 0 un _ A1.out.iat (fine0 _) B0.out D0.out).mono ?_
  rintro en w2 ⟨rfl, hin, hgr⟩
  have A2t := hid (A1.out.turn hin hgr)
  have R2t := hid (R1.out.turn hin hgr)
  clear hin hgr A1 R1
  clear c0 c1 c2 c3 c4 c5 c6 c7 f0 f1 f2 f3 f4 f5 f6 f7
  obtain ⟨⟨c0, c1, c2, c3, c4, c5, c6, c7⟩, f0, f1, f2, f3, f4, f5, f6, f7⟩ := cells8 A2t.out.2.1
  have A2 := hid (A2t.out.set_ 1 (.int .u64 (un : Int)) ⟨k, (un : Int), ⟨#[]⟩, 0, ⟨#[]⟩, 0, 0, 0⟩ rfl)
  have R2 := hid (R2t.out.far (p := ⟨w.heap.size, 1, none⟩) (by simp) (Nat.le_refl _) (.int .u64 (un : Int)))
  clear A2t R2t
  go_wp2_with fail
  with_reducible refine (intext_any g X1 0 64 64 X2 0 (bytesOfS f) _ A2.out.iat (fine0 _) B1.out (by have := N1.out; omega) rfl (by decide) D1.out).mono ?_
  rw [strN_bytesOfS]
  rintro en w3 ⟨rfl, hin, hgr⟩
  have A3t := hid (A2.out.turn hin hgr)
  have R3t := hid (R2.out.turn hin hgr)
  clear hin hgr A2 R2
  clear c0 c1 c2 c3 c4 c5 c6 c7 f0 f1 f2 f3 f4 f5 f6 f7
  obtain ⟨⟨c0, c1, c2, c3, c4, c5, c6, c7⟩, f0, f1, f2, f3, f4, f5, f6, f7⟩ := cells8 A3t.out.2.1
  have A3 := hid (A3t.out.set_ 2 (.string f) ⟨k, (un : Int), f, 0, ⟨#[]⟩, 0, 0, 0⟩ rfl)
  have R3 := hid (R3t.out.far (p := ⟨w.heap.size, 2, none⟩) (by simp) (Nat.le_refl _) (.string f))
  clear A3t R3t
  go_wp2_with fail
  with_reducible refine (has_1 ⟨k, (un : Int), f, 0, ⟨#[]⟩, 0, 0, 0⟩ true _ S1.out A3.out.parts).mono ?_
  rintro e w4 ⟨rfl, hb⟩
  have A4 := hid (A3.out.on hb)
  have R4 := hid (R3.out.on hb)
  clear hb A3 R3
  clear c0 c1 c2 c3 c4 c5 c6 c7 f0 f1 f2 f3 f4 f5 f6 f7
  obtain ⟨⟨c0, c1, c2, c3, c4, c5, c6, c7⟩, f0, f1, f2, f3, f4, f5, f6, f7⟩ := cells8 A4.out.2.1
  go_wp2_with fail
  with_reducible refine (takeany_any g X2 X3 qn _ A4.out.iat B2.out (by have := N2.out; omega) D2.out).mono ?_
  rintro en w5 ⟨rfl, hin, hgr⟩
  have A5t := hid (A4.out.turn hin hgr)
  have R5t := hid (R4.out.turn hin hgr)
  clear hin hgr A4 R4
  clear c0 c1 c2 c3 c4 c5 c6 c7 f0 f1 f2 f3 f4 f5 f6 f7
  obtain ⟨⟨c0, c1, c2, c3, c4, c5, c6, c7⟩, f0, f1, f2, f3, f4, f5, f6, f7⟩ := cells8 A5t.out.2.1
  have A5 := hid (A5t.out.set_ 3 (.int .u64 (qn : Int)) ⟨k, (un : Int), f, (qn : Int), ⟨#[]⟩, 0, 0, 0⟩ rfl)
  have R5 := hid (R5t.out.far (p := ⟨w.heap.size, 3, none⟩) (by simp) (Nat.le_refl _) (.int .u64 (qn : Int)))
  clear A5t R5t
  go_wp2_with fail
  with_reducible refine (has_2 ⟨k, (un : Int), f, (qn : Int), ⟨#[]⟩, 0, 0, 0⟩ true _ S2.out A5.out.parts).mono ?_
  rintro e w6 ⟨rfl, hb⟩
  have A6 := hid (A5.out.on hb)
  have R6 := hid (R5.out.on hb)
  clear hb A5 R5
  clear c0 c1 c2 c3 c4 c5 c6 c7 f0 f1 f2 f3 f4 f5 f6 f7
  obtain ⟨⟨c0, c1, c2, c3, c4, c5, c6, c7⟩, f0, f1, f2, f3, f4, f5, f6, f7⟩ := cells8 A6.out.2.1
  go_wp2_with fail
  with_reducible refine (intext_any g X3 0 64 64 X4 0 (bytesOfS s) _ A6.out.iat (fine0 _) B3.out (by have := N3.out; omega) rfl (by decide) D3.out).mono ?_
  rw [strN_bytesOfS]
  rintro en w7 ⟨rfl, hin, hgr⟩
  have A7t := hid (A6.out.turn hin hgr)
  have R7t := hid (R6.out.turn hin hgr)
  clear hin hgr A6 R6
  clear c0 c1 c2 c3 c4 c5 c6 c7 f0 f1 f2 f3 f4 f5 f6 f7
  obtain ⟨⟨c0, c1, c2, c3, c4, c5, c6, c7⟩, f0, f1, f2, f3, f4, f5, f6, f7⟩ := cells8 A7t.out.2.1
  have A7 := hid (A7t.out.set_ 4 (.string s) ⟨k, (un : Int), f, (qn : Int), s, 0, 0, 0⟩ rfl)
  have R7 := hid (R7t.out.far (p := ⟨w.heap.size, 4, none⟩) (by simp) (Nat.le_refl _) (.string s))
  clear A7t R7t
  go_wp2_with fail
  with_reducible refine (has_3 ⟨k, (un : Int), f, (qn : Int), s, 0, 0, 0⟩ true _ S3.out A7.out.parts).mono ?_
  rintro e w8 ⟨rfl, hb⟩
  have A8 := hid (A7.out.on hb)
  have R8 := hid (R7.out.on hb)
  clear hb A7 R7
  clear c0 c1 c2 c3 c4 c5 c6 c7 f0 f1 f2 f3 f4 f5 f6 f7
  obtain ⟨⟨c0, c1, c2, c3, c4, c5, c6, c7⟩, f0, f1, f2, f3, f4, f5, f6, f7⟩ := cells8 A8.out.2.1
  go_wp2_with fail
  with_reducible refine (byte_any g X4 0 more 0 mn _ A8.out.iat (fine0 _) D4.out).mono ?_
  rintro en w9 ⟨rfl, hin, hgr⟩
  have A9t := hid (A8.out.turn hin hgr)
  have R9t := hid (R8.out.turn hin hgr)
  clear hin hgr A8 R8
  clear c0 c1 c2 c3 c4 c5 c6 c7 f0 f1 f2 f3 f4 f5 f6 f7
  obtain ⟨⟨c0, c1, c2, c3, c4, c5, c6, c7⟩, f0, f1, f2, f3, f4, f5, f6, f7⟩ := cells8 A9t.out.2.1
  have A9 := hid (A9t.out.set_ 5 (.int .i64 (mn : Int)) ⟨k, (un : Int), f, (qn : Int), s, (mn : Int), 0, 0⟩ rfl)
  have R9 := hid (R9t.out.far (p := ⟨w.heap.size, 5, none⟩) (by simp) (Nat.le_refl _) (.int .i64 (mn : Int)))
  clear A9t R9t
  go_wp2_with fail
  with_reducible refine (has_4 ⟨k, (un : Int), f, (qn : Int), s, (mn : Int), 0, 0⟩ false _ S4.out A9.out.parts).mono ?_
  rintro e w10 ⟨rfl, hb⟩
  have A10 := hid (A9.out.on hb)
  have R10 := hid (R9.out.on hb)
  clear hb A9 R9
  clear c0 c1 c2 c3 c4 c5 c6 c7 f0 f1 f2 f3 f4 f5 f6 f7
  obtain ⟨⟨c0, c1, c2, c3, c4, c5, c6, c7⟩, f0, f1, f2, f3, f4, f5, f6, f7⟩ := cells8 A10.out.2.1
  go_wp2_with fail
  with_reducible refine (has_5 ⟨k, (un : Int), f, (qn : Int), s, (mn : Int), 0, 0⟩ false _ S5.out A10.out.parts).mono ?_
  rintro e w11 ⟨rfl, hb⟩
  have A11 := hid (A10.out.on hb)
  have R11 := hid (R10.out.on hb)
  clear hb A10 R10
  clear c0 c1 c2 c3 c4 c5 c6 c7 f0 f1 f2 f3 f4 f5 f6 f7
  obtain ⟨⟨c0, c1, c2, c3, c4, c5, c6, c7⟩, f0, f1, f2, f3, f4, f5, f6, f7⟩ := cells8 A11.out.2.1
  obtain ⟨⟨d0, d1, d2, d3, d4, d5, d6, d7⟩, g0, g1, g2, g3, g4, g5, g6, g7⟩ := cells8 R11.out.2.1
  have E := hid (R11.out.put ⟨k, (un : Int), f, (qn : Int), s, (mn : Int), 0, 0⟩)
  clear R11 A11
  go_wp2
  refine bodyPost_ret (v := val ⟨k, (un : Int), f, (qn : Int), s, (mn : Int), 0, 0⟩) (by simp [results, Tryd.results37, go_sem, d0, d1, d2, d3, d4, d5, d6, d7]) rfl ⟨rfl, E.out.iat, E.out.grown⟩

set_option maxRecDepth 100000 in
set_option maxHeartbeats 2000000 in
theorem taken_6 (g : Nat) (k : Int) (un : Nat) (f : ByteArray) (qn : Nat) (s : ByteArray) (mn nn tn : Nat) (more : List Nat) (w : World) (hP : PartsIs w) (hg : 1 < g) (hI : InAt w g (bytesN un 8 ++ (textN f ++ (shortN qn ++ (textN s ++ (more))))) 0) (hs : Sig k true true true false false false)
    (b2 : un < 18446744073709551616) (b3 : qn < 18446744073709551616) (b4 : mn ≤ 2) (b5 : nn < 18446744073709551616) (b6 : tn ≤ 1099511627776) (hf : f.size ≤ 64) (hp : s.size ≤ 64) (h8 : ∀ x ∈ more, x < 256) (hl : more.length ≤ 1000000000000000) :
    Calls Tryd.prog 37 #[val ⟨k, 0, ⟨#[]⟩, 0, ⟨#[]⟩, 0, 0, 0⟩, .pointer (some ⟨g, 0, none⟩)] w fun e w' => e = .returned (val ⟨k, (un : Int), f, (qn : Int), s, 0, 0, 0⟩) ∧ InAt w' g more 0 ∧ w.grownBy w' (some g) := by
  obtain ⟨s0, s1, s2, s3, s4, s5⟩ := hs
  have S0 := hid s0
  have S1 := hid s1
  have S2 := hid s2
  have S3 := hid s3
  have S4 := hid s4
  have S5 := hid s5
  have B4 := hid h8
  have N4 : Hid (more.length ≤ 1000000000000000) := hid hl
  obtain ⟨X3, hX3⟩ : ∃ x, textN s ++ more = x := ⟨_, rfl⟩
  rw [hX3] at hI
  have B3 : Hid (∀ x ∈ X3, x < 256) := hid (by rw [← hX3]; exact in_app (textN_byte s) B4.out)
  have N3 : Hid (X3.length ≤ 1000000000000000 + 74) := hid (by rw [← hX3, List.length_append]; have h1 := textN_len s hp; have h2 := N4.out; omega)
  have D3 : Hid (sText X3 0 64 = (more, 0, bytesOfS s)) := hid (by rw [← hX3]; exact sText_put s _ 64 hp (by omega))
  clear hX3
  obtain ⟨X2, hX2⟩ : ∃ x, shortN qn ++ X3 = x := ⟨_, rfl⟩
  rw [hX2] at hI
  have B2 : Hid (∀ x ∈ X2, x < 256) := hid (by rw [← hX2]; exact in_app (shortN_byte qn) B3.out)
  have N2 : Hid (X2.length ≤ 1000000000000000 + 84) := hid (by rw [← hX2, List.length_append]; have h1 := shortN_len10 b3; have h2 := N3.out; omega)
  have D2 : Hid (sShort X2 0 18446744073709551615 = (X3, 0, qn)) := hid (by rw [← hX2]; exact sShort_put qn _ _ (by omega) (by omega))
  clear hX2
  obtain ⟨X1, hX1⟩ : ∃ x, textN f ++ X2 = x := ⟨_, rfl⟩
  rw [hX1] at hI
  have B1 : Hid (∀ x ∈ X1, x < 256) := hid (by rw [← hX1]; exact in_app (textN_byte f) B2.out)
  have N1 : Hid (X1.length ≤ 1000000000000000 + 158) := hid (by rw [← hX1, List.length_append]; have h1 := textN_len f hf; have h2 := N2.out; omega)
  have D1 : Hid (sText X1 0 64 = (X2, 0, bytesOfS f)) := hid (by rw [← hX1]; exact sText_put f _ 64 hf (by omega))
  clear hX1
  obtain ⟨X0, hX0⟩ : ∃ x, bytesN un 8 ++ X1 = x := ⟨_, rfl⟩
  rw [hX0] at hI
  have B0 : Hid (∀ x ∈ X0, x < 256) := hid (by rw [← hX0]; exact in_app (bytesN_byte 8 un) B1.out)
  have N0 : Hid (X0.length ≤ 1000000000000000 + 166) := hid (by rw [← hX0, List.length_append]; have h1 := bytesN_len 8 un; have h2 := N1.out; omega)
  have D0 : Hid (sFixed X0 0 = (X1, 0, un)) := hid (by rw [← hX0]; exact sFixed_put un _ b2)
  clear hX0
  have W2 : IntKind.i64.wrap (mn : Int) = mn := by rw [IntKind.wrap_i64]; omega
  have W3 : IntKind.i64.wrap (tn : Int) = tn := by rw [IntKind.wrap_i64]; omega
  have A0 := hid ((TakeAt.start hI hP hg ⟨k, 0, ⟨#[]⟩, 0, ⟨#[]⟩, 0, 0, 0⟩).on ((Below.refl _ _).alloc (Nat.le_refl _) (.cells (cellsOf ⟨0, 0, ⟨#[]⟩, 0, ⟨#[]⟩, 0, 0, 0⟩) 26)))
  have R0 : Hid (TakeAt w ((w.alloc (.cells (cellsOf ⟨k, 0, ⟨#[]⟩, 0, ⟨#[]⟩, 0, 0, 0⟩) 26)).alloc (.cells (cellsOf ⟨0, 0, ⟨#[]⟩, 0, ⟨#[]⟩, 0, 0, 0⟩) 26)) g (w.heap.size + 1) ⟨0, 0, ⟨#[]⟩, 0, ⟨#[]⟩, 0, 0, 0⟩ X0) := hid ⟨A0.out.1, by have h := Blk.new (w.alloc (.cells (cellsOf ⟨k, 0, ⟨#[]⟩, 0, ⟨#[]⟩, 0, 0, 0⟩) 26)) 26 (cellsOf ⟨0, 0, ⟨#[]⟩, 0, ⟨#[]⟩, 0, 0, 0⟩); simpa using h, by omega, A0.out.2.2.2.1, A0.out.2.2.2.2⟩
  clear s0 s1 s2 s3 s4 s5 hP hg hI h8
  go_enter Tryd.func37, Tryd.ntmps37
  go_wp2_with fail
  with_reducible refine (has_0 ⟨k, 0, ⟨#[]⟩, 0, ⟨#[]⟩, 0, 0, 0⟩ true _ S0.out A0.out.parts).mono ?_
  rintro e w1 ⟨rfl, hb⟩
  have A1 := hid (A0.out.on hb)
  have R1 := hid (R0.out.on hb)
  clear hb A0 R0
  obtain ⟨⟨c0, c1, c2, c3, c4, c5, c6, c7⟩, f0, f1, f2, f3, f4, f5, f6, f7⟩ := cells8 A1.out.2.1
  go_wp2_with fail
  with_reducible refine (infixed_any g X0 0 X1 0 un _ A1.out.iat (fine0 _) B0.out D0.out).mono ?_
  rintro en w2 ⟨rfl, hin, hgr⟩
  have A2t := hid (A1.out.turn hin hgr)
  have R2t := hid (R1.out.turn hin hgr)
  clear hin hgr A1 R1
  clear c0 c1 c2 c3 c4 c5 c6 c7 f0 f1 f2 f3 f4 f5 f6 f7
  obtain ⟨⟨c0, c1, c2, c3, c4, c5, c6, c7⟩, f0, f1, f2, f3, f4, f5, f6, f7⟩ := cells8 A2t.out.2.1
  have A2 := hid (A2t.out.set_ 1 (.int .u64 (un : Int)) ⟨k, (un : Int), ⟨#[]⟩, 0, ⟨#[]⟩, 0, 0, 0⟩ rfl)
  have R2 := hid (R2t.out.far (p := ⟨w.heap.size, 1, none⟩) (by simp) (Nat.le_refl _) (.int .u64 (un : Int)))
  clear A2t R2t
  go_wp2_with fail
  with_reducible refine (intext_any g X1 0 64 64 X2 0 (bytesOfS f) _ A2.out.iat (fine0 _) B1.out (by have := N1.out; omega) rfl (by decide) D1.out).mono ?_
  rw [strN_bytesOfS]
  rintro en w3 ⟨rfl, hin, hgr⟩
  have A3t := hid (A2.out.turn hin hgr)
  have R3t := hid (R2.out.turn hin hgr)
  clear hin hgr A2 R2
  clear c0 c1 c2 c3 c4 c5 c6 c7 f0 f1 f2 f3 f4 f5 f6 f7
  obtain ⟨⟨c0, c1, c2, c3, c4, c5, c6, c7⟩, f0, f1, f2, f3, f4, f5, f6, f7⟩ := cells8 A3t.out.2.1
  have A3 := hid (A3t.out.set_ 2 (.string f) ⟨k, (un : Int), f, 0, ⟨#[]⟩, 0, 0, 0⟩ rfl)
  have R3 := hid (R3t.out.far (p := ⟨w.heap.size, 2, none⟩) (by simp) (Nat.le_refl _) (.string f))
  clear A3t R3t
  go_wp2_with fail
  with_reducible refine (has_1 ⟨k, (un : Int), f, 0, ⟨#[]⟩, 0, 0, 0⟩ true _ S1.out A3.out.parts).mono ?_
  rintro e w4 ⟨rfl, hb⟩
  have A4 := hid (A3.out.on hb)
  have R4 := hid (R3.out.on hb)
  clear hb A3 R3
  clear c0 c1 c2 c3 c4 c5 c6 c7 f0 f1 f2 f3 f4 f5 f6 f7
  obtain ⟨⟨c0, c1, c2, c3, c4, c5, c6, c7⟩, f0, f1, f2, f3, f4, f5, f6, f7⟩ := cells8 A4.out.2.1
  go_wp2_with fail
  with_reducible refine (takeany_any g X2 X3 qn _ A4.out.iat B2.out (by have := N2.out; omega) D2.out).mono ?_
  rintro en w5 ⟨rfl, hin, hgr⟩
  have A5t := hid (A4.out.turn hin hgr)
  have R5t := hid (R4.out.turn hin hgr)
  clear hin hgr A4 R4
  clear c0 c1 c2 c3 c4 c5 c6 c7 f0 f1 f2 f3 f4 f5 f6 f7
  obtain ⟨⟨c0, c1, c2, c3, c4, c5, c6, c7⟩, f0, f1, f2, f3, f4, f5, f6, f7⟩ := cells8 A5t.out.2.1
  have A5 := hid (A5t.out.set_ 3 (.int .u64 (qn : Int)) ⟨k, (un : Int), f, (qn : Int), ⟨#[]⟩, 0, 0, 0⟩ rfl)
  have R5 := hid (R5t.out.far (p := ⟨w.heap.size, 3, none⟩) (by simp) (Nat.le_refl _) (.int .u64 (qn : Int)))
  clear A5t R5t
  go_wp2_with fail
  with_reducible refine (has_2 ⟨k, (un : Int), f, (qn : Int), ⟨#[]⟩, 0, 0, 0⟩ true _ S2.out A5.out.parts).mono ?_
  rintro e w6 ⟨rfl, hb⟩
  have A6 := hid (A5.out.on hb)
  have R6 := hid (R5.out.on hb)
  clear hb A5 R5
  clear c0 c1 c2 c3 c4 c5 c6 c7 f0 f1 f2 f3 f4 f5 f6 f7
  obtain ⟨⟨c0, c1, c2, c3, c4, c5, c6, c7⟩, f0, f1, f2, f3, f4, f5, f6, f7⟩ := cells8 A6.out.2.1
  go_wp2_with fail
  with_reducible refine (intext_any g X3 0 64 64 more 0 (bytesOfS s) _ A6.out.iat (fine0 _) B3.out (by have := N3.out; omega) rfl (by decide) D3.out).mono ?_
  rw [strN_bytesOfS]
  rintro en w7 ⟨rfl, hin, hgr⟩
  have A7t := hid (A6.out.turn hin hgr)
  have R7t := hid (R6.out.turn hin hgr)
  clear hin hgr A6 R6
  clear c0 c1 c2 c3 c4 c5 c6 c7 f0 f1 f2 f3 f4 f5 f6 f7
  obtain ⟨⟨c0, c1, c2, c3, c4, c5, c6, c7⟩, f0, f1, f2, f3, f4, f5, f6, f7⟩ := cells8 A7t.out.2.1
  have A7 := hid (A7t.out.set_ 4 (.string s) ⟨k, (un : Int), f, (qn : Int), s, 0, 0, 0⟩ rfl)
  have R7 := hid (R7t.out.far (p := ⟨w.heap.size, 4, none⟩) (by simp) (Nat.le_refl _) (.string s))
  clear A7t R7t
  go_wp2_with fail
  with_reducible refine (has_3 ⟨k, (un : Int), f, (qn : Int), s, 0, 0, 0⟩ false _ S3.out A7.out.parts).mono ?_
  rintro e w8 ⟨rfl, hb⟩
  have A8 := hid (A7.out.on hb)
  have R8 := hid (R7.out.on hb)
  clear hb A7 R7
  clear c0 c1 c2 c3 c4 c5 c6 c7 f0 f1 f2 f3 f4 f5 f6 f7
  obtain ⟨⟨c0, c1, c2, c3, c4, c5, c6, c7⟩, f0, f1, f2, f3, f4, f5, f6, f7⟩ := cells8 A8.out.2.1
  go_wp2_with fail
  with_reducible refine (has_4 ⟨k, (un : Int), f, (qn : Int), s, 0, 0, 0⟩ false _ S4.out A8.out.parts).mono ?_
  rintro e w9 ⟨rfl, hb⟩
  have A9 := hid (A8.out.on hb)
  have R9 := hid (R8.out.on hb)
  clear hb A8 R8
  clear c0 c1 c2 c3 c4 c5 c6 c7 f0 f1 f2 f3 f4 f5 f6 f7
  obtain ⟨⟨c0, c1, c2, c3, c4, c5, c6, c7⟩, f0, f1, f2, f3, f4, f5, f6, f7⟩ := cells8 A9.out.2.1
  go_wp2_with fail
  with_reducible refine (has_5 ⟨k, (un : Int), f, (qn : Int), s, 0, 0, 0⟩ false _ S5.out A9.out.parts).mono ?_
  rintro e w10 ⟨rfl, hb⟩
  have A10 := hid (A9.out.on hb)
  have R10 := hid (R9.out.on hb)
  clear hb A9 R9
  clear c0 c1 c2 c3 c4 c5 c6 c7 f0 f1 f2 f3 f4 f5 f6 f7
  obtain ⟨⟨c0, c1, c2, c3, c4, c5, c6, c7⟩, f0, f1, f2, f3, f4, f5, f6, f7⟩ := cells8 A10.out.2.1
  obtain ⟨⟨d0, d1, d2, d3, d4, d5, d6, d7⟩, g0, g1, g2, g3, g4, g5, g6, g7⟩ := cells8 R10.out.2.1
  have E := hid (R10.out.put ⟨k, (un : Int), f, (qn : Int), s, 0, 0, 0⟩)
  clear R10 A10
  go_wp2
  refine bodyPost_ret (v := val ⟨k, (un : Int), f, (qn : Int), s, 0, 0, 0⟩) (by simp [results, Tryd.results37, go_sem, d0, d1, d2, d3, d4, d5, d6, d7]) rfl ⟨rfl, E.out.iat, E.out.grown⟩

set_option maxRecDepth 100000 in
set_option maxHeartbeats 2000000 in
theorem taken_7 (g : Nat) (k : Int) (un : Nat) (f : ByteArray) (qn : Nat) (s : ByteArray) (mn nn tn : Nat) (more : List Nat) (w : World) (hP : PartsIs w) (hg : 1 < g) (hI : InAt w g (bytesN un 8 ++ (textN f ++ (shortN qn ++ (textN s ++ (shortN nn ++ (more)))))) 0) (hs : Sig k true true true false true false)
    (b2 : un < 18446744073709551616) (b3 : qn < 18446744073709551616) (b4 : mn ≤ 2) (b5 : nn < 18446744073709551616) (b6 : tn ≤ 1099511627776) (hf : f.size ≤ 64) (hp : s.size ≤ 64) (h8 : ∀ x ∈ more, x < 256) (hl : more.length ≤ 1000000000000000) :
    Calls Tryd.prog 37 #[val ⟨k, 0, ⟨#[]⟩, 0, ⟨#[]⟩, 0, 0, 0⟩, .pointer (some ⟨g, 0, none⟩)] w fun e w' => e = .returned (val ⟨k, (un : Int), f, (qn : Int), s, 0, (nn : Int), 0⟩) ∧ InAt w' g more 0 ∧ w.grownBy w' (some g) := by
  obtain ⟨s0, s1, s2, s3, s4, s5⟩ := hs
  have S0 := hid s0
  have S1 := hid s1
  have S2 := hid s2
  have S3 := hid s3
  have S4 := hid s4
  have S5 := hid s5
  have B5 := hid h8
  have N5 : Hid (more.length ≤ 1000000000000000) := hid hl
  obtain ⟨X4, hX4⟩ : ∃ x, shortN nn ++ more = x := ⟨_, rfl⟩
  rw [hX4] at hI
  have B4 : Hid (∀ x ∈ X4, x < 256) := hid (by rw [← hX4]; exact in_app (shortN_byte nn) B5.out)
  have N4 : Hid (X4.length ≤ 1000000000000000 + 10) := hid (by rw [← hX4, List.length_append]; have h1 := shortN_len10 b5; have h2 := N5.out; omega)
  have D4 : Hid (sShort X4 0 18446744073709551615 = (more, 0, nn)) := hid (by rw [← hX4]; exact sShort_put nn _ _ (by omega) (by omega))
  clear hX4
  obtain ⟨X3, hX3⟩ : ∃ x, textN s ++ X4 = x := ⟨_, rfl⟩
  rw [hX3] at hI
  have B3 : Hid (∀ x ∈ X3, x < 256) := hid (by rw [← hX3]; exact in_app (textN_byte s) B4.out)
  have N3 : Hid (X3.length ≤ 1000000000000000 + 84) := hid (by rw [← hX3, List.length_append]; have h1 := textN_len s hp; have h2 := N4.out; omega)
  have D3 : Hid (sText X3 0 64 = (X4, 0, bytesOfS s)) := hid (by rw [← hX3]; exact sText_put s _ 64 hp (by omega))
  clear hX3
  obtain ⟨X2, hX2⟩ : ∃ x, shortN qn ++ X3 = x := ⟨_, rfl⟩
  rw [hX2] at hI
  have B2 : Hid (∀ x ∈ X2, x < 256) := hid (by rw [← hX2]; exact in_app (shortN_byte qn) B3.out)
  have N2 : Hid (X2.length ≤ 1000000000000000 + 94) := hid (by rw [← hX2, List.length_append]; have h1 := shortN_len10 b3; have h2 := N3.out; omega)
  have D2 : Hid (sShort X2 0 18446744073709551615 = (X3, 0, qn)) := hid (by rw [← hX2]; exact sShort_put qn _ _ (by omega) (by omega))
  clear hX2
  obtain ⟨X1, hX1⟩ : ∃ x, textN f ++ X2 = x := ⟨_, rfl⟩
  rw [hX1] at hI
  have B1 : Hid (∀ x ∈ X1, x < 256) := hid (by rw [← hX1]; exact in_app (textN_byte f) B2.out)
  have N1 : Hid (X1.length ≤ 1000000000000000 + 168) := hid (by rw [← hX1, List.length_append]; have h1 := textN_len f hf; have h2 := N2.out; omega)
  have D1 : Hid (sText X1 0 64 = (X2, 0, bytesOfS f)) := hid (by rw [← hX1]; exact sText_put f _ 64 hf (by omega))
  clear hX1
  obtain ⟨X0, hX0⟩ : ∃ x, bytesN un 8 ++ X1 = x := ⟨_, rfl⟩
  rw [hX0] at hI
  have B0 : Hid (∀ x ∈ X0, x < 256) := hid (by rw [← hX0]; exact in_app (bytesN_byte 8 un) B1.out)
  have N0 : Hid (X0.length ≤ 1000000000000000 + 176) := hid (by rw [← hX0, List.length_append]; have h1 := bytesN_len 8 un; have h2 := N1.out; omega)
  have D0 : Hid (sFixed X0 0 = (X1, 0, un)) := hid (by rw [← hX0]; exact sFixed_put un _ b2)
  clear hX0
  have W2 : IntKind.i64.wrap (mn : Int) = mn := by rw [IntKind.wrap_i64]; omega
  have W3 : IntKind.i64.wrap (tn : Int) = tn := by rw [IntKind.wrap_i64]; omega
  have A0 := hid ((TakeAt.start hI hP hg ⟨k, 0, ⟨#[]⟩, 0, ⟨#[]⟩, 0, 0, 0⟩).on ((Below.refl _ _).alloc (Nat.le_refl _) (.cells (cellsOf ⟨0, 0, ⟨#[]⟩, 0, ⟨#[]⟩, 0, 0, 0⟩) 26)))
  have R0 : Hid (TakeAt w ((w.alloc (.cells (cellsOf ⟨k, 0, ⟨#[]⟩, 0, ⟨#[]⟩, 0, 0, 0⟩) 26)).alloc (.cells (cellsOf ⟨0, 0, ⟨#[]⟩, 0, ⟨#[]⟩, 0, 0, 0⟩) 26)) g (w.heap.size + 1) ⟨0, 0, ⟨#[]⟩, 0, ⟨#[]⟩, 0, 0, 0⟩ X0) := hid ⟨A0.out.1, by have h := Blk.new (w.alloc (.cells (cellsOf ⟨k, 0, ⟨#[]⟩, 0, ⟨#[]⟩, 0, 0, 0⟩) 26)) 26 (cellsOf ⟨0, 0, ⟨#[]⟩, 0, ⟨#[]⟩, 0, 0, 0⟩); simpa using h, by omega, A0.out.2.2.2.1, A0.out.2.2.2.2⟩
  clear s0 s1 s2 s3 s4 s5 hP hg hI h8
  go_enter Tryd.func37, Tryd.ntmps37
  go_wp2_with fail
  with_reducible refine (has_0 ⟨k, 0, ⟨#[]⟩, 0, ⟨#[]⟩, 0, 0, 0⟩ true _ S0.out A0.out.parts).mono ?_
  rintro e w1 ⟨rfl, hb⟩
  have A1 := hid (A0.out.on hb)
  have R1 := hid (R0.out.on hb)
  clear hb A0 R0
  obtain ⟨⟨c0, c1, c2, c3, c4, c5, c6, c7⟩, f0, f1, f2, f3, f4, f5, f6, f7⟩ := cells8 A1.out.2.1
  go_wp2_with fail
  with_reducible refine (infixed_any g X0 0 X1 0 un _ A1.out.iat (fine0 _) B0.out D0.out).mono ?_
  rintro en w2 ⟨rfl, hin, hgr⟩
  have A2t := hid (A1.out.turn hin hgr)
  have R2t := hid (R1.out.turn hin hgr)
  clear hin hgr A1 R1
  clear c0 c1 c2 c3 c4 c5 c6 c7 f0 f1 f2 f3 f4 f5 f6 f7
  obtain ⟨⟨c0, c1, c2, c3, c4, c5, c6, c7⟩, f0, f1, f2, f3, f4, f5, f6, f7⟩ := cells8 A2t.out.2.1
  have A2 := hid (A2t.out.set_ 1 (.int .u64 (un : Int)) ⟨k, (un : Int), ⟨#[]⟩, 0, ⟨#[]⟩, 0, 0, 0⟩ rfl)
  have R2 := hid (R2t.out.far (p := ⟨w.heap.size, 1, none⟩) (by simp) (Nat.le_refl _) (.int .u64 (un : Int)))
  clear A2t R2t
  go_wp2_with fail
  with_reducible refine (intext_any g X1 0 64 64 X2 0 (bytesOfS f) _ A2.out.iat (fine0 _) B1.out (by have := N1.out; omega) rfl (by decide) D1.out).mono ?_
  rw [strN_bytesOfS]
  rintro en w3 ⟨rfl, hin, hgr⟩
  have A3t := hid (A2.out.turn hin hgr)
  have R3t := hid (R2.out.turn hin hgr)
  clear hin hgr A2 R2
  clear c0 c1 c2 c3 c4 c5 c6 c7 f0 f1 f2 f3 f4 f5 f6 f7
  obtain ⟨⟨c0, c1, c2, c3, c4, c5, c6, c7⟩, f0, f1, f2, f3, f4, f5, f6, f7⟩ := cells8 A3t.out.2.1
  have A3 := hid (A3t.out.set_ 2 (.string f) ⟨k, (un : Int), f, 0, ⟨#[]⟩, 0, 0, 0⟩ rfl)
  have R3 := hid (R3t.out.far (p := ⟨w.heap.size, 2, none⟩) (by simp) (Nat.le_refl _) (.string f))
  clear A3t R3t
  go_wp2_with fail
  with_reducible refine (has_1 ⟨k, (un : Int), f, 0, ⟨#[]⟩, 0, 0, 0⟩ true _ S1.out A3.out.parts).mono ?_
  rintro e w4 ⟨rfl, hb⟩
  have A4 := hid (A3.out.on hb)
  have R4 := hid (R3.out.on hb)
  clear hb A3 R3
  clear c0 c1 c2 c3 c4 c5 c6 c7 f0 f1 f2 f3 f4 f5 f6 f7
  obtain ⟨⟨c0, c1, c2, c3, c4, c5, c6, c7⟩, f0, f1, f2, f3, f4, f5, f6, f7⟩ := cells8 A4.out.2.1
  go_wp2_with fail
  with_reducible refine (takeany_any g X2 X3 qn _ A4.out.iat B2.out (by have := N2.out; omega) D2.out).mono ?_
  rintro en w5 ⟨rfl, hin, hgr⟩
  have A5t := hid (A4.out.turn hin hgr)
  have R5t := hid (R4.out.turn hin hgr)
  clear hin hgr A4 R4
  clear c0 c1 c2 c3 c4 c5 c6 c7 f0 f1 f2 f3 f4 f5 f6 f7
  obtain ⟨⟨c0, c1, c2, c3, c4, c5, c6, c7⟩, f0, f1, f2, f3, f4, f5, f6, f7⟩ := cells8 A5t.out.2.1
  have A5 := hid (A5t.out.set_ 3 (.int .u64 (qn : Int)) ⟨k, (un : Int), f, (qn : Int), ⟨#[]⟩, 0, 0, 0⟩ rfl)
  have R5 := hid (R5t.out.far (p := ⟨w.heap.size, 3, none⟩) (by simp) (Nat.le_refl _) (.int .u64 (qn : Int)))
  clear A5t R5t
  go_wp2_with fail
  with_reducible refine (has_2 ⟨k, (un : Int), f, (qn : Int), ⟨#[]⟩, 0, 0, 0⟩ true _ S2.out A5.out.parts).mono ?_
  rintro e w6 ⟨rfl, hb⟩
  have A6 := hid (A5.out.on hb)
  have R6 := hid (R5.out.on hb)
  clear hb A5 R5
  clear c0 c1 c2 c3 c4 c5 c6 c7 f0 f1 f2 f3 f4 f5 f6 f7
  obtain ⟨⟨c0, c1, c2, c3, c4, c5, c6, c7⟩, f0, f1, f2, f3, f4, f5, f6, f7⟩ := cells8 A6.out.2.1
  go_wp2_with fail
  with_reducible refine (intext_any g X3 0 64 64 X4 0 (bytesOfS s) _ A6.out.iat (fine0 _) B3.out (by have := N3.out; omega) rfl (by decide) D3.out).mono ?_
  rw [strN_bytesOfS]
  rintro en w7 ⟨rfl, hin, hgr⟩
  have A7t := hid (A6.out.turn hin hgr)
  have R7t := hid (R6.out.turn hin hgr)
  clear hin hgr A6 R6
  clear c0 c1 c2 c3 c4 c5 c6 c7 f0 f1 f2 f3 f4 f5 f6 f7
  obtain ⟨⟨c0, c1, c2, c3, c4, c5, c6, c7⟩, f0, f1, f2, f3, f4, f5, f6, f7⟩ := cells8 A7t.out.2.1
  have A7 := hid (A7t.out.set_ 4 (.string s) ⟨k, (un : Int), f, (qn : Int), s, 0, 0, 0⟩ rfl)
  have R7 := hid (R7t.out.far (p := ⟨w.heap.size, 4, none⟩) (by simp) (Nat.le_refl _) (.string s))
  clear A7t R7t
  go_wp2_with fail
  with_reducible refine (has_3 ⟨k, (un : Int), f, (qn : Int), s, 0, 0, 0⟩ false _ S3.out A7.out.parts).mono ?_
  rintro e w8 ⟨rfl, hb⟩
  have A8 := hid (A7.out.on hb)
  have R8 := hid (R7.out.on hb)
  clear hb A7 R7
  clear c0 c1 c2 c3 c4 c5 c6 c7 f0 f1 f2 f3 f4 f5 f6 f7
  obtain ⟨⟨c0, c1, c2, c3, c4, c5, c6, c7⟩, f0, f1, f2, f3, f4, f5, f6, f7⟩ := cells8 A8.out.2.1
  go_wp2_with fail
  with_reducible refine (has_4 ⟨k, (un : Int), f, (qn : Int), s, 0, 0, 0⟩ true _ S4.out A8.out.parts).mono ?_
  rintro e w9 ⟨rfl, hb⟩
  have A9 := hid (A8.out.on hb)
  have R9 := hid (R8.out.on hb)
  clear hb A8 R8
  clear c0 c1 c2 c3 c4 c5 c6 c7 f0 f1 f2 f3 f4 f5 f6 f7
  obtain ⟨⟨c0, c1, c2, c3, c4, c5, c6, c7⟩, f0, f1, f2, f3, f4, f5, f6, f7⟩ := cells8 A9.out.2.1
  go_wp2_with fail
  with_reducible refine (takeany_any g X4 more nn _ A9.out.iat B4.out (by have := N4.out; omega) D4.out).mono ?_
  rintro en w10 ⟨rfl, hin, hgr⟩
  have A10t := hid (A9.out.turn hin hgr)
  have R10t := hid (R9.out.turn hin hgr)
  clear hin hgr A9 R9
  clear c0 c1 c2 c3 c4 c5 c6 c7 f0 f1 f2 f3 f4 f5 f6 f7
  obtain ⟨⟨c0, c1, c2, c3, c4, c5, c6, c7⟩, f0, f1, f2, f3, f4, f5, f6, f7⟩ := cells8 A10t.out.2.1
  have A10 := hid (A10t.out.set_ 6 (.int .u64 (nn : Int)) ⟨k, (un : Int), f, (qn : Int), s, 0, (nn : Int), 0⟩ rfl)
  have R10 := hid (R10t.out.far (p := ⟨w.heap.size, 6, none⟩) (by simp) (Nat.le_refl _) (.int .u64 (nn : Int)))
  clear A10t R10t
  go_wp2_with fail
  with_reducible refine (has_5 ⟨k, (un : Int), f, (qn : Int), s, 0, (nn : Int), 0⟩ false _ S5.out A10.out.parts).mono ?_
  rintro e w11 ⟨rfl, hb⟩
  have A11 := hid (A10.out.on hb)
  have R11 := hid (R10.out.on hb)
  clear hb A10 R10
  clear c0 c1 c2 c3 c4 c5 c6 c7 f0 f1 f2 f3 f4 f5 f6 f7
  obtain ⟨⟨c0, c1, c2, c3, c4, c5, c6, c7⟩, f0, f1, f2, f3, f4, f5, f6, f7⟩ := cells8 A11.out.2.1
  obtain ⟨⟨d0, d1, d2, d3, d4, d5, d6, d7⟩, g0, g1, g2, g3, g4, g5, g6, g7⟩ := cells8 R11.out.2.1
  have E := hid (R11.out.put ⟨k, (un : Int), f, (qn : Int), s, 0, (nn : Int), 0⟩)
  clear R11 A11
  go_wp2
  refine bodyPost_ret (v := val ⟨k, (un : Int), f, (qn : Int), s, 0, (nn : Int), 0⟩) (by simp [results, Tryd.results37, go_sem, d0, d1, d2, d3, d4, d5, d6, d7]) rfl ⟨rfl, E.out.iat, E.out.grown⟩

set_option maxRecDepth 100000 in
set_option maxHeartbeats 2000000 in
theorem taken_8 (g : Nat) (k : Int) (un : Nat) (f : ByteArray) (qn : Nat) (s : ByteArray) (mn nn tn : Nat) (more : List Nat) (w : World) (hP : PartsIs w) (hg : 1 < g) (hI : InAt w g (bytesN un 8 ++ (textN f ++ (shortN tn ++ (more)))) 0) (hs : Sig k true false false false false true)
    (b2 : un < 18446744073709551616) (b3 : qn < 18446744073709551616) (b4 : mn ≤ 2) (b5 : nn < 18446744073709551616) (b6 : tn ≤ 1099511627776) (hf : f.size ≤ 64) (hp : s.size ≤ 64) (h8 : ∀ x ∈ more, x < 256) (hl : more.length ≤ 1000000000000000) :
    Calls Tryd.prog 37 #[val ⟨k, 0, ⟨#[]⟩, 0, ⟨#[]⟩, 0, 0, 0⟩, .pointer (some ⟨g, 0, none⟩)] w fun e w' => e = .returned (val ⟨k, (un : Int), f, 0, ⟨#[]⟩, 0, 0, (tn : Int)⟩) ∧ InAt w' g more 0 ∧ w.grownBy w' (some g) := by
  obtain ⟨s0, s1, s2, s3, s4, s5⟩ := hs
  have S0 := hid s0
  have S1 := hid s1
  have S2 := hid s2
  have S3 := hid s3
  have S4 := hid s4
  have S5 := hid s5
  have B3 := hid h8
  have N3 : Hid (more.length ≤ 1000000000000000) := hid hl
  obtain ⟨X2, hX2⟩ : ∃ x, shortN tn ++ more = x := ⟨_, rfl⟩
  rw [hX2] at hI
  have B2 : Hid (∀ x ∈ X2, x < 256) := hid (by rw [← hX2]; exact in_app (shortN_byte tn) B3.out)
  have N2 : Hid (X2.length ≤ 1000000000000000 + 10) := hid (by rw [← hX2, List.length_append]; have h1 := shortN_len10 (show tn < 18446744073709551616 by omega); have h2 := N3.out; omega)
  have D2 : Hid (sShort X2 0 1099511627776 = (more, 0, tn)) := hid (by rw [← hX2]; exact sShort_put tn _ _ (by omega) b6)
  clear hX2
  obtain ⟨X1, hX1⟩ : ∃ x, textN f ++ X2 = x := ⟨_, rfl⟩
  rw [hX1] at hI
  have B1 : Hid (∀ x ∈ X1, x < 256) := hid (by rw [← hX1]; exact in_app (textN_byte f) B2.out)
  have N1 : Hid (X1.length ≤ 1000000000000000 + 84) := hid (by rw [← hX1, List.length_append]; have h1 := textN_len f hf; have h2 := N2.out; omega)
  have D1 : Hid (sText X1 0 64 = (X2, 0, bytesOfS f)) := hid (by rw [← hX1]; exact sText_put f _ 64 hf (by omega))
  clear hX1
  obtain ⟨X0, hX0⟩ : ∃ x, bytesN un 8 ++ X1 = x := ⟨_, rfl⟩
  rw [hX0] at hI
  have B0 : Hid (∀ x ∈ X0, x < 256) := hid (by rw [← hX0]; exact in_app (bytesN_byte 8 un) B1.out)
  have N0 : Hid (X0.length ≤ 1000000000000000 + 92) := hid (by rw [← hX0, List.length_append]; have h1 := bytesN_len 8 un; have h2 := N1.out; omega)
  have D0 : Hid (sFixed X0 0 = (X1, 0, un)) := hid (by rw [← hX0]; exact sFixed_put un _ b2)
  clear hX0
  have W2 : IntKind.i64.wrap (mn : Int) = mn := by rw [IntKind.wrap_i64]; omega
  have W3 : IntKind.i64.wrap (tn : Int) = tn := by rw [IntKind.wrap_i64]; omega
  have A0 := hid ((TakeAt.start hI hP hg ⟨k, 0, ⟨#[]⟩, 0, ⟨#[]⟩, 0, 0, 0⟩).on ((Below.refl _ _).alloc (Nat.le_refl _) (.cells (cellsOf ⟨0, 0, ⟨#[]⟩, 0, ⟨#[]⟩, 0, 0, 0⟩) 26)))
  have R0 : Hid (TakeAt w ((w.alloc (.cells (cellsOf ⟨k, 0, ⟨#[]⟩, 0, ⟨#[]⟩, 0, 0, 0⟩) 26)).alloc (.cells (cellsOf ⟨0, 0, ⟨#[]⟩, 0, ⟨#[]⟩, 0, 0, 0⟩) 26)) g (w.heap.size + 1) ⟨0, 0, ⟨#[]⟩, 0, ⟨#[]⟩, 0, 0, 0⟩ X0) := hid ⟨A0.out.1, by have h := Blk.new (w.alloc (.cells (cellsOf ⟨k, 0, ⟨#[]⟩, 0, ⟨#[]⟩, 0, 0, 0⟩) 26)) 26 (cellsOf ⟨0, 0, ⟨#[]⟩, 0, ⟨#[]⟩, 0, 0, 0⟩); simpa using h, by omega, A0.out.2.2.2.1, A0.out.2.2.2.2⟩
  clear s0 s1 s2 s3 s4 s5 hP hg hI h8
  go_enter Tryd.func37, Tryd.ntmps37
  go_wp2_with fail
  with_reducible refine (has_0 ⟨k, 0, ⟨#[]⟩, 0, ⟨#[]⟩, 0, 0, 0⟩ true _ S0.out A0.out.parts).mono ?_
  rintro e w1 ⟨rfl, hb⟩
  have A1 := hid (A0.out.on hb)
  have R1 := hid (R0.out.on hb)
  clear hb A0 R0
  obtain ⟨⟨c0, c1, c2, c3, c4, c5, c6, c7⟩, f0, f1, f2, f3, f4, f5, f6, f7⟩ := cells8 A1.out.2.1
  go_wp2_with fail
  with_reducible refine (infixed_any g X0 0 X1 0 un _ A1.out.iat (fine0 _) B0.out D0.out).mono ?_
  rintro en w2 ⟨rfl, hin, hgr⟩
  have A2t := hid (A1.out.turn hin hgr)
  have R2t := hid (R1.out.turn hin hgr)
  clear hin hgr A1 R1
  clear c0 c1 c2 c3 c4 c5 c6 c7 f0 f1 f2 f3 f4 f5 f6 f7
  obtain ⟨⟨c0, c1, c2, c3, c4, c5, c6, c7⟩, f0, f1, f2, f3, f4, f5, f6, f7⟩ := cells8 A2t.out.2.1
  have A2 := hid (A2t.out.set_ 1 (.int .u64 (un : Int)) ⟨k, (un : Int), ⟨#[]⟩, 0, ⟨#[]⟩, 0, 0, 0⟩ rfl)
  have R2 := hid (R2t.out.far (p := ⟨w.heap.size, 1, none⟩) (by simp) (Nat.le_refl _) (.int .u64 (un : Int)))
  clear A2t R2t
  go_wp2_with fail
  with_reducible refine (intext_any g X1 0 64 64 X2 0 (bytesOfS f) _ A2.out.iat (fine0 _) B1.out (by have := N1.out; omega) rfl (by decide) D1.out).mono ?_
  rw [strN_bytesOfS]
  rintro en w3 ⟨rfl, hin, hgr⟩
  have A3t := hid (A2.out.turn hin hgr)
  have R3t := hid (R2.out.turn hin hgr)
  clear hin hgr A2 R2
  clear c0 c1 c2 c3 c4 c5 c6 c7 f0 f1 f2 f3 f4 f5 f6 f7
  obtain ⟨⟨c0, c1, c2, c3, c4, c5, c6, c7⟩, f0, f1, f2, f3, f4, f5, f6, f7⟩ := cells8 A3t.out.2.1
  have A3 := hid (A3t.out.set_ 2 (.string f) ⟨k, (un : Int), f, 0, ⟨#[]⟩, 0, 0, 0⟩ rfl)
  have R3 := hid (R3t.out.far (p := ⟨w.heap.size, 2, none⟩) (by simp) (Nat.le_refl _) (.string f))
  clear A3t R3t
  go_wp2_with fail
  with_reducible refine (has_1 ⟨k, (un : Int), f, 0, ⟨#[]⟩, 0, 0, 0⟩ false _ S1.out A3.out.parts).mono ?_
  rintro e w4 ⟨rfl, hb⟩
  have A4 := hid (A3.out.on hb)
  have R4 := hid (R3.out.on hb)
  clear hb A3 R3
  clear c0 c1 c2 c3 c4 c5 c6 c7 f0 f1 f2 f3 f4 f5 f6 f7
  obtain ⟨⟨c0, c1, c2, c3, c4, c5, c6, c7⟩, f0, f1, f2, f3, f4, f5, f6, f7⟩ := cells8 A4.out.2.1
  go_wp2_with fail
  with_reducible refine (has_2 ⟨k, (un : Int), f, 0, ⟨#[]⟩, 0, 0, 0⟩ false _ S2.out A4.out.parts).mono ?_
  rintro e w5 ⟨rfl, hb⟩
  have A5 := hid (A4.out.on hb)
  have R5 := hid (R4.out.on hb)
  clear hb A4 R4
  clear c0 c1 c2 c3 c4 c5 c6 c7 f0 f1 f2 f3 f4 f5 f6 f7
  obtain ⟨⟨c0, c1, c2, c3, c4, c5, c6, c7⟩, f0, f1, f2, f3, f4, f5, f6, f7⟩ := cells8 A5.out.2.1
  go_wp2_with fail
  with_reducible refine (has_3 ⟨k, (un : Int), f, 0, ⟨#[]⟩, 0, 0, 0⟩ false _ S3.out A5.out.parts).mono ?_
  rintro e w6 ⟨rfl, hb⟩
  have A6 := hid (A5.out.on hb)
  have R6 := hid (R5.out.on hb)
  clear hb A5 R5
  clear c0 c1 c2 c3 c4 c5 c6 c7 f0 f1 f2 f3 f4 f5 f6 f7
  obtain ⟨⟨c0, c1, c2, c3, c4, c5, c6, c7⟩, f0, f1, f2, f3, f4, f5, f6, f7⟩ := cells8 A6.out.2.1
  go_wp2_with fail
  with_reducible refine (has_4 ⟨k, (un : Int), f, 0, ⟨#[]⟩, 0, 0, 0⟩ false _ S4.out A6.out.parts).mono ?_
  rintro e w7 ⟨rfl, hb⟩
  have A7 := hid (A6.out.on hb)
  have R7 := hid (R6.out.on hb)
  clear hb A6 R6
  clear c0 c1 c2 c3 c4 c5 c6 c7 f0 f1 f2 f3 f4 f5 f6 f7
  obtain ⟨⟨c0, c1, c2, c3, c4, c5, c6, c7⟩, f0, f1, f2, f3, f4, f5, f6, f7⟩ := cells8 A7.out.2.1
  go_wp2_with fail
  with_reducible refine (has_5 ⟨k, (un : Int), f, 0, ⟨#[]⟩, 0, 0, 0⟩ true _ S5.out A7.out.parts).mono ?_
  rintro e w8 ⟨rfl, hb⟩
  have A8 := hid (A7.out.on hb)
  have R8 := hid (R7.out.on hb)
  clear hb A7 R7
  clear c0 c1 c2 c3 c4 c5 c6 c7 f0 f1 f2 f3 f4 f5 f6 f7
  obtain ⟨⟨c0, c1, c2, c3, c4, c5, c6, c7⟩, f0, f1, f2, f3, f4, f5, f6, f7⟩ := cells8 A8.out.2.1
  go_wp2_with fail
  with_reducible refine (inshort_any g X2 0 1099511627776 1099511627776 more 0 tn _ A8.out.iat (fine0 _) B2.out (by have := N2.out; omega) rfl D2.out).mono ?_
  rintro en w9 ⟨rfl, hin, hgr⟩
  have A9t := hid (A8.out.turn hin hgr)
  have R9t := hid (R8.out.turn hin hgr)
  clear hin hgr A8 R8
  clear c0 c1 c2 c3 c4 c5 c6 c7 f0 f1 f2 f3 f4 f5 f6 f7
  obtain ⟨⟨c0, c1, c2, c3, c4, c5, c6, c7⟩, f0, f1, f2, f3, f4, f5, f6, f7⟩ := cells8 A9t.out.2.1
  have A9 := hid (A9t.out.set_ 7 (.int .i64 (tn : Int)) ⟨k, (un : Int), f, 0, ⟨#[]⟩, 0, 0, (tn : Int)⟩ rfl)
  have R9 := hid (R9t.out.far (p := ⟨w.heap.size, 7, none⟩) (by simp) (Nat.le_refl _) (.int .i64 (tn : Int)))
  clear A9t R9t
  obtain ⟨⟨d0, d1, d2, d3, d4, d5, d6, d7⟩, g0, g1, g2, g3, g4, g5, g6, g7⟩ := cells8 R9.out.2.1
  have E := hid (R9.out.put ⟨k, (un : Int), f, 0, ⟨#[]⟩, 0, 0, (tn : Int)⟩)
  clear R9 A9
  go_wp2
  refine bodyPost_ret (v := val ⟨k, (un : Int), f, 0, ⟨#[]⟩, 0, 0, (tn : Int)⟩) (by simp [results, Tryd.results37, go_sem, d0, d1, d2, d3, d4, d5, d6, d7]) rfl ⟨rfl, E.out.iat, E.out.grown⟩

end Go.Proofs.YtkfnbjeknekcgaaDoor
