/-
  The contract of the document's Right (moothillref07), kind by kind.
-/
import Derived.Test.YtpdfakjopeldmaaGreatDoorZKHas
namespace Go.Proofs.YtpdfakjopeldmaaGreatDoor
open Go.ChangeShapes Go.WideShapes Go.ChangeAt Go.RowKit Go.Lib
set_option linter.unusedSimpArgs false
set_option linter.unusedVariables false

set_option maxRecDepth 100000 in
set_option maxHeartbeats 8000000 in
theorem ref_0 (u : Int) (f : ByteArray) (q : Int) (s : ByteArray) (m n t : Int) (w : World) (hf : f.size ≤ 900) (hp : s.size ≤ 900) (o1 : 0 ≤ q) (o2 : 0 ≤ n) :
    Calls Tryz.prog 66 #[val ⟨0, u, f, q, s, m, n, t⟩] w fun e w' => e = .returned (.bool (docK ⟨0, u, f, q, s, m, n, t⟩)) ∧ Below w.heap.size w w' := by
  have S0 : Hid (h0 0 = false) := hid rfl
  have S1 : Hid (h1 0 = false) := hid rfl
  have S2 : Hid (h2 0 = false) := hid rfl
  have S3 : Hid (h3 0 = false) := hid rfl
  have S4 : Hid (h4 0 = false) := hid rfl
  have S5 : Hid (h5 0 = false) := hid rfl
  have SK : Hid (isK 0 = true) := hid rfl
  obtain ⟨x0, hx0⟩ : ∃ x, right (L f) = x := ⟨_, rfl⟩
  obtain ⟨x2, hx2⟩ : ∃ x, right (L s) = x := ⟨_, rfl⟩
  have X0 := hid hx0
  have X2 := hid hx2
  clear hx0 hx2
  have A0 : Hid (BoxedC w (w.alloc (.cells (cellsOf ⟨0, u, f, q, s, m, n, t⟩) 69)) w.heap.size ⟨0, u, f, q, s, m, n, t⟩) := hid (BoxedC.start w ⟨0, u, f, q, s, m, n, t⟩)
  go_enter Tryz.func66, Tryz.ntmps66
  obtain ⟨⟨c0, c1, c2, c3, c4, c5, c6, c7⟩, f0, f1, f2, f3, f4, f5, f6, f7⟩ := cells8 A0.out.1
  go_wp2_with fail
  rename_i Kr hKr
  have key0 : ∀ (W : World) (h : Nat), Hid (BoxedC w W w.heap.size ⟨0, u, f, q, s, m, n, t⟩) → Hid (RowAt7 W h false false false false false false) → Kr ⟨#[val ⟨0, u, f, q, s, m, n, t⟩, .pointer (some ⟨w.heap.size, 0, none⟩), .bool false, .pointer (some ⟨h, 0, none⟩), .pointer (some ⟨w.heap.size, 0, none⟩), .int .i64 0, .bool false, .bool false, .pointer (some ⟨w.heap.size, 0, none⟩), .int .i64 0, .bool false, .bool false, .agg hasCells, .pointer (some ⟨w.heap.size, 0, none⟩), .int .i64 0, .agg #[.bool false, .bool false, .bool false, .bool false, .bool false, .bool false], undef, undef, undef, undef, undef, undef, undef, undef, undef, undef, undef, undef, undef, undef, undef, undef, undef, undef, undef, undef, undef, undef, undef, undef, undef, undef, undef, undef, undef, undef, undef, undef, undef, undef, undef, undef, undef, undef, undef, undef, undef, undef, undef, undef, undef, undef, undef, undef, undef, undef, undef, undef, undef, undef, undef, undef, undef, undef, undef, undef, undef, undef, undef, undef, undef, undef, undef, undef, undef, undef, undef, undef, undef, undef, undef, undef, undef, undef, undef, undef, undef, undef, undef, undef, undef, undef, undef, undef, undef, undef, undef, undef, undef, undef, undef, undef, undef, undef, undef, undef, undef, undef, undef, undef, undef, undef, undef, undef, undef, undef, undef, undef, undef, undef, undef, undef, undef, undef, undef, undef, undef, undef, undef, undef, undef, undef, undef, undef, undef, undef, undef, undef, undef, undef, undef, undef, undef, undef, undef, undef, undef, undef], []⟩ W := by
    intro W h A1 R1
    clear A0
    clear c0 c1 c2 c3 c4 c5 c6 c7 f0 f1 f2 f3 f4 f5 f6 f7
    obtain ⟨⟨c0, c1, c2, c3, c4, c5, c6, c7⟩, f0, f1, f2, f3, f4, f5, f6, f7⟩ := cells8 A1.out.1
    obtain ⟨r0, r1, r2, r3, r4, r5⟩ := row7 R1.out
    rcases Decidable.em (u = 0) with z1 | z1
    · have y1 : (u != 0) = false := by rw [z1]; rfl
      have Z1 := hid z1
      clear z1
      rcases Decidable.em (L f = []) with z2 | z2
      · have y2 : f.toList.isEmpty = true := by rw [toList_L, z2]; rfl
        have y2b : f.toList = [] := by rw [toList_L, z2]
        have Z2 := hid z2
        clear z2
        rcases Decidable.em (q = 0) with z3 | z3
        · have y3 : (q != 0) = false := by rw [z3]; rfl
          have Z3 := hid z3
          clear z3
          rcases Decidable.em (L s = []) with z4 | z4
          · have y4 : s.toList.isEmpty = true := by rw [toList_L, z4]; rfl
            have y4b : s.toList = [] := by rw [toList_L, z4]
            have Z4 := hid z4
            clear z4
            rcases Decidable.em (m = 0) with z5 | z5
            · have y5 : (m != 0) = false := by rw [z5]; rfl
              have Z5 := hid z5
              clear z5
              rcases Decidable.em (n = 0) with z6 | z6
              · have y6 : (n != 0) = false := by rw [z6]; rfl
                have Z6 := hid z6
                clear z6
                rcases Decidable.em (t = 0) with z7 | z7
                · have y7 : (t != 0) = false := by rw [z7]; rfl
                  have yt1 : 0 ≤ t := by omega
                  have yt2 : t ≤ 1099511627776 := by omega
                  have Z7 := hid z7
                  clear z7
                  have E : docK ⟨0, u, f, q, s, m, n, t⟩ = true := by simp [docK, lacks, SK.out, S0.out, S1.out, S2.out, S3.out, S4.out, S5.out, X0.out, X2.out, Z1.out, Z2.out, Z3.out, Z4.out, Z5.out, Z6.out, Z7.out] <;> omega
                  have HE := hid E
                  clear E
                  go_wp2
                  go_ret
                  exact ⟨ret_bool (by first | exact HE.out.symm | (rw [HE.out]; simp; omega)), A1.out.below⟩
                · have y7 : (t != 0) = true := bne_iff_ne.2 z7
                  have E : docK ⟨0, u, f, q, s, m, n, t⟩ = false := by simp [docK, lacks, SK.out, S0.out, S1.out, S2.out, S3.out, S4.out, S5.out, X0.out, X2.out, Z1.out, Z2.out, Z3.out, Z4.out, Z5.out, Z6.out, z7] <;> omega
                  have HE := hid E
                  clear E
                  go_wp2
                  go_ret
                  exact ⟨ret_bool (by first | exact HE.out.symm | (rw [HE.out]; simp; omega)), A1.out.below⟩
              · have y6 : (n != 0) = true := bne_iff_ne.2 z6
                have E : docK ⟨0, u, f, q, s, m, n, t⟩ = false := by simp [docK, lacks, SK.out, S0.out, S1.out, S2.out, S3.out, S4.out, S5.out, X0.out, X2.out, Z1.out, Z2.out, Z3.out, Z4.out, Z5.out, z6] <;> omega
                have HE := hid E
                clear E
                go_wp2
                go_ret
                exact ⟨ret_bool (by first | exact HE.out.symm | (rw [HE.out]; simp; omega)), A1.out.below⟩
            · have y5 : (m != 0) = true := bne_iff_ne.2 z5
              have E : docK ⟨0, u, f, q, s, m, n, t⟩ = false := by simp [docK, lacks, SK.out, S0.out, S1.out, S2.out, S3.out, S4.out, S5.out, X0.out, X2.out, Z1.out, Z2.out, Z3.out, Z4.out, z5] <;> omega
              have HE := hid E
              clear E
              go_wp2
              go_ret
              exact ⟨ret_bool (by first | exact HE.out.symm | (rw [HE.out]; simp; omega)), A1.out.below⟩
          · have y4 : s.toList.isEmpty = false := (not_empty (l := L s) rfl z4).1
            have y4b : ¬ s.toList = [] := (not_empty (l := L s) rfl z4).2
            have E : docK ⟨0, u, f, q, s, m, n, t⟩ = false := by simp [docK, lacks, SK.out, S0.out, S1.out, S2.out, S3.out, S4.out, S5.out, X0.out, X2.out, Z1.out, Z2.out, Z3.out, z4] <;> omega
            have HE := hid E
            clear E
            go_wp2
            go_ret
            exact ⟨ret_bool (by first | exact HE.out.symm | (rw [HE.out]; simp; omega)), A1.out.below⟩
        · have y3 : (q != 0) = true := bne_iff_ne.2 z3
          have E : docK ⟨0, u, f, q, s, m, n, t⟩ = false := by simp [docK, lacks, SK.out, S0.out, S1.out, S2.out, S3.out, S4.out, S5.out, X0.out, X2.out, Z1.out, Z2.out, z3] <;> omega
          have HE := hid E
          clear E
          go_wp2
          go_ret
          exact ⟨ret_bool (by first | exact HE.out.symm | (rw [HE.out]; simp; omega)), A1.out.below⟩
      · have y2 : f.toList.isEmpty = false := (not_empty (l := L f) rfl z2).1
        have y2b : ¬ f.toList = [] := (not_empty (l := L f) rfl z2).2
        have E : docK ⟨0, u, f, q, s, m, n, t⟩ = false := by simp [docK, lacks, SK.out, S0.out, S1.out, S2.out, S3.out, S4.out, S5.out, X0.out, X2.out, Z1.out, z2] <;> omega
        have HE := hid E
        clear E
        go_wp2
        go_ret
        exact ⟨ret_bool (by first | exact HE.out.symm | (rw [HE.out]; simp; omega)), A1.out.below⟩
    · have y1 : (u != 0) = true := bne_iff_ne.2 z1
      have E : docK ⟨0, u, f, q, s, m, n, t⟩ = false := by simp [docK, lacks, SK.out, S0.out, S1.out, S2.out, S3.out, S4.out, S5.out, X0.out, X2.out, z1] <;> omega
      have HE := hid E
      clear E
      go_wp2
      go_ret
      exact ⟨ret_bool (by first | exact HE.out.symm | (rw [HE.out]; simp; omega)), A1.out.below⟩
  have key := hid key0
  clear key0 hKr
  obtain ⟨W0, hW0⟩ : ∃ W0, w.alloc (.cells #[.int .i64 0, .int .u64 u, .string f, .int .u64 q, .string s, .int .i64 m, .int .u64 n, .int .i64 t] 69) = W0 := ⟨_, rfl⟩
  have B0 : Hid (BoxedC w W0 w.heap.size ⟨0, u, f, q, s, m, n, t⟩) := hid (by rw [← hW0]; exact A0.out)
  rw [hW0] at c0 c1 c2 c3 c4 c5 c6 c7 f0 f1 f2 f3 f4 f5 f6 f7 ⊢
  have hsz : Hid (w.heap.size < W0.heap.size) := hid B0.out.lt
  clear A0 hW0
  have IX := has_ix0
  go_region_held3 (fun w' => w'.cell? ⟨w.heap.size, 0, none⟩ = some (.int .i64 0))
    (first | with_reducible exact BoxedC.kind (BoxedC.drew B0.out) | with_reducible exact BoxedC.kind (BoxedC.drew (BoxedC.alloc B0.out _)) | with_reducible exact BoxedC.kind A1.out | with_reducible exact BoxedC.kind (BoxedC.alloc A1.out _) | with_reducible exact BoxedC.kind (BoxedC.row (BoxedC.alloc A1.out _) (Nat.ne_of_lt (BoxedC.lt A1.out)) (Nat.le_of_lt (BoxedC.lt A1.out)) _ _ _ _ _ _) | with_reducible exact BoxedC.kind (BoxedC.row A1.out (Nat.ne_of_lt hsz.out) (Nat.le_of_lt hsz.out) _ _ _ _ _ _))
    (first
      | (go_at_call 67; (with_reducible refine (has_ref _).mono ?_); rintro e w1 ⟨rfl, hb1⟩; have A1 := hid (BoxedC.on (BoxedC.drew B0.out) hb1))
      | (go_at_call 67; (with_reducible refine (has_ref _).mono ?_); rintro e w1 ⟨rfl, hb1⟩; have A1 := hid (BoxedC.on (BoxedC.drew (BoxedC.alloc B0.out _)) hb1); have R1 := hid (row_first hb1); obtain ⟨q0, q1, q2, q3, q4, q5⟩ := row7 R1.out; obtain ⟨v0, v1, v2, v3, v4, v5⟩ := rowf7 R1.out))
  all_goals change Kr _ _
  all_goals with_reducible refine key.out _ _ ?_ ?_
  · exact hid (A1.out.alloc _)
  · exact hid (Blk.new w1 116 #[.bool false, .bool false, .bool false, .bool false, .bool false, .bool false])
  · exact hid (A1.out.alloc _)
  · exact hid (Blk.new w1 116 #[.bool false, .bool false, .bool false, .bool false, .bool false, .bool false])
  · exact hid (A1.out.row (Nat.ne_of_lt hsz.out) (Nat.le_of_lt hsz.out) _ _ _ _ _ _)
  · exact hid (row7_put R1.out)

set_option maxRecDepth 100000 in
set_option maxHeartbeats 8000000 in
theorem ref_1 (u : Int) (f : ByteArray) (q : Int) (s : ByteArray) (m n t : Int) (w : World) (hf : f.size ≤ 900) (hp : s.size ≤ 900) (o1 : 0 ≤ q) (o2 : 0 ≤ n) :
    Calls Tryz.prog 66 #[val ⟨1, u, f, q, s, m, n, t⟩] w fun e w' => e = .returned (.bool (docK ⟨1, u, f, q, s, m, n, t⟩)) ∧ Below w.heap.size w w' := by
  have S0 : Hid (h0 1 = true) := hid rfl
  have S1 : Hid (h1 1 = true) := hid rfl
  have S2 : Hid (h2 1 = false) := hid rfl
  have S3 : Hid (h3 1 = false) := hid rfl
  have S4 : Hid (h4 1 = true) := hid rfl
  have S5 : Hid (h5 1 = true) := hid rfl
  have SK : Hid (isK 1 = true) := hid rfl
  obtain ⟨x0, hx0⟩ : ∃ x, right (L f) = x := ⟨_, rfl⟩
  obtain ⟨x2, hx2⟩ : ∃ x, right (L s) = x := ⟨_, rfl⟩
  have X0 := hid hx0
  have X2 := hid hx2
  clear hx0 hx2
  have A0 : Hid (BoxedC w (w.alloc (.cells (cellsOf ⟨1, u, f, q, s, m, n, t⟩) 69)) w.heap.size ⟨1, u, f, q, s, m, n, t⟩) := hid (BoxedC.start w ⟨1, u, f, q, s, m, n, t⟩)
  go_enter Tryz.func66, Tryz.ntmps66
  obtain ⟨⟨c0, c1, c2, c3, c4, c5, c6, c7⟩, f0, f1, f2, f3, f4, f5, f6, f7⟩ := cells8 A0.out.1
  go_wp2_with fail
  rename_i Kr hKr
  have key0 : ∀ (W : World) (h : Nat), Hid (BoxedC w W w.heap.size ⟨1, u, f, q, s, m, n, t⟩) → Hid (RowAt7 W h true true false false true true) → Kr ⟨#[val ⟨1, u, f, q, s, m, n, t⟩, .pointer (some ⟨w.heap.size, 0, none⟩), .bool false, .pointer (some ⟨h, 0, none⟩), .pointer (some ⟨w.heap.size, 0, none⟩), .int .i64 1, .bool false, .bool false, .pointer (some ⟨w.heap.size, 0, none⟩), .int .i64 1, .bool false, .bool false, .agg hasCells, .pointer (some ⟨w.heap.size, 0, none⟩), .int .i64 1, .agg #[.bool true, .bool true, .bool false, .bool false, .bool true, .bool true], undef, undef, undef, undef, undef, undef, undef, undef, undef, undef, undef, undef, undef, undef, undef, undef, undef, undef, undef, undef, undef, undef, undef, undef, undef, undef, undef, undef, undef, undef, undef, undef, undef, undef, undef, undef, undef, undef, undef, undef, undef, undef, undef, undef, undef, undef, undef, undef, undef, undef, undef, undef, undef, undef, undef, undef, undef, undef, undef, undef, undef, undef, undef, undef, undef, undef, undef, undef, undef, undef, undef, undef, undef, undef, undef, undef, undef, undef, undef, undef, undef, undef, undef, undef, undef, undef, undef, undef, undef, undef, undef, undef, undef, undef, undef, undef, undef, undef, undef, undef, undef, undef, undef, undef, undef, undef, undef, undef, undef, undef, undef, undef, undef, undef, undef, undef, undef, undef, undef, undef, undef, undef, undef, undef, undef, undef, undef, undef, undef, undef, undef, undef, undef, undef, undef, undef, undef, undef, undef, undef, undef, undef], []⟩ W := by
    intro W h A1 R1
    clear A0
    clear c0 c1 c2 c3 c4 c5 c6 c7 f0 f1 f2 f3 f4 f5 f6 f7
    obtain ⟨⟨c0, c1, c2, c3, c4, c5, c6, c7⟩, f0, f1, f2, f3, f4, f5, f6, f7⟩ := cells8 A1.out.1
    obtain ⟨r0, r1, r2, r3, r4, r5⟩ := row7 R1.out
    rcases Decidable.em (L s = []) with z1 | z1
    · have y1 : s.toList.isEmpty = true := by rw [toList_L, z1]; rfl
      have y1b : s.toList = [] := by rw [toList_L, z1]
      have Z1 := hid z1
      clear z1
      rcases Decidable.em (m = 0) with z2 | z2
      · have y2 : (m != 0) = false := by rw [z2]; rfl
        have Z2 := hid z2
        clear z2
        cases x0
        · go_wp2_with fail
          with_reducible refine (refright_any f _ hf).mono ?_
          rw [X0.out]
          rintro e w13 ⟨rfl, hb⟩
          have A13 := hid (A1.out.on hb)
          have R13 : Hid (RowAt7 w13 h true true false false true true) := hid (Blk.below R1.out hb (Blk.lt R1.out))
          clear hb A1 R1 r0 r1 r2 r3 r4 r5
          clear c0 c1 c2 c3 c4 c5 c6 c7 f0 f1 f2 f3 f4 f5 f6 f7
          obtain ⟨⟨c0, c1, c2, c3, c4, c5, c6, c7⟩, f0, f1, f2, f3, f4, f5, f6, f7⟩ := cells8 A13.out.1
          obtain ⟨r0, r1, r2, r3, r4, r5⟩ := row7 R13.out
          have E : docK ⟨1, u, f, q, s, m, n, t⟩ = false := by simp [docK, lacks, SK.out, S0.out, S1.out, S2.out, S3.out, S4.out, S5.out, X0.out, X2.out, Z1.out, Z2.out] <;> omega
          have HE := hid E
          clear E
          go_wp2
          go_ret
          exact ⟨ret_bool (by first | exact HE.out.symm | (rw [HE.out]; simp; omega)), A13.out.below⟩
        · go_wp2_with fail
          with_reducible refine (refright_any f _ hf).mono ?_
          rw [X0.out]
          rintro e w13 ⟨rfl, hb⟩
          have A13 := hid (A1.out.on hb)
          have R13 : Hid (RowAt7 w13 h true true false false true true) := hid (Blk.below R1.out hb (Blk.lt R1.out))
          clear hb A1 R1 r0 r1 r2 r3 r4 r5
          clear c0 c1 c2 c3 c4 c5 c6 c7 f0 f1 f2 f3 f4 f5 f6 f7
          obtain ⟨⟨c0, c1, c2, c3, c4, c5, c6, c7⟩, f0, f1, f2, f3, f4, f5, f6, f7⟩ := cells8 A13.out.1
          obtain ⟨r0, r1, r2, r3, r4, r5⟩ := row7 R13.out
          rcases Decidable.em (q = 0) with z4 | z4
          · have y4 : (q == 0) = true := by rw [z4]; rfl
            have E : docK ⟨1, u, f, q, s, m, n, t⟩ = false := by simp [docK, lacks, SK.out, S0.out, S1.out, S2.out, S3.out, S4.out, S5.out, X0.out, X2.out, Z1.out, Z2.out, z4] <;> omega
            have HE := hid E
            clear E
            go_wp2
            go_ret
            exact ⟨ret_bool (by first | exact HE.out.symm | (rw [HE.out]; simp; omega)), A13.out.below⟩
          · have y4 : (q == 0) = false := beq_eq_false_iff_ne.2 z4
            rcases Decidable.em (n = 0) with z5 | z5
            · have y5 : (n == 0) = true := by rw [z5]; rfl
              have E : docK ⟨1, u, f, q, s, m, n, t⟩ = false := by simp [docK, lacks, SK.out, S0.out, S1.out, S2.out, S3.out, S4.out, S5.out, X0.out, X2.out, Z1.out, Z2.out, z4, z5] <;> omega
              have HE := hid E
              clear E
              go_wp2
              go_ret
              exact ⟨ret_bool (by first | exact HE.out.symm | (rw [HE.out]; simp; omega)), A13.out.below⟩
            · have y5 : (n == 0) = false := beq_eq_false_iff_ne.2 z5
              rcases Decidable.em (1048576 < n) with z6 | z6
              · have y6 := z6
                have E : docK ⟨1, u, f, q, s, m, n, t⟩ = false := by simp [docK, lacks, SK.out, S0.out, S1.out, S2.out, S3.out, S4.out, S5.out, X0.out, X2.out, Z1.out, Z2.out, z4, z5] <;> omega
                have HE := hid E
                clear E
                go_wp2
                go_ret
                exact ⟨ret_bool (by first | exact HE.out.symm | (rw [HE.out]; simp; omega)), A13.out.below⟩
              · have y6 := z6
                have y6b : ¬ (9223372036854775807 < n) := by omega
                rcases Decidable.em (0 ≤ t) with z7 | z7
                · rcases Decidable.em (t ≤ 1099511627776) with z7b | z7b
                  · have y7 := z7
                    have E : docK ⟨1, u, f, q, s, m, n, t⟩ = true := by simp [docK, lacks, SK.out, S0.out, S1.out, S2.out, S3.out, S4.out, S5.out, X0.out, X2.out, Z1.out, Z2.out, z4, z5] <;> omega
                    have HE := hid E
                    clear E
                    go_wp2
                    go_ret
                    exact ⟨ret_bool (by first | exact HE.out.symm | (rw [HE.out]; simp; omega)), A13.out.below⟩
                  · have y7 := z7
                    have E : docK ⟨1, u, f, q, s, m, n, t⟩ = false := by simp [docK, lacks, SK.out, S0.out, S1.out, S2.out, S3.out, S4.out, S5.out, X0.out, X2.out, Z1.out, Z2.out, z4, z5] <;> omega
                    have HE := hid E
                    clear E
                    go_wp2
                    go_ret
                    exact ⟨ret_bool (by first | exact HE.out.symm | (rw [HE.out]; simp; omega)), A13.out.below⟩
                · have y7 := z7
                  have E : docK ⟨1, u, f, q, s, m, n, t⟩ = false := by simp [docK, lacks, SK.out, S0.out, S1.out, S2.out, S3.out, S4.out, S5.out, X0.out, X2.out, Z1.out, Z2.out, z4, z5] <;> omega
                  have HE := hid E
                  clear E
                  go_wp2
                  go_ret
                  exact ⟨ret_bool (by first | exact HE.out.symm | (rw [HE.out]; simp; omega)), A13.out.below⟩
      · have y2 : (m != 0) = true := bne_iff_ne.2 z2
        have E : docK ⟨1, u, f, q, s, m, n, t⟩ = false := by simp [docK, lacks, SK.out, S0.out, S1.out, S2.out, S3.out, S4.out, S5.out, X0.out, X2.out, Z1.out, z2] <;> omega
        have HE := hid E
        clear E
        go_wp2
        go_ret
        exact ⟨ret_bool (by first | exact HE.out.symm | (rw [HE.out]; simp; omega)), A1.out.below⟩
    · have y1 : s.toList.isEmpty = false := (not_empty (l := L s) rfl z1).1
      have y1b : ¬ s.toList = [] := (not_empty (l := L s) rfl z1).2
      have E : docK ⟨1, u, f, q, s, m, n, t⟩ = false := by simp [docK, lacks, SK.out, S0.out, S1.out, S2.out, S3.out, S4.out, S5.out, X0.out, X2.out, z1] <;> omega
      have HE := hid E
      clear E
      go_wp2
      go_ret
      exact ⟨ret_bool (by first | exact HE.out.symm | (rw [HE.out]; simp; omega)), A1.out.below⟩
  have key := hid key0
  clear key0 hKr
  obtain ⟨W0, hW0⟩ : ∃ W0, w.alloc (.cells #[.int .i64 1, .int .u64 u, .string f, .int .u64 q, .string s, .int .i64 m, .int .u64 n, .int .i64 t] 69) = W0 := ⟨_, rfl⟩
  have B0 : Hid (BoxedC w W0 w.heap.size ⟨1, u, f, q, s, m, n, t⟩) := hid (by rw [← hW0]; exact A0.out)
  rw [hW0] at c0 c1 c2 c3 c4 c5 c6 c7 f0 f1 f2 f3 f4 f5 f6 f7 ⊢
  have hsz : Hid (w.heap.size < W0.heap.size) := hid B0.out.lt
  clear A0 hW0
  have IX := has_ix1
  go_region_held3 (fun w' => w'.cell? ⟨w.heap.size, 0, none⟩ = some (.int .i64 1))
    (first | with_reducible exact BoxedC.kind (BoxedC.drew B0.out) | with_reducible exact BoxedC.kind (BoxedC.drew (BoxedC.alloc B0.out _)) | with_reducible exact BoxedC.kind A1.out | with_reducible exact BoxedC.kind (BoxedC.alloc A1.out _) | with_reducible exact BoxedC.kind (BoxedC.row (BoxedC.alloc A1.out _) (Nat.ne_of_lt (BoxedC.lt A1.out)) (Nat.le_of_lt (BoxedC.lt A1.out)) _ _ _ _ _ _) | with_reducible exact BoxedC.kind (BoxedC.row A1.out (Nat.ne_of_lt hsz.out) (Nat.le_of_lt hsz.out) _ _ _ _ _ _))
    (first
      | (go_at_call 67; (with_reducible refine (has_ref _).mono ?_); rintro e w1 ⟨rfl, hb1⟩; have A1 := hid (BoxedC.on (BoxedC.drew B0.out) hb1))
      | (go_at_call 67; (with_reducible refine (has_ref _).mono ?_); rintro e w1 ⟨rfl, hb1⟩; have A1 := hid (BoxedC.on (BoxedC.drew (BoxedC.alloc B0.out _)) hb1); have R1 := hid (row_first hb1); obtain ⟨q0, q1, q2, q3, q4, q5⟩ := row7 R1.out; obtain ⟨v0, v1, v2, v3, v4, v5⟩ := rowf7 R1.out))
  all_goals change Kr _ _
  all_goals with_reducible refine key.out _ _ ?_ ?_
  · exact hid (A1.out.alloc _)
  · exact hid (Blk.new w1 116 #[.bool true, .bool true, .bool false, .bool false, .bool true, .bool true])
  · exact hid (A1.out.alloc _)
  · exact hid (Blk.new w1 116 #[.bool true, .bool true, .bool false, .bool false, .bool true, .bool true])
  · exact hid (A1.out.row (Nat.ne_of_lt hsz.out) (Nat.le_of_lt hsz.out) _ _ _ _ _ _)
  · exact hid (row7_put R1.out)

set_option maxRecDepth 100000 in
set_option maxHeartbeats 8000000 in
theorem ref_2 (u : Int) (f : ByteArray) (q : Int) (s : ByteArray) (m n t : Int) (w : World) (hf : f.size ≤ 900) (hp : s.size ≤ 900) (o1 : 0 ≤ q) (o2 : 0 ≤ n) :
    Calls Tryz.prog 66 #[val ⟨2, u, f, q, s, m, n, t⟩] w fun e w' => e = .returned (.bool (docK ⟨2, u, f, q, s, m, n, t⟩)) ∧ Below w.heap.size w w' := by
  have S0 : Hid (h0 2 = true) := hid rfl
  have S1 : Hid (h1 2 = true) := hid rfl
  have S2 : Hid (h2 2 = false) := hid rfl
  have S3 : Hid (h3 2 = false) := hid rfl
  have S4 : Hid (h4 2 = false) := hid rfl
  have S5 : Hid (h5 2 = false) := hid rfl
  have SK : Hid (isK 2 = true) := hid rfl
  obtain ⟨x0, hx0⟩ : ∃ x, right (L f) = x := ⟨_, rfl⟩
  obtain ⟨x2, hx2⟩ : ∃ x, right (L s) = x := ⟨_, rfl⟩
  have X0 := hid hx0
  have X2 := hid hx2
  clear hx0 hx2
  have A0 : Hid (BoxedC w (w.alloc (.cells (cellsOf ⟨2, u, f, q, s, m, n, t⟩) 69)) w.heap.size ⟨2, u, f, q, s, m, n, t⟩) := hid (BoxedC.start w ⟨2, u, f, q, s, m, n, t⟩)
  go_enter Tryz.func66, Tryz.ntmps66
  obtain ⟨⟨c0, c1, c2, c3, c4, c5, c6, c7⟩, f0, f1, f2, f3, f4, f5, f6, f7⟩ := cells8 A0.out.1
  go_wp2_with fail
  rename_i Kr hKr
  have key0 : ∀ (W : World) (h : Nat), Hid (BoxedC w W w.heap.size ⟨2, u, f, q, s, m, n, t⟩) → Hid (RowAt7 W h true true false false false false) → Kr ⟨#[val ⟨2, u, f, q, s, m, n, t⟩, .pointer (some ⟨w.heap.size, 0, none⟩), .bool false, .pointer (some ⟨h, 0, none⟩), .pointer (some ⟨w.heap.size, 0, none⟩), .int .i64 2, .bool false, .bool false, .pointer (some ⟨w.heap.size, 0, none⟩), .int .i64 2, .bool false, .bool false, .agg hasCells, .pointer (some ⟨w.heap.size, 0, none⟩), .int .i64 2, .agg #[.bool true, .bool true, .bool false, .bool false, .bool false, .bool false], undef, undef, undef, undef, undef, undef, undef, undef, undef, undef, undef, undef, undef, undef, undef, undef, undef, undef, undef, undef, undef, undef, undef, undef, undef, undef, undef, undef, undef, undef, undef, undef, undef, undef, undef, undef, undef, undef, undef, undef, undef, undef, undef, undef, undef, undef, undef, undef, undef, undef, undef, undef, undef, undef, undef, undef, undef, undef, undef, undef, undef, undef, undef, undef, undef, undef, undef, undef, undef, undef, undef, undef, undef, undef, undef, undef, undef, undef, undef, undef, undef, undef, undef, undef, undef, undef, undef, undef, undef, undef, undef, undef, undef, undef, undef, undef, undef, undef, undef, undef, undef, undef, undef, undef, undef, undef, undef, undef, undef, undef, undef, undef, undef, undef, undef, undef, undef, undef, undef, undef, undef, undef, undef, undef, undef, undef, undef, undef, undef, undef, undef, undef, undef, undef, undef, undef, undef, undef, undef, undef, undef, undef], []⟩ W := by
    intro W h A1 R1
    clear A0
    clear c0 c1 c2 c3 c4 c5 c6 c7 f0 f1 f2 f3 f4 f5 f6 f7
    obtain ⟨⟨c0, c1, c2, c3, c4, c5, c6, c7⟩, f0, f1, f2, f3, f4, f5, f6, f7⟩ := cells8 A1.out.1
    obtain ⟨r0, r1, r2, r3, r4, r5⟩ := row7 R1.out
    rcases Decidable.em (L s = []) with z1 | z1
    · have y1 : s.toList.isEmpty = true := by rw [toList_L, z1]; rfl
      have y1b : s.toList = [] := by rw [toList_L, z1]
      have Z1 := hid z1
      clear z1
      rcases Decidable.em (m = 0) with z2 | z2
      · have y2 : (m != 0) = false := by rw [z2]; rfl
        have Z2 := hid z2
        clear z2
        rcases Decidable.em (n = 0) with z3 | z3
        · have y3 : (n != 0) = false := by rw [z3]; rfl
          have Z3 := hid z3
          clear z3
          rcases Decidable.em (t = 0) with z4 | z4
          · have y4 : (t != 0) = false := by rw [z4]; rfl
            have yt1 : 0 ≤ t := by omega
            have yt2 : t ≤ 1099511627776 := by omega
            have Z4 := hid z4
            clear z4
            cases x0
            · go_wp2_with fail
              with_reducible refine (refright_any f _ hf).mono ?_
              rw [X0.out]
              rintro e w15 ⟨rfl, hb⟩
              have A15 := hid (A1.out.on hb)
              have R15 : Hid (RowAt7 w15 h true true false false false false) := hid (Blk.below R1.out hb (Blk.lt R1.out))
              clear hb A1 R1 r0 r1 r2 r3 r4 r5
              clear c0 c1 c2 c3 c4 c5 c6 c7 f0 f1 f2 f3 f4 f5 f6 f7
              obtain ⟨⟨c0, c1, c2, c3, c4, c5, c6, c7⟩, f0, f1, f2, f3, f4, f5, f6, f7⟩ := cells8 A15.out.1
              obtain ⟨r0, r1, r2, r3, r4, r5⟩ := row7 R15.out
              have E : docK ⟨2, u, f, q, s, m, n, t⟩ = false := by simp [docK, lacks, SK.out, S0.out, S1.out, S2.out, S3.out, S4.out, S5.out, X0.out, X2.out, Z1.out, Z2.out, Z3.out, Z4.out] <;> omega
              have HE := hid E
              clear E
              go_wp2
              go_ret
              exact ⟨ret_bool (by first | exact HE.out.symm | (rw [HE.out]; simp; omega)), A15.out.below⟩
            · go_wp2_with fail
              with_reducible refine (refright_any f _ hf).mono ?_
              rw [X0.out]
              rintro e w15 ⟨rfl, hb⟩
              have A15 := hid (A1.out.on hb)
              have R15 : Hid (RowAt7 w15 h true true false false false false) := hid (Blk.below R1.out hb (Blk.lt R1.out))
              clear hb A1 R1 r0 r1 r2 r3 r4 r5
              clear c0 c1 c2 c3 c4 c5 c6 c7 f0 f1 f2 f3 f4 f5 f6 f7
              obtain ⟨⟨c0, c1, c2, c3, c4, c5, c6, c7⟩, f0, f1, f2, f3, f4, f5, f6, f7⟩ := cells8 A15.out.1
              obtain ⟨r0, r1, r2, r3, r4, r5⟩ := row7 R15.out
              rcases Decidable.em (q = 0) with z6 | z6
              · have y6 : (q == 0) = true := by rw [z6]; rfl
                have E : docK ⟨2, u, f, q, s, m, n, t⟩ = false := by simp [docK, lacks, SK.out, S0.out, S1.out, S2.out, S3.out, S4.out, S5.out, X0.out, X2.out, Z1.out, Z2.out, Z3.out, Z4.out, z6] <;> omega
                have HE := hid E
                clear E
                go_wp2
                go_ret
                exact ⟨ret_bool (by first | exact HE.out.symm | (rw [HE.out]; simp; omega)), A15.out.below⟩
              · have y6 : (q == 0) = false := beq_eq_false_iff_ne.2 z6
                have E : docK ⟨2, u, f, q, s, m, n, t⟩ = true := by simp [docK, lacks, SK.out, S0.out, S1.out, S2.out, S3.out, S4.out, S5.out, X0.out, X2.out, Z1.out, Z2.out, Z3.out, Z4.out, z6] <;> omega
                have HE := hid E
                clear E
                go_wp2
                go_ret
                exact ⟨ret_bool (by first | exact HE.out.symm | (rw [HE.out]; simp; omega)), A15.out.below⟩
          · have y4 : (t != 0) = true := bne_iff_ne.2 z4
            have E : docK ⟨2, u, f, q, s, m, n, t⟩ = false := by simp [docK, lacks, SK.out, S0.out, S1.out, S2.out, S3.out, S4.out, S5.out, X0.out, X2.out, Z1.out, Z2.out, Z3.out, z4] <;> omega
            have HE := hid E
            clear E
            go_wp2
            go_ret
            exact ⟨ret_bool (by first | exact HE.out.symm | (rw [HE.out]; simp; omega)), A1.out.below⟩
        · have y3 : (n != 0) = true := bne_iff_ne.2 z3
          have E : docK ⟨2, u, f, q, s, m, n, t⟩ = false := by simp [docK, lacks, SK.out, S0.out, S1.out, S2.out, S3.out, S4.out, S5.out, X0.out, X2.out, Z1.out, Z2.out, z3] <;> omega
          have HE := hid E
          clear E
          go_wp2
          go_ret
          exact ⟨ret_bool (by first | exact HE.out.symm | (rw [HE.out]; simp; omega)), A1.out.below⟩
      · have y2 : (m != 0) = true := bne_iff_ne.2 z2
        have E : docK ⟨2, u, f, q, s, m, n, t⟩ = false := by simp [docK, lacks, SK.out, S0.out, S1.out, S2.out, S3.out, S4.out, S5.out, X0.out, X2.out, Z1.out, z2] <;> omega
        have HE := hid E
        clear E
        go_wp2
        go_ret
        exact ⟨ret_bool (by first | exact HE.out.symm | (rw [HE.out]; simp; omega)), A1.out.below⟩
    · have y1 : s.toList.isEmpty = false := (not_empty (l := L s) rfl z1).1
      have y1b : ¬ s.toList = [] := (not_empty (l := L s) rfl z1).2
      have E : docK ⟨2, u, f, q, s, m, n, t⟩ = false := by simp [docK, lacks, SK.out, S0.out, S1.out, S2.out, S3.out, S4.out, S5.out, X0.out, X2.out, z1] <;> omega
      have HE := hid E
      clear E
      go_wp2
      go_ret
      exact ⟨ret_bool (by first | exact HE.out.symm | (rw [HE.out]; simp; omega)), A1.out.below⟩
  have key := hid key0
  clear key0 hKr
  obtain ⟨W0, hW0⟩ : ∃ W0, w.alloc (.cells #[.int .i64 2, .int .u64 u, .string f, .int .u64 q, .string s, .int .i64 m, .int .u64 n, .int .i64 t] 69) = W0 := ⟨_, rfl⟩
  have B0 : Hid (BoxedC w W0 w.heap.size ⟨2, u, f, q, s, m, n, t⟩) := hid (by rw [← hW0]; exact A0.out)
  rw [hW0] at c0 c1 c2 c3 c4 c5 c6 c7 f0 f1 f2 f3 f4 f5 f6 f7 ⊢
  have hsz : Hid (w.heap.size < W0.heap.size) := hid B0.out.lt
  clear A0 hW0
  have IX := has_ix2
  go_region_held3 (fun w' => w'.cell? ⟨w.heap.size, 0, none⟩ = some (.int .i64 2))
    (first | with_reducible exact BoxedC.kind (BoxedC.drew B0.out) | with_reducible exact BoxedC.kind (BoxedC.drew (BoxedC.alloc B0.out _)) | with_reducible exact BoxedC.kind A1.out | with_reducible exact BoxedC.kind (BoxedC.alloc A1.out _) | with_reducible exact BoxedC.kind (BoxedC.row (BoxedC.alloc A1.out _) (Nat.ne_of_lt (BoxedC.lt A1.out)) (Nat.le_of_lt (BoxedC.lt A1.out)) _ _ _ _ _ _) | with_reducible exact BoxedC.kind (BoxedC.row A1.out (Nat.ne_of_lt hsz.out) (Nat.le_of_lt hsz.out) _ _ _ _ _ _))
    (first
      | (go_at_call 67; (with_reducible refine (has_ref _).mono ?_); rintro e w1 ⟨rfl, hb1⟩; have A1 := hid (BoxedC.on (BoxedC.drew B0.out) hb1))
      | (go_at_call 67; (with_reducible refine (has_ref _).mono ?_); rintro e w1 ⟨rfl, hb1⟩; have A1 := hid (BoxedC.on (BoxedC.drew (BoxedC.alloc B0.out _)) hb1); have R1 := hid (row_first hb1); obtain ⟨q0, q1, q2, q3, q4, q5⟩ := row7 R1.out; obtain ⟨v0, v1, v2, v3, v4, v5⟩ := rowf7 R1.out))
  all_goals change Kr _ _
  all_goals with_reducible refine key.out _ _ ?_ ?_
  · exact hid (A1.out.alloc _)
  · exact hid (Blk.new w1 116 #[.bool true, .bool true, .bool false, .bool false, .bool false, .bool false])
  · exact hid (A1.out.alloc _)
  · exact hid (Blk.new w1 116 #[.bool true, .bool true, .bool false, .bool false, .bool false, .bool false])
  · exact hid (A1.out.row (Nat.ne_of_lt hsz.out) (Nat.le_of_lt hsz.out) _ _ _ _ _ _)
  · exact hid (row7_put R1.out)

end Go.Proofs.YtpdfakjopeldmaaGreatDoor

/-
  The contract of the document's Right (moothillref07), kind by kind.
-/
namespace Go.Proofs.YtpdfakjopeldmaaGreatDoor
open Go.ChangeShapes Go.WideShapes Go.ChangeAt Go.RowKit Go.Lib
set_option linter.unusedSimpArgs false
set_option linter.unusedVariables false

set_option maxRecDepth 100000 in
set_option maxHeartbeats 8000000 in
theorem ref_3 (u : Int) (f : ByteArray) (q : Int) (s : ByteArray) (m n t : Int) (w : World) (hf : f.size ≤ 900) (hp : s.size ≤ 900) (o1 : 0 ≤ q) (o2 : 0 ≤ n) :
    Calls Tryz.prog 66 #[val ⟨3, u, f, q, s, m, n, t⟩] w fun e w' => e = .returned (.bool (docK ⟨3, u, f, q, s, m, n, t⟩)) ∧ Below w.heap.size w w' := by
  have S0 : Hid (h0 3 = true) := hid rfl
  have S1 : Hid (h1 3 = true) := hid rfl
  have S2 : Hid (h2 3 = false) := hid rfl
  have S3 : Hid (h3 3 = false) := hid rfl
  have S4 : Hid (h4 3 = false) := hid rfl
  have S5 : Hid (h5 3 = true) := hid rfl
  have SK : Hid (isK 3 = true) := hid rfl
  obtain ⟨x0, hx0⟩ : ∃ x, right (L f) = x := ⟨_, rfl⟩
  obtain ⟨x2, hx2⟩ : ∃ x, right (L s) = x := ⟨_, rfl⟩
  have X0 := hid hx0
  have X2 := hid hx2
  clear hx0 hx2
  have A0 : Hid (BoxedC w (w.alloc (.cells (cellsOf ⟨3, u, f, q, s, m, n, t⟩) 69)) w.heap.size ⟨3, u, f, q, s, m, n, t⟩) := hid (BoxedC.start w ⟨3, u, f, q, s, m, n, t⟩)
  go_enter Tryz.func66, Tryz.ntmps66
  obtain ⟨⟨c0, c1, c2, c3, c4, c5, c6, c7⟩, f0, f1, f2, f3, f4, f5, f6, f7⟩ := cells8 A0.out.1
  go_wp2_with fail
  rename_i Kr hKr
  have key0 : ∀ (W : World) (h : Nat), Hid (BoxedC w W w.heap.size ⟨3, u, f, q, s, m, n, t⟩) → Hid (RowAt7 W h true true false false false true) → Kr ⟨#[val ⟨3, u, f, q, s, m, n, t⟩, .pointer (some ⟨w.heap.size, 0, none⟩), .bool false, .pointer (some ⟨h, 0, none⟩), .pointer (some ⟨w.heap.size, 0, none⟩), .int .i64 3, .bool false, .bool false, .pointer (some ⟨w.heap.size, 0, none⟩), .int .i64 3, .bool false, .bool false, .agg hasCells, .pointer (some ⟨w.heap.size, 0, none⟩), .int .i64 3, .agg #[.bool true, .bool true, .bool false, .bool false, .bool false, .bool true], undef, undef, undef, undef, undef, undef, undef, undef, undef, undef, undef, undef, undef, undef, undef, undef, undef, undef, undef, undef, undef, undef, undef, undef, undef, undef, undef, undef, undef, undef, undef, undef, undef, undef, undef, undef, undef, undef, undef, undef, undef, undef, undef, undef, undef, undef, undef, undef, undef, undef, undef, undef, undef, undef, undef, undef, undef, undef, undef, undef, undef, undef, undef, undef, undef, undef, undef, undef, undef, undef, undef, undef, undef, undef, undef, undef, undef, undef, undef, undef, undef, undef, undef, undef, undef, undef, undef, undef, undef, undef, undef, undef, undef, undef, undef, undef, undef, undef, undef, undef, undef, undef, undef, undef, undef, undef, undef, undef, undef, undef, undef, undef, undef, undef, undef, undef, undef, undef, undef, undef, undef, undef, undef, undef, undef, undef, undef, undef, undef, undef, undef, undef, undef, undef, undef, undef, undef, undef, undef, undef, undef, undef], []⟩ W := by
    intro W h A1 R1
    clear A0
    clear c0 c1 c2 c3 c4 c5 c6 c7 f0 f1 f2 f3 f4 f5 f6 f7
    obtain ⟨⟨c0, c1, c2, c3, c4, c5, c6, c7⟩, f0, f1, f2, f3, f4, f5, f6, f7⟩ := cells8 A1.out.1
    obtain ⟨r0, r1, r2, r3, r4, r5⟩ := row7 R1.out
    rcases Decidable.em (L s = []) with z1 | z1
    · have y1 : s.toList.isEmpty = true := by rw [toList_L, z1]; rfl
      have y1b : s.toList = [] := by rw [toList_L, z1]
      have Z1 := hid z1
      clear z1
      rcases Decidable.em (m = 0) with z2 | z2
      · have y2 : (m != 0) = false := by rw [z2]; rfl
        have Z2 := hid z2
        clear z2
        rcases Decidable.em (n = 0) with z3 | z3
        · have y3 : (n != 0) = false := by rw [z3]; rfl
          have Z3 := hid z3
          clear z3
          cases x0
          · go_wp2_with fail
            with_reducible refine (refright_any f _ hf).mono ?_
            rw [X0.out]
            rintro e w14 ⟨rfl, hb⟩
            have A14 := hid (A1.out.on hb)
            have R14 : Hid (RowAt7 w14 h true true false false false true) := hid (Blk.below R1.out hb (Blk.lt R1.out))
            clear hb A1 R1 r0 r1 r2 r3 r4 r5
            clear c0 c1 c2 c3 c4 c5 c6 c7 f0 f1 f2 f3 f4 f5 f6 f7
            obtain ⟨⟨c0, c1, c2, c3, c4, c5, c6, c7⟩, f0, f1, f2, f3, f4, f5, f6, f7⟩ := cells8 A14.out.1
            obtain ⟨r0, r1, r2, r3, r4, r5⟩ := row7 R14.out
            have E : docK ⟨3, u, f, q, s, m, n, t⟩ = false := by simp [docK, lacks, SK.out, S0.out, S1.out, S2.out, S3.out, S4.out, S5.out, X0.out, X2.out, Z1.out, Z2.out, Z3.out] <;> omega
            have HE := hid E
            clear E
            go_wp2
            go_ret
            exact ⟨ret_bool (by first | exact HE.out.symm | (rw [HE.out]; simp; omega)), A14.out.below⟩
          · go_wp2_with fail
            with_reducible refine (refright_any f _ hf).mono ?_
            rw [X0.out]
            rintro e w14 ⟨rfl, hb⟩
            have A14 := hid (A1.out.on hb)
            have R14 : Hid (RowAt7 w14 h true true false false false true) := hid (Blk.below R1.out hb (Blk.lt R1.out))
            clear hb A1 R1 r0 r1 r2 r3 r4 r5
            clear c0 c1 c2 c3 c4 c5 c6 c7 f0 f1 f2 f3 f4 f5 f6 f7
            obtain ⟨⟨c0, c1, c2, c3, c4, c5, c6, c7⟩, f0, f1, f2, f3, f4, f5, f6, f7⟩ := cells8 A14.out.1
            obtain ⟨r0, r1, r2, r3, r4, r5⟩ := row7 R14.out
            rcases Decidable.em (q = 0) with z5 | z5
            · have y5 : (q == 0) = true := by rw [z5]; rfl
              have E : docK ⟨3, u, f, q, s, m, n, t⟩ = false := by simp [docK, lacks, SK.out, S0.out, S1.out, S2.out, S3.out, S4.out, S5.out, X0.out, X2.out, Z1.out, Z2.out, Z3.out, z5] <;> omega
              have HE := hid E
              clear E
              go_wp2
              go_ret
              exact ⟨ret_bool (by first | exact HE.out.symm | (rw [HE.out]; simp; omega)), A14.out.below⟩
            · have y5 : (q == 0) = false := beq_eq_false_iff_ne.2 z5
              rcases Decidable.em (0 ≤ t) with z6 | z6
              · rcases Decidable.em (t ≤ 1099511627776) with z6b | z6b
                · have y6 := z6
                  have E : docK ⟨3, u, f, q, s, m, n, t⟩ = true := by simp [docK, lacks, SK.out, S0.out, S1.out, S2.out, S3.out, S4.out, S5.out, X0.out, X2.out, Z1.out, Z2.out, Z3.out, z5] <;> omega
                  have HE := hid E
                  clear E
                  go_wp2
                  go_ret
                  exact ⟨ret_bool (by first | exact HE.out.symm | (rw [HE.out]; simp; omega)), A14.out.below⟩
                · have y6 := z6
                  have E : docK ⟨3, u, f, q, s, m, n, t⟩ = false := by simp [docK, lacks, SK.out, S0.out, S1.out, S2.out, S3.out, S4.out, S5.out, X0.out, X2.out, Z1.out, Z2.out, Z3.out, z5] <;> omega
                  have HE := hid E
                  clear E
                  go_wp2
                  go_ret
                  exact ⟨ret_bool (by first | exact HE.out.symm | (rw [HE.out]; simp; omega)), A14.out.below⟩
              · have y6 := z6
                have E : docK ⟨3, u, f, q, s, m, n, t⟩ = false := by simp [docK, lacks, SK.out, S0.out, S1.out, S2.out, S3.out, S4.out, S5.out, X0.out, X2.out, Z1.out, Z2.out, Z3.out, z5] <;> omega
                have HE := hid E
                clear E
                go_wp2
                go_ret
                exact ⟨ret_bool (by first | exact HE.out.symm | (rw [HE.out]; simp; omega)), A14.out.below⟩
        · have y3 : (n != 0) = true := bne_iff_ne.2 z3
          have E : docK ⟨3, u, f, q, s, m, n, t⟩ = false := by simp [docK, lacks, SK.out, S0.out, S1.out, S2.out, S3.out, S4.out, S5.out, X0.out, X2.out, Z1.out, Z2.out, z3] <;> omega
          have HE := hid E
          clear E
          go_wp2
          go_ret
          exact ⟨ret_bool (by first | exact HE.out.symm | (rw [HE.out]; simp; omega)), A1.out.below⟩
      · have y2 : (m != 0) = true := bne_iff_ne.2 z2
        have E : docK ⟨3, u, f, q, s, m, n, t⟩ = false := by simp [docK, lacks, SK.out, S0.out, S1.out, S2.out, S3.out, S4.out, S5.out, X0.out, X2.out, Z1.out, z2] <;> omega
        have HE := hid E
        clear E
        go_wp2
        go_ret
        exact ⟨ret_bool (by first | exact HE.out.symm | (rw [HE.out]; simp; omega)), A1.out.below⟩
    · have y1 : s.toList.isEmpty = false := (not_empty (l := L s) rfl z1).1
      have y1b : ¬ s.toList = [] := (not_empty (l := L s) rfl z1).2
      have E : docK ⟨3, u, f, q, s, m, n, t⟩ = false := by simp [docK, lacks, SK.out, S0.out, S1.out, S2.out, S3.out, S4.out, S5.out, X0.out, X2.out, z1] <;> omega
      have HE := hid E
      clear E
      go_wp2
      go_ret
      exact ⟨ret_bool (by first | exact HE.out.symm | (rw [HE.out]; simp; omega)), A1.out.below⟩
  have key := hid key0
  clear key0 hKr
  obtain ⟨W0, hW0⟩ : ∃ W0, w.alloc (.cells #[.int .i64 3, .int .u64 u, .string f, .int .u64 q, .string s, .int .i64 m, .int .u64 n, .int .i64 t] 69) = W0 := ⟨_, rfl⟩
  have B0 : Hid (BoxedC w W0 w.heap.size ⟨3, u, f, q, s, m, n, t⟩) := hid (by rw [← hW0]; exact A0.out)
  rw [hW0] at c0 c1 c2 c3 c4 c5 c6 c7 f0 f1 f2 f3 f4 f5 f6 f7 ⊢
  have hsz : Hid (w.heap.size < W0.heap.size) := hid B0.out.lt
  clear A0 hW0
  have IX := has_ix3
  go_region_held3 (fun w' => w'.cell? ⟨w.heap.size, 0, none⟩ = some (.int .i64 3))
    (first | with_reducible exact BoxedC.kind (BoxedC.drew B0.out) | with_reducible exact BoxedC.kind (BoxedC.drew (BoxedC.alloc B0.out _)) | with_reducible exact BoxedC.kind A1.out | with_reducible exact BoxedC.kind (BoxedC.alloc A1.out _) | with_reducible exact BoxedC.kind (BoxedC.row (BoxedC.alloc A1.out _) (Nat.ne_of_lt (BoxedC.lt A1.out)) (Nat.le_of_lt (BoxedC.lt A1.out)) _ _ _ _ _ _) | with_reducible exact BoxedC.kind (BoxedC.row A1.out (Nat.ne_of_lt hsz.out) (Nat.le_of_lt hsz.out) _ _ _ _ _ _))
    (first
      | (go_at_call 67; (with_reducible refine (has_ref _).mono ?_); rintro e w1 ⟨rfl, hb1⟩; have A1 := hid (BoxedC.on (BoxedC.drew B0.out) hb1))
      | (go_at_call 67; (with_reducible refine (has_ref _).mono ?_); rintro e w1 ⟨rfl, hb1⟩; have A1 := hid (BoxedC.on (BoxedC.drew (BoxedC.alloc B0.out _)) hb1); have R1 := hid (row_first hb1); obtain ⟨q0, q1, q2, q3, q4, q5⟩ := row7 R1.out; obtain ⟨v0, v1, v2, v3, v4, v5⟩ := rowf7 R1.out))
  all_goals change Kr _ _
  all_goals with_reducible refine key.out _ _ ?_ ?_
  · exact hid (A1.out.alloc _)
  · exact hid (Blk.new w1 116 #[.bool true, .bool true, .bool false, .bool false, .bool false, .bool true])
  · exact hid (A1.out.alloc _)
  · exact hid (Blk.new w1 116 #[.bool true, .bool true, .bool false, .bool false, .bool false, .bool true])
  · exact hid (A1.out.row (Nat.ne_of_lt hsz.out) (Nat.le_of_lt hsz.out) _ _ _ _ _ _)
  · exact hid (row7_put R1.out)

set_option maxRecDepth 100000 in
set_option maxHeartbeats 8000000 in
theorem ref_4 (u : Int) (f : ByteArray) (q : Int) (s : ByteArray) (m n t : Int) (w : World) (hf : f.size ≤ 900) (hp : s.size ≤ 900) (o1 : 0 ≤ q) (o2 : 0 ≤ n) :
    Calls Tryz.prog 66 #[val ⟨4, u, f, q, s, m, n, t⟩] w fun e w' => e = .returned (.bool (docK ⟨4, u, f, q, s, m, n, t⟩)) ∧ Below w.heap.size w w' := by
  have S0 : Hid (h0 4 = true) := hid rfl
  have S1 : Hid (h1 4 = true) := hid rfl
  have S2 : Hid (h2 4 = true) := hid rfl
  have S3 : Hid (h3 4 = true) := hid rfl
  have S4 : Hid (h4 4 = false) := hid rfl
  have S5 : Hid (h5 4 = false) := hid rfl
  have SK : Hid (isK 4 = true) := hid rfl
  obtain ⟨x0, hx0⟩ : ∃ x, right (L f) = x := ⟨_, rfl⟩
  obtain ⟨x2, hx2⟩ : ∃ x, right (L s) = x := ⟨_, rfl⟩
  have X0 := hid hx0
  have X2 := hid hx2
  clear hx0 hx2
  have A0 : Hid (BoxedC w (w.alloc (.cells (cellsOf ⟨4, u, f, q, s, m, n, t⟩) 69)) w.heap.size ⟨4, u, f, q, s, m, n, t⟩) := hid (BoxedC.start w ⟨4, u, f, q, s, m, n, t⟩)
  go_enter Tryz.func66, Tryz.ntmps66
  obtain ⟨⟨c0, c1, c2, c3, c4, c5, c6, c7⟩, f0, f1, f2, f3, f4, f5, f6, f7⟩ := cells8 A0.out.1
  go_wp2_with fail
  rename_i Kr hKr
  have key0 : ∀ (W : World) (h : Nat), Hid (BoxedC w W w.heap.size ⟨4, u, f, q, s, m, n, t⟩) → Hid (RowAt7 W h true true true true false false) → Kr ⟨#[val ⟨4, u, f, q, s, m, n, t⟩, .pointer (some ⟨w.heap.size, 0, none⟩), .bool false, .pointer (some ⟨h, 0, none⟩), .pointer (some ⟨w.heap.size, 0, none⟩), .int .i64 4, .bool false, .bool false, .pointer (some ⟨w.heap.size, 0, none⟩), .int .i64 4, .bool false, .bool false, .agg hasCells, .pointer (some ⟨w.heap.size, 0, none⟩), .int .i64 4, .agg #[.bool true, .bool true, .bool true, .bool true, .bool false, .bool false], undef, undef, undef, undef, undef, undef, undef, undef, undef, undef, undef, undef, undef, undef, undef, undef, undef, undef, undef, undef, undef, undef, undef, undef, undef, undef, undef, undef, undef, undef, undef, undef, undef, undef, undef, undef, undef, undef, undef, undef, undef, undef, undef, undef, undef, undef, undef, undef, undef, undef, undef, undef, undef, undef, undef, undef, undef, undef, undef, undef, undef, undef, undef, undef, undef, undef, undef, undef, undef, undef, undef, undef, undef, undef, undef, undef, undef, undef, undef, undef, undef, undef, undef, undef, undef, undef, undef, undef, undef, undef, undef, undef, undef, undef, undef, undef, undef, undef, undef, undef, undef, undef, undef, undef, undef, undef, undef, undef, undef, undef, undef, undef, undef, undef, undef, undef, undef, undef, undef, undef, undef, undef, undef, undef, undef, undef, undef, undef, undef, undef, undef, undef, undef, undef, undef, undef, undef, undef, undef, undef, undef, undef], []⟩ W := by
    intro W h A1 R1
    clear A0
    clear c0 c1 c2 c3 c4 c5 c6 c7 f0 f1 f2 f3 f4 f5 f6 f7
    obtain ⟨⟨c0, c1, c2, c3, c4, c5, c6, c7⟩, f0, f1, f2, f3, f4, f5, f6, f7⟩ := cells8 A1.out.1
    obtain ⟨r0, r1, r2, r3, r4, r5⟩ := row7 R1.out
    rcases Decidable.em (n = 0) with z1 | z1
    · have y1 : (n != 0) = false := by rw [z1]; rfl
      have Z1 := hid z1
      clear z1
      rcases Decidable.em (t = 0) with z2 | z2
      · have y2 : (t != 0) = false := by rw [z2]; rfl
        have yt1 : 0 ≤ t := by omega
        have yt2 : t ≤ 1099511627776 := by omega
        have Z2 := hid z2
        clear z2
        cases x0
        · go_wp2_with fail
          with_reducible refine (refright_any f _ hf).mono ?_
          rw [X0.out]
          rintro e w13 ⟨rfl, hb⟩
          have A13 := hid (A1.out.on hb)
          have R13 : Hid (RowAt7 w13 h true true true true false false) := hid (Blk.below R1.out hb (Blk.lt R1.out))
          clear hb A1 R1 r0 r1 r2 r3 r4 r5
          clear c0 c1 c2 c3 c4 c5 c6 c7 f0 f1 f2 f3 f4 f5 f6 f7
          obtain ⟨⟨c0, c1, c2, c3, c4, c5, c6, c7⟩, f0, f1, f2, f3, f4, f5, f6, f7⟩ := cells8 A13.out.1
          obtain ⟨r0, r1, r2, r3, r4, r5⟩ := row7 R13.out
          have E : docK ⟨4, u, f, q, s, m, n, t⟩ = false := by simp [docK, lacks, SK.out, S0.out, S1.out, S2.out, S3.out, S4.out, S5.out, X0.out, X2.out, Z1.out, Z2.out] <;> omega
          have HE := hid E
          clear E
          go_wp2
          go_ret
          exact ⟨ret_bool (by first | exact HE.out.symm | (rw [HE.out]; simp; omega)), A13.out.below⟩
        · go_wp2_with fail
          with_reducible refine (refright_any f _ hf).mono ?_
          rw [X0.out]
          rintro e w13 ⟨rfl, hb⟩
          have A13 := hid (A1.out.on hb)
          have R13 : Hid (RowAt7 w13 h true true true true false false) := hid (Blk.below R1.out hb (Blk.lt R1.out))
          clear hb A1 R1 r0 r1 r2 r3 r4 r5
          clear c0 c1 c2 c3 c4 c5 c6 c7 f0 f1 f2 f3 f4 f5 f6 f7
          obtain ⟨⟨c0, c1, c2, c3, c4, c5, c6, c7⟩, f0, f1, f2, f3, f4, f5, f6, f7⟩ := cells8 A13.out.1
          obtain ⟨r0, r1, r2, r3, r4, r5⟩ := row7 R13.out
          rcases Decidable.em (q = 0) with z4 | z4
          · have y4 : (q == 0) = true := by rw [z4]; rfl
            have E : docK ⟨4, u, f, q, s, m, n, t⟩ = false := by simp [docK, lacks, SK.out, S0.out, S1.out, S2.out, S3.out, S4.out, S5.out, X0.out, X2.out, Z1.out, Z2.out, z4] <;> omega
            have HE := hid E
            clear E
            go_wp2
            go_ret
            exact ⟨ret_bool (by first | exact HE.out.symm | (rw [HE.out]; simp; omega)), A13.out.below⟩
          · have y4 : (q == 0) = false := beq_eq_false_iff_ne.2 z4
            cases x2
            · go_wp2_with fail
              with_reducible refine (refright_any s _ hp).mono ?_
              rw [X2.out]
              rintro e w15 ⟨rfl, hb⟩
              have A15 := hid (A13.out.on hb)
              have R15 : Hid (RowAt7 w15 h true true true true false false) := hid (Blk.below R13.out hb (Blk.lt R13.out))
              clear hb A13 R13 r0 r1 r2 r3 r4 r5
              clear c0 c1 c2 c3 c4 c5 c6 c7 f0 f1 f2 f3 f4 f5 f6 f7
              obtain ⟨⟨c0, c1, c2, c3, c4, c5, c6, c7⟩, f0, f1, f2, f3, f4, f5, f6, f7⟩ := cells8 A15.out.1
              obtain ⟨r0, r1, r2, r3, r4, r5⟩ := row7 R15.out
              have E : docK ⟨4, u, f, q, s, m, n, t⟩ = false := by simp [docK, lacks, SK.out, S0.out, S1.out, S2.out, S3.out, S4.out, S5.out, X0.out, X2.out, Z1.out, Z2.out, z4] <;> omega
              have HE := hid E
              clear E
              go_wp2
              go_ret
              exact ⟨ret_bool (by first | exact HE.out.symm | (rw [HE.out]; simp; omega)), A15.out.below⟩
            · go_wp2_with fail
              with_reducible refine (refright_any s _ hp).mono ?_
              rw [X2.out]
              rintro e w15 ⟨rfl, hb⟩
              have A15 := hid (A13.out.on hb)
              have R15 : Hid (RowAt7 w15 h true true true true false false) := hid (Blk.below R13.out hb (Blk.lt R13.out))
              clear hb A13 R13 r0 r1 r2 r3 r4 r5
              clear c0 c1 c2 c3 c4 c5 c6 c7 f0 f1 f2 f3 f4 f5 f6 f7
              obtain ⟨⟨c0, c1, c2, c3, c4, c5, c6, c7⟩, f0, f1, f2, f3, f4, f5, f6, f7⟩ := cells8 A15.out.1
              obtain ⟨r0, r1, r2, r3, r4, r5⟩ := row7 R15.out
              rcases Decidable.em (m < 1) with z6 | z6
              · have y6 := z6
                have E : docK ⟨4, u, f, q, s, m, n, t⟩ = false := by simp [docK, lacks, SK.out, S0.out, S1.out, S2.out, S3.out, S4.out, S5.out, X0.out, X2.out, Z1.out, Z2.out, z4] <;> omega
                have HE := hid E
                clear E
                go_wp2
                go_ret
                exact ⟨ret_bool (by first | exact HE.out.symm | (rw [HE.out]; simp; omega)), A15.out.below⟩
              · rcases Decidable.em (2 < m) with z6b | z6b
                · have y6 := z6
                  have E : docK ⟨4, u, f, q, s, m, n, t⟩ = false := by simp [docK, lacks, SK.out, S0.out, S1.out, S2.out, S3.out, S4.out, S5.out, X0.out, X2.out, Z1.out, Z2.out, z4] <;> omega
                  have HE := hid E
                  clear E
                  go_wp2
                  go_ret
                  exact ⟨ret_bool (by first | exact HE.out.symm | (rw [HE.out]; simp; omega)), A15.out.below⟩
                · have y6 := z6
                  have E : docK ⟨4, u, f, q, s, m, n, t⟩ = true := by simp [docK, lacks, SK.out, S0.out, S1.out, S2.out, S3.out, S4.out, S5.out, X0.out, X2.out, Z1.out, Z2.out, z4] <;> omega
                  have HE := hid E
                  clear E
                  go_wp2
                  go_ret
                  exact ⟨ret_bool (by first | exact HE.out.symm | (rw [HE.out]; simp; omega)), A15.out.below⟩
      · have y2 : (t != 0) = true := bne_iff_ne.2 z2
        have E : docK ⟨4, u, f, q, s, m, n, t⟩ = false := by simp [docK, lacks, SK.out, S0.out, S1.out, S2.out, S3.out, S4.out, S5.out, X0.out, X2.out, Z1.out, z2] <;> omega
        have HE := hid E
        clear E
        go_wp2
        go_ret
        exact ⟨ret_bool (by first | exact HE.out.symm | (rw [HE.out]; simp; omega)), A1.out.below⟩
    · have y1 : (n != 0) = true := bne_iff_ne.2 z1
      have E : docK ⟨4, u, f, q, s, m, n, t⟩ = false := by simp [docK, lacks, SK.out, S0.out, S1.out, S2.out, S3.out, S4.out, S5.out, X0.out, X2.out, z1] <;> omega
      have HE := hid E
      clear E
      go_wp2
      go_ret
      exact ⟨ret_bool (by first | exact HE.out.symm | (rw [HE.out]; simp; omega)), A1.out.below⟩
  have key := hid key0
  clear key0 hKr
  obtain ⟨W0, hW0⟩ : ∃ W0, w.alloc (.cells #[.int .i64 4, .int .u64 u, .string f, .int .u64 q, .string s, .int .i64 m, .int .u64 n, .int .i64 t] 69) = W0 := ⟨_, rfl⟩
  have B0 : Hid (BoxedC w W0 w.heap.size ⟨4, u, f, q, s, m, n, t⟩) := hid (by rw [← hW0]; exact A0.out)
  rw [hW0] at c0 c1 c2 c3 c4 c5 c6 c7 f0 f1 f2 f3 f4 f5 f6 f7 ⊢
  have hsz : Hid (w.heap.size < W0.heap.size) := hid B0.out.lt
  clear A0 hW0
  have IX := has_ix4
  go_region_held3 (fun w' => w'.cell? ⟨w.heap.size, 0, none⟩ = some (.int .i64 4))
    (first | with_reducible exact BoxedC.kind (BoxedC.drew B0.out) | with_reducible exact BoxedC.kind (BoxedC.drew (BoxedC.alloc B0.out _)) | with_reducible exact BoxedC.kind A1.out | with_reducible exact BoxedC.kind (BoxedC.alloc A1.out _) | with_reducible exact BoxedC.kind (BoxedC.row (BoxedC.alloc A1.out _) (Nat.ne_of_lt (BoxedC.lt A1.out)) (Nat.le_of_lt (BoxedC.lt A1.out)) _ _ _ _ _ _) | with_reducible exact BoxedC.kind (BoxedC.row A1.out (Nat.ne_of_lt hsz.out) (Nat.le_of_lt hsz.out) _ _ _ _ _ _))
    (first
      | (go_at_call 67; (with_reducible refine (has_ref _).mono ?_); rintro e w1 ⟨rfl, hb1⟩; have A1 := hid (BoxedC.on (BoxedC.drew B0.out) hb1))
      | (go_at_call 67; (with_reducible refine (has_ref _).mono ?_); rintro e w1 ⟨rfl, hb1⟩; have A1 := hid (BoxedC.on (BoxedC.drew (BoxedC.alloc B0.out _)) hb1); have R1 := hid (row_first hb1); obtain ⟨q0, q1, q2, q3, q4, q5⟩ := row7 R1.out; obtain ⟨v0, v1, v2, v3, v4, v5⟩ := rowf7 R1.out))
  all_goals change Kr _ _
  all_goals with_reducible refine key.out _ _ ?_ ?_
  · exact hid (A1.out.alloc _)
  · exact hid (Blk.new w1 116 #[.bool true, .bool true, .bool true, .bool true, .bool false, .bool false])
  · exact hid (A1.out.alloc _)
  · exact hid (Blk.new w1 116 #[.bool true, .bool true, .bool true, .bool true, .bool false, .bool false])
  · exact hid (A1.out.row (Nat.ne_of_lt hsz.out) (Nat.le_of_lt hsz.out) _ _ _ _ _ _)
  · exact hid (row7_put R1.out)

set_option maxRecDepth 100000 in
set_option maxHeartbeats 8000000 in
theorem ref_5 (u : Int) (f : ByteArray) (q : Int) (s : ByteArray) (m n t : Int) (w : World) (hf : f.size ≤ 900) (hp : s.size ≤ 900) (o1 : 0 ≤ q) (o2 : 0 ≤ n) :
    Calls Tryz.prog 66 #[val ⟨5, u, f, q, s, m, n, t⟩] w fun e w' => e = .returned (.bool (docK ⟨5, u, f, q, s, m, n, t⟩)) ∧ Below w.heap.size w w' := by
  have S0 : Hid (h0 5 = true) := hid rfl
  have S1 : Hid (h1 5 = true) := hid rfl
  have S2 : Hid (h2 5 = true) := hid rfl
  have S3 : Hid (h3 5 = true) := hid rfl
  have S4 : Hid (h4 5 = false) := hid rfl
  have S5 : Hid (h5 5 = false) := hid rfl
  have SK : Hid (isK 5 = true) := hid rfl
  obtain ⟨x0, hx0⟩ : ∃ x, right (L f) = x := ⟨_, rfl⟩
  obtain ⟨x2, hx2⟩ : ∃ x, right (L s) = x := ⟨_, rfl⟩
  have X0 := hid hx0
  have X2 := hid hx2
  clear hx0 hx2
  have A0 : Hid (BoxedC w (w.alloc (.cells (cellsOf ⟨5, u, f, q, s, m, n, t⟩) 69)) w.heap.size ⟨5, u, f, q, s, m, n, t⟩) := hid (BoxedC.start w ⟨5, u, f, q, s, m, n, t⟩)
  go_enter Tryz.func66, Tryz.ntmps66
  obtain ⟨⟨c0, c1, c2, c3, c4, c5, c6, c7⟩, f0, f1, f2, f3, f4, f5, f6, f7⟩ := cells8 A0.out.1
  go_wp2_with fail
  rename_i Kr hKr
  have key0 : ∀ (W : World) (h : Nat), Hid (BoxedC w W w.heap.size ⟨5, u, f, q, s, m, n, t⟩) → Hid (RowAt7 W h true true true true false false) → Kr ⟨#[val ⟨5, u, f, q, s, m, n, t⟩, .pointer (some ⟨w.heap.size, 0, none⟩), .bool false, .pointer (some ⟨h, 0, none⟩), .pointer (some ⟨w.heap.size, 0, none⟩), .int .i64 5, .bool false, .bool false, .pointer (some ⟨w.heap.size, 0, none⟩), .int .i64 5, .bool false, .bool false, .agg hasCells, .pointer (some ⟨w.heap.size, 0, none⟩), .int .i64 5, .agg #[.bool true, .bool true, .bool true, .bool true, .bool false, .bool false], undef, undef, undef, undef, undef, undef, undef, undef, undef, undef, undef, undef, undef, undef, undef, undef, undef, undef, undef, undef, undef, undef, undef, undef, undef, undef, undef, undef, undef, undef, undef, undef, undef, undef, undef, undef, undef, undef, undef, undef, undef, undef, undef, undef, undef, undef, undef, undef, undef, undef, undef, undef, undef, undef, undef, undef, undef, undef, undef, undef, undef, undef, undef, undef, undef, undef, undef, undef, undef, undef, undef, undef, undef, undef, undef, undef, undef, undef, undef, undef, undef, undef, undef, undef, undef, undef, undef, undef, undef, undef, undef, undef, undef, undef, undef, undef, undef, undef, undef, undef, undef, undef, undef, undef, undef, undef, undef, undef, undef, undef, undef, undef, undef, undef, undef, undef, undef, undef, undef, undef, undef, undef, undef, undef, undef, undef, undef, undef, undef, undef, undef, undef, undef, undef, undef, undef, undef, undef, undef, undef, undef, undef], []⟩ W := by
    intro W h A1 R1
    clear A0
    clear c0 c1 c2 c3 c4 c5 c6 c7 f0 f1 f2 f3 f4 f5 f6 f7
    obtain ⟨⟨c0, c1, c2, c3, c4, c5, c6, c7⟩, f0, f1, f2, f3, f4, f5, f6, f7⟩ := cells8 A1.out.1
    obtain ⟨r0, r1, r2, r3, r4, r5⟩ := row7 R1.out
    rcases Decidable.em (n = 0) with z1 | z1
    · have y1 : (n != 0) = false := by rw [z1]; rfl
      have Z1 := hid z1
      clear z1
      rcases Decidable.em (t = 0) with z2 | z2
      · have y2 : (t != 0) = false := by rw [z2]; rfl
        have yt1 : 0 ≤ t := by omega
        have yt2 : t ≤ 1099511627776 := by omega
        have Z2 := hid z2
        clear z2
        cases x0
        · go_wp2_with fail
          with_reducible refine (refright_any f _ hf).mono ?_
          rw [X0.out]
          rintro e w13 ⟨rfl, hb⟩
          have A13 := hid (A1.out.on hb)
          have R13 : Hid (RowAt7 w13 h true true true true false false) := hid (Blk.below R1.out hb (Blk.lt R1.out))
          clear hb A1 R1 r0 r1 r2 r3 r4 r5
          clear c0 c1 c2 c3 c4 c5 c6 c7 f0 f1 f2 f3 f4 f5 f6 f7
          obtain ⟨⟨c0, c1, c2, c3, c4, c5, c6, c7⟩, f0, f1, f2, f3, f4, f5, f6, f7⟩ := cells8 A13.out.1
          obtain ⟨r0, r1, r2, r3, r4, r5⟩ := row7 R13.out
          have E : docK ⟨5, u, f, q, s, m, n, t⟩ = false := by simp [docK, lacks, SK.out, S0.out, S1.out, S2.out, S3.out, S4.out, S5.out, X0.out, X2.out, Z1.out, Z2.out] <;> omega
          have HE := hid E
          clear E
          go_wp2
          go_ret
          exact ⟨ret_bool (by first | exact HE.out.symm | (rw [HE.out]; simp; omega)), A13.out.below⟩
        · go_wp2_with fail
          with_reducible refine (refright_any f _ hf).mono ?_
          rw [X0.out]
          rintro e w13 ⟨rfl, hb⟩
          have A13 := hid (A1.out.on hb)
          have R13 : Hid (RowAt7 w13 h true true true true false false) := hid (Blk.below R1.out hb (Blk.lt R1.out))
          clear hb A1 R1 r0 r1 r2 r3 r4 r5
          clear c0 c1 c2 c3 c4 c5 c6 c7 f0 f1 f2 f3 f4 f5 f6 f7
          obtain ⟨⟨c0, c1, c2, c3, c4, c5, c6, c7⟩, f0, f1, f2, f3, f4, f5, f6, f7⟩ := cells8 A13.out.1
          obtain ⟨r0, r1, r2, r3, r4, r5⟩ := row7 R13.out
          rcases Decidable.em (q = 0) with z4 | z4
          · have y4 : (q == 0) = true := by rw [z4]; rfl
            have E : docK ⟨5, u, f, q, s, m, n, t⟩ = false := by simp [docK, lacks, SK.out, S0.out, S1.out, S2.out, S3.out, S4.out, S5.out, X0.out, X2.out, Z1.out, Z2.out, z4] <;> omega
            have HE := hid E
            clear E
            go_wp2
            go_ret
            exact ⟨ret_bool (by first | exact HE.out.symm | (rw [HE.out]; simp; omega)), A13.out.below⟩
          · have y4 : (q == 0) = false := beq_eq_false_iff_ne.2 z4
            cases x2
            · go_wp2_with fail
              with_reducible refine (refright_any s _ hp).mono ?_
              rw [X2.out]
              rintro e w15 ⟨rfl, hb⟩
              have A15 := hid (A13.out.on hb)
              have R15 : Hid (RowAt7 w15 h true true true true false false) := hid (Blk.below R13.out hb (Blk.lt R13.out))
              clear hb A13 R13 r0 r1 r2 r3 r4 r5
              clear c0 c1 c2 c3 c4 c5 c6 c7 f0 f1 f2 f3 f4 f5 f6 f7
              obtain ⟨⟨c0, c1, c2, c3, c4, c5, c6, c7⟩, f0, f1, f2, f3, f4, f5, f6, f7⟩ := cells8 A15.out.1
              obtain ⟨r0, r1, r2, r3, r4, r5⟩ := row7 R15.out
              have E : docK ⟨5, u, f, q, s, m, n, t⟩ = false := by simp [docK, lacks, SK.out, S0.out, S1.out, S2.out, S3.out, S4.out, S5.out, X0.out, X2.out, Z1.out, Z2.out, z4] <;> omega
              have HE := hid E
              clear E
              go_wp2
              go_ret
              exact ⟨ret_bool (by first | exact HE.out.symm | (rw [HE.out]; simp; omega)), A15.out.below⟩
            · go_wp2_with fail
              with_reducible refine (refright_any s _ hp).mono ?_
              rw [X2.out]
              rintro e w15 ⟨rfl, hb⟩
              have A15 := hid (A13.out.on hb)
              have R15 : Hid (RowAt7 w15 h true true true true false false) := hid (Blk.below R13.out hb (Blk.lt R13.out))
              clear hb A13 R13 r0 r1 r2 r3 r4 r5
              clear c0 c1 c2 c3 c4 c5 c6 c7 f0 f1 f2 f3 f4 f5 f6 f7
              obtain ⟨⟨c0, c1, c2, c3, c4, c5, c6, c7⟩, f0, f1, f2, f3, f4, f5, f6, f7⟩ := cells8 A15.out.1
              obtain ⟨r0, r1, r2, r3, r4, r5⟩ := row7 R15.out
              rcases Decidable.em (m < 1) with z6 | z6
              · have y6 := z6
                have E : docK ⟨5, u, f, q, s, m, n, t⟩ = false := by simp [docK, lacks, SK.out, S0.out, S1.out, S2.out, S3.out, S4.out, S5.out, X0.out, X2.out, Z1.out, Z2.out, z4] <;> omega
                have HE := hid E
                clear E
                go_wp2
                go_ret
                exact ⟨ret_bool (by first | exact HE.out.symm | (rw [HE.out]; simp; omega)), A15.out.below⟩
              · rcases Decidable.em (2 < m) with z6b | z6b
                · have y6 := z6
                  have E : docK ⟨5, u, f, q, s, m, n, t⟩ = false := by simp [docK, lacks, SK.out, S0.out, S1.out, S2.out, S3.out, S4.out, S5.out, X0.out, X2.out, Z1.out, Z2.out, z4] <;> omega
                  have HE := hid E
                  clear E
                  go_wp2
                  go_ret
                  exact ⟨ret_bool (by first | exact HE.out.symm | (rw [HE.out]; simp; omega)), A15.out.below⟩
                · have y6 := z6
                  have E : docK ⟨5, u, f, q, s, m, n, t⟩ = true := by simp [docK, lacks, SK.out, S0.out, S1.out, S2.out, S3.out, S4.out, S5.out, X0.out, X2.out, Z1.out, Z2.out, z4] <;> omega
                  have HE := hid E
                  clear E
                  go_wp2
                  go_ret
                  exact ⟨ret_bool (by first | exact HE.out.symm | (rw [HE.out]; simp; omega)), A15.out.below⟩
      · have y2 : (t != 0) = true := bne_iff_ne.2 z2
        have E : docK ⟨5, u, f, q, s, m, n, t⟩ = false := by simp [docK, lacks, SK.out, S0.out, S1.out, S2.out, S3.out, S4.out, S5.out, X0.out, X2.out, Z1.out, z2] <;> omega
        have HE := hid E
        clear E
        go_wp2
        go_ret
        exact ⟨ret_bool (by first | exact HE.out.symm | (rw [HE.out]; simp; omega)), A1.out.below⟩
    · have y1 : (n != 0) = true := bne_iff_ne.2 z1
      have E : docK ⟨5, u, f, q, s, m, n, t⟩ = false := by simp [docK, lacks, SK.out, S0.out, S1.out, S2.out, S3.out, S4.out, S5.out, X0.out, X2.out, z1] <;> omega
      have HE := hid E
      clear E
      go_wp2
      go_ret
      exact ⟨ret_bool (by first | exact HE.out.symm | (rw [HE.out]; simp; omega)), A1.out.below⟩
  have key := hid key0
  clear key0 hKr
  obtain ⟨W0, hW0⟩ : ∃ W0, w.alloc (.cells #[.int .i64 5, .int .u64 u, .string f, .int .u64 q, .string s, .int .i64 m, .int .u64 n, .int .i64 t] 69) = W0 := ⟨_, rfl⟩
  have B0 : Hid (BoxedC w W0 w.heap.size ⟨5, u, f, q, s, m, n, t⟩) := hid (by rw [← hW0]; exact A0.out)
  rw [hW0] at c0 c1 c2 c3 c4 c5 c6 c7 f0 f1 f2 f3 f4 f5 f6 f7 ⊢
  have hsz : Hid (w.heap.size < W0.heap.size) := hid B0.out.lt
  clear A0 hW0
  have IX := has_ix5
  go_region_held3 (fun w' => w'.cell? ⟨w.heap.size, 0, none⟩ = some (.int .i64 5))
    (first | with_reducible exact BoxedC.kind (BoxedC.drew B0.out) | with_reducible exact BoxedC.kind (BoxedC.drew (BoxedC.alloc B0.out _)) | with_reducible exact BoxedC.kind A1.out | with_reducible exact BoxedC.kind (BoxedC.alloc A1.out _) | with_reducible exact BoxedC.kind (BoxedC.row (BoxedC.alloc A1.out _) (Nat.ne_of_lt (BoxedC.lt A1.out)) (Nat.le_of_lt (BoxedC.lt A1.out)) _ _ _ _ _ _) | with_reducible exact BoxedC.kind (BoxedC.row A1.out (Nat.ne_of_lt hsz.out) (Nat.le_of_lt hsz.out) _ _ _ _ _ _))
    (first
      | (go_at_call 67; (with_reducible refine (has_ref _).mono ?_); rintro e w1 ⟨rfl, hb1⟩; have A1 := hid (BoxedC.on (BoxedC.drew B0.out) hb1))
      | (go_at_call 67; (with_reducible refine (has_ref _).mono ?_); rintro e w1 ⟨rfl, hb1⟩; have A1 := hid (BoxedC.on (BoxedC.drew (BoxedC.alloc B0.out _)) hb1); have R1 := hid (row_first hb1); obtain ⟨q0, q1, q2, q3, q4, q5⟩ := row7 R1.out; obtain ⟨v0, v1, v2, v3, v4, v5⟩ := rowf7 R1.out))
  all_goals change Kr _ _
  all_goals with_reducible refine key.out _ _ ?_ ?_
  · exact hid (A1.out.alloc _)
  · exact hid (Blk.new w1 116 #[.bool true, .bool true, .bool true, .bool true, .bool false, .bool false])
  · exact hid (A1.out.alloc _)
  · exact hid (Blk.new w1 116 #[.bool true, .bool true, .bool true, .bool true, .bool false, .bool false])
  · exact hid (A1.out.row (Nat.ne_of_lt hsz.out) (Nat.le_of_lt hsz.out) _ _ _ _ _ _)
  · exact hid (row7_put R1.out)

end Go.Proofs.YtpdfakjopeldmaaGreatDoor

/-
  The contract of the document's Right (moothillref07), kind by kind.
-/
namespace Go.Proofs.YtpdfakjopeldmaaGreatDoor
open Go.ChangeShapes Go.WideShapes Go.ChangeAt Go.RowKit Go.Lib
set_option linter.unusedSimpArgs false
set_option linter.unusedVariables false

set_option maxRecDepth 100000 in
set_option maxHeartbeats 8000000 in
theorem ref_6 (u : Int) (f : ByteArray) (q : Int) (s : ByteArray) (m n t : Int) (w : World) (hf : f.size ≤ 900) (hp : s.size ≤ 900) (o1 : 0 ≤ q) (o2 : 0 ≤ n) :
    Calls Tryz.prog 66 #[val ⟨6, u, f, q, s, m, n, t⟩] w fun e w' => e = .returned (.bool (docK ⟨6, u, f, q, s, m, n, t⟩)) ∧ Below w.heap.size w w' := by
  have S0 : Hid (h0 6 = true) := hid rfl
  have S1 : Hid (h1 6 = true) := hid rfl
  have S2 : Hid (h2 6 = true) := hid rfl
  have S3 : Hid (h3 6 = false) := hid rfl
  have S4 : Hid (h4 6 = false) := hid rfl
  have S5 : Hid (h5 6 = false) := hid rfl
  have SK : Hid (isK 6 = true) := hid rfl
  obtain ⟨x0, hx0⟩ : ∃ x, right (L f) = x := ⟨_, rfl⟩
  obtain ⟨x2, hx2⟩ : ∃ x, right (L s) = x := ⟨_, rfl⟩
  have X0 := hid hx0
  have X2 := hid hx2
  clear hx0 hx2
  have A0 : Hid (BoxedC w (w.alloc (.cells (cellsOf ⟨6, u, f, q, s, m, n, t⟩) 69)) w.heap.size ⟨6, u, f, q, s, m, n, t⟩) := hid (BoxedC.start w ⟨6, u, f, q, s, m, n, t⟩)
  go_enter Tryz.func66, Tryz.ntmps66
  obtain ⟨⟨c0, c1, c2, c3, c4, c5, c6, c7⟩, f0, f1, f2, f3, f4, f5, f6, f7⟩ := cells8 A0.out.1
  go_wp2_with fail
  rename_i Kr hKr
  have key0 : ∀ (W : World) (h : Nat), Hid (BoxedC w W w.heap.size ⟨6, u, f, q, s, m, n, t⟩) → Hid (RowAt7 W h true true true false false false) → Kr ⟨#[val ⟨6, u, f, q, s, m, n, t⟩, .pointer (some ⟨w.heap.size, 0, none⟩), .bool false, .pointer (some ⟨h, 0, none⟩), .pointer (some ⟨w.heap.size, 0, none⟩), .int .i64 6, .bool false, .bool false, .pointer (some ⟨w.heap.size, 0, none⟩), .int .i64 6, .bool false, .bool false, .agg hasCells, .pointer (some ⟨w.heap.size, 0, none⟩), .int .i64 6, .agg #[.bool true, .bool true, .bool true, .bool false, .bool false, .bool false], undef, undef, undef, undef, undef, undef, undef, undef, undef, undef, undef, undef, undef, undef, undef, undef, undef, undef, undef, undef, undef, undef, undef, undef, undef, undef, undef, undef, undef, undef, undef, undef, undef, undef, undef, undef, undef, undef, undef, undef, undef, undef, undef, undef, undef, undef, undef, undef, undef, undef, undef, undef, undef, undef, undef, undef, undef, undef, undef, undef, undef, undef, undef, undef, undef, undef, undef, undef, undef, undef, undef, undef, undef, undef, undef, undef, undef, undef, undef, undef, undef, undef, undef, undef, undef, undef, undef, undef, undef, undef, undef, undef, undef, undef, undef, undef, undef, undef, undef, undef, undef, undef, undef, undef, undef, undef, undef, undef, undef, undef, undef, undef, undef, undef, undef, undef, undef, undef, undef, undef, undef, undef, undef, undef, undef, undef, undef, undef, undef, undef, undef, undef, undef, undef, undef, undef, undef, undef, undef, undef, undef, undef], []⟩ W := by
    intro W h A1 R1
    clear A0
    clear c0 c1 c2 c3 c4 c5 c6 c7 f0 f1 f2 f3 f4 f5 f6 f7
    obtain ⟨⟨c0, c1, c2, c3, c4, c5, c6, c7⟩, f0, f1, f2, f3, f4, f5, f6, f7⟩ := cells8 A1.out.1
    obtain ⟨r0, r1, r2, r3, r4, r5⟩ := row7 R1.out
    rcases Decidable.em (m = 0) with z1 | z1
    · have y1 : (m != 0) = false := by rw [z1]; rfl
      have Z1 := hid z1
      clear z1
      rcases Decidable.em (n = 0) with z2 | z2
      · have y2 : (n != 0) = false := by rw [z2]; rfl
        have Z2 := hid z2
        clear z2
        rcases Decidable.em (t = 0) with z3 | z3
        · have y3 : (t != 0) = false := by rw [z3]; rfl
          have yt1 : 0 ≤ t := by omega
          have yt2 : t ≤ 1099511627776 := by omega
          have Z3 := hid z3
          clear z3
          cases x0
          · go_wp2_with fail
            with_reducible refine (refright_any f _ hf).mono ?_
            rw [X0.out]
            rintro e w14 ⟨rfl, hb⟩
            have A14 := hid (A1.out.on hb)
            have R14 : Hid (RowAt7 w14 h true true true false false false) := hid (Blk.below R1.out hb (Blk.lt R1.out))
            clear hb A1 R1 r0 r1 r2 r3 r4 r5
            clear c0 c1 c2 c3 c4 c5 c6 c7 f0 f1 f2 f3 f4 f5 f6 f7
            obtain ⟨⟨c0, c1, c2, c3, c4, c5, c6, c7⟩, f0, f1, f2, f3, f4, f5, f6, f7⟩ := cells8 A14.out.1
            obtain ⟨r0, r1, r2, r3, r4, r5⟩ := row7 R14.out
            have E : docK ⟨6, u, f, q, s, m, n, t⟩ = false := by simp [docK, lacks, SK.out, S0.out, S1.out, S2.out, S3.out, S4.out, S5.out, X0.out, X2.out, Z1.out, Z2.out, Z3.out] <;> omega
            have HE := hid E
            clear E
            go_wp2
            go_ret
            exact ⟨ret_bool (by first | exact HE.out.symm | (rw [HE.out]; simp; omega)), A14.out.below⟩
          · go_wp2_with fail
            with_reducible refine (refright_any f _ hf).mono ?_
            rw [X0.out]
            rintro e w14 ⟨rfl, hb⟩
            have A14 := hid (A1.out.on hb)
            have R14 : Hid (RowAt7 w14 h true true true false false false) := hid (Blk.below R1.out hb (Blk.lt R1.out))
            clear hb A1 R1 r0 r1 r2 r3 r4 r5
            clear c0 c1 c2 c3 c4 c5 c6 c7 f0 f1 f2 f3 f4 f5 f6 f7
            obtain ⟨⟨c0, c1, c2, c3, c4, c5, c6, c7⟩, f0, f1, f2, f3, f4, f5, f6, f7⟩ := cells8 A14.out.1
            obtain ⟨r0, r1, r2, r3, r4, r5⟩ := row7 R14.out
            rcases Decidable.em (q = 0) with z5 | z5
            · have y5 : (q == 0) = true := by rw [z5]; rfl
              have E : docK ⟨6, u, f, q, s, m, n, t⟩ = false := by simp [docK, lacks, SK.out, S0.out, S1.out, S2.out, S3.out, S4.out, S5.out, X0.out, X2.out, Z1.out, Z2.out, Z3.out, z5] <;> omega
              have HE := hid E
              clear E
              go_wp2
              go_ret
              exact ⟨ret_bool (by first | exact HE.out.symm | (rw [HE.out]; simp; omega)), A14.out.below⟩
            · have y5 : (q == 0) = false := beq_eq_false_iff_ne.2 z5
              cases x2
              · go_wp2_with fail
                with_reducible refine (refright_any s _ hp).mono ?_
                rw [X2.out]
                rintro e w16 ⟨rfl, hb⟩
                have A16 := hid (A14.out.on hb)
                have R16 : Hid (RowAt7 w16 h true true true false false false) := hid (Blk.below R14.out hb (Blk.lt R14.out))
                clear hb A14 R14 r0 r1 r2 r3 r4 r5
                clear c0 c1 c2 c3 c4 c5 c6 c7 f0 f1 f2 f3 f4 f5 f6 f7
                obtain ⟨⟨c0, c1, c2, c3, c4, c5, c6, c7⟩, f0, f1, f2, f3, f4, f5, f6, f7⟩ := cells8 A16.out.1
                obtain ⟨r0, r1, r2, r3, r4, r5⟩ := row7 R16.out
                have E : docK ⟨6, u, f, q, s, m, n, t⟩ = false := by simp [docK, lacks, SK.out, S0.out, S1.out, S2.out, S3.out, S4.out, S5.out, X0.out, X2.out, Z1.out, Z2.out, Z3.out, z5] <;> omega
                have HE := hid E
                clear E
                go_wp2
                go_ret
                exact ⟨ret_bool (by first | exact HE.out.symm | (rw [HE.out]; simp; omega)), A16.out.below⟩
              · go_wp2_with fail
                with_reducible refine (refright_any s _ hp).mono ?_
                rw [X2.out]
                rintro e w16 ⟨rfl, hb⟩
                have A16 := hid (A14.out.on hb)
                have R16 : Hid (RowAt7 w16 h true true true false false false) := hid (Blk.below R14.out hb (Blk.lt R14.out))
                clear hb A14 R14 r0 r1 r2 r3 r4 r5
                clear c0 c1 c2 c3 c4 c5 c6 c7 f0 f1 f2 f3 f4 f5 f6 f7
                obtain ⟨⟨c0, c1, c2, c3, c4, c5, c6, c7⟩, f0, f1, f2, f3, f4, f5, f6, f7⟩ := cells8 A16.out.1
                obtain ⟨r0, r1, r2, r3, r4, r5⟩ := row7 R16.out
                have E : docK ⟨6, u, f, q, s, m, n, t⟩ = true := by simp [docK, lacks, SK.out, S0.out, S1.out, S2.out, S3.out, S4.out, S5.out, X0.out, X2.out, Z1.out, Z2.out, Z3.out, z5] <;> omega
                have HE := hid E
                clear E
                go_wp2
                go_ret
                exact ⟨ret_bool (by first | exact HE.out.symm | (rw [HE.out]; simp; omega)), A16.out.below⟩
        · have y3 : (t != 0) = true := bne_iff_ne.2 z3
          have E : docK ⟨6, u, f, q, s, m, n, t⟩ = false := by simp [docK, lacks, SK.out, S0.out, S1.out, S2.out, S3.out, S4.out, S5.out, X0.out, X2.out, Z1.out, Z2.out, z3] <;> omega
          have HE := hid E
          clear E
          go_wp2
          go_ret
          exact ⟨ret_bool (by first | exact HE.out.symm | (rw [HE.out]; simp; omega)), A1.out.below⟩
      · have y2 : (n != 0) = true := bne_iff_ne.2 z2
        have E : docK ⟨6, u, f, q, s, m, n, t⟩ = false := by simp [docK, lacks, SK.out, S0.out, S1.out, S2.out, S3.out, S4.out, S5.out, X0.out, X2.out, Z1.out, z2] <;> omega
        have HE := hid E
        clear E
        go_wp2
        go_ret
        exact ⟨ret_bool (by first | exact HE.out.symm | (rw [HE.out]; simp; omega)), A1.out.below⟩
    · have y1 : (m != 0) = true := bne_iff_ne.2 z1
      have E : docK ⟨6, u, f, q, s, m, n, t⟩ = false := by simp [docK, lacks, SK.out, S0.out, S1.out, S2.out, S3.out, S4.out, S5.out, X0.out, X2.out, z1] <;> omega
      have HE := hid E
      clear E
      go_wp2
      go_ret
      exact ⟨ret_bool (by first | exact HE.out.symm | (rw [HE.out]; simp; omega)), A1.out.below⟩
  have key := hid key0
  clear key0 hKr
  obtain ⟨W0, hW0⟩ : ∃ W0, w.alloc (.cells #[.int .i64 6, .int .u64 u, .string f, .int .u64 q, .string s, .int .i64 m, .int .u64 n, .int .i64 t] 69) = W0 := ⟨_, rfl⟩
  have B0 : Hid (BoxedC w W0 w.heap.size ⟨6, u, f, q, s, m, n, t⟩) := hid (by rw [← hW0]; exact A0.out)
  rw [hW0] at c0 c1 c2 c3 c4 c5 c6 c7 f0 f1 f2 f3 f4 f5 f6 f7 ⊢
  have hsz : Hid (w.heap.size < W0.heap.size) := hid B0.out.lt
  clear A0 hW0
  have IX := has_ix6
  go_region_held3 (fun w' => w'.cell? ⟨w.heap.size, 0, none⟩ = some (.int .i64 6))
    (first | with_reducible exact BoxedC.kind (BoxedC.drew B0.out) | with_reducible exact BoxedC.kind (BoxedC.drew (BoxedC.alloc B0.out _)) | with_reducible exact BoxedC.kind A1.out | with_reducible exact BoxedC.kind (BoxedC.alloc A1.out _) | with_reducible exact BoxedC.kind (BoxedC.row (BoxedC.alloc A1.out _) (Nat.ne_of_lt (BoxedC.lt A1.out)) (Nat.le_of_lt (BoxedC.lt A1.out)) _ _ _ _ _ _) | with_reducible exact BoxedC.kind (BoxedC.row A1.out (Nat.ne_of_lt hsz.out) (Nat.le_of_lt hsz.out) _ _ _ _ _ _))
    (first
      | (go_at_call 67; (with_reducible refine (has_ref _).mono ?_); rintro e w1 ⟨rfl, hb1⟩; have A1 := hid (BoxedC.on (BoxedC.drew B0.out) hb1))
      | (go_at_call 67; (with_reducible refine (has_ref _).mono ?_); rintro e w1 ⟨rfl, hb1⟩; have A1 := hid (BoxedC.on (BoxedC.drew (BoxedC.alloc B0.out _)) hb1); have R1 := hid (row_first hb1); obtain ⟨q0, q1, q2, q3, q4, q5⟩ := row7 R1.out; obtain ⟨v0, v1, v2, v3, v4, v5⟩ := rowf7 R1.out))
  all_goals change Kr _ _
  all_goals with_reducible refine key.out _ _ ?_ ?_
  · exact hid (A1.out.alloc _)
  · exact hid (Blk.new w1 116 #[.bool true, .bool true, .bool true, .bool false, .bool false, .bool false])
  · exact hid (A1.out.alloc _)
  · exact hid (Blk.new w1 116 #[.bool true, .bool true, .bool true, .bool false, .bool false, .bool false])
  · exact hid (A1.out.row (Nat.ne_of_lt hsz.out) (Nat.le_of_lt hsz.out) _ _ _ _ _ _)
  · exact hid (row7_put R1.out)

set_option maxRecDepth 100000 in
set_option maxHeartbeats 8000000 in
theorem ref_7 (u : Int) (f : ByteArray) (q : Int) (s : ByteArray) (m n t : Int) (w : World) (hf : f.size ≤ 900) (hp : s.size ≤ 900) (o1 : 0 ≤ q) (o2 : 0 ≤ n) :
    Calls Tryz.prog 66 #[val ⟨7, u, f, q, s, m, n, t⟩] w fun e w' => e = .returned (.bool (docK ⟨7, u, f, q, s, m, n, t⟩)) ∧ Below w.heap.size w w' := by
  have S0 : Hid (h0 7 = true) := hid rfl
  have S1 : Hid (h1 7 = true) := hid rfl
  have S2 : Hid (h2 7 = true) := hid rfl
  have S3 : Hid (h3 7 = false) := hid rfl
  have S4 : Hid (h4 7 = true) := hid rfl
  have S5 : Hid (h5 7 = false) := hid rfl
  have SK : Hid (isK 7 = true) := hid rfl
  obtain ⟨x0, hx0⟩ : ∃ x, right (L f) = x := ⟨_, rfl⟩
  obtain ⟨x2, hx2⟩ : ∃ x, right (L s) = x := ⟨_, rfl⟩
  have X0 := hid hx0
  have X2 := hid hx2
  clear hx0 hx2
  have A0 : Hid (BoxedC w (w.alloc (.cells (cellsOf ⟨7, u, f, q, s, m, n, t⟩) 69)) w.heap.size ⟨7, u, f, q, s, m, n, t⟩) := hid (BoxedC.start w ⟨7, u, f, q, s, m, n, t⟩)
  go_enter Tryz.func66, Tryz.ntmps66
  obtain ⟨⟨c0, c1, c2, c3, c4, c5, c6, c7⟩, f0, f1, f2, f3, f4, f5, f6, f7⟩ := cells8 A0.out.1
  go_wp2_with fail
  rename_i Kr hKr
  have key0 : ∀ (W : World) (h : Nat), Hid (BoxedC w W w.heap.size ⟨7, u, f, q, s, m, n, t⟩) → Hid (RowAt7 W h true true true false true false) → Kr ⟨#[val ⟨7, u, f, q, s, m, n, t⟩, .pointer (some ⟨w.heap.size, 0, none⟩), .bool false, .pointer (some ⟨h, 0, none⟩), .pointer (some ⟨w.heap.size, 0, none⟩), .int .i64 7, .bool false, .bool false, .pointer (some ⟨w.heap.size, 0, none⟩), .int .i64 7, .bool false, .bool false, .agg hasCells, .pointer (some ⟨w.heap.size, 0, none⟩), .int .i64 7, .agg #[.bool true, .bool true, .bool true, .bool false, .bool true, .bool false], undef, undef, undef, undef, undef, undef, undef, undef, undef, undef, undef, undef, undef, undef, undef, undef, undef, undef, undef, undef, undef, undef, undef, undef, undef, undef, undef, undef, undef, undef, undef, undef, undef, undef, undef, undef, undef, undef, undef, undef, undef, undef, undef, undef, undef, undef, undef, undef, undef, undef, undef, undef, undef, undef, undef, undef, undef, undef, undef, undef, undef, undef, undef, undef, undef, undef, undef, undef, undef, undef, undef, undef, undef, undef, undef, undef, undef, undef, undef, undef, undef, undef, undef, undef, undef, undef, undef, undef, undef, undef, undef, undef, undef, undef, undef, undef, undef, undef, undef, undef, undef, undef, undef, undef, undef, undef, undef, undef, undef, undef, undef, undef, undef, undef, undef, undef, undef, undef, undef, undef, undef, undef, undef, undef, undef, undef, undef, undef, undef, undef, undef, undef, undef, undef, undef, undef, undef, undef, undef, undef, undef, undef], []⟩ W := by
    intro W h A1 R1
    clear A0
    clear c0 c1 c2 c3 c4 c5 c6 c7 f0 f1 f2 f3 f4 f5 f6 f7
    obtain ⟨⟨c0, c1, c2, c3, c4, c5, c6, c7⟩, f0, f1, f2, f3, f4, f5, f6, f7⟩ := cells8 A1.out.1
    obtain ⟨r0, r1, r2, r3, r4, r5⟩ := row7 R1.out
    rcases Decidable.em (m = 0) with z1 | z1
    · have y1 : (m != 0) = false := by rw [z1]; rfl
      have Z1 := hid z1
      clear z1
      rcases Decidable.em (t = 0) with z2 | z2
      · have y2 : (t != 0) = false := by rw [z2]; rfl
        have yt1 : 0 ≤ t := by omega
        have yt2 : t ≤ 1099511627776 := by omega
        have Z2 := hid z2
        clear z2
        cases x0
        · go_wp2_with fail
          with_reducible refine (refright_any f _ hf).mono ?_
          rw [X0.out]
          rintro e w13 ⟨rfl, hb⟩
          have A13 := hid (A1.out.on hb)
          have R13 : Hid (RowAt7 w13 h true true true false true false) := hid (Blk.below R1.out hb (Blk.lt R1.out))
          clear hb A1 R1 r0 r1 r2 r3 r4 r5
          clear c0 c1 c2 c3 c4 c5 c6 c7 f0 f1 f2 f3 f4 f5 f6 f7
          obtain ⟨⟨c0, c1, c2, c3, c4, c5, c6, c7⟩, f0, f1, f2, f3, f4, f5, f6, f7⟩ := cells8 A13.out.1
          obtain ⟨r0, r1, r2, r3, r4, r5⟩ := row7 R13.out
          have E : docK ⟨7, u, f, q, s, m, n, t⟩ = false := by simp [docK, lacks, SK.out, S0.out, S1.out, S2.out, S3.out, S4.out, S5.out, X0.out, X2.out, Z1.out, Z2.out] <;> omega
          have HE := hid E
          clear E
          go_wp2
          go_ret
          exact ⟨ret_bool (by first | exact HE.out.symm | (rw [HE.out]; simp; omega)), A13.out.below⟩
        · go_wp2_with fail
          with_reducible refine (refright_any f _ hf).mono ?_
          rw [X0.out]
          rintro e w13 ⟨rfl, hb⟩
          have A13 := hid (A1.out.on hb)
          have R13 : Hid (RowAt7 w13 h true true true false true false) := hid (Blk.below R1.out hb (Blk.lt R1.out))
          clear hb A1 R1 r0 r1 r2 r3 r4 r5
          clear c0 c1 c2 c3 c4 c5 c6 c7 f0 f1 f2 f3 f4 f5 f6 f7
          obtain ⟨⟨c0, c1, c2, c3, c4, c5, c6, c7⟩, f0, f1, f2, f3, f4, f5, f6, f7⟩ := cells8 A13.out.1
          obtain ⟨r0, r1, r2, r3, r4, r5⟩ := row7 R13.out
          rcases Decidable.em (q = 0) with z4 | z4
          · have y4 : (q == 0) = true := by rw [z4]; rfl
            have E : docK ⟨7, u, f, q, s, m, n, t⟩ = false := by simp [docK, lacks, SK.out, S0.out, S1.out, S2.out, S3.out, S4.out, S5.out, X0.out, X2.out, Z1.out, Z2.out, z4] <;> omega
            have HE := hid E
            clear E
            go_wp2
            go_ret
            exact ⟨ret_bool (by first | exact HE.out.symm | (rw [HE.out]; simp; omega)), A13.out.below⟩
          · have y4 : (q == 0) = false := beq_eq_false_iff_ne.2 z4
            cases x2
            · go_wp2_with fail
              with_reducible refine (refright_any s _ hp).mono ?_
              rw [X2.out]
              rintro e w15 ⟨rfl, hb⟩
              have A15 := hid (A13.out.on hb)
              have R15 : Hid (RowAt7 w15 h true true true false true false) := hid (Blk.below R13.out hb (Blk.lt R13.out))
              clear hb A13 R13 r0 r1 r2 r3 r4 r5
              clear c0 c1 c2 c3 c4 c5 c6 c7 f0 f1 f2 f3 f4 f5 f6 f7
              obtain ⟨⟨c0, c1, c2, c3, c4, c5, c6, c7⟩, f0, f1, f2, f3, f4, f5, f6, f7⟩ := cells8 A15.out.1
              obtain ⟨r0, r1, r2, r3, r4, r5⟩ := row7 R15.out
              have E : docK ⟨7, u, f, q, s, m, n, t⟩ = false := by simp [docK, lacks, SK.out, S0.out, S1.out, S2.out, S3.out, S4.out, S5.out, X0.out, X2.out, Z1.out, Z2.out, z4] <;> omega
              have HE := hid E
              clear E
              go_wp2
              go_ret
              exact ⟨ret_bool (by first | exact HE.out.symm | (rw [HE.out]; simp; omega)), A15.out.below⟩
            · go_wp2_with fail
              with_reducible refine (refright_any s _ hp).mono ?_
              rw [X2.out]
              rintro e w15 ⟨rfl, hb⟩
              have A15 := hid (A13.out.on hb)
              have R15 : Hid (RowAt7 w15 h true true true false true false) := hid (Blk.below R13.out hb (Blk.lt R13.out))
              clear hb A13 R13 r0 r1 r2 r3 r4 r5
              clear c0 c1 c2 c3 c4 c5 c6 c7 f0 f1 f2 f3 f4 f5 f6 f7
              obtain ⟨⟨c0, c1, c2, c3, c4, c5, c6, c7⟩, f0, f1, f2, f3, f4, f5, f6, f7⟩ := cells8 A15.out.1
              obtain ⟨r0, r1, r2, r3, r4, r5⟩ := row7 R15.out
              rcases Decidable.em (n = 0) with z6 | z6
              · have y6 : (n == 0) = true := by rw [z6]; rfl
                have E : docK ⟨7, u, f, q, s, m, n, t⟩ = false := by simp [docK, lacks, SK.out, S0.out, S1.out, S2.out, S3.out, S4.out, S5.out, X0.out, X2.out, Z1.out, Z2.out, z4, z6] <;> omega
                have HE := hid E
                clear E
                go_wp2
                go_ret
                exact ⟨ret_bool (by first | exact HE.out.symm | (rw [HE.out]; simp; omega)), A15.out.below⟩
              · have y6 : (n == 0) = false := beq_eq_false_iff_ne.2 z6
                rcases Decidable.em (9223372036854775807 < n) with z7 | z7
                · have y7 := z7
                  have E : docK ⟨7, u, f, q, s, m, n, t⟩ = false := by simp [docK, lacks, SK.out, S0.out, S1.out, S2.out, S3.out, S4.out, S5.out, X0.out, X2.out, Z1.out, Z2.out, z4, z6] <;> omega
                  have HE := hid E
                  clear E
                  go_wp2
                  go_ret
                  exact ⟨ret_bool (by first | exact HE.out.symm | (rw [HE.out]; simp; omega)), A15.out.below⟩
                · have y7 := z7
                  have E : docK ⟨7, u, f, q, s, m, n, t⟩ = true := by simp [docK, lacks, SK.out, S0.out, S1.out, S2.out, S3.out, S4.out, S5.out, X0.out, X2.out, Z1.out, Z2.out, z4, z6] <;> omega
                  have HE := hid E
                  clear E
                  go_wp2
                  go_ret
                  exact ⟨ret_bool (by first | exact HE.out.symm | (rw [HE.out]; simp; omega)), A15.out.below⟩
      · have y2 : (t != 0) = true := bne_iff_ne.2 z2
        have E : docK ⟨7, u, f, q, s, m, n, t⟩ = false := by simp [docK, lacks, SK.out, S0.out, S1.out, S2.out, S3.out, S4.out, S5.out, X0.out, X2.out, Z1.out, z2] <;> omega
        have HE := hid E
        clear E
        go_wp2
        go_ret
        exact ⟨ret_bool (by first | exact HE.out.symm | (rw [HE.out]; simp; omega)), A1.out.below⟩
    · have y1 : (m != 0) = true := bne_iff_ne.2 z1
      have E : docK ⟨7, u, f, q, s, m, n, t⟩ = false := by simp [docK, lacks, SK.out, S0.out, S1.out, S2.out, S3.out, S4.out, S5.out, X0.out, X2.out, z1] <;> omega
      have HE := hid E
      clear E
      go_wp2
      go_ret
      exact ⟨ret_bool (by first | exact HE.out.symm | (rw [HE.out]; simp; omega)), A1.out.below⟩
  have key := hid key0
  clear key0 hKr
  obtain ⟨W0, hW0⟩ : ∃ W0, w.alloc (.cells #[.int .i64 7, .int .u64 u, .string f, .int .u64 q, .string s, .int .i64 m, .int .u64 n, .int .i64 t] 69) = W0 := ⟨_, rfl⟩
  have B0 : Hid (BoxedC w W0 w.heap.size ⟨7, u, f, q, s, m, n, t⟩) := hid (by rw [← hW0]; exact A0.out)
  rw [hW0] at c0 c1 c2 c3 c4 c5 c6 c7 f0 f1 f2 f3 f4 f5 f6 f7 ⊢
  have hsz : Hid (w.heap.size < W0.heap.size) := hid B0.out.lt
  clear A0 hW0
  have IX := has_ix7
  go_region_held3 (fun w' => w'.cell? ⟨w.heap.size, 0, none⟩ = some (.int .i64 7))
    (first | with_reducible exact BoxedC.kind (BoxedC.drew B0.out) | with_reducible exact BoxedC.kind (BoxedC.drew (BoxedC.alloc B0.out _)) | with_reducible exact BoxedC.kind A1.out | with_reducible exact BoxedC.kind (BoxedC.alloc A1.out _) | with_reducible exact BoxedC.kind (BoxedC.row (BoxedC.alloc A1.out _) (Nat.ne_of_lt (BoxedC.lt A1.out)) (Nat.le_of_lt (BoxedC.lt A1.out)) _ _ _ _ _ _) | with_reducible exact BoxedC.kind (BoxedC.row A1.out (Nat.ne_of_lt hsz.out) (Nat.le_of_lt hsz.out) _ _ _ _ _ _))
    (first
      | (go_at_call 67; (with_reducible refine (has_ref _).mono ?_); rintro e w1 ⟨rfl, hb1⟩; have A1 := hid (BoxedC.on (BoxedC.drew B0.out) hb1))
      | (go_at_call 67; (with_reducible refine (has_ref _).mono ?_); rintro e w1 ⟨rfl, hb1⟩; have A1 := hid (BoxedC.on (BoxedC.drew (BoxedC.alloc B0.out _)) hb1); have R1 := hid (row_first hb1); obtain ⟨q0, q1, q2, q3, q4, q5⟩ := row7 R1.out; obtain ⟨v0, v1, v2, v3, v4, v5⟩ := rowf7 R1.out))
  all_goals change Kr _ _
  all_goals with_reducible refine key.out _ _ ?_ ?_
  · exact hid (A1.out.alloc _)
  · exact hid (Blk.new w1 116 #[.bool true, .bool true, .bool true, .bool false, .bool true, .bool false])
  · exact hid (A1.out.alloc _)
  · exact hid (Blk.new w1 116 #[.bool true, .bool true, .bool true, .bool false, .bool true, .bool false])
  · exact hid (A1.out.row (Nat.ne_of_lt hsz.out) (Nat.le_of_lt hsz.out) _ _ _ _ _ _)
  · exact hid (row7_put R1.out)

set_option maxRecDepth 100000 in
set_option maxHeartbeats 8000000 in
theorem ref_8 (u : Int) (f : ByteArray) (q : Int) (s : ByteArray) (m n t : Int) (w : World) (hf : f.size ≤ 900) (hp : s.size ≤ 900) (o1 : 0 ≤ q) (o2 : 0 ≤ n) :
    Calls Tryz.prog 66 #[val ⟨8, u, f, q, s, m, n, t⟩] w fun e w' => e = .returned (.bool (docK ⟨8, u, f, q, s, m, n, t⟩)) ∧ Below w.heap.size w w' := by
  have S0 : Hid (h0 8 = true) := hid rfl
  have S1 : Hid (h1 8 = false) := hid rfl
  have S2 : Hid (h2 8 = false) := hid rfl
  have S3 : Hid (h3 8 = false) := hid rfl
  have S4 : Hid (h4 8 = false) := hid rfl
  have S5 : Hid (h5 8 = true) := hid rfl
  have SK : Hid (isK 8 = true) := hid rfl
  obtain ⟨x0, hx0⟩ : ∃ x, right (L f) = x := ⟨_, rfl⟩
  obtain ⟨x2, hx2⟩ : ∃ x, right (L s) = x := ⟨_, rfl⟩
  have X0 := hid hx0
  have X2 := hid hx2
  clear hx0 hx2
  have A0 : Hid (BoxedC w (w.alloc (.cells (cellsOf ⟨8, u, f, q, s, m, n, t⟩) 69)) w.heap.size ⟨8, u, f, q, s, m, n, t⟩) := hid (BoxedC.start w ⟨8, u, f, q, s, m, n, t⟩)
  go_enter Tryz.func66, Tryz.ntmps66
  obtain ⟨⟨c0, c1, c2, c3, c4, c5, c6, c7⟩, f0, f1, f2, f3, f4, f5, f6, f7⟩ := cells8 A0.out.1
  go_wp2_with fail
  rename_i Kr hKr
  have key0 : ∀ (W : World) (h : Nat), Hid (BoxedC w W w.heap.size ⟨8, u, f, q, s, m, n, t⟩) → Hid (RowAt7 W h true false false false false true) → Kr ⟨#[val ⟨8, u, f, q, s, m, n, t⟩, .pointer (some ⟨w.heap.size, 0, none⟩), .bool false, .pointer (some ⟨h, 0, none⟩), .pointer (some ⟨w.heap.size, 0, none⟩), .int .i64 8, .bool false, .bool false, .pointer (some ⟨w.heap.size, 0, none⟩), .int .i64 8, .bool false, .bool false, .agg hasCells, .pointer (some ⟨w.heap.size, 0, none⟩), .int .i64 8, .agg #[.bool true, .bool false, .bool false, .bool false, .bool false, .bool true], undef, undef, undef, undef, undef, undef, undef, undef, undef, undef, undef, undef, undef, undef, undef, undef, undef, undef, undef, undef, undef, undef, undef, undef, undef, undef, undef, undef, undef, undef, undef, undef, undef, undef, undef, undef, undef, undef, undef, undef, undef, undef, undef, undef, undef, undef, undef, undef, undef, undef, undef, undef, undef, undef, undef, undef, undef, undef, undef, undef, undef, undef, undef, undef, undef, undef, undef, undef, undef, undef, undef, undef, undef, undef, undef, undef, undef, undef, undef, undef, undef, undef, undef, undef, undef, undef, undef, undef, undef, undef, undef, undef, undef, undef, undef, undef, undef, undef, undef, undef, undef, undef, undef, undef, undef, undef, undef, undef, undef, undef, undef, undef, undef, undef, undef, undef, undef, undef, undef, undef, undef, undef, undef, undef, undef, undef, undef, undef, undef, undef, undef, undef, undef, undef, undef, undef, undef, undef, undef, undef, undef, undef], []⟩ W := by
    intro W h A1 R1
    clear A0
    clear c0 c1 c2 c3 c4 c5 c6 c7 f0 f1 f2 f3 f4 f5 f6 f7
    obtain ⟨⟨c0, c1, c2, c3, c4, c5, c6, c7⟩, f0, f1, f2, f3, f4, f5, f6, f7⟩ := cells8 A1.out.1
    obtain ⟨r0, r1, r2, r3, r4, r5⟩ := row7 R1.out
    rcases Decidable.em (q = 0) with z1 | z1
    · have y1 : (q != 0) = false := by rw [z1]; rfl
      have Z1 := hid z1
      clear z1
      rcases Decidable.em (L s = []) with z2 | z2
      · have y2 : s.toList.isEmpty = true := by rw [toList_L, z2]; rfl
        have y2b : s.toList = [] := by rw [toList_L, z2]
        have Z2 := hid z2
        clear z2
        rcases Decidable.em (m = 0) with z3 | z3
        · have y3 : (m != 0) = false := by rw [z3]; rfl
          have Z3 := hid z3
          clear z3
          rcases Decidable.em (n = 0) with z4 | z4
          · have y4 : (n != 0) = false := by rw [z4]; rfl
            have Z4 := hid z4
            clear z4
            cases x0
            · go_wp2_with fail
              with_reducible refine (refright_any f _ hf).mono ?_
              rw [X0.out]
              rintro e w15 ⟨rfl, hb⟩
              have A15 := hid (A1.out.on hb)
              have R15 : Hid (RowAt7 w15 h true false false false false true) := hid (Blk.below R1.out hb (Blk.lt R1.out))
              clear hb A1 R1 r0 r1 r2 r3 r4 r5
              clear c0 c1 c2 c3 c4 c5 c6 c7 f0 f1 f2 f3 f4 f5 f6 f7
              obtain ⟨⟨c0, c1, c2, c3, c4, c5, c6, c7⟩, f0, f1, f2, f3, f4, f5, f6, f7⟩ := cells8 A15.out.1
              obtain ⟨r0, r1, r2, r3, r4, r5⟩ := row7 R15.out
              have E : docK ⟨8, u, f, q, s, m, n, t⟩ = false := by simp [docK, lacks, SK.out, S0.out, S1.out, S2.out, S3.out, S4.out, S5.out, X0.out, X2.out, Z1.out, Z2.out, Z3.out, Z4.out] <;> omega
              have HE := hid E
              clear E
              go_wp2
              go_ret
              exact ⟨ret_bool (by first | exact HE.out.symm | (rw [HE.out]; simp; omega)), A15.out.below⟩
            · go_wp2_with fail
              with_reducible refine (refright_any f _ hf).mono ?_
              rw [X0.out]
              rintro e w15 ⟨rfl, hb⟩
              have A15 := hid (A1.out.on hb)
              have R15 : Hid (RowAt7 w15 h true false false false false true) := hid (Blk.below R1.out hb (Blk.lt R1.out))
              clear hb A1 R1 r0 r1 r2 r3 r4 r5
              clear c0 c1 c2 c3 c4 c5 c6 c7 f0 f1 f2 f3 f4 f5 f6 f7
              obtain ⟨⟨c0, c1, c2, c3, c4, c5, c6, c7⟩, f0, f1, f2, f3, f4, f5, f6, f7⟩ := cells8 A15.out.1
              obtain ⟨r0, r1, r2, r3, r4, r5⟩ := row7 R15.out
              rcases Decidable.em (0 ≤ t) with z6 | z6
              · rcases Decidable.em (t ≤ 1099511627776) with z6b | z6b
                · have y6 := z6
                  have E : docK ⟨8, u, f, q, s, m, n, t⟩ = true := by simp [docK, lacks, SK.out, S0.out, S1.out, S2.out, S3.out, S4.out, S5.out, X0.out, X2.out, Z1.out, Z2.out, Z3.out, Z4.out] <;> omega
                  have HE := hid E
                  clear E
                  go_wp2
                  go_ret
                  exact ⟨ret_bool (by first | exact HE.out.symm | (rw [HE.out]; simp; omega)), A15.out.below⟩
                · have y6 := z6
                  have E : docK ⟨8, u, f, q, s, m, n, t⟩ = false := by simp [docK, lacks, SK.out, S0.out, S1.out, S2.out, S3.out, S4.out, S5.out, X0.out, X2.out, Z1.out, Z2.out, Z3.out, Z4.out] <;> omega
                  have HE := hid E
                  clear E
                  go_wp2
                  go_ret
                  exact ⟨ret_bool (by first | exact HE.out.symm | (rw [HE.out]; simp; omega)), A15.out.below⟩
              · have y6 := z6
                have E : docK ⟨8, u, f, q, s, m, n, t⟩ = false := by simp [docK, lacks, SK.out, S0.out, S1.out, S2.out, S3.out, S4.out, S5.out, X0.out, X2.out, Z1.out, Z2.out, Z3.out, Z4.out] <;> omega
                have HE := hid E
                clear E
                go_wp2
                go_ret
                exact ⟨ret_bool (by first | exact HE.out.symm | (rw [HE.out]; simp; omega)), A15.out.below⟩
          · have y4 : (n != 0) = true := bne_iff_ne.2 z4
            have E : docK ⟨8, u, f, q, s, m, n, t⟩ = false := by simp [docK, lacks, SK.out, S0.out, S1.out, S2.out, S3.out, S4.out, S5.out, X0.out, X2.out, Z1.out, Z2.out, Z3.out, z4] <;> omega
            have HE := hid E
            clear E
            go_wp2
            go_ret
            exact ⟨ret_bool (by first | exact HE.out.symm | (rw [HE.out]; simp; omega)), A1.out.below⟩
        · have y3 : (m != 0) = true := bne_iff_ne.2 z3
          have E : docK ⟨8, u, f, q, s, m, n, t⟩ = false := by simp [docK, lacks, SK.out, S0.out, S1.out, S2.out, S3.out, S4.out, S5.out, X0.out, X2.out, Z1.out, Z2.out, z3] <;> omega
          have HE := hid E
          clear E
          go_wp2
          go_ret
          exact ⟨ret_bool (by first | exact HE.out.symm | (rw [HE.out]; simp; omega)), A1.out.below⟩
      · have y2 : s.toList.isEmpty = false := (not_empty (l := L s) rfl z2).1
        have y2b : ¬ s.toList = [] := (not_empty (l := L s) rfl z2).2
        have E : docK ⟨8, u, f, q, s, m, n, t⟩ = false := by simp [docK, lacks, SK.out, S0.out, S1.out, S2.out, S3.out, S4.out, S5.out, X0.out, X2.out, Z1.out, z2] <;> omega
        have HE := hid E
        clear E
        go_wp2
        go_ret
        exact ⟨ret_bool (by first | exact HE.out.symm | (rw [HE.out]; simp; omega)), A1.out.below⟩
    · have y1 : (q != 0) = true := bne_iff_ne.2 z1
      have E : docK ⟨8, u, f, q, s, m, n, t⟩ = false := by simp [docK, lacks, SK.out, S0.out, S1.out, S2.out, S3.out, S4.out, S5.out, X0.out, X2.out, z1] <;> omega
      have HE := hid E
      clear E
      go_wp2
      go_ret
      exact ⟨ret_bool (by first | exact HE.out.symm | (rw [HE.out]; simp; omega)), A1.out.below⟩
  have key := hid key0
  clear key0 hKr
  obtain ⟨W0, hW0⟩ : ∃ W0, w.alloc (.cells #[.int .i64 8, .int .u64 u, .string f, .int .u64 q, .string s, .int .i64 m, .int .u64 n, .int .i64 t] 69) = W0 := ⟨_, rfl⟩
  have B0 : Hid (BoxedC w W0 w.heap.size ⟨8, u, f, q, s, m, n, t⟩) := hid (by rw [← hW0]; exact A0.out)
  rw [hW0] at c0 c1 c2 c3 c4 c5 c6 c7 f0 f1 f2 f3 f4 f5 f6 f7 ⊢
  have hsz : Hid (w.heap.size < W0.heap.size) := hid B0.out.lt
  clear A0 hW0
  have IX := has_ix8
  go_region_held3 (fun w' => w'.cell? ⟨w.heap.size, 0, none⟩ = some (.int .i64 8))
    (first | with_reducible exact BoxedC.kind (BoxedC.drew B0.out) | with_reducible exact BoxedC.kind (BoxedC.drew (BoxedC.alloc B0.out _)) | with_reducible exact BoxedC.kind A1.out | with_reducible exact BoxedC.kind (BoxedC.alloc A1.out _) | with_reducible exact BoxedC.kind (BoxedC.row (BoxedC.alloc A1.out _) (Nat.ne_of_lt (BoxedC.lt A1.out)) (Nat.le_of_lt (BoxedC.lt A1.out)) _ _ _ _ _ _) | with_reducible exact BoxedC.kind (BoxedC.row A1.out (Nat.ne_of_lt hsz.out) (Nat.le_of_lt hsz.out) _ _ _ _ _ _))
    (first
      | (go_at_call 67; (with_reducible refine (has_ref _).mono ?_); rintro e w1 ⟨rfl, hb1⟩; have A1 := hid (BoxedC.on (BoxedC.drew B0.out) hb1))
      | (go_at_call 67; (with_reducible refine (has_ref _).mono ?_); rintro e w1 ⟨rfl, hb1⟩; have A1 := hid (BoxedC.on (BoxedC.drew (BoxedC.alloc B0.out _)) hb1); have R1 := hid (row_first hb1); obtain ⟨q0, q1, q2, q3, q4, q5⟩ := row7 R1.out; obtain ⟨v0, v1, v2, v3, v4, v5⟩ := rowf7 R1.out))
  all_goals change Kr _ _
  all_goals with_reducible refine key.out _ _ ?_ ?_
  · exact hid (A1.out.alloc _)
  · exact hid (Blk.new w1 116 #[.bool true, .bool false, .bool false, .bool false, .bool false, .bool true])
  · exact hid (A1.out.alloc _)
  · exact hid (Blk.new w1 116 #[.bool true, .bool false, .bool false, .bool false, .bool false, .bool true])
  · exact hid (A1.out.row (Nat.ne_of_lt hsz.out) (Nat.le_of_lt hsz.out) _ _ _ _ _ _)
  · exact hid (row7_put R1.out)

end Go.Proofs.YtpdfakjopeldmaaGreatDoor
