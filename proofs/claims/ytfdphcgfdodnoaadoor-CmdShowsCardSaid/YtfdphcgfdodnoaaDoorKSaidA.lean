/-
  The contract of the document's own text of a command (moothilllaw07.text), kind by kind.
-/
import Derived.Test.YtfdphcgfdodnoaaDoorKDigits
import Derived.Test.YtfdphcgfdodnoaaDoorKHas
import Derived.Deep.RegionHeld3
namespace Go.Proofs.YtfdphcgfdodnoaaDoor
open Go.ChangeShapes Go.WideShapes Go.ChangeAt Go.RowKit Go.Lib
set_option linter.unusedSimpArgs false
set_option linter.unusedVariables false

set_option maxRecDepth 100000 in
set_option maxHeartbeats 4000000 in
theorem text_0 (u : Int) (f : ByteArray) (q : Int) (s : ByteArray) (m n t : Int) (w : World) (hu : 0 ≤ u ∧ u < 18446744073709551616) (hq : 0 ≤ q ∧ q < 18446744073709551616) (hn : 0 ≤ n ∧ n < 18446744073709551616) (hm : 0 ≤ m ∧ m ≤ 2) (ht : 0 ≤ t ∧ t ≤ 1099511627776) (hf : f.size ≤ 64) (hp : s.size ≤ 64) :
    Calls Tryd.prog 15 #[val ⟨0, u, f, q, s, m, n, t⟩] w (TellsL (txt ⟨0, u, f, q, s, m, n, t⟩) w) := by
  have S0 : h0 0 = false := rfl
  have S1 : h1 0 = false := rfl
  have S2 : h2 0 = false := rfl
  have S3 : h3 0 = false := rfl
  have S4 : h4 0 = false := rfl
  have S5 : h5 0 = false := rfl
  obtain ⟨un, hun⟩ : ∃ x : Nat, u = (x : Int) := ⟨u.toNat, by omega⟩
  obtain ⟨qn, hqn⟩ : ∃ x : Nat, q = (x : Int) := ⟨q.toNat, by omega⟩
  obtain ⟨mn, hmn⟩ : ∃ x : Nat, m = (x : Int) := ⟨m.toNat, by omega⟩
  obtain ⟨nn, hnn⟩ : ∃ x : Nat, n = (x : Int) := ⟨n.toNat, by omega⟩
  obtain ⟨tn, htn⟩ : ∃ x : Nat, t = (x : Int) := ⟨t.toNat, by omega⟩
  have b2 : un < 18446744073709551616 := by omega
  have b3 : qn < 18446744073709551616 := by omega
  have b4 : mn < 18446744073709551616 := by omega
  have b5 : nn < 18446744073709551616 := by omega
  have b6 : tn < 18446744073709551616 := by omega
  have W2 : IntKind.u64.wrap m = m := by rw [IntKind.wrap_u64]; omega
  have W3 : IntKind.u64.wrap t = t := by rw [IntKind.wrap_u64]; omega
  have M2 : m % 18446744073709551616 = m := by omega
  have M3 : t % 18446744073709551616 = t := by omega
  have E : Hid (txt ⟨0, u, f, q, s, m, n, t⟩ = nameL 0) := hid (by simp only [txt, t0, t1, t2, t3, t4, t5, S0, S1, S2, S3, S4, S5]; simp [hun, hqn, hmn, hnn, htn, List.append_assoc])
  have NL : Hid (L ⟨#[110, 111, 111, 112]⟩ = nameL 0) := hid (by rfl)
  have HUN := hid hun
  have HQN := hid hqn
  have HMN := hid hmn
  have HNN := hid hnn
  have HTN := hid htn
  clear S0 S1 S2 S3 S4 S5 hun hqn hmn hnn htn hu hq hn hm ht
  have A0 : Hid (BoxedC w (w.alloc (.cells (cellsOf ⟨0, u, f, q, s, m, n, t⟩) 33)) w.heap.size ⟨0, u, f, q, s, m, n, t⟩) := hid (BoxedC.start w ⟨0, u, f, q, s, m, n, t⟩)
  have IN : ∀ W, (Instr.index 58 (.agg #[.string ⟨#[110, 111, 111, 112]⟩, .string ⟨#[111, 112, 101, 110]⟩, .string ⟨#[99, 108, 111, 115, 101]⟩, .string ⟨#[107, 101, 101, 112]⟩, .string ⟨#[97, 99, 113, 117, 105, 114, 101]⟩, .string ⟨#[116, 114, 121]⟩, .string ⟨#[114, 101, 108, 101, 97, 115, 101]⟩, .string ⟨#[99, 104, 101, 99, 107]⟩, .string ⟨#[101, 120, 112, 105, 114, 101]⟩]) (.int .i64 0)).run Tryd.prog W = .ok (.string ⟨#[110, 111, 111, 112]⟩) W := fun W => by kernel_rfl
  go_enter Tryd.func15, Tryd.ntmps15
  obtain ⟨⟨c0, c1, c2, c3, c4, c5, c6, c7⟩, f0, f1, f2, f3, f4, f5, f6, f7⟩ := cells8 A0.out.1
  go_wp2_with fail
  rename_i Kr hKr
  have key0 : ∀ (W : World) (h : Nat), Hid (BoxedC w W w.heap.size ⟨0, u, f, q, s, m, n, t⟩) → Hid (RowAt7 W h false false false false false false) → Kr ⟨#[val ⟨0, u, f, q, s, m, n, t⟩, .pointer (some ⟨w.heap.size, 0, none⟩), .string ⟨#[]⟩, .string ⟨#[110, 111, 111, 112]⟩, .pointer (some ⟨h, 0, none⟩), .agg #[.string ⟨#[110, 111, 111, 112]⟩, .string ⟨#[111, 112, 101, 110]⟩, .string ⟨#[99, 108, 111, 115, 101]⟩, .string ⟨#[107, 101, 101, 112]⟩, .string ⟨#[97, 99, 113, 117, 105, 114, 101]⟩, .string ⟨#[116, 114, 121]⟩, .string ⟨#[114, 101, 108, 101, 97, 115, 101]⟩, .string ⟨#[99, 104, 101, 99, 107]⟩, .string ⟨#[101, 120, 112, 105, 114, 101]⟩], .pointer (some ⟨w.heap.size, 0, none⟩), .int .i64 0, .string ⟨#[110, 111, 111, 112]⟩, .agg hasCells, .pointer (some ⟨w.heap.size, 0, none⟩), .int .i64 0, .agg #[.bool false, .bool false, .bool false, .bool false, .bool false, .bool false], undef, undef, undef, undef, undef, undef, undef, undef, undef, undef, undef, undef, undef, undef, undef, undef, undef, undef, undef, undef, undef, undef, undef, undef, undef, undef, undef, undef, undef, undef, undef, undef, undef, undef, undef, undef, undef, undef, undef, undef, undef, undef, undef, undef, undef, undef, undef, undef, undef, undef, undef, undef, undef, undef], []⟩ W := by
    intro W h A1 R1
    clear A0 IN
    clear c0 c1 c2 c3 c4 c5 c6 c7 f0 f1 f2 f3 f4 f5 f6 f7
    obtain ⟨⟨c0, c1, c2, c3, c4, c5, c6, c7⟩, f0, f1, f2, f3, f4, f5, f6, f7⟩ := cells8 A1.out.1
    obtain ⟨r0, r1, r2, r3, r4, r5⟩ := row7 R1.out
    have G := hid A1.out.below
    go_wp2
    go_ret
    exact ⟨_, rfl, by rw [E.out]; simp [L_append, wordL, lits7, NL.out], G.out⟩
  have key := hid key0
  clear key0 hKr
  obtain ⟨W0, hW0⟩ : ∃ W0, w.alloc (.cells #[.int .i64 0, .int .u64 u, .string f, .int .u64 q, .string s, .int .i64 m, .int .u64 n, .int .i64 t] 33) = W0 := ⟨_, rfl⟩
  have B0 : Hid (BoxedC w W0 w.heap.size ⟨0, u, f, q, s, m, n, t⟩) := hid (by rw [← hW0]; exact A0.out)
  rw [hW0] at c0 c1 c2 c3 c4 c5 c6 c7 f0 f1 f2 f3 f4 f5 f6 f7 ⊢
  have hsz : Hid (w.heap.size < W0.heap.size) := hid B0.out.lt
  clear A0 hW0
  have IX := has_ix0
  go_region_held3 (fun w' => w'.cell? ⟨w.heap.size, 0, none⟩ = some (.int .i64 0))
    (first | with_reducible exact BoxedC.kind (BoxedC.drew B0.out) | with_reducible exact BoxedC.kind (BoxedC.drew (BoxedC.alloc B0.out _)) | with_reducible exact BoxedC.kind A1.out | with_reducible exact BoxedC.kind (BoxedC.alloc A1.out _) | with_reducible exact BoxedC.kind (BoxedC.row (BoxedC.alloc A1.out _) (Nat.ne_of_lt (BoxedC.lt A1.out)) (Nat.le_of_lt (BoxedC.lt A1.out)) _ _ _ _ _ _) | with_reducible exact BoxedC.kind (BoxedC.row A1.out (Nat.ne_of_lt hsz.out) (Nat.le_of_lt hsz.out) _ _ _ _ _ _))
    (first
      | (go_at_call 34; (with_reducible refine (has_ref _).mono ?_); rintro e w1 ⟨rfl, hb1⟩; have A1 := hid (BoxedC.on (BoxedC.drew B0.out) hb1))
      | (go_at_call 34; (with_reducible refine (has_ref _).mono ?_); rintro e w1 ⟨rfl, hb1⟩; have A1 := hid (BoxedC.on (BoxedC.drew (BoxedC.alloc B0.out _)) hb1); have R1 := hid (row_first hb1); obtain ⟨q0, q1, q2, q3, q4, q5⟩ := row7 R1.out; obtain ⟨v0, v1, v2, v3, v4, v5⟩ := rowf7 R1.out))
  all_goals change Kr _ _
  all_goals with_reducible refine key.out _ _ ?_ ?_
  · exact hid (A1.out.alloc _)
  · exact hid (Blk.new w1 63 #[.bool false, .bool false, .bool false, .bool false, .bool false, .bool false])
  · exact hid (A1.out.alloc _)
  · exact hid (Blk.new w1 63 #[.bool false, .bool false, .bool false, .bool false, .bool false, .bool false])
  · exact hid (A1.out.row (Nat.ne_of_lt hsz.out) (Nat.le_of_lt hsz.out) _ _ _ _ _ _)
  · exact hid (row7_put R1.out)

set_option maxRecDepth 100000 in
set_option maxHeartbeats 4000000 in
theorem text_1 (u : Int) (f : ByteArray) (q : Int) (s : ByteArray) (m n t : Int) (w : World) (hu : 0 ≤ u ∧ u < 18446744073709551616) (hq : 0 ≤ q ∧ q < 18446744073709551616) (hn : 0 ≤ n ∧ n < 18446744073709551616) (hm : 0 ≤ m ∧ m ≤ 2) (ht : 0 ≤ t ∧ t ≤ 1099511627776) (hf : f.size ≤ 64) (hp : s.size ≤ 64) :
    Calls Tryd.prog 15 #[val ⟨1, u, f, q, s, m, n, t⟩] w (TellsL (txt ⟨1, u, f, q, s, m, n, t⟩) w) := by
  have S0 : h0 1 = true := rfl
  have S1 : h1 1 = true := rfl
  have S2 : h2 1 = false := rfl
  have S3 : h3 1 = false := rfl
  have S4 : h4 1 = true := rfl
  have S5 : h5 1 = true := rfl
  obtain ⟨un, hun⟩ : ∃ x : Nat, u = (x : Int) := ⟨u.toNat, by omega⟩
  obtain ⟨qn, hqn⟩ : ∃ x : Nat, q = (x : Int) := ⟨q.toNat, by omega⟩
  obtain ⟨mn, hmn⟩ : ∃ x : Nat, m = (x : Int) := ⟨m.toNat, by omega⟩
  obtain ⟨nn, hnn⟩ : ∃ x : Nat, n = (x : Int) := ⟨n.toNat, by omega⟩
  obtain ⟨tn, htn⟩ : ∃ x : Nat, t = (x : Int) := ⟨t.toNat, by omega⟩
  have b2 : un < 18446744073709551616 := by omega
  have b3 : qn < 18446744073709551616 := by omega
  have b4 : mn < 18446744073709551616 := by omega
  have b5 : nn < 18446744073709551616 := by omega
  have b6 : tn < 18446744073709551616 := by omega
  have W2 : IntKind.u64.wrap m = m := by rw [IntKind.wrap_u64]; omega
  have W3 : IntKind.u64.wrap t = t := by rw [IntKind.wrap_u64]; omega
  have M2 : m % 18446744073709551616 = m := by omega
  have M3 : t % 18446744073709551616 = t := by omega
  have E : Hid (txt ⟨1, u, f, q, s, m, n, t⟩ = nameL 1 ++ (wordL nNum (decDigits un) ++ (wordL nFoot (L f) ++ (wordL nReq (decDigits qn) ++ (wordL nN (decDigits nn) ++ (wordL nTime (decDigits tn))))))) := hid (by simp only [txt, t0, t1, t2, t3, t4, t5, S0, S1, S2, S3, S4, S5]; simp [hun, hqn, hmn, hnn, htn, List.append_assoc])
  have NL : Hid (L ⟨#[111, 112, 101, 110]⟩ = nameL 1) := hid (by rfl)
  have HUN := hid hun
  have HQN := hid hqn
  have HMN := hid hmn
  have HNN := hid hnn
  have HTN := hid htn
  clear S0 S1 S2 S3 S4 S5 hun hqn hmn hnn htn hu hq hn hm ht
  have A0 : Hid (BoxedC w (w.alloc (.cells (cellsOf ⟨1, u, f, q, s, m, n, t⟩) 33)) w.heap.size ⟨1, u, f, q, s, m, n, t⟩) := hid (BoxedC.start w ⟨1, u, f, q, s, m, n, t⟩)
  have IN : ∀ W, (Instr.index 58 (.agg #[.string ⟨#[110, 111, 111, 112]⟩, .string ⟨#[111, 112, 101, 110]⟩, .string ⟨#[99, 108, 111, 115, 101]⟩, .string ⟨#[107, 101, 101, 112]⟩, .string ⟨#[97, 99, 113, 117, 105, 114, 101]⟩, .string ⟨#[116, 114, 121]⟩, .string ⟨#[114, 101, 108, 101, 97, 115, 101]⟩, .string ⟨#[99, 104, 101, 99, 107]⟩, .string ⟨#[101, 120, 112, 105, 114, 101]⟩]) (.int .i64 1)).run Tryd.prog W = .ok (.string ⟨#[111, 112, 101, 110]⟩) W := fun W => by kernel_rfl
  go_enter Tryd.func15, Tryd.ntmps15
  obtain ⟨⟨c0, c1, c2, c3, c4, c5, c6, c7⟩, f0, f1, f2, f3, f4, f5, f6, f7⟩ := cells8 A0.out.1
  go_wp2_with fail
  rename_i Kr hKr
  have key0 : ∀ (W : World) (h : Nat), Hid (BoxedC w W w.heap.size ⟨1, u, f, q, s, m, n, t⟩) → Hid (RowAt7 W h true true false false true true) → Kr ⟨#[val ⟨1, u, f, q, s, m, n, t⟩, .pointer (some ⟨w.heap.size, 0, none⟩), .string ⟨#[]⟩, .string ⟨#[111, 112, 101, 110]⟩, .pointer (some ⟨h, 0, none⟩), .agg #[.string ⟨#[110, 111, 111, 112]⟩, .string ⟨#[111, 112, 101, 110]⟩, .string ⟨#[99, 108, 111, 115, 101]⟩, .string ⟨#[107, 101, 101, 112]⟩, .string ⟨#[97, 99, 113, 117, 105, 114, 101]⟩, .string ⟨#[116, 114, 121]⟩, .string ⟨#[114, 101, 108, 101, 97, 115, 101]⟩, .string ⟨#[99, 104, 101, 99, 107]⟩, .string ⟨#[101, 120, 112, 105, 114, 101]⟩], .pointer (some ⟨w.heap.size, 0, none⟩), .int .i64 1, .string ⟨#[111, 112, 101, 110]⟩, .agg hasCells, .pointer (some ⟨w.heap.size, 0, none⟩), .int .i64 1, .agg #[.bool true, .bool true, .bool false, .bool false, .bool true, .bool true], undef, undef, undef, undef, undef, undef, undef, undef, undef, undef, undef, undef, undef, undef, undef, undef, undef, undef, undef, undef, undef, undef, undef, undef, undef, undef, undef, undef, undef, undef, undef, undef, undef, undef, undef, undef, undef, undef, undef, undef, undef, undef, undef, undef, undef, undef, undef, undef, undef, undef, undef, undef, undef, undef], []⟩ W := by
    intro W h A1 R1
    clear A0 IN
    clear c0 c1 c2 c3 c4 c5 c6 c7 f0 f1 f2 f3 f4 f5 f6 f7
    obtain ⟨⟨c0, c1, c2, c3, c4, c5, c6, c7⟩, f0, f1, f2, f3, f4, f5, f6, f7⟩ := cells8 A1.out.1
    obtain ⟨r0, r1, r2, r3, r4, r5⟩ := row7 R1.out
    go_wp2_with fail
    have DA := hid A1.out.drew
    have YS : Hid (∀ d : ByteArray, d.size ≤ 20 → ¬ 9223372036854775807 < 5 + d.size ∧ ¬ 9223372036854775807 < 5 + d.size + 6 ∧ ¬ 9223372036854775807 < 5 + d.size + 6 + f.size ∧ ¬ 9223372036854775807 < 4 + (5 + d.size + 6 + f.size) ∧ ¬ 9223372036854775807 < (⟨#[32, 110, 117, 109, 61]⟩ : ByteArray).size + d.size ∧ ¬ 9223372036854775807 < (⟨#[32, 110, 117, 109, 61]⟩ : ByteArray).size + d.size + (⟨#[32, 102, 111, 111, 116, 61]⟩ : ByteArray).size ∧ ¬ 9223372036854775807 < (⟨#[32, 110, 117, 109, 61]⟩ : ByteArray).size + d.size + (⟨#[32, 102, 111, 111, 116, 61]⟩ : ByteArray).size + f.size ∧ ¬ 9223372036854775807 < (⟨#[111, 112, 101, 110]⟩ : ByteArray).size + ((⟨#[32, 110, 117, 109, 61]⟩ : ByteArray).size + d.size + (⟨#[32, 102, 111, 111, 116, 61]⟩ : ByteArray).size + f.size)) := hid (fun d hd => by
      have q1 : (⟨#[32, 110, 117, 109, 61]⟩ : ByteArray).size = 5 := rfl
      have q2 : (⟨#[32, 102, 111, 111, 116, 61]⟩ : ByteArray).size = 6 := rfl
      have q3 : (⟨#[111, 112, 101, 110]⟩ : ByteArray).size = 4 := rfl
      rw [q1, q2, q3]
      refine ⟨?_, ?_, ?_, ?_, ?_, ?_, ?_, ?_⟩ <;> omega)
    go_region_held3 (fun w' => w'.cell? ⟨w.heap.size, 1, none⟩ = some (.int .u64 u) ∧ w'.cell? ⟨w.heap.size, 2, none⟩ = some (.string f))
      (first | exact ⟨(cells8 A1.out.1).1.2.1, (cells8 A1.out.1).1.2.2.1⟩ | exact ⟨(cells8 DA.out.1).1.2.1, (cells8 DA.out.1).1.2.2.1⟩ | exact ⟨(cells8 A2.out.1).1.2.1, (cells8 A2.out.1).1.2.2.1⟩)
      (first
        | (go_at_call 36; (with_reducible refine (digits_at un u _ HUN.out b2).mono ?_); rintro e w2 ⟨d2, rfl, hd2, hb⟩; have z2 := size_of_L hd2 (dec_len7 b2); obtain ⟨y1, y2, y3, y4, y5, y6, y7, y8⟩ := YS.out _ z2; have A2 := hid (DA.out.on hb); have R2 : Hid (RowAt7 _ h true true false false true true) := hid (Blk.below (Blk.drew R1.out) hb (Blk.lt (Blk.drew R1.out)))))
    rename_i hHeld
    have D2 := hid hd2
    clear hHeld hd2 hb DA A1 R1 YS
    try clear y1 y2 y3 y4 y5 y6 y7 y8
    clear r0 r1 r2 r3 r4 r5
    clear c0 c1 c2 c3 c4 c5 c6 c7 f0 f1 f2 f3 f4 f5 f6 f7
    obtain ⟨⟨c0, c1, c2, c3, c4, c5, c6, c7⟩, f0, f1, f2, f3, f4, f5, f6, f7⟩ := cells8 A2.out.1
    obtain ⟨r0, r1, r2, r3, r4, r5⟩ := row7 R2.out
    go_wp2_with fail
    with_reducible refine (digits_at qn q _ HQN.out b3).mono ?_
    rintro e w3 ⟨d3, rfl, hd3, hb⟩
    have z3 := size_of_L hd3 (dec_len7 b3)
    have D3 := hid hd3
    clear hd3
    have A3 := hid (A2.out.on hb)
    have R3 : Hid (RowAt7 _ h true true false false true true) := hid (Blk.below R2.out hb (Blk.lt R2.out))
    clear hb A2 R2
    clear r0 r1 r2 r3 r4 r5
    clear c0 c1 c2 c3 c4 c5 c6 c7 f0 f1 f2 f3 f4 f5 f6 f7
    obtain ⟨⟨c0, c1, c2, c3, c4, c5, c6, c7⟩, f0, f1, f2, f3, f4, f5, f6, f7⟩ := cells8 A3.out.1
    obtain ⟨r0, r1, r2, r3, r4, r5⟩ := row7 R3.out
    go_wp2_with fail
    with_reducible refine (digits_at nn n _ HNN.out b5).mono ?_
    rintro e w4 ⟨d4, rfl, hd4, hb⟩
    have z4 := size_of_L hd4 (dec_len7 b5)
    have D4 := hid hd4
    clear hd4
    have A4 := hid (A3.out.on hb)
    have R4 : Hid (RowAt7 _ h true true false false true true) := hid (Blk.below R3.out hb (Blk.lt R3.out))
    clear hb A3 R3
    clear r0 r1 r2 r3 r4 r5
    clear c0 c1 c2 c3 c4 c5 c6 c7 f0 f1 f2 f3 f4 f5 f6 f7
    obtain ⟨⟨c0, c1, c2, c3, c4, c5, c6, c7⟩, f0, f1, f2, f3, f4, f5, f6, f7⟩ := cells8 A4.out.1
    obtain ⟨r0, r1, r2, r3, r4, r5⟩ := row7 R4.out
    go_wp2_with fail
    with_reducible refine (digits_at tn t _ HTN.out b6).mono ?_
    rintro e w5 ⟨d5, rfl, hd5, hb⟩
    have z5 := size_of_L hd5 (dec_len7 b6)
    have D5 := hid hd5
    clear hd5
    have A5 := hid (A4.out.on hb)
    have R5 : Hid (RowAt7 _ h true true false false true true) := hid (Blk.below R4.out hb (Blk.lt R4.out))
    clear hb A4 R4
    clear r0 r1 r2 r3 r4 r5
    clear c0 c1 c2 c3 c4 c5 c6 c7 f0 f1 f2 f3 f4 f5 f6 f7
    obtain ⟨⟨c0, c1, c2, c3, c4, c5, c6, c7⟩, f0, f1, f2, f3, f4, f5, f6, f7⟩ := cells8 A5.out.1
    obtain ⟨r0, r1, r2, r3, r4, r5⟩ := row7 R5.out
    have G := hid A5.out.below
    go_wp2
    go_ret
    exact ⟨_, rfl, by rw [E.out]; simp [L_append, wordL, lits7, NL.out, D2.out, D3.out, D4.out, D5.out], G.out⟩
  have key := hid key0
  clear key0 hKr
  obtain ⟨W0, hW0⟩ : ∃ W0, w.alloc (.cells #[.int .i64 1, .int .u64 u, .string f, .int .u64 q, .string s, .int .i64 m, .int .u64 n, .int .i64 t] 33) = W0 := ⟨_, rfl⟩
  have B0 : Hid (BoxedC w W0 w.heap.size ⟨1, u, f, q, s, m, n, t⟩) := hid (by rw [← hW0]; exact A0.out)
  rw [hW0] at c0 c1 c2 c3 c4 c5 c6 c7 f0 f1 f2 f3 f4 f5 f6 f7 ⊢
  have hsz : Hid (w.heap.size < W0.heap.size) := hid B0.out.lt
  clear A0 hW0
  have IX := has_ix1
  go_region_held3 (fun w' => w'.cell? ⟨w.heap.size, 0, none⟩ = some (.int .i64 1))
    (first | with_reducible exact BoxedC.kind (BoxedC.drew B0.out) | with_reducible exact BoxedC.kind (BoxedC.drew (BoxedC.alloc B0.out _)) | with_reducible exact BoxedC.kind A1.out | with_reducible exact BoxedC.kind (BoxedC.alloc A1.out _) | with_reducible exact BoxedC.kind (BoxedC.row (BoxedC.alloc A1.out _) (Nat.ne_of_lt (BoxedC.lt A1.out)) (Nat.le_of_lt (BoxedC.lt A1.out)) _ _ _ _ _ _) | with_reducible exact BoxedC.kind (BoxedC.row A1.out (Nat.ne_of_lt hsz.out) (Nat.le_of_lt hsz.out) _ _ _ _ _ _))
    (first
      | (go_at_call 34; (with_reducible refine (has_ref _).mono ?_); rintro e w1 ⟨rfl, hb1⟩; have A1 := hid (BoxedC.on (BoxedC.drew B0.out) hb1))
      | (go_at_call 34; (with_reducible refine (has_ref _).mono ?_); rintro e w1 ⟨rfl, hb1⟩; have A1 := hid (BoxedC.on (BoxedC.drew (BoxedC.alloc B0.out _)) hb1); have R1 := hid (row_first hb1); obtain ⟨q0, q1, q2, q3, q4, q5⟩ := row7 R1.out; obtain ⟨v0, v1, v2, v3, v4, v5⟩ := rowf7 R1.out))
  all_goals change Kr _ _
  all_goals with_reducible refine key.out _ _ ?_ ?_
  · exact hid (A1.out.alloc _)
  · exact hid (Blk.new w1 63 #[.bool true, .bool true, .bool false, .bool false, .bool true, .bool true])
  · exact hid (A1.out.alloc _)
  · exact hid (Blk.new w1 63 #[.bool true, .bool true, .bool false, .bool false, .bool true, .bool true])
  · exact hid (A1.out.row (Nat.ne_of_lt hsz.out) (Nat.le_of_lt hsz.out) _ _ _ _ _ _)
  · exact hid (row7_put R1.out)

set_option maxRecDepth 100000 in
set_option maxHeartbeats 4000000 in
theorem text_2 (u : Int) (f : ByteArray) (q : Int) (s : ByteArray) (m n t : Int) (w : World) (hu : 0 ≤ u ∧ u < 18446744073709551616) (hq : 0 ≤ q ∧ q < 18446744073709551616) (hn : 0 ≤ n ∧ n < 18446744073709551616) (hm : 0 ≤ m ∧ m ≤ 2) (ht : 0 ≤ t ∧ t ≤ 1099511627776) (hf : f.size ≤ 64) (hp : s.size ≤ 64) :
    Calls Tryd.prog 15 #[val ⟨2, u, f, q, s, m, n, t⟩] w (TellsL (txt ⟨2, u, f, q, s, m, n, t⟩) w) := by
  have S0 : h0 2 = true := rfl
  have S1 : h1 2 = true := rfl
  have S2 : h2 2 = false := rfl
  have S3 : h3 2 = false := rfl
  have S4 : h4 2 = false := rfl
  have S5 : h5 2 = false := rfl
  obtain ⟨un, hun⟩ : ∃ x : Nat, u = (x : Int) := ⟨u.toNat, by omega⟩
  obtain ⟨qn, hqn⟩ : ∃ x : Nat, q = (x : Int) := ⟨q.toNat, by omega⟩
  obtain ⟨mn, hmn⟩ : ∃ x : Nat, m = (x : Int) := ⟨m.toNat, by omega⟩
  obtain ⟨nn, hnn⟩ : ∃ x : Nat, n = (x : Int) := ⟨n.toNat, by omega⟩
  obtain ⟨tn, htn⟩ : ∃ x : Nat, t = (x : Int) := ⟨t.toNat, by omega⟩
  have b2 : un < 18446744073709551616 := by omega
  have b3 : qn < 18446744073709551616 := by omega
  have b4 : mn < 18446744073709551616 := by omega
  have b5 : nn < 18446744073709551616 := by omega
  have b6 : tn < 18446744073709551616 := by omega
  have W2 : IntKind.u64.wrap m = m := by rw [IntKind.wrap_u64]; omega
  have W3 : IntKind.u64.wrap t = t := by rw [IntKind.wrap_u64]; omega
  have M2 : m % 18446744073709551616 = m := by omega
  have M3 : t % 18446744073709551616 = t := by omega
  have E : Hid (txt ⟨2, u, f, q, s, m, n, t⟩ = nameL 2 ++ (wordL nNum (decDigits un) ++ (wordL nFoot (L f) ++ (wordL nReq (decDigits qn))))) := hid (by simp only [txt, t0, t1, t2, t3, t4, t5, S0, S1, S2, S3, S4, S5]; simp [hun, hqn, hmn, hnn, htn, List.append_assoc])
  have NL : Hid (L ⟨#[99, 108, 111, 115, 101]⟩ = nameL 2) := hid (by rfl)
  have HUN := hid hun
  have HQN := hid hqn
  have HMN := hid hmn
  have HNN := hid hnn
  have HTN := hid htn
  clear S0 S1 S2 S3 S4 S5 hun hqn hmn hnn htn hu hq hn hm ht
  have A0 : Hid (BoxedC w (w.alloc (.cells (cellsOf ⟨2, u, f, q, s, m, n, t⟩) 33)) w.heap.size ⟨2, u, f, q, s, m, n, t⟩) := hid (BoxedC.start w ⟨2, u, f, q, s, m, n, t⟩)
  have IN : ∀ W, (Instr.index 58 (.agg #[.string ⟨#[110, 111, 111, 112]⟩, .string ⟨#[111, 112, 101, 110]⟩, .string ⟨#[99, 108, 111, 115, 101]⟩, .string ⟨#[107, 101, 101, 112]⟩, .string ⟨#[97, 99, 113, 117, 105, 114, 101]⟩, .string ⟨#[116, 114, 121]⟩, .string ⟨#[114, 101, 108, 101, 97, 115, 101]⟩, .string ⟨#[99, 104, 101, 99, 107]⟩, .string ⟨#[101, 120, 112, 105, 114, 101]⟩]) (.int .i64 2)).run Tryd.prog W = .ok (.string ⟨#[99, 108, 111, 115, 101]⟩) W := fun W => by kernel_rfl
  go_enter Tryd.func15, Tryd.ntmps15
  obtain ⟨⟨c0, c1, c2, c3, c4, c5, c6, c7⟩, f0, f1, f2, f3, f4, f5, f6, f7⟩ := cells8 A0.out.1
  go_wp2_with fail
  rename_i Kr hKr
  have key0 : ∀ (W : World) (h : Nat), Hid (BoxedC w W w.heap.size ⟨2, u, f, q, s, m, n, t⟩) → Hid (RowAt7 W h true true false false false false) → Kr ⟨#[val ⟨2, u, f, q, s, m, n, t⟩, .pointer (some ⟨w.heap.size, 0, none⟩), .string ⟨#[]⟩, .string ⟨#[99, 108, 111, 115, 101]⟩, .pointer (some ⟨h, 0, none⟩), .agg #[.string ⟨#[110, 111, 111, 112]⟩, .string ⟨#[111, 112, 101, 110]⟩, .string ⟨#[99, 108, 111, 115, 101]⟩, .string ⟨#[107, 101, 101, 112]⟩, .string ⟨#[97, 99, 113, 117, 105, 114, 101]⟩, .string ⟨#[116, 114, 121]⟩, .string ⟨#[114, 101, 108, 101, 97, 115, 101]⟩, .string ⟨#[99, 104, 101, 99, 107]⟩, .string ⟨#[101, 120, 112, 105, 114, 101]⟩], .pointer (some ⟨w.heap.size, 0, none⟩), .int .i64 2, .string ⟨#[99, 108, 111, 115, 101]⟩, .agg hasCells, .pointer (some ⟨w.heap.size, 0, none⟩), .int .i64 2, .agg #[.bool true, .bool true, .bool false, .bool false, .bool false, .bool false], undef, undef, undef, undef, undef, undef, undef, undef, undef, undef, undef, undef, undef, undef, undef, undef, undef, undef, undef, undef, undef, undef, undef, undef, undef, undef, undef, undef, undef, undef, undef, undef, undef, undef, undef, undef, undef, undef, undef, undef, undef, undef, undef, undef, undef, undef, undef, undef, undef, undef, undef, undef, undef, undef], []⟩ W := by
    intro W h A1 R1
    clear A0 IN
    clear c0 c1 c2 c3 c4 c5 c6 c7 f0 f1 f2 f3 f4 f5 f6 f7
    obtain ⟨⟨c0, c1, c2, c3, c4, c5, c6, c7⟩, f0, f1, f2, f3, f4, f5, f6, f7⟩ := cells8 A1.out.1
    obtain ⟨r0, r1, r2, r3, r4, r5⟩ := row7 R1.out
    go_wp2_with fail
    have DA := hid A1.out.drew
    have YS : Hid (∀ d : ByteArray, d.size ≤ 20 → ¬ 9223372036854775807 < 5 + d.size ∧ ¬ 9223372036854775807 < 5 + d.size + 6 ∧ ¬ 9223372036854775807 < 5 + d.size + 6 + f.size ∧ ¬ 9223372036854775807 < 5 + (5 + d.size + 6 + f.size) ∧ ¬ 9223372036854775807 < (⟨#[32, 110, 117, 109, 61]⟩ : ByteArray).size + d.size ∧ ¬ 9223372036854775807 < (⟨#[32, 110, 117, 109, 61]⟩ : ByteArray).size + d.size + (⟨#[32, 102, 111, 111, 116, 61]⟩ : ByteArray).size ∧ ¬ 9223372036854775807 < (⟨#[32, 110, 117, 109, 61]⟩ : ByteArray).size + d.size + (⟨#[32, 102, 111, 111, 116, 61]⟩ : ByteArray).size + f.size ∧ ¬ 9223372036854775807 < (⟨#[99, 108, 111, 115, 101]⟩ : ByteArray).size + ((⟨#[32, 110, 117, 109, 61]⟩ : ByteArray).size + d.size + (⟨#[32, 102, 111, 111, 116, 61]⟩ : ByteArray).size + f.size)) := hid (fun d hd => by
      have q1 : (⟨#[32, 110, 117, 109, 61]⟩ : ByteArray).size = 5 := rfl
      have q2 : (⟨#[32, 102, 111, 111, 116, 61]⟩ : ByteArray).size = 6 := rfl
      have q3 : (⟨#[99, 108, 111, 115, 101]⟩ : ByteArray).size = 5 := rfl
      rw [q1, q2, q3]
      refine ⟨?_, ?_, ?_, ?_, ?_, ?_, ?_, ?_⟩ <;> omega)
    go_region_held3 (fun w' => w'.cell? ⟨w.heap.size, 1, none⟩ = some (.int .u64 u) ∧ w'.cell? ⟨w.heap.size, 2, none⟩ = some (.string f))
      (first | exact ⟨(cells8 A1.out.1).1.2.1, (cells8 A1.out.1).1.2.2.1⟩ | exact ⟨(cells8 DA.out.1).1.2.1, (cells8 DA.out.1).1.2.2.1⟩ | exact ⟨(cells8 A2.out.1).1.2.1, (cells8 A2.out.1).1.2.2.1⟩)
      (first
        | (go_at_call 36; (with_reducible refine (digits_at un u _ HUN.out b2).mono ?_); rintro e w2 ⟨d2, rfl, hd2, hb⟩; have z2 := size_of_L hd2 (dec_len7 b2); obtain ⟨y1, y2, y3, y4, y5, y6, y7, y8⟩ := YS.out _ z2; have A2 := hid (DA.out.on hb); have R2 : Hid (RowAt7 _ h true true false false false false) := hid (Blk.below (Blk.drew R1.out) hb (Blk.lt (Blk.drew R1.out)))))
    rename_i hHeld
    have D2 := hid hd2
    clear hHeld hd2 hb DA A1 R1 YS
    try clear y1 y2 y3 y4 y5 y6 y7 y8
    clear r0 r1 r2 r3 r4 r5
    clear c0 c1 c2 c3 c4 c5 c6 c7 f0 f1 f2 f3 f4 f5 f6 f7
    obtain ⟨⟨c0, c1, c2, c3, c4, c5, c6, c7⟩, f0, f1, f2, f3, f4, f5, f6, f7⟩ := cells8 A2.out.1
    obtain ⟨r0, r1, r2, r3, r4, r5⟩ := row7 R2.out
    go_wp2_with fail
    with_reducible refine (digits_at qn q _ HQN.out b3).mono ?_
    rintro e w3 ⟨d3, rfl, hd3, hb⟩
    have z3 := size_of_L hd3 (dec_len7 b3)
    have D3 := hid hd3
    clear hd3
    have A3 := hid (A2.out.on hb)
    have R3 : Hid (RowAt7 _ h true true false false false false) := hid (Blk.below R2.out hb (Blk.lt R2.out))
    clear hb A2 R2
    clear r0 r1 r2 r3 r4 r5
    clear c0 c1 c2 c3 c4 c5 c6 c7 f0 f1 f2 f3 f4 f5 f6 f7
    obtain ⟨⟨c0, c1, c2, c3, c4, c5, c6, c7⟩, f0, f1, f2, f3, f4, f5, f6, f7⟩ := cells8 A3.out.1
    obtain ⟨r0, r1, r2, r3, r4, r5⟩ := row7 R3.out
    have G := hid A3.out.below
    go_wp2
    go_ret
    exact ⟨_, rfl, by rw [E.out]; simp [L_append, wordL, lits7, NL.out, D2.out, D3.out], G.out⟩
  have key := hid key0
  clear key0 hKr
  obtain ⟨W0, hW0⟩ : ∃ W0, w.alloc (.cells #[.int .i64 2, .int .u64 u, .string f, .int .u64 q, .string s, .int .i64 m, .int .u64 n, .int .i64 t] 33) = W0 := ⟨_, rfl⟩
  have B0 : Hid (BoxedC w W0 w.heap.size ⟨2, u, f, q, s, m, n, t⟩) := hid (by rw [← hW0]; exact A0.out)
  rw [hW0] at c0 c1 c2 c3 c4 c5 c6 c7 f0 f1 f2 f3 f4 f5 f6 f7 ⊢
  have hsz : Hid (w.heap.size < W0.heap.size) := hid B0.out.lt
  clear A0 hW0
  have IX := has_ix2
  go_region_held3 (fun w' => w'.cell? ⟨w.heap.size, 0, none⟩ = some (.int .i64 2))
    (first | with_reducible exact BoxedC.kind (BoxedC.drew B0.out) | with_reducible exact BoxedC.kind (BoxedC.drew (BoxedC.alloc B0.out _)) | with_reducible exact BoxedC.kind A1.out | with_reducible exact BoxedC.kind (BoxedC.alloc A1.out _) | with_reducible exact BoxedC.kind (BoxedC.row (BoxedC.alloc A1.out _) (Nat.ne_of_lt (BoxedC.lt A1.out)) (Nat.le_of_lt (BoxedC.lt A1.out)) _ _ _ _ _ _) | with_reducible exact BoxedC.kind (BoxedC.row A1.out (Nat.ne_of_lt hsz.out) (Nat.le_of_lt hsz.out) _ _ _ _ _ _))
    (first
      | (go_at_call 34; (with_reducible refine (has_ref _).mono ?_); rintro e w1 ⟨rfl, hb1⟩; have A1 := hid (BoxedC.on (BoxedC.drew B0.out) hb1))
      | (go_at_call 34; (with_reducible refine (has_ref _).mono ?_); rintro e w1 ⟨rfl, hb1⟩; have A1 := hid (BoxedC.on (BoxedC.drew (BoxedC.alloc B0.out _)) hb1); have R1 := hid (row_first hb1); obtain ⟨q0, q1, q2, q3, q4, q5⟩ := row7 R1.out; obtain ⟨v0, v1, v2, v3, v4, v5⟩ := rowf7 R1.out))
  all_goals change Kr _ _
  all_goals with_reducible refine key.out _ _ ?_ ?_
  · exact hid (A1.out.alloc _)
  · exact hid (Blk.new w1 63 #[.bool true, .bool true, .bool false, .bool false, .bool false, .bool false])
  · exact hid (A1.out.alloc _)
  · exact hid (Blk.new w1 63 #[.bool true, .bool true, .bool false, .bool false, .bool false, .bool false])
  · exact hid (A1.out.row (Nat.ne_of_lt hsz.out) (Nat.le_of_lt hsz.out) _ _ _ _ _ _)
  · exact hid (row7_put R1.out)

end Go.Proofs.YtfdphcgfdodnoaaDoor
