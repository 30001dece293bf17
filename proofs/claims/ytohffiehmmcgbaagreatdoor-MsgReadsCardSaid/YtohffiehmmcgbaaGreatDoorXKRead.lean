/-
  The contracts of guess, Show and Read (package cmd), of any text and any command.
-/
import Derived.Test.YtohffiehmmcgbaaGreatDoorXKGuessA
import Derived.Test.YtohffiehmmcgbaaGreatDoorXKGuessB
import Derived.Test.YtohffiehmmcgbaaGreatDoorXKGuessC
import Derived.Test.YtohffiehmmcgbaaGreatDoorXKShow
import Derived.Test.YtohffiehmmcgbaaGreatDoorXD
import Derived.Lib.ParseIntBCases
namespace Go.Proofs.YtohffiehmmcgbaaGreatDoor
open Go.ChangeShapes Go.WideShapes Go.ChangeAt Go.RowKit Go.Lib
set_option linter.unusedSimpArgs false
set_option linter.unusedVariables false
theorem readL_lt (l : List UInt8) : readL l < 18446744073709551616 := by
  unfold readL
  split
  · rename_i u h
    have h1 := parseUintB_le h
    have h2 : (2 : Nat) ^ 64 - 1 = 18446744073709551615 := by decide
    omega
  · decide
  · decide
theorem kindL_in (l : List UInt8) : -1 ≤ kindL l ∧ kindL l ≤ 8 := by
  unfold kindL
  repeat' split
  all_goals decide
theorem wrap64 (x : Int) : -9223372036854775808 ≤ IntKind.i64.wrap x ∧ IntKind.i64.wrap x ≤ 9223372036854775807 := by
  rw [IntKind.wrap_i64]
  omega
theorem mk_size (l : List UInt8) : (mk l).size = l.length := by
  rw [← L_length, L_mk7]
theorem gOf_ok (l : List UInt8) : okK (gOf l) := by
  have R := readL_lt
  have W := wrap64
  have K := kindL_in (cutC 32 l).1
  have U : ∀ (b : Bool) (x : List UInt8), (0 : Int) ≤ (if b then (readL x : Int) else 0) ∧ (if b then (readL x : Int) else 0) < 18446744073709551616 := by
    intro b x
    have := R x
    cases b <;> simp <;> omega
  have V : ∀ (b : Bool) (x : List UInt8), (-9223372036854775808 : Int) ≤ (if b then IntKind.i64.wrap (readL x : Int) else 0) ∧ (if b then IntKind.i64.wrap (readL x : Int) else 0) ≤ 9223372036854775807 := by
    intro b x
    have := W (readL x)
    cases b <;> simp <;> omega
  unfold gOf okK
  refine ⟨U _ _, U _ _, U _ _, ⟨?_, ?_⟩, V _ _, V _ _⟩ <;> dsimp only <;> omega
theorem gOf_small (l : List UInt8) : (gOf l).foot.size ≤ l.length ∧ (gOf l).path.size ≤ l.length := by
  have hh := (cutC_len 32 l).2
  have hr : ∀ (b : Bool) (x : List UInt8), (if b then resL x else x).length ≤ x.length := by
    intro b x
    have := res_len x
    cases b <;> simp <;> omega
  unfold gOf
  dsimp only
  constructor
  · cases h0 (kindL (cutC 32 l).1)
    · exact Nat.zero_le _
    · rw [if_pos rfl, mk_size]
      have := val_len (resL (cutC 32 l).2)
      have := res_len (cutC 32 l).2
      omega
  · cases h2 (kindL (cutC 32 l).1)
    · exact Nat.zero_le _
    · rw [if_pos rfl, mk_size]
      refine Nat.le_trans (val_len _) (Nat.le_trans (hr _ _) ?_)
      generalize h0 (kindL (cutC 32 l).1) = b
      cases b
      · simpa using hh
      · simp
        have a1 := res_len (resL (cutC 32 l).2)
        have a2 := res_len (cutC 32 l).2
        omega
theorem guess_any (s : ByteArray) (w : World) (hL : Laid7 w) (hz : s.size ≤ 100000) :
    Calls Tryz.prog 155 #[.string s] w fun e w' => e = .returned (val (gOf (L s))) ∧ Below w.heap.size w w' := by
  have hc : cutC 32 (L s) = (L (mk (cutC 32 (L s)).1), L (mk (cutC 32 (L s)).2)) := by rw [L_mk7, L_mk7]
  rcases sig_cases (kindL (L (mk (cutC 32 (L s)).1))) with ⟨h, _⟩ | ⟨_, h⟩ | ⟨_, h⟩ | ⟨_, h⟩ | ⟨_, h⟩ | ⟨_, h⟩ | ⟨_, h⟩ | ⟨_, h⟩
  · exact guess_0 s _ _ _ w hL hz hc rfl h
  · exact guess_1 s _ _ _ w hL hz hc rfl h
  · exact guess_2 s _ _ _ w hL hz hc rfl h
  · exact guess_3 s _ _ _ w hL hz hc rfl h
  · exact guess_4 s _ _ _ w hL hz hc rfl h
  · exact guess_6 s _ _ _ w hL hz hc rfl h
  · exact guess_7 s _ _ _ w hL hz hc rfl h
  · exact guess_8 s _ _ _ w hL hz hc rfl h
theorem show_right (c : K) (w : World) (hL : Laid7 w) (ho : okK c) (hr : rightK c = true) :
    Calls Tryz.prog 22 #[val c] w fun e w' => (∃ r : ByteArray, e = .returned (.tuple #[.string r, .int .i64 0]) ∧ L r = txt c) ∧ Below w.heap.size w w' := by
  obtain ⟨r1, r2, r3, r4, r5⟩ := right_in c ho hr
  obtain ⟨o1, o2, o3, _⟩ := ho
  obtain ⟨k, u, f, q, s, m, n, t⟩ := c
  rcases sig_cases k with ⟨h, _⟩ | ⟨_, h⟩ | ⟨_, h⟩ | ⟨_, h⟩ | ⟨_, h⟩ | ⟨_, h⟩ | ⟨_, h⟩ | ⟨_, h⟩
  · exact showc_0 k u f q s m n t w hL h hr r1 o1 o2 o3 r2 r3 r4 r5
  · exact showc_1 k u f q s m n t w hL h hr r1 o1 o2 o3 r2 r3 r4 r5
  · exact showc_2 k u f q s m n t w hL h hr r1 o1 o2 o3 r2 r3 r4 r5
  · exact showc_3 k u f q s m n t w hL h hr r1 o1 o2 o3 r2 r3 r4 r5
  · exact showc_4 k u f q s m n t w hL h hr r1 o1 o2 o3 r2 r3 r4 r5
  · exact showc_6 k u f q s m n t w hL h hr r1 o1 o2 o3 r2 r3 r4 r5
  · exact showc_7 k u f q s m n t w hL h hr r1 o1 o2 o3 r2 r3 r4 r5
  · exact showc_8 k u f q s m n t w hL h hr r1 o1 o2 o3 r2 r3 r4 r5
set_option maxRecDepth 100000 in
set_option maxHeartbeats 1000000 in
theorem show_wrong (k u : Int) (f : ByteArray) (q : Int) (s : ByteArray) (m n t : Int) (w : World) (hL : Laid7 w) (hr : rightK ⟨k, u, f, q, s, m, n, t⟩ = false) (hf : f.size ≤ 4611686018427387903) (hp : s.size ≤ 4611686018427387903) :
    Calls Tryz.prog 22 #[val ⟨k, u, f, q, s, m, n, t⟩] w fun e w' => e = .returned (.tuple #[.string ⟨#[]⟩, .int .i64 10]) ∧ Below w.heap.size w w' := by
  have HR := hid hr
  have A0 := hid (Boxed.start hL.1 ⟨k, u, f, q, s, m, n, t⟩)
  clear hr hL
  go_enter Tryz.func22, Tryz.ntmps22
  go_wp2_with fail
  with_reducible refine (cmdright_any ⟨k, u, f, q, s, m, n, t⟩ _ A0.out.parts hf hp).mono ?_
  rw [HR.out]
  rintro e w1 ⟨rfl, hb⟩
  have A1 := hid (A0.out.on hb)
  clear hb A0
  go_wp2
  go_ret2
  exact ⟨rfl, A1.out.below⟩
def readOK (l : List UInt8) : Bool := rightK (gOf l) && decide (txt (gOf l) = l)
set_option maxRecDepth 100000 in
set_option maxHeartbeats 2000000 in
theorem read_wrong (s : ByteArray) (k u : Int) (f : ByteArray) (q : Int) (p : ByteArray) (m n t : Int) (w : World) (hL : Laid7 w) (hz : s.size ≤ 100000) (hg : gOf (L s) = ⟨k, u, f, q, p, m, n, t⟩) (hr : rightK ⟨k, u, f, q, p, m, n, t⟩ = false) :
    Calls Tryz.prog 121 #[.string s] w fun e w' => e = .returned (.tuple #[val noK, .int .i64 10]) ∧ Below w.heap.size w w' := by
  have hs := gOf_small (L s)
  have hk := gOf_ok (L s)
  rw [hg, L_length] at hs
  rw [hg] at hk
  have Z : Hid (f.size ≤ 4611686018427387903 ∧ p.size ≤ 4611686018427387903) := hid (by obtain ⟨a, b⟩ := hs; dsimp only at a b; omega)
  have HG := hid hg
  have HR := hid hr
  have HL := hid hL
  have HZ := hid hz
  have HO := hid hk
  have R0 := hid (Boxed.start hL.1 noK)
  clear hs hg hr hL hz hk
  go_enter Tryz.func121, Tryz.ntmps121
  go_wp2_with fail
  with_reducible refine (guess_any s _ (HL.out.below R0.out.below) HZ.out).mono ?_
  rw [HG.out]
  rintro e w1 ⟨rfl, hb⟩
  have R1 := hid (R0.out.on hb)
  have HL1 := hid (HL.out.below R1.out.below)
  clear hb R0
  have C := hid (Boxed.start HL1.out.1 ⟨k, u, f, q, p, m, n, t⟩)
  have R2 := hid (R1.out.alloc (.cells (cellsOf ⟨k, u, f, q, p, m, n, t⟩) 32))
  obtain ⟨⟨c0, c1, c2, c3, c4, c5, c6, c7⟩, f0, f1, f2, f3, f4, f5, f6, f7⟩ := cells8 C.out.1
  go_wp2_with fail
  with_reducible refine (show_wrong k u f q p m n t _ (HL.out.below R2.out.below) HR.out Z.out.1 Z.out.2).mono ?_
  rintro e w2 ⟨rfl, hb⟩
  have R3 := hid (R2.out.on hb)
  have C3 := hid (C.out.on hb)
  clear hb R2 C R1 HL1 c0 c1 c2 c3 c4 c5 c6 c7 f0 f1 f2 f3 f4 f5 f6 f7
  obtain ⟨⟨c0, c1, c2, c3, c4, c5, c6, c7⟩, f0, f1, f2, f3, f4, f5, f6, f7⟩ := cells8 C3.out.1
  obtain ⟨⟨d0, d1, d2, d3, d4, d5, d6, d7⟩, g0, g1, g2, g3, g4, g5, g6, g7⟩ := cells8 R3.out.1
  have P := hid (R3.out.put noK)
  clear R3 C3
  go_wp2
  refine bodyPost_ret (v := .tuple #[val noK, .int .i64 10]) (by simp [results, Tryz.results121, go_sem, d0, d1, d2, d3, d4, d5, d6, d7]) rfl ⟨rfl, P.out.below⟩
set_option maxRecDepth 100000 in
set_option maxHeartbeats 2000000 in
theorem read_same (s : ByteArray) (k u : Int) (f : ByteArray) (q : Int) (p : ByteArray) (m n t : Int) (w : World) (hL : Laid7 w) (hz : s.size ≤ 100000) (hg : gOf (L s) = ⟨k, u, f, q, p, m, n, t⟩) (hr : rightK ⟨k, u, f, q, p, m, n, t⟩ = true) (hx : txt ⟨k, u, f, q, p, m, n, t⟩ = L s) :
    Calls Tryz.prog 121 #[.string s] w fun e w' => e = .returned (.tuple #[val ⟨k, u, f, q, p, m, n, t⟩, .int .i64 0]) ∧ Below w.heap.size w w' := by
  have hs := gOf_small (L s)
  have hk := gOf_ok (L s)
  rw [hg, L_length] at hs
  rw [hg] at hk
  have Z : Hid (f.size ≤ 4611686018427387903 ∧ p.size ≤ 4611686018427387903) := hid (by obtain ⟨a, b⟩ := hs; dsimp only at a b; omega)
  have HG := hid hg
  have HR := hid hr
  have HL := hid hL
  have HZ := hid hz
  have HO := hid hk
  have R0 := hid (Boxed.start hL.1 noK)
  have HX := hid hx
  clear hx
  clear hs hg hr hL hz hk
  go_enter Tryz.func121, Tryz.ntmps121
  go_wp2_with fail
  with_reducible refine (guess_any s _ (HL.out.below R0.out.below) HZ.out).mono ?_
  rw [HG.out]
  rintro e w1 ⟨rfl, hb⟩
  have R1 := hid (R0.out.on hb)
  have HL1 := hid (HL.out.below R1.out.below)
  clear hb R0
  have C := hid (Boxed.start HL1.out.1 ⟨k, u, f, q, p, m, n, t⟩)
  have R2 := hid (R1.out.alloc (.cells (cellsOf ⟨k, u, f, q, p, m, n, t⟩) 32))
  obtain ⟨⟨c0, c1, c2, c3, c4, c5, c6, c7⟩, f0, f1, f2, f3, f4, f5, f6, f7⟩ := cells8 C.out.1
  go_wp2_with fail
  with_reducible refine (show_right ⟨k, u, f, q, p, m, n, t⟩ _ (HL.out.below R2.out.below) HO.out HR.out).mono ?_
  rintro e w2 ⟨⟨r, rfl, hr⟩, hb⟩
  obtain rfl : r = s := L_inj.1 (hr.trans HX.out)
  clear hr
  have R3 := hid (R2.out.on hb)
  have C3 := hid (C.out.on hb)
  clear hb R2 C R1 HL1 c0 c1 c2 c3 c4 c5 c6 c7 f0 f1 f2 f3 f4 f5 f6 f7
  obtain ⟨⟨c0, c1, c2, c3, c4, c5, c6, c7⟩, f0, f1, f2, f3, f4, f5, f6, f7⟩ := cells8 C3.out.1
  obtain ⟨⟨d0, d1, d2, d3, d4, d5, d6, d7⟩, g0, g1, g2, g3, g4, g5, g6, g7⟩ := cells8 R3.out.1
  have P := hid (R3.out.put ⟨k, u, f, q, p, m, n, t⟩)
  clear R3 C3
  go_wp2
  refine bodyPost_ret (v := .tuple #[val ⟨k, u, f, q, p, m, n, t⟩, .int .i64 0]) (by simp [results, Tryz.results121, go_sem, d0, d1, d2, d3, d4, d5, d6, d7]) rfl ⟨rfl, P.out.below⟩
set_option maxRecDepth 100000 in
set_option maxHeartbeats 2000000 in
theorem read_other (s : ByteArray) (k u : Int) (f : ByteArray) (q : Int) (p : ByteArray) (m n t : Int) (w : World) (hL : Laid7 w) (hz : s.size ≤ 100000) (hg : gOf (L s) = ⟨k, u, f, q, p, m, n, t⟩) (hr : rightK ⟨k, u, f, q, p, m, n, t⟩ = true) (hx : txt ⟨k, u, f, q, p, m, n, t⟩ ≠ L s) :
    Calls Tryz.prog 121 #[.string s] w fun e w' => e = .returned (.tuple #[val noK, .int .i64 10]) ∧ Below w.heap.size w w' := by
  have hs := gOf_small (L s)
  have hk := gOf_ok (L s)
  rw [hg, L_length] at hs
  rw [hg] at hk
  have Z : Hid (f.size ≤ 4611686018427387903 ∧ p.size ≤ 4611686018427387903) := hid (by obtain ⟨a, b⟩ := hs; dsimp only at a b; omega)
  have HG := hid hg
  have HR := hid hr
  have HL := hid hL
  have HZ := hid hz
  have HO := hid hk
  have R0 := hid (Boxed.start hL.1 noK)
  have HX := hid hx
  clear hx
  clear hs hg hr hL hz hk
  go_enter Tryz.func121, Tryz.ntmps121
  go_wp2_with fail
  with_reducible refine (guess_any s _ (HL.out.below R0.out.below) HZ.out).mono ?_
  rw [HG.out]
  rintro e w1 ⟨rfl, hb⟩
  have R1 := hid (R0.out.on hb)
  have HL1 := hid (HL.out.below R1.out.below)
  clear hb R0
  have C := hid (Boxed.start HL1.out.1 ⟨k, u, f, q, p, m, n, t⟩)
  have R2 := hid (R1.out.alloc (.cells (cellsOf ⟨k, u, f, q, p, m, n, t⟩) 32))
  obtain ⟨⟨c0, c1, c2, c3, c4, c5, c6, c7⟩, f0, f1, f2, f3, f4, f5, f6, f7⟩ := cells8 C.out.1
  go_wp2_with fail
  with_reducible refine (show_right ⟨k, u, f, q, p, m, n, t⟩ _ (HL.out.below R2.out.below) HO.out HR.out).mono ?_
  rintro e w2 ⟨⟨r, rfl, hr⟩, hb⟩
  have hn : r ≠ s := fun e => HX.out (by rw [← hr, e])
  have hn1 := (spell_no hn).1
  have hn2 := (spell_no hn).2
  clear hr
  have R3 := hid (R2.out.on hb)
  have C3 := hid (C.out.on hb)
  clear hb R2 C R1 HL1 c0 c1 c2 c3 c4 c5 c6 c7 f0 f1 f2 f3 f4 f5 f6 f7
  obtain ⟨⟨c0, c1, c2, c3, c4, c5, c6, c7⟩, f0, f1, f2, f3, f4, f5, f6, f7⟩ := cells8 C3.out.1
  obtain ⟨⟨d0, d1, d2, d3, d4, d5, d6, d7⟩, g0, g1, g2, g3, g4, g5, g6, g7⟩ := cells8 R3.out.1
  have P := hid (R3.out.put noK)
  clear R3 C3
  go_wp2
  all_goals first
    | (refine bodyPost_ret (v := .tuple #[val noK, .int .i64 10]) (by simp [results, Tryz.results121, go_sem, d0, d1, d2, d3, d4, d5, d6, d7]) rfl ⟨rfl, P.out.below⟩)
    | (rename_i hh; simp [hn1] at hh)
theorem readcmd_any (s : ByteArray) (w : World) (hL : Laid7 w) (hz : s.size ≤ 100000) :
    Calls Tryz.prog 121 #[.string s] w fun e w' => e = .returned (.tuple #[val (if readOK (L s) then gOf (L s) else noK), .int .i64 (if readOK (L s) then 0 else 10)]) ∧ Below w.heap.size w w' := by
  obtain ⟨c, hc⟩ : ∃ c, gOf (L s) = c := ⟨_, rfl⟩
  unfold readOK
  rw [hc]
  obtain ⟨k, u, f, q, p, m, n, t⟩ := c
  cases hr : rightK ⟨k, u, f, q, p, m, n, t⟩
  · exact read_wrong s k u f q p m n t w hL hz hc hr
  · rcases Decidable.em (txt ⟨k, u, f, q, p, m, n, t⟩ = L s) with hx | hx
    · simp only [hx, decide_true, Bool.and_self, if_true]
      exact read_same s k u f q p m n t w hL hz hc hr hx
    · simp only [hx, decide_false, Bool.and_false, Bool.false_eq_true, if_false]
      exact read_other s k u f q p m n t w hL hz hc hr hx
end Go.Proofs.YtohffiehmmcgbaaGreatDoor
