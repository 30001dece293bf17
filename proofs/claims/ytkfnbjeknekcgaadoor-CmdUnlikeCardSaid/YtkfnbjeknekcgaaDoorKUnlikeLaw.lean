/-
  CmdUnlike: for any two commands the law's call returns true: two unlike commands that may be have unlike bytes, and the one's are no beginning of the other's. The condition: the table of kinds holds what its text lays, which the card ties to the program.
-/
import Derived.Test.YtkfnbjeknekcgaaDoorKRef
import Derived.Test.YtkfnbjeknekcgaaDoorKFront
import Derived.Test.YtkfnbjeknekcgaaDoorKEq
import Derived.BigQuiet
import Derived.LoopTactic
namespace Go.Proofs.YtkfnbjeknekcgaaDoor.cmdUnlike
open Go.ChangeShapes Go.WideShapes Go.ChangeAt Go.RowKit Go.Lib
set_option linter.unusedVariables false
set_option linter.unusedSimpArgs false

theorem below_dN {B : Nat} {a w : World} (h : Below B a w) (n : Nat) : Below B a (w.drewN n) := ⟨h.os, h.tape, h.output, h.size, h.block⟩
theorem boxed_dN {w0 w : World} {g : Nat} {c : K} (h : Boxed w0 w g c) (n : Nat) : Boxed w0 (w.drewN n) g c := ⟨h.1.drewN n, h.2.1, below_dN h.2.2.1 n, h.2.2.2⟩
/-- How far two lists are alike. -/
theorem alike_step {X Y : List Nat} {i x : Nat} (h : X.take i = Y.take i) (hx : X[i]? = some x) (hy : Y[i]? = some x) : X.take (i + 1) = Y.take (i + 1) := by
  rw [List.take_add_one, List.take_add_one, h, hx, hy]
theorem alike_end {X Y : List Nat} {i : Nat} (h : X.take i = Y.take i) (hx : i = X.length) : ∃ t, X ++ t = Y := by
  subst hx
  rw [List.take_length] at h
  exact ⟨Y.drop X.length, by have h2 := List.take_append_drop X.length Y; rw [← h] at h2; exact h2⟩

set_option maxRecDepth 100000 in
set_option maxHeartbeats 4000000 in
theorem walk_k (k u : Int) (f : ByteArray) (q : Int) (s : ByteArray) (m n t : Int) (k' u' : Int) (f' : ByteArray) (q' : Int) (s' : ByteArray) (m' n' t' : Int) (w : World) (hok : okK ⟨k, u, f, q, s, m, n, t⟩) (hok' : okK ⟨k', u', f', q', s', m', n', t'⟩) (hP : PartsIs w) :
    Calls Tryd.prog 7 #[val ⟨k, u, f, q, s, m, n, t⟩, val ⟨k', u', f', q', s', m', n', t'⟩] w fun e w' => e = .returned (.bool true) ∧ Below w.heap.size w w' := by
  have HO := hid hok
  have HO' := hid hok'
  have A0 := hid ((Boxed.start hP ⟨k, u, f, q, s, m, n, t⟩).alloc (.cells (cellsOf ⟨k', u', f', q', s', m', n', t'⟩) 26))
  have B0 : Hid (Boxed w ((w.alloc (.cells (cellsOf ⟨k, u, f, q, s, m, n, t⟩) 26)).alloc (.cells (cellsOf ⟨k', u', f', q', s', m', n', t'⟩) 26)) (w.heap.size + 1) ⟨k', u', f', q', s', m', n', t'⟩) := hid ⟨by have h := Blk.new (w.alloc (.cells (cellsOf ⟨k, u, f, q, s, m, n, t⟩) 26)) 26 (cellsOf ⟨k', u', f', q', s', m', n', t'⟩); simpa using h, by omega, A0.out.below, hP⟩
  obtain ⟨s1, hs1⟩ : ∃ x, smallK ⟨k, u, f, q, s, m, n, t⟩ = x := ⟨_, rfl⟩
  have S1 := hid hs1
  obtain ⟨s2, hs2⟩ : ∃ x, smallK ⟨k', u', f', q', s', m', n', t'⟩ = x := ⟨_, rfl⟩
  have S2 := hid hs2
  obtain ⟨r1, hr1⟩ : ∃ x, rightK ⟨k, u, f, q, s, m, n, t⟩ = x := ⟨_, rfl⟩
  have R1 := hid hr1
  obtain ⟨r2, hr2⟩ : ∃ x, rightK ⟨k', u', f', q', s', m', n', t'⟩ = x := ⟨_, rfl⟩
  have R2 := hid hr2
  clear hok hok' hP hs1 hs2 hr1 hr2
  go_enter Tryd.func7, Tryd.ntmps7
  go_wp2_with fail
  with_reducible refine (anchor7 _ A0.out.parts).mono ?_
  rintro e w1 ⟨rfl, hb⟩
  have A1 := hid (A0.out.on hb)
  have B1 := hid (B0.out.on hb)
  clear hb A0 B0
  obtain ⟨⟨c0, c1, c2, c3, c4, c5, c6, c7⟩, f0, f1, f2, f3, f4, f5, f6, f7⟩ := cells8 A1.out.1
  obtain ⟨⟨e0, e1, e2, e3, e4, e5, e6, e7⟩, g0, g1, g2, g3, g4, g5, g6, g7⟩ := cells8 B1.out.1
  go_wp2_with fail
  with_reducible refine (small_any ⟨k, u, f, q, s, m, n, t⟩ _).mono ?_
  rw [S1.out]
  rintro e w2 ⟨rfl, hb⟩
  have A2 := hid (A1.out.on hb)
  have B2 := hid (B1.out.on hb)
  clear hb A1 B1
  clear c0 c1 c2 c3 c4 c5 c6 c7 f0 f1 f2 f3 f4 f5 f6 f7 e0 e1 e2 e3 e4 e5 e6 e7 g0 g1 g2 g3 g4 g5 g6 g7
  obtain ⟨⟨c0, c1, c2, c3, c4, c5, c6, c7⟩, f0, f1, f2, f3, f4, f5, f6, f7⟩ := cells8 A2.out.1
  obtain ⟨⟨e0, e1, e2, e3, e4, e5, e6, e7⟩, g0, g1, g2, g3, g4, g5, g6, g7⟩ := cells8 B2.out.1
  cases s1
  · go_wp2
    go_ret
    exact ⟨rfl, A2.out.below⟩
  go_wp2_with fail
  with_reducible refine (small_any ⟨k', u', f', q', s', m', n', t'⟩ _).mono ?_
  rw [S2.out]
  rintro e w3 ⟨rfl, hb⟩
  have A3 := hid (A2.out.on hb)
  have B3 := hid (B2.out.on hb)
  clear hb A2 B2
  clear c0 c1 c2 c3 c4 c5 c6 c7 f0 f1 f2 f3 f4 f5 f6 f7 e0 e1 e2 e3 e4 e5 e6 e7 g0 g1 g2 g3 g4 g5 g6 g7
  obtain ⟨⟨c0, c1, c2, c3, c4, c5, c6, c7⟩, f0, f1, f2, f3, f4, f5, f6, f7⟩ := cells8 A3.out.1
  obtain ⟨⟨e0, e1, e2, e3, e4, e5, e6, e7⟩, g0, g1, g2, g3, g4, g5, g6, g7⟩ := cells8 B3.out.1
  cases s2
  · go_wp2
    go_ret
    exact ⟨rfl, A3.out.below⟩
  have hs := S1.out
  unfold smallK at hs
  simp only [Bool.and_eq_true, decide_eq_true_eq] at hs
  obtain ⟨hp, hf⟩ := hs
  have hs' := S2.out
  unfold smallK at hs'
  simp only [Bool.and_eq_true, decide_eq_true_eq] at hs'
  obtain ⟨hp', hf'⟩ := hs'
  have hf9 : f.size ≤ 900 := by omega
  have hp9 : s.size ≤ 900 := by omega
  have hf9' : f'.size ≤ 900 := by omega
  have hp9' : s'.size ≤ 900 := by omega
  have hf4 : f.size ≤ 4611686018427387903 := by omega
  have hp4 : s.size ≤ 4611686018427387903 := by omega
  have hf4' : f'.size ≤ 4611686018427387903 := by omega
  have hp4' : s'.size ≤ 4611686018427387903 := by omega
  go_wp2_with fail
  with_reducible refine (of_any ⟨k, u, f, q, s, m, n, t⟩ _).mono ?_
  rintro e w4 ⟨rfl, hb⟩
  have A4 := hid (A3.out.on hb)
  have B4 := hid (B3.out.on hb)
  clear hb A3 B3
  clear c0 c1 c2 c3 c4 c5 c6 c7 f0 f1 f2 f3 f4 f5 f6 f7 e0 e1 e2 e3 e4 e5 e6 e7 g0 g1 g2 g3 g4 g5 g6 g7
  obtain ⟨⟨c0, c1, c2, c3, c4, c5, c6, c7⟩, f0, f1, f2, f3, f4, f5, f6, f7⟩ := cells8 A4.out.1
  obtain ⟨⟨e0, e1, e2, e3, e4, e5, e6, e7⟩, g0, g1, g2, g3, g4, g5, g6, g7⟩ := cells8 B4.out.1
  go_wp2_with fail
  with_reducible refine (refright7 ⟨k, u, f, q, s, m, n, t⟩ _ HO.out hf9 hp9).mono ?_
  rw [R1.out]
  rintro e w5 ⟨rfl, hb⟩
  have A5 := hid (A4.out.on hb)
  have B5 := hid (B4.out.on hb)
  clear hb A4 B4
  clear c0 c1 c2 c3 c4 c5 c6 c7 f0 f1 f2 f3 f4 f5 f6 f7 e0 e1 e2 e3 e4 e5 e6 e7 g0 g1 g2 g3 g4 g5 g6 g7
  obtain ⟨⟨c0, c1, c2, c3, c4, c5, c6, c7⟩, f0, f1, f2, f3, f4, f5, f6, f7⟩ := cells8 A5.out.1
  obtain ⟨⟨e0, e1, e2, e3, e4, e5, e6, e7⟩, g0, g1, g2, g3, g4, g5, g6, g7⟩ := cells8 B5.out.1
  cases r1
  · go_wp2
    go_ret
    exact ⟨rfl, A5.out.below⟩
  go_wp2_with fail
  with_reducible refine (of_any ⟨k', u', f', q', s', m', n', t'⟩ _).mono ?_
  rintro e w6 ⟨rfl, hb⟩
  have A6 := hid (A5.out.on hb)
  have B6 := hid (B5.out.on hb)
  clear hb A5 B5
  clear c0 c1 c2 c3 c4 c5 c6 c7 f0 f1 f2 f3 f4 f5 f6 f7 e0 e1 e2 e3 e4 e5 e6 e7 g0 g1 g2 g3 g4 g5 g6 g7
  obtain ⟨⟨c0, c1, c2, c3, c4, c5, c6, c7⟩, f0, f1, f2, f3, f4, f5, f6, f7⟩ := cells8 A6.out.1
  obtain ⟨⟨e0, e1, e2, e3, e4, e5, e6, e7⟩, g0, g1, g2, g3, g4, g5, g6, g7⟩ := cells8 B6.out.1
  go_wp2_with fail
  with_reducible refine (refright7 ⟨k', u', f', q', s', m', n', t'⟩ _ HO'.out hf9' hp9').mono ?_
  rw [R2.out]
  rintro e w7 ⟨rfl, hb⟩
  have A7 := hid (A6.out.on hb)
  have B7 := hid (B6.out.on hb)
  clear hb A6 B6
  clear c0 c1 c2 c3 c4 c5 c6 c7 f0 f1 f2 f3 f4 f5 f6 f7 e0 e1 e2 e3 e4 e5 e6 e7 g0 g1 g2 g3 g4 g5 g6 g7
  obtain ⟨⟨c0, c1, c2, c3, c4, c5, c6, c7⟩, f0, f1, f2, f3, f4, f5, f6, f7⟩ := cells8 A7.out.1
  obtain ⟨⟨e0, e1, e2, e3, e4, e5, e6, e7⟩, g0, g1, g2, g3, g4, g5, g6, g7⟩ := cells8 B7.out.1
  cases r2
  · go_wp2
    go_ret
    exact ⟨rfl, A7.out.below⟩
  have hE1 : Hid (encR ⟨k, u, f, q, s, m, n, t⟩ = enc ⟨k, u, f, q, s, m, n, t⟩) := hid (by unfold encR; rw [R1.out]; rfl)
  have hE2 : Hid (encR ⟨k', u', f', q', s', m', n', t'⟩ = enc ⟨k', u', f', q', s', m', n', t'⟩) := hid (by unfold encR; rw [R2.out]; rfl)
  have hL1 := enc_len _ HO.out R1.out
  have hL2 := enc_len _ HO'.out R2.out
  have FR1 := hid (enc_front HO.out HO'.out R1.out R2.out)
  have FR2 := hid (enc_front HO'.out HO.out R2.out R1.out)
  have HEQ : Hid ((⟨k, u, f, q, s, m, n, t⟩ : K) = ⟨k', u', f', q', s', m', n', t'⟩ → enc ⟨k, u, f, q, s, m, n, t⟩ = enc ⟨k', u', f', q', s', m', n', t'⟩) := hid (fun h => by rw [h])
  obtain ⟨X, hX⟩ : ∃ x, enc ⟨k, u, f, q, s, m, n, t⟩ = x := ⟨_, rfl⟩
  obtain ⟨Y, hY⟩ : ∃ x, enc ⟨k', u', f', q', s', m', n', t'⟩ = x := ⟨_, rfl⟩
  rw [hX] at hE1 hL1 FR1 FR2 HEQ
  rw [hY] at hE2 hL2 FR1 FR2 HEQ
  clear hX hY
  go_wp2_with fail
  go_region_held3 (fun w' => (w'.cell? ⟨w.heap.size, 0, none⟩ = some (.int .i64 k) ∧ w'.cell? ⟨w.heap.size, 1, none⟩ = some (.int .u64 u) ∧ w'.cell? ⟨w.heap.size, 2, none⟩ = some (.string f) ∧ w'.cell? ⟨w.heap.size, 3, none⟩ = some (.int .u64 q) ∧ w'.cell? ⟨w.heap.size, 4, none⟩ = some (.string s) ∧ w'.cell? ⟨w.heap.size, 5, none⟩ = some (.int .i64 m) ∧ w'.cell? ⟨w.heap.size, 6, none⟩ = some (.int .u64 n) ∧ w'.cell? ⟨w.heap.size, 7, none⟩ = some (.int .i64 t)) ∧ w'.cell? ⟨w.heap.size + 1, 0, none⟩ = some (.int .i64 k') ∧ w'.cell? ⟨w.heap.size + 1, 1, none⟩ = some (.int .u64 u') ∧ w'.cell? ⟨w.heap.size + 1, 2, none⟩ = some (.string f') ∧ w'.cell? ⟨w.heap.size + 1, 3, none⟩ = some (.int .u64 q') ∧ w'.cell? ⟨w.heap.size + 1, 4, none⟩ = some (.string s') ∧ w'.cell? ⟨w.heap.size + 1, 5, none⟩ = some (.int .i64 m') ∧ w'.cell? ⟨w.heap.size + 1, 6, none⟩ = some (.int .u64 n') ∧ w'.cell? ⟨w.heap.size + 1, 7, none⟩ = some (.int .i64 t'))
    (first | exact ⟨(cells8 A7.out.1).1, (cells8 B7.out.1).1⟩ | exact ⟨(cells8 A7.out.drew.1).1, (cells8 B7.out.drew.1).1⟩ | exact ⟨(cells8 A8.out.1).1, (cells8 B8.out.1).1⟩ | exact ⟨(cells8 A9.out.1).1, (cells8 B9.out.1).1⟩)
    (first
      | (go_at_call 16; (with_reducible refine (cmdbytes_any ⟨k, u, f, q, s, m, n, t⟩ _ (PartsIs.drew A7.out.parts) HO.out hf4 hp4).mono ?_); rw [hE1.out]; rintro e w8 ⟨P1, p1, rfl, hn1, hl1, hs1, hb8⟩; have A8 := hid (A7.out.drew.on hb8); have B8 := hid (B7.out.drew.on hb8))
      | (go_at_call 16; (with_reducible refine (cmdbytes_any ⟨k', u', f', q', s', m', n', t'⟩ _ A8.out.parts HO'.out hf4' hp4').mono ?_); rw [hE2.out]; rintro e w9 ⟨P2, p2, rfl, hn2, hl2, hs2, hb9⟩; have A9 := hid (A8.out.on hb9); have B9 := hid (B8.out.on hb9); have Q1 := hid (hs1.below hb9); have Q2 := hid hs2))
  rename_i hHeld
  clear hHeld hs1 hs2 hb8 hb9 A7 B7 A8 B8 c0 c1 c2 c3 c4 c5 c6 c7 f0 f1 f2 f3 f4 f5 f6 f7 e0 e1 e2 e3 e4 e5 e6 e7 g0 g1 g2 g3 g4 g5 g6 g7
  have EG := eq_guard
  go_wp2
  go_loopw [7] (fun nv wr => ∃ i : Nat, nv = .int .i64 (i : Int) ∧ i ≤ X.length ∧ i ≤ Y.length ∧ Hid (X.take i = Y.take i) ∧ Hid (Boxed w wr w.heap.size ⟨k, u, f, q, s, m, n, t⟩) ∧ Hid (Boxed w wr (w.heap.size + 1) ⟨k', u', f', q', s', m', n', t'⟩) ∧ Hid (Sees .u8 wr P1 X) ∧ Hid (Sees .u8 wr P2 Y)) (fun nv _ => X.length - (RowKit.intOf nv).toNat)
  case atStart => exact ⟨0, rfl, by omega, by omega, hid rfl, A9, B9, Q1, Q2⟩
  case round =>
    obtain ⟨i, rfl, hi1, hi2, HT, HA, HB, H1, H2⟩ := hrel
    clear A9 B9 Q1 Q2
    obtain ⟨⟨c0, c1, c2, c3, c4, c5, c6, c7⟩, f0, f1, f2, f3, f4, f5, f6, f7⟩ := cells8 HA.out.1
    obtain ⟨⟨e0, e1, e2, e3, e4, e5, e6, e7⟩, g0, g1, g2, g3, g4, g5, g6, g7⟩ := cells8 HB.out.1
    rcases Nat.lt_or_ge i X.length with h1 | h1
    · rcases Nat.lt_or_ge i Y.length with h2 | h2
      · obtain ⟨x, hx⟩ : ∃ x, X[i]? = some x := ⟨_, List.getElem?_eq_getElem h1⟩
        obtain ⟨y, hy⟩ : ∃ y, Y[i]? = some y := ⟨_, List.getElem?_eq_getElem h2⟩
        obtain ⟨p, o, rfl, _, hc1⟩ := H1.out i x hx
        obtain ⟨p', o', rfl, _, hc2⟩ := H2.out i y hy
        have j1 : (0 : Int) ≤ (i : Int) := by omega
        have j2 : (i : Int) < (X.length : Int) := by omega
        have j3 : (i : Int) < (Y.length : Int) := by omega
        have hd1 : decide ((i : Int) < (X.length : Int)) = true := decide_eq_true j2
        have hd2 : decide ((i : Int) < (Y.length : Int)) = true := decide_eq_true j3
        by_cases hxy : x = y
        · subst hxy
          have HT2 := hid (alike_step HT.out hx hy)
          clear hx hy HT
          go_wp2_with fail
          go_quiet (fail)
          go_wp2
          go_roundw
          case rel => exact ⟨i + 1, by go_num, by omega, by omega, HT2, hid (boxed_dN HA.out _), hid (boxed_dN HB.out _), hid H1.out, hid H2.out⟩
          case measure => simp only [RowKit.intOf]; omega
        · have hne : ((x : Int) == (y : Int)) = false := beq_eq_false_iff_ne.2 (by omega)
          have EQ := fun w => eq_val ⟨k, u, f, q, s, m, n, t⟩ ⟨k', u', f', q', s', m', n', t'⟩ false (decide_eq_false (fun h => hxy (by
            have h3 := HEQ.out h
            rw [h3] at hx
            rw [hx] at hy
            injection hy))) w
          dsimp only [val] at EQ
          have k1 : ((i : Int) == (X.length : Int)) = false := beq_eq_false_iff_ne.2 (by omega)
          have k2 : ((i : Int) == (Y.length : Int)) = false := beq_eq_false_iff_ne.2 (by omega)
          clear hx hy HT
          go_wp2_with fail
          go_quiet (fail)
          go_wp2
          go_ret
          exact ⟨rfl, below_dN HA.out.below _⟩
      · exfalso
        obtain ⟨z, hz⟩ := alike_end HT.out.symm (show i = Y.length by omega)
        have h3 := HEQ.out (FR2.out z hz).symm
        rw [h3] at h1
        omega
    · obtain ⟨z, hz⟩ := alike_end HT.out (show i = X.length by omega)
      have EQ := fun w => eq_val ⟨k, u, f, q, s, m, n, t⟩ ⟨k', u', f', q', s', m', n', t'⟩ true (decide_eq_true (FR1.out z hz)) w
      dsimp only [val] at EQ
      have hd1 : decide (i < X.length) = false := decide_eq_false (by omega)
      have k1 : ((i : Int) == (X.length : Int)) = true := by rw [beq_iff_eq]; omega
      clear hz HT
      go_wp2_with fail
      go_quiet (fail)
      go_wp2
      go_ret
      exact ⟨rfl, below_dN HA.out.below _⟩

end Go.Proofs.YtkfnbjeknekcgaaDoor.cmdUnlike
