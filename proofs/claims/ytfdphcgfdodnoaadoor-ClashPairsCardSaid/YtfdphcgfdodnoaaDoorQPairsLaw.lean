/-
  ClashPairs: for any two commands the law's call returns true: they interfere just if the document says so; both ways alike; each that has a key with itself. The condition: the table of kinds holds what its text lays, which the card ties to the program.
-/
import Derived.Test.YtfdphcgfdodnoaaDoorQRef
import Derived.Deep.RegionHeld3
namespace Go.Proofs.YtfdphcgfdodnoaaDoor.clashPairs
open Go.ChangeShapes Go.WideShapes Go.ChangeAt Go.RowKit Go.Lib
set_option linter.unusedVariables false
set_option linter.unusedSimpArgs false

theorem boxed_two {w : World} (hP : PartsIs w) (c d : K) : Boxed w ((w.alloc (.cells (cellsOf c) 26)).alloc (.cells (cellsOf d) 26)) (w.heap.size + 1) d :=
  ⟨by have h := Blk.new (w.alloc (.cells (cellsOf c) 26)) 26 (cellsOf d); simpa using h, by omega, ((Boxed.start hP c).alloc _).below, hP⟩

set_option maxRecDepth 100000 in
set_option maxHeartbeats 4000000 in
theorem walk_k (k u : Int) (f : ByteArray) (q : Int) (s : ByteArray) (m n t : Int) (k' u' : Int) (f' : ByteArray) (q' : Int) (s' : ByteArray) (m' n' t' : Int) (w : World) (hok : okK ⟨k, u, f, q, s, m, n, t⟩) (hok' : okK ⟨k', u', f', q', s', m', n', t'⟩) (hP : PartsIs w) :
    Calls Tryd.prog 5 #[val ⟨k, u, f, q, s, m, n, t⟩, val ⟨k', u', f', q', s', m', n', t'⟩] w fun e w' => e = .returned (.bool true) ∧ Below w.heap.size w w' := by
  have HO := hid hok
  have HO' := hid hok'
  have A0 := hid ((Boxed.start hP ⟨k, u, f, q, s, m, n, t⟩).alloc (.cells (cellsOf ⟨k', u', f', q', s', m', n', t'⟩) 26))
  have B0 := hid (boxed_two hP ⟨k, u, f, q, s, m, n, t⟩ ⟨k', u', f', q', s', m', n', t'⟩)
  obtain ⟨s1, hs1⟩ : ∃ x, smallK ⟨k, u, f, q, s, m, n, t⟩ = x := ⟨_, rfl⟩
  have S1 := hid hs1
  obtain ⟨s2, hs2⟩ : ∃ x, smallK ⟨k', u', f', q', s', m', n', t'⟩ = x := ⟨_, rfl⟩
  have S2 := hid hs2
  clear hok hok' hP hs1 hs2
  go_enter Tryd.func5, Tryd.ntmps5
  go_wp2_with fail
  with_reducible refine (anchor8 _ A0.out.parts).mono ?_
  rintro e w1 ⟨rfl, hb⟩
  have A1 := hid (A0.out.on hb)
  have B1 := hid (B0.out.on hb)
  clear hb A0 B0
  obtain ⟨⟨c0, c1, c2, c3, c4, c5, c6, c7⟩, f0, f1, f2, f3, f4, f5, f6, f7⟩ := cells8 A1.out.1
  go_wp2_with fail
  with_reducible refine (small8 ⟨k, u, f, q, s, m, n, t⟩ _).mono ?_
  rw [S1.out]
  rintro e w2 ⟨rfl, hb⟩
  have A2 := hid (A1.out.on hb)
  have B2 := hid (B1.out.on hb)
  clear hb A1 B1
  clear c0 c1 c2 c3 c4 c5 c6 c7 f0 f1 f2 f3 f4 f5 f6 f7
  obtain ⟨⟨e0, e1, e2, e3, e4, e5, e6, e7⟩, g0, g1, g2, g3, g4, g5, g6, g7⟩ := cells8 B2.out.1
  cases s1
  · go_wp2
    go_ret
    exact ⟨rfl, A2.out.below⟩
  go_wp2_with fail
  with_reducible refine (small8 ⟨k', u', f', q', s', m', n', t'⟩ _).mono ?_
  rw [S2.out]
  rintro e w3 ⟨rfl, hb⟩
  have A3 := hid (A2.out.on hb)
  have B3 := hid (B2.out.on hb)
  clear hb A2 B2
  clear e0 e1 e2 e3 e4 e5 e6 e7 g0 g1 g2 g3 g4 g5 g6 g7
  cases s2
  · go_wp2
    go_ret
    exact ⟨rfl, A3.out.below⟩
  obtain ⟨⟨c0, c1, c2, c3, c4, c5, c6, c7⟩, f0, f1, f2, f3, f4, f5, f6, f7⟩ := cells8 A3.out.1
  obtain ⟨⟨e0, e1, e2, e3, e4, e5, e6, e7⟩, g0, g1, g2, g3, g4, g5, g6, g7⟩ := cells8 B3.out.1
  have hs := S1.out
  unfold smallK at hs
  simp only [Bool.and_eq_true, decide_eq_true_eq] at hs
  have hs' := S2.out
  unfold smallK at hs'
  simp only [Bool.and_eq_true, decide_eq_true_eq] at hs'
  have Z : Hid ((f.size ≤ 900 ∧ s.size ≤ 900) ∧ (f'.size ≤ 900 ∧ s'.size ≤ 900)) := hid (by omega)
  have Y : Hid ((f.size ≤ 281474976710656 ∧ s.size ≤ 281474976710656) ∧ (f'.size ≤ 281474976710656 ∧ s'.size ≤ 281474976710656)) := hid (by omega)
  obtain ⟨x, hx⟩ : ∃ x, clashK ⟨k, u, f, q, s, m, n, t⟩ ⟨k', u', f', q', s', m', n', t'⟩ = x := ⟨_, rfl⟩
  obtain ⟨y, hy⟩ : ∃ y, keyed ⟨k, u, f, q, s, m, n, t⟩ = y := ⟨_, rfl⟩
  obtain ⟨r, hr⟩ : ∃ y, rightK ⟨k, u, f, q, s, m, n, t⟩ = y := ⟨_, rfl⟩
  obtain ⟨F, hF⟩ : ∃ y, keyF ⟨k, u, f, q, s, m, n, t⟩ = y := ⟨_, rfl⟩
  obtain ⟨U, hU⟩ : ∃ y, keyN ⟨k, u, f, q, s, m, n, t⟩ = y := ⟨_, rfl⟩
  have X1 := hid hx
  have X2 : Hid (clashK ⟨k', u', f', q', s', m', n', t'⟩ ⟨k, u, f, q, s, m, n, t⟩ = x) := hid (by rw [clashK_comm, hx])
  have X3 : Hid (clashK ⟨k, u, f, q, s, m, n, t⟩ ⟨k, u, f, q, s, m, n, t⟩ = y) := hid (by rw [clashK_self, hy])
  have HR := hid hr
  have HY := hid hy
  have HF := hid hF
  have HU := hid hU
  have hyr : y = (r && (k != 0)) := by rw [← hy, keyed_eq, hr]
  have HYR := hid hyr
  clear hs hs' hx hy hr hF hU hyr
  go_wp2_with fail
  have D3 := hid A3.out.drew
  have E3 := hid B3.out.drew
  go_region_held3 (fun w' => (w'.cell? ⟨w.heap.size, 0, none⟩ = some (.int .i64 k) ∧ w'.cell? ⟨w.heap.size, 1, none⟩ = some (.int .u64 u) ∧ w'.cell? ⟨w.heap.size, 2, none⟩ = some (.string f) ∧ w'.cell? ⟨w.heap.size, 3, none⟩ = some (.int .u64 q) ∧ w'.cell? ⟨w.heap.size, 4, none⟩ = some (.string s) ∧ w'.cell? ⟨w.heap.size, 5, none⟩ = some (.int .i64 m) ∧ w'.cell? ⟨w.heap.size, 6, none⟩ = some (.int .u64 n) ∧ w'.cell? ⟨w.heap.size, 7, none⟩ = some (.int .i64 t)) ∧ (w'.cell? ⟨w.heap.size + 1, 0, none⟩ = some (.int .i64 k') ∧ w'.cell? ⟨w.heap.size + 1, 1, none⟩ = some (.int .u64 u') ∧ w'.cell? ⟨w.heap.size + 1, 2, none⟩ = some (.string f') ∧ w'.cell? ⟨w.heap.size + 1, 3, none⟩ = some (.int .u64 q') ∧ w'.cell? ⟨w.heap.size + 1, 4, none⟩ = some (.string s') ∧ w'.cell? ⟨w.heap.size + 1, 5, none⟩ = some (.int .i64 m') ∧ w'.cell? ⟨w.heap.size + 1, 6, none⟩ = some (.int .u64 n') ∧ w'.cell? ⟨w.heap.size + 1, 7, none⟩ = some (.int .i64 t')))
    (first | exact ⟨(cells8 A3.out.1).1, (cells8 B3.out.1).1⟩ | exact ⟨(cells8 D3.out.1).1, (cells8 E3.out.1).1⟩ | exact ⟨(cells8 D4.out.1).1, (cells8 E4.out.1).1⟩ | exact ⟨(cells8 D5.out.1).1, (cells8 E5.out.1).1⟩ | exact ⟨(cells8 D6.out.1).1, (cells8 E6.out.1).1⟩)
    (first
      | (go_at_call 19; (with_reducible refine (of8 ⟨k, u, f, q, s, m, n, t⟩ _).mono ?_); rintro e w4 ⟨rfl, hb4⟩; have D4 := hid (D3.out.on hb4); have E4 := hid (E3.out.on hb4))
      | (go_at_call 19; (with_reducible refine (of8 ⟨k', u', f', q', s', m', n', t'⟩ _).mono ?_); rintro e w5 ⟨rfl, hb5⟩; have D5 := hid (D4.out.on hb5); have E5 := hid (E4.out.on hb5))
      | (go_at_call 18; (with_reducible refine (refclash_any ⟨k, u, f, q, s, m, n, t⟩ ⟨k', u', f', q', s', m', n', t'⟩ _ HO.out HO'.out Z.out.1.1 Z.out.1.2 Z.out.2.1 Z.out.2.2).mono ?_); rw [X1.out]; rintro e w6 ⟨rfl, hb6⟩; have D6 := hid (D5.out.on hb6); have E6 := hid (E5.out.on hb6)))
  rename_i hHeld
  clear hHeld hb4 hb5 hb6 D5 E5 D4 E4 D3 E3 A3 B3
  clear c0 c1 c2 c3 c4 c5 c6 c7 f0 f1 f2 f3 f4 f5 f6 f7 e0 e1 e2 e3 e4 e5 e6 e7 g0 g1 g2 g3 g4 g5 g6 g7
  obtain ⟨⟨c0, c1, c2, c3, c4, c5, c6, c7⟩, f0, f1, f2, f3, f4, f5, f6, f7⟩ := cells8 D6.out.1
  go_wp2_with fail
  with_reducible refine (keyof_any ⟨k, u, f, q, s, m, n, t⟩ _ D6.out.parts Y.out.1.1 Y.out.1.2).mono ?_
  rw [HF.out, HU.out, HY.out]
  rintro e w7 ⟨rfl, hb⟩
  have A7 := hid ((D6.out.on hb).alloc (.cells (keyC F U) 41))
  have B7 := hid ((E6.out.on hb).alloc (.cells (keyC F U) 41))
  clear hb D6 E6
  clear c0 c1 c2 c3 c4 c5 c6 c7 f0 f1 f2 f3 f4 f5 f6 f7
  obtain ⟨⟨c0, c1, c2, c3, c4, c5, c6, c7⟩, f0, f1, f2, f3, f4, f5, f6, f7⟩ := cells8 A7.out.1
  obtain ⟨⟨e0, e1, e2, e3, e4, e5, e6, e7⟩, g0, g1, g2, g3, g4, g5, g6, g7⟩ := cells8 B7.out.1
  have hxx : (x == x) = true := by simp
  have hyy : (y == y) = true := by simp
  go_wp2_with fail
  with_reducible refine (clash_any ⟨k, u, f, q, s, m, n, t⟩ ⟨k', u', f', q', s', m', n', t'⟩ _ A7.out.parts Y.out.1.1 Y.out.1.2 Y.out.2.1 Y.out.2.2).mono ?_
  rw [X1.out]
  rintro e w8 ⟨rfl, hb⟩
  have A8 := hid (A7.out.on hb)
  have B8 := hid (B7.out.on hb)
  clear hb A7 B7
  clear c0 c1 c2 c3 c4 c5 c6 c7 f0 f1 f2 f3 f4 f5 f6 f7 e0 e1 e2 e3 e4 e5 e6 e7 g0 g1 g2 g3 g4 g5 g6 g7
  obtain ⟨⟨c0, c1, c2, c3, c4, c5, c6, c7⟩, f0, f1, f2, f3, f4, f5, f6, f7⟩ := cells8 A8.out.1
  obtain ⟨⟨e0, e1, e2, e3, e4, e5, e6, e7⟩, g0, g1, g2, g3, g4, g5, g6, g7⟩ := cells8 B8.out.1
  go_wp2_with fail
  with_reducible refine (clash_any ⟨k', u', f', q', s', m', n', t'⟩ ⟨k, u, f, q, s, m, n, t⟩ _ A8.out.parts Y.out.2.1 Y.out.2.2 Y.out.1.1 Y.out.1.2).mono ?_
  rw [X2.out]
  rintro e w9 ⟨rfl, hb⟩
  have A9 := hid (A8.out.on hb)
  clear hb A8 B8
  clear c0 c1 c2 c3 c4 c5 c6 c7 f0 f1 f2 f3 f4 f5 f6 f7 e0 e1 e2 e3 e4 e5 e6 e7 g0 g1 g2 g3 g4 g5 g6 g7
  obtain ⟨⟨c0, c1, c2, c3, c4, c5, c6, c7⟩, f0, f1, f2, f3, f4, f5, f6, f7⟩ := cells8 A9.out.1
  go_wp2_with fail
  with_reducible refine (clash_any ⟨k, u, f, q, s, m, n, t⟩ ⟨k, u, f, q, s, m, n, t⟩ _ A9.out.parts Y.out.1.1 Y.out.1.2 Y.out.1.1 Y.out.1.2).mono ?_
  rw [X3.out]
  rintro e w10 ⟨rfl, hb⟩
  have A10 := hid (A9.out.on hb)
  clear hb A9
  clear c0 c1 c2 c3 c4 c5 c6 c7 f0 f1 f2 f3 f4 f5 f6 f7
  obtain ⟨⟨c0, c1, c2, c3, c4, c5, c6, c7⟩, f0, f1, f2, f3, f4, f5, f6, f7⟩ := cells8 A10.out.1
  go_wp2_with fail
  with_reducible refine (of8 ⟨k, u, f, q, s, m, n, t⟩ _).mono ?_
  rintro e w11 ⟨rfl, hb⟩
  have A11 := hid (A10.out.on hb)
  clear hb A10
  clear c0 c1 c2 c3 c4 c5 c6 c7 f0 f1 f2 f3 f4 f5 f6 f7
  obtain ⟨⟨c0, c1, c2, c3, c4, c5, c6, c7⟩, f0, f1, f2, f3, f4, f5, f6, f7⟩ := cells8 A11.out.1
  go_wp2_with fail
  with_reducible refine (refright7 ⟨k, u, f, q, s, m, n, t⟩ _ HO.out Z.out.1.1 Z.out.1.2).mono ?_
  rw [HR.out]
  rintro e w12 ⟨rfl, hb⟩
  have A12 := hid (A11.out.on hb)
  clear hb A11
  clear c0 c1 c2 c3 c4 c5 c6 c7 f0 f1 f2 f3 f4 f5 f6 f7
  obtain ⟨⟨c0, c1, c2, c3, c4, c5, c6, c7⟩, f0, f1, f2, f3, f4, f5, f6, f7⟩ := cells8 A12.out.1
  have hyr := HYR.out
  obtain ⟨z, hz⟩ : ∃ z, (k != 0) = z := ⟨_, rfl⟩
  rw [hz] at hyr
  cases r
  · simp only [Bool.false_and] at hyr
    subst hyr
    go_wp2
    go_ret
    exact ⟨rfl, A12.out.below⟩
  · simp only [Bool.true_and] at hyr
    subst hyr
    go_wp2
    go_ret
    exact ⟨ret_bool (by simp), A12.out.below⟩

theorem walk (c d : K) (hok : okK c) (hok' : okK d) (w : World) (hP : PartsIs w) :
    Calls Tryd.prog 5 #[val c, val d] w fun e w' => e = .returned (.bool true) ∧ Below w.heap.size w w' :=
  walk_k c.kind c.num c.foot c.req c.path c.mode c.n c.time d.kind d.num d.foot d.req d.path d.mode d.n d.time w hok hok' hP

end Go.Proofs.YtfdphcgfdodnoaaDoor.clashPairs
