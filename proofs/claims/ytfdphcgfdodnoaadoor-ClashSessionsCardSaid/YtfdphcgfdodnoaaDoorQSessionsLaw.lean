/-
  ClashSessions: for any two commands the law's call returns true: whatever two sessions ask for below their footprints interferes with each other's ends just if the footprints overlap, or the numbers are the same. The condition: the table of kinds holds what its text lays, which the card ties to the program.
-/
import Derived.Test.YtfdphcgfdodnoaaDoorQRef
import Derived.Deep.RegionHeld3
namespace Go.Proofs.YtfdphcgfdodnoaaDoor.clashSessions
open Go.ChangeShapes Go.WideShapes Go.ChangeAt Go.RowKit Go.Lib
set_option linter.unusedVariables false
set_option linter.unusedSimpArgs false

theorem boxed_two {w : World} (hP : PartsIs w) (c d : K) : Boxed w ((w.alloc (.cells (cellsOf c) 26)).alloc (.cells (cellsOf d) 26)) (w.heap.size + 1) d :=
  ⟨by have h := Blk.new (w.alloc (.cells (cellsOf c) 26)) 26 (cellsOf d); simpa using h, by omega, ((Boxed.start hP c).alloc _).below, hP⟩
theorem own_path {c : K} (hr : rightK c = true) (hp : L c.path ≠ []) : h0 c.kind = true ∧ h2 c.kind = true := by
  unfold rightK at hr
  simp only [Bool.and_eq_true, decide_eq_true_eq] at hr
  have he := congrArg K.path hr.1.2
  rcases sig_cases c.kind with ⟨g, _⟩ | ⟨_, g⟩ | ⟨_, g⟩ | ⟨_, g⟩ | ⟨_, g⟩ | ⟨_, g⟩ | ⟨_, g⟩ | ⟨_, g⟩ <;> obtain ⟨s0, s1, s2, s3, s4, s5⟩ := g <;> first
    | exact ⟨s0, s2⟩
    | (exfalso; apply hp; rw [he]; simp [own, s2, L])
theorem foot_path {c : K} (hr : rightK c = true) (hp : L c.path ≠ []) : keyed c = true ∧ keyF c = c.path := by
  obtain ⟨a, b⟩ := own_path hr hp
  unfold keyed keyF footK
  rw [hr, a, b]
  exact ⟨rfl, rfl⟩
theorem foot_end {c : K} (hr : rightK c = true) (hk : c.kind = 2 ∨ c.kind = 8) : keyed c = true ∧ keyF c = c.foot := by
  unfold keyed keyF footK
  rw [hr]
  rcases hk with h | h <;> rw [h] <;> exact ⟨rfl, rfl⟩
theorem below_over {p q r : List UInt8} (hr : r = p ++ [47, 120]) (hp : right p = true) (h : above q r = true) : overlap p q = true := by
  subst hr
  unfold above at h
  simp only [Bool.and_eq_true, List.isPrefixOf_iff_prefix] at h
  obtain ⟨⟨hq, _⟩, hx⟩ := h
  have e : pieces (p ++ [47, 120]) = pieces p ++ [[120]] := by
    rw [pieces_mid]; rfl
  rw [e, List.prefix_concat_iff] at hx
  unfold overlap above
  rw [hp, hq]
  simp only [Bool.true_and, Bool.or_eq_true, List.isPrefixOf_iff_prefix]
  rcases hx with hx | hx
  · exact .inl ⟨[[120]], hx.symm⟩
  · exact .inr hx

set_option maxRecDepth 100000 in
set_option maxHeartbeats 8000000 in
theorem walk_k (k u : Int) (f : ByteArray) (q : Int) (s : ByteArray) (m n t : Int) (k' u' : Int) (f' : ByteArray) (q' : Int) (s' : ByteArray) (m' n' t' : Int) (w : World) (hok : okK ⟨k, u, f, q, s, m, n, t⟩) (hok' : okK ⟨k', u', f', q', s', m', n', t'⟩) (hP : PartsIs w) :
    Calls Tryd.prog 7 #[val ⟨k, u, f, q, s, m, n, t⟩, val ⟨k', u', f', q', s', m', n', t'⟩] w fun e w' => e = .returned (.bool true) ∧ Below w.heap.size w w' := by
  have HO := hid hok
  have HO' := hid hok'
  have A0 := hid ((Boxed.start hP ⟨k, u, f, q, s, m, n, t⟩).alloc (.cells (cellsOf ⟨k', u', f', q', s', m', n', t'⟩) 26))
  have B0 := hid (boxed_two hP ⟨k, u, f, q, s, m, n, t⟩ ⟨k', u', f', q', s', m', n', t'⟩)
  obtain ⟨s1, hs1⟩ : ∃ x, smallK ⟨k, u, f, q, s, m, n, t⟩ = x := ⟨_, rfl⟩
  have S1 := hid hs1
  obtain ⟨s2, hs2⟩ : ∃ x, smallK ⟨k', u', f', q', s', m', n', t'⟩ = x := ⟨_, rfl⟩
  have S2 := hid hs2
  obtain ⟨r1, hr1⟩ : ∃ x, rightK ⟨k, u, f, q, s, m, n, t⟩ = x := ⟨_, rfl⟩
  have R1 := hid hr1
  obtain ⟨r2, hr2⟩ : ∃ x, rightK ⟨k', u', f', q', s', m', n', t'⟩ = x := ⟨_, rfl⟩
  have R2 := hid hr2
  clear hok hok' hP hs1 hs2 hr1 hr2
  go_enter Tryd.func7, Tryd.ntmps7
  go_wp2_with fail
  with_reducible refine (anchor8 _ A0.out.parts).mono ?_
  rintro e w1 ⟨rfl, hb⟩
  have A1 := hid (A0.out.on hb)
  have B1 := hid (B0.out.on hb)
  clear hb A0 B0
  obtain ⟨⟨c0, c1, c2, c3, c4, c5, c6, c7⟩, f0, f1, f2, f3, f4, f5, f6, f7⟩ := cells8 A1.out.1
  obtain ⟨⟨e0, e1, e2, e3, e4, e5, e6, e7⟩, g0, g1, g2, g3, g4, g5, g6, g7⟩ := cells8 B1.out.1
  go_wp2_with fail
  with_reducible refine (small8 ⟨k, u, f, q, s, m, n, t⟩ _).mono ?_
  rw [S1.out]
  rintro e w2 ⟨rfl, hb⟩
  have A2 := hid (A1.out.on hb)
  have B2 := hid (B1.out.on hb)
  clear hb A1 B1
  clear c0 c1 c2 c3 c4 c5 c6 c7 f0 f1 f2 f3 f4 f5 f6 f7
  clear e0 e1 e2 e3 e4 e5 e6 e7 g0 g1 g2 g3 g4 g5 g6 g7
  obtain ⟨⟨c0, c1, c2, c3, c4, c5, c6, c7⟩, f0, f1, f2, f3, f4, f5, f6, f7⟩ := cells8 A2.out.1
  obtain ⟨⟨e0, e1, e2, e3, e4, e5, e6, e7⟩, g0, g1, g2, g3, g4, g5, g6, g7⟩ := cells8 B2.out.1
  cases s1
  · go_wp2
    go_ret
    exact ⟨rfl, A2.out.below⟩
  go_wp2_with fail
  with_reducible refine (small8 ⟨k', u', f', q', s', m', n', t'⟩ _).mono ?_
  rw [S2.out]
  rintro e w3 ⟨rfl, hb⟩
  have A3 := hid (A2.out.on hb)
  have B3 := hid (B2.out.on hb)
  clear hb A2 B2
  clear c0 c1 c2 c3 c4 c5 c6 c7 f0 f1 f2 f3 f4 f5 f6 f7
  clear e0 e1 e2 e3 e4 e5 e6 e7 g0 g1 g2 g3 g4 g5 g6 g7
  obtain ⟨⟨c0, c1, c2, c3, c4, c5, c6, c7⟩, f0, f1, f2, f3, f4, f5, f6, f7⟩ := cells8 A3.out.1
  obtain ⟨⟨e0, e1, e2, e3, e4, e5, e6, e7⟩, g0, g1, g2, g3, g4, g5, g6, g7⟩ := cells8 B3.out.1
  cases s2
  · go_wp2
    go_ret
    exact ⟨rfl, A3.out.below⟩
  have hs := S1.out
  unfold smallK at hs
  simp only [Bool.and_eq_true, decide_eq_true_eq] at hs
  have hs' := S2.out
  unfold smallK at hs'
  simp only [Bool.and_eq_true, decide_eq_true_eq] at hs'
  have Z : Hid ((f.size ≤ 900 ∧ s.size ≤ 900) ∧ (f'.size ≤ 900 ∧ s'.size ≤ 900)) := hid (by omega)
  have Y : Hid ((f.size ≤ 281474976710656 ∧ s.size ≤ 281474976710656) ∧ (f'.size ≤ 281474976710656 ∧ s'.size ≤ 281474976710656)) := hid (by omega)
  have hss : s.size ≤ 800 := by omega
  clear hs hs'
  go_wp2_with fail
  with_reducible refine (of8 ⟨k, u, f, q, s, m, n, t⟩ _).mono ?_
  rintro e w4 ⟨rfl, hb⟩
  have A4 := hid (A3.out.on hb)
  have B4 := hid (B3.out.on hb)
  clear hb A3 B3
  clear c0 c1 c2 c3 c4 c5 c6 c7 f0 f1 f2 f3 f4 f5 f6 f7
  clear e0 e1 e2 e3 e4 e5 e6 e7 g0 g1 g2 g3 g4 g5 g6 g7
  obtain ⟨⟨c0, c1, c2, c3, c4, c5, c6, c7⟩, f0, f1, f2, f3, f4, f5, f6, f7⟩ := cells8 A4.out.1
  obtain ⟨⟨e0, e1, e2, e3, e4, e5, e6, e7⟩, g0, g1, g2, g3, g4, g5, g6, g7⟩ := cells8 B4.out.1
  go_wp2_with fail
  with_reducible refine (refright7 ⟨k, u, f, q, s, m, n, t⟩ _ HO.out Z.out.1.1 Z.out.1.2).mono ?_
  rw [R1.out]
  rintro e w5 ⟨rfl, hb⟩
  have A5 := hid (A4.out.on hb)
  have B5 := hid (B4.out.on hb)
  clear hb A4 B4
  clear c0 c1 c2 c3 c4 c5 c6 c7 f0 f1 f2 f3 f4 f5 f6 f7
  clear e0 e1 e2 e3 e4 e5 e6 e7 g0 g1 g2 g3 g4 g5 g6 g7
  obtain ⟨⟨c0, c1, c2, c3, c4, c5, c6, c7⟩, f0, f1, f2, f3, f4, f5, f6, f7⟩ := cells8 A5.out.1
  obtain ⟨⟨e0, e1, e2, e3, e4, e5, e6, e7⟩, g0, g1, g2, g3, g4, g5, g6, g7⟩ := cells8 B5.out.1
  cases r1
  · go_wp2
    go_ret
    exact ⟨rfl, A5.out.below⟩
  rcases Decidable.em (L s = []) with z4 | z4
  · have y4 : s.toList.isEmpty = true := by rw [toList_L, z4]; rfl
    have y4b : s.toList = [] := by rw [toList_L, z4]
    go_wp2
    go_ret
    exact ⟨rfl, A5.out.below⟩
  have y4 : s.toList.isEmpty = false := (not_empty (l := L s) rfl z4).1
  have y4b : ¬ s.toList = [] := (not_empty (l := L s) rfl z4).2
  have Z4 := hid z4
  clear z4
  have hkk : (k' = 2 ∨ k' = 8) ∨ (k' ≠ 2 ∧ k' ≠ 8) := by omega
  rcases hkk with hkk | ⟨hn2, hn8⟩
  rotate_left 1
  · have y5 : (k' != 2) = true := bne_iff_ne.2 hn2
    have y6 : (k' != 8) = true := bne_iff_ne.2 hn8
    go_wp2
    go_ret
    exact ⟨rfl, A5.out.below⟩
  have KK := hid hkk
  have y56 : ((k' != 2) = false) ∨ ((k' != 2) = true ∧ (k' != 8) = false) := by
    rcases hkk with h | h
    · left; rw [h]; rfl
    · right; rw [h]; exact ⟨rfl, rfl⟩
  clear hkk
  rcases y56 with y5 | ⟨y5, y6⟩
  · go_wp2_with fail
    with_reducible refine (of8 ⟨k', u', f', q', s', m', n', t'⟩ _).mono ?_
    rintro e w6 ⟨rfl, hb⟩
    have A6 := hid (A5.out.on hb)
    have B6 := hid (B5.out.on hb)
    clear hb A5 B5
    clear c0 c1 c2 c3 c4 c5 c6 c7 f0 f1 f2 f3 f4 f5 f6 f7
    clear e0 e1 e2 e3 e4 e5 e6 e7 g0 g1 g2 g3 g4 g5 g6 g7
    obtain ⟨⟨c0, c1, c2, c3, c4, c5, c6, c7⟩, f0, f1, f2, f3, f4, f5, f6, f7⟩ := cells8 A6.out.1
    obtain ⟨⟨e0, e1, e2, e3, e4, e5, e6, e7⟩, g0, g1, g2, g3, g4, g5, g6, g7⟩ := cells8 B6.out.1
    go_wp2_with fail
    with_reducible refine (refright7 ⟨k', u', f', q', s', m', n', t'⟩ _ HO'.out Z.out.2.1 Z.out.2.2).mono ?_
    rw [R2.out]
    rintro e w7 ⟨rfl, hb⟩
    have A7 := hid (A6.out.on hb)
    have B7 := hid (B6.out.on hb)
    clear hb A6 B6
    clear c0 c1 c2 c3 c4 c5 c6 c7 f0 f1 f2 f3 f4 f5 f6 f7
    clear e0 e1 e2 e3 e4 e5 e6 e7 g0 g1 g2 g3 g4 g5 g6 g7
    obtain ⟨⟨c0, c1, c2, c3, c4, c5, c6, c7⟩, f0, f1, f2, f3, f4, f5, f6, f7⟩ := cells8 A7.out.1
    obtain ⟨⟨e0, e1, e2, e3, e4, e5, e6, e7⟩, g0, g1, g2, g3, g4, g5, g6, g7⟩ := cells8 B7.out.1
    cases r2
    · go_wp2
      go_ret
      exact ⟨rfl, A7.out.below⟩
    clear y4 y4b
    obtain ⟨ka, kf⟩ := foot_path R1.out (show L (K.path ⟨k, u, f, q, s, m, n, t⟩) ≠ [] from Z4.out)
    obtain ⟨kb, kg⟩ := foot_end R2.out (show K.kind ⟨k', u', f', q', s', m', n', t'⟩ = 2 ∨ K.kind ⟨k', u', f', q', s', m', n', t'⟩ = 8 from KK.out)
    have hck : clashK ⟨k, u, f, q, s, m, n, t⟩ ⟨k', u', f', q', s', m', n', t'⟩ = ((u == u') || overlap (L s) (L f')) := by rw [clashF_off _ _ ka kb, kf, kg]
    obtain ⟨x, hx⟩ : ∃ x, clashK ⟨k, u, f, q, s, m, n, t⟩ ⟨k', u', f', q', s', m', n', t'⟩ = x := ⟨_, rfl⟩
    obtain ⟨z, hz⟩ : ∃ x, overlap (L s) (L f') = x := ⟨_, rfl⟩
    obtain ⟨e, he⟩ : ∃ x, (u == u') = x := ⟨_, rfl⟩
    rw [hx, hz, he] at hck
    have X1 := hid hx
    have Z1 := hid hz
    have HE := hid he
    have HCK := hid hck
    clear ka kf kb kg hck hx hz he
    obtain ⟨r, hr⟩ : ∃ r, s ++ ⟨#[47, 120]⟩ = r := ⟨_, rfl⟩
    have hrL : L r = L s ++ [47, 120] := by rw [← hr, L_append]; rfl
    have hrz : r.size ≤ 900 := by rw [← L_length, hrL]; simp [L_length]; omega
    have HRL := hid hrL
    have HRZ := hid hrz
    clear hrL hrz
    obtain ⟨x1, hx1⟩ : ∃ x, above (L f) (L s) = x := ⟨_, rfl⟩
    obtain ⟨x2, hx2⟩ : ∃ x, right (L r) = x := ⟨_, rfl⟩
    obtain ⟨x3, hx3⟩ : ∃ x, overlap (L r) (L f') = x := ⟨_, rfl⟩
    obtain ⟨x4, hx4⟩ : ∃ x, above (L f') (L r) = x := ⟨_, rfl⟩
    have hov : x1 = true → x4 = true → x = true := fun h1 h4 => by
      have hR : right (L s) = true := by
        rw [h1] at hx1; unfold above at hx1; simp only [Bool.and_eq_true] at hx1; exact hx1.1.2
      rw [h4] at hx4
      have := below_over HRL.out hR hx4
      rw [Z1.out] at this
      rw [HCK.out, this]; simp
    have O1 := hid hx1
    have O2 := hid hx2
    have O3 := hid hx3
    have O4 := hid hx4
    have HOV := hid hov
    clear hx1 hx2 hx3 hx4 hov
    go_wp2_with fail
    with_reducible refine (refabove_any f s _ Z.out.1.1 Z.out.1.2).mono ?_
    rw [O1.out]
    rintro e w8 ⟨rfl, hb⟩
    have A8 := hid (A7.out.on hb)
    have B8 := hid (B7.out.on hb)
    clear hb A7 B7
    clear c0 c1 c2 c3 c4 c5 c6 c7 f0 f1 f2 f3 f4 f5 f6 f7
    clear e0 e1 e2 e3 e4 e5 e6 e7 g0 g1 g2 g3 g4 g5 g6 g7
    obtain ⟨⟨c0, c1, c2, c3, c4, c5, c6, c7⟩, f0, f1, f2, f3, f4, f5, f6, f7⟩ := cells8 A8.out.1
    obtain ⟨⟨e0, e1, e2, e3, e4, e5, e6, e7⟩, g0, g1, g2, g3, g4, g5, g6, g7⟩ := cells8 B8.out.1
    cases x1
    · go_wp2
      go_ret
      exact ⟨rfl, A8.out.below⟩
    go_wp2_with fail
    with_reducible refine (refright_any r _ HRZ.out).mono ?_
    rw [O2.out]
    rintro e w9 ⟨rfl, hb⟩
    have A9 := hid (A8.out.on hb)
    have B9 := hid (B8.out.on hb)
    clear hb A8 B8
    clear c0 c1 c2 c3 c4 c5 c6 c7 f0 f1 f2 f3 f4 f5 f6 f7
    clear e0 e1 e2 e3 e4 e5 e6 e7 g0 g1 g2 g3 g4 g5 g6 g7
    obtain ⟨⟨c0, c1, c2, c3, c4, c5, c6, c7⟩, f0, f1, f2, f3, f4, f5, f6, f7⟩ := cells8 A9.out.1
    obtain ⟨⟨e0, e1, e2, e3, e4, e5, e6, e7⟩, g0, g1, g2, g3, g4, g5, g6, g7⟩ := cells8 B9.out.1
    cases x2
    · have hck := HCK.out
      cases e
      · simp only [Bool.false_or] at hck
        subst hck
        have hee : (u == u') = false := HE.out
        have hxx : (x == x) = true := by simp
        go_wp2_with fail
        have DA := hid A9.out.drew
        have DB := hid B9.out.drew
        go_region_held3 (fun w' => (w'.cell? ⟨w.heap.size, 0, none⟩ = some (.int .i64 k) ∧ w'.cell? ⟨w.heap.size, 1, none⟩ = some (.int .u64 u) ∧ w'.cell? ⟨w.heap.size, 2, none⟩ = some (.string f) ∧ w'.cell? ⟨w.heap.size, 3, none⟩ = some (.int .u64 q) ∧ w'.cell? ⟨w.heap.size, 4, none⟩ = some (.string s) ∧ w'.cell? ⟨w.heap.size, 5, none⟩ = some (.int .i64 m) ∧ w'.cell? ⟨w.heap.size, 6, none⟩ = some (.int .u64 n) ∧ w'.cell? ⟨w.heap.size, 7, none⟩ = some (.int .i64 t)) ∧ (w'.cell? ⟨w.heap.size + 1, 0, none⟩ = some (.int .i64 k') ∧ w'.cell? ⟨w.heap.size + 1, 1, none⟩ = some (.int .u64 u') ∧ w'.cell? ⟨w.heap.size + 1, 2, none⟩ = some (.string f') ∧ w'.cell? ⟨w.heap.size + 1, 3, none⟩ = some (.int .u64 q') ∧ w'.cell? ⟨w.heap.size + 1, 4, none⟩ = some (.string s') ∧ w'.cell? ⟨w.heap.size + 1, 5, none⟩ = some (.int .i64 m') ∧ w'.cell? ⟨w.heap.size + 1, 6, none⟩ = some (.int .u64 n') ∧ w'.cell? ⟨w.heap.size + 1, 7, none⟩ = some (.int .i64 t')))
          (first | exact ⟨(cells8 A9.out.1).1, (cells8 B9.out.1).1⟩ | exact ⟨(cells8 DA.out.1).1, (cells8 DB.out.1).1⟩ | exact ⟨(cells8 A90.out.1).1, (cells8 B90.out.1).1⟩ | exact ⟨(cells8 A91.out.1).1, (cells8 B91.out.1).1⟩)
          (first
            | (go_at_call 21; (with_reducible refine (clash_any ⟨k, u, f, q, s, m, n, t⟩ ⟨k', u', f', q', s', m', n', t'⟩ _ DA.out.parts Y.out.1.1 Y.out.1.2 Y.out.2.1 Y.out.2.2).mono ?_); rw [X1.out]; rintro e w90 ⟨rfl, hb90⟩; have A90 := hid (Boxed.on DA.out hb90); have B90 := hid (Boxed.on DB.out hb90))
            | (go_at_call 24; (with_reducible refine (refoverlap_any s f' _ Z.out.1.2 Z.out.2.1).mono ?_); rw [Z1.out]; rintro e w91 ⟨rfl, hb91⟩; have A91 := hid (Boxed.on A90.out hb91); have B91 := hid (Boxed.on B90.out hb91)))
        rename_i hHeld
        clear hHeld
        go_wp2
        go_ret
        exact ⟨rfl, A91.out.below⟩
      · simp only [Bool.true_or] at hck
        subst hck
        obtain rfl : u = u' := by simpa using HE.out
        go_wp2_with fail
        refine wp_region_held_drew (S := (fun w' => (w'.cell? ⟨w.heap.size, 0, none⟩ = some (.int .i64 k) ∧ w'.cell? ⟨w.heap.size, 1, none⟩ = some (.int .u64 u) ∧ w'.cell? ⟨w.heap.size, 2, none⟩ = some (.string f) ∧ w'.cell? ⟨w.heap.size, 3, none⟩ = some (.int .u64 q) ∧ w'.cell? ⟨w.heap.size, 4, none⟩ = some (.string s) ∧ w'.cell? ⟨w.heap.size, 5, none⟩ = some (.int .i64 m) ∧ w'.cell? ⟨w.heap.size, 6, none⟩ = some (.int .u64 n) ∧ w'.cell? ⟨w.heap.size, 7, none⟩ = some (.int .i64 t)) ∧ (w'.cell? ⟨w.heap.size + 1, 0, none⟩ = some (.int .i64 k') ∧ w'.cell? ⟨w.heap.size + 1, 1, none⟩ = some (.int .u64 u) ∧ w'.cell? ⟨w.heap.size + 1, 2, none⟩ = some (.string f') ∧ w'.cell? ⟨w.heap.size + 1, 3, none⟩ = some (.int .u64 q') ∧ w'.cell? ⟨w.heap.size + 1, 4, none⟩ = some (.string s') ∧ w'.cell? ⟨w.heap.size + 1, 5, none⟩ = some (.int .i64 m') ∧ w'.cell? ⟨w.heap.size + 1, 6, none⟩ = some (.int .u64 n') ∧ w'.cell? ⟨w.heap.size + 1, 7, none⟩ = some (.int .i64 t')))) (by kernel_rfl) (by exact ⟨(cells8 A9.out.1).1, (cells8 B9.out.1).1⟩) (fun hHeld => ?_)
        refine wpAnyH_take (i := 0) (oi := _) (v := ?_) rfl (by kernel_rfl) (by kernel_rfl) (by kernel_rfl) (fun _ _ _ h => h) (Or.inl ⟨by kernel_rfl, ?_⟩) hHeld ?_
        rotate_left 1
        focus (intro w' hSw; (try dsimp only at hSw); go_simp; try with_reducible rfl)
        try simp only [Act.put, List.getElem_toArray, List.getElem_cons_zero, List.getElem_cons_succ, List.setIfInBounds_toArray, List.set_cons_zero, List.set_cons_succ]
        refine wpAnyH_take (i := 1) (oi := _) (v := ?_) rfl (by kernel_rfl) (by kernel_rfl) (by kernel_rfl) (fun _ _ _ h => h) (Or.inl ⟨by kernel_rfl, ?_⟩) hHeld ?_
        rotate_left 1
        focus (intro w' hSw; (try dsimp only at hSw); go_simp; try with_reducible rfl)
        try simp only [Act.put, List.getElem_toArray, List.getElem_cons_zero, List.getElem_cons_succ, List.setIfInBounds_toArray, List.set_cons_zero, List.set_cons_succ]
        refine wpAnyH_take (i := 3) (oi := _) (v := ?_) rfl (by kernel_rfl) (by kernel_rfl) (by kernel_rfl) (fun _ _ _ h => h) (Or.inl ⟨by kernel_rfl, ?_⟩) hHeld ?_
        rotate_left 1
        focus (intro w' hSw; (try dsimp only at hSw); go_simp; try with_reducible rfl)
        try simp only [Act.put, List.getElem_toArray, List.getElem_cons_zero, List.getElem_cons_succ, List.setIfInBounds_toArray, List.set_cons_zero, List.set_cons_succ]
        refine wpAnyH_take (i := 4) (oi := _) (v := ?_) rfl (by kernel_rfl) (by kernel_rfl) (by kernel_rfl) (fun _ _ _ h => h) (Or.inl ⟨by kernel_rfl, ?_⟩) hHeld ?_
        rotate_left 1
        focus (intro w' hSw; (try dsimp only at hSw); go_simp; try with_reducible rfl)
        try simp only [Act.put, List.getElem_toArray, List.getElem_cons_zero, List.getElem_cons_succ, List.setIfInBounds_toArray, List.set_cons_zero, List.set_cons_succ]
        refine wpAnyH_take (i := 5) (oi := _) (v := ?_) rfl (by kernel_rfl) (by kernel_rfl) (by kernel_rfl) (fun _ _ _ h => h) (Or.inl ⟨by kernel_rfl, ?_⟩) hHeld ?_
        rotate_left 1
        focus (intro w' hSw; (try dsimp only at hSw); go_simp; try with_reducible rfl)
        try simp only [Act.put, List.getElem_toArray, List.getElem_cons_zero, List.getElem_cons_succ, List.setIfInBounds_toArray, List.set_cons_zero, List.set_cons_succ]
        refine wpAnyH_take (i := 6) (oi := _) (v := ?_) rfl (by kernel_rfl) (by kernel_rfl) (by kernel_rfl) (fun _ _ _ h => h) (Or.inl ⟨by kernel_rfl, ?_⟩) hHeld ?_
        rotate_left 1
        focus (intro w' hSw; (try dsimp only at hSw); go_simp; try with_reducible rfl)
        try simp only [Act.put, List.getElem_toArray, List.getElem_cons_zero, List.getElem_cons_succ, List.setIfInBounds_toArray, List.set_cons_zero, List.set_cons_succ]
        refine wpAnyH_take (i := 7) (oi := _) (v := ?_) rfl (by kernel_rfl) (by kernel_rfl) (by kernel_rfl) (fun _ _ _ h => h) (Or.inl ⟨by kernel_rfl, ?_⟩) hHeld ?_
        rotate_left 1
        focus (intro w' hSw; (try dsimp only at hSw); go_simp; try with_reducible rfl)
        try simp only [Act.put, List.getElem_toArray, List.getElem_cons_zero, List.getElem_cons_succ, List.setIfInBounds_toArray, List.set_cons_zero, List.set_cons_succ]
        refine wpAnyH_take (i := 8) (oi := _) (v := ?_) rfl (by kernel_rfl) (by kernel_rfl) (by kernel_rfl) (fun _ _ _ h => h) (Or.inl ⟨by kernel_rfl, ?_⟩) hHeld ?_
        rotate_left 1
        focus (intro w' hSw; (try dsimp only at hSw); go_simp; try with_reducible rfl)
        try simp only [Act.put, List.getElem_toArray, List.getElem_cons_zero, List.getElem_cons_succ, List.setIfInBounds_toArray, List.set_cons_zero, List.set_cons_succ]
        refine wpAnyH_take (i := 9) (oi := _) (v := ?_) rfl (by kernel_rfl) (by kernel_rfl) (by kernel_rfl) (fun _ _ _ h => h) (Or.inl ⟨by kernel_rfl, ?_⟩) hHeld ?_
        rotate_left 1
        focus (intro w' hSw; (try dsimp only at hSw); go_simp; try with_reducible rfl)
        try simp only [Act.put, List.getElem_toArray, List.getElem_cons_zero, List.getElem_cons_succ, List.setIfInBounds_toArray, List.set_cons_zero, List.set_cons_succ]
        refine wpAnyH_ready (rs := [2]) (by kernel_rfl) (by simp) ?_
        refine AllReadyH.cons (o := _) rfl (fun K hK => ?_) AllReadyH.nil
        go_simp
        go_at_call 21
        with_reducible refine (clash_any ⟨k, u, f, q, s, m, n, t⟩ ⟨k', u, f', q', s', m', n', t'⟩ _ (PartsIs.drew A9.out.parts) Y.out.1.1 Y.out.1.2 Y.out.2.1 Y.out.2.2).mono ?_
        rw [X1.out]
        rintro e w90 ⟨rfl, hb90⟩
        have A90 := hid (Boxed.on (Boxed.drew A9.out) hb90)
        have B90 := hid (Boxed.on (Boxed.drew B9.out) hb90)
        refine hK.out _ _ (by exact ⟨(cells8 A90.out.1).1, (cells8 B90.out.1).1⟩) (fun hHeld => ?_)
        clear hK K
        try simp only [Act.put, List.getElem_toArray, List.getElem_cons_zero, List.getElem_cons_succ, List.setIfInBounds_toArray, List.set_cons_zero, List.set_cons_succ]
        refine wpAnyH_take (i := 10) (oi := _) (v := ?_) rfl (by kernel_rfl) (by kernel_rfl) (by kernel_rfl) (fun _ _ _ h => h) (Or.inl ⟨by kernel_rfl, ?_⟩) hHeld ?_
        rotate_left 1
        focus (intro w' hSw; (try dsimp only at hSw); go_simp; try with_reducible rfl)
        try simp only [Act.put, List.getElem_toArray, List.getElem_cons_zero, List.getElem_cons_succ, List.setIfInBounds_toArray, List.set_cons_zero, List.set_cons_succ]
        refine wpAnyH_take (i := 11) (oi := _) (v := undef) rfl (by kernel_rfl) (by kernel_rfl) (by kernel_rfl) (fun _ _ _ h => h) (Or.inr ⟨by kernel_rfl, rfl⟩) hHeld ?_
        try simp only [Act.put, List.getElem_toArray, List.getElem_cons_zero, List.getElem_cons_succ, List.setIfInBounds_toArray, List.set_cons_zero, List.set_cons_succ]
        refine wpAnyH_take (i := 12) (oi := _) (v := undef) rfl (by kernel_rfl) (by kernel_rfl) (by kernel_rfl) (fun _ _ _ h => h) (Or.inr ⟨by kernel_rfl, rfl⟩) hHeld ?_
        try simp only [Act.put, List.getElem_toArray, List.getElem_cons_zero, List.getElem_cons_succ, List.setIfInBounds_toArray, List.set_cons_zero, List.set_cons_succ]
        refine wpAnyH_take (i := 13) (oi := _) (v := undef) rfl (by kernel_rfl) (by kernel_rfl) (by kernel_rfl) (fun _ _ _ h => h) (Or.inr ⟨by kernel_rfl, rfl⟩) hHeld ?_
        try simp only [Act.put, List.getElem_toArray, List.getElem_cons_zero, List.getElem_cons_succ, List.setIfInBounds_toArray, List.set_cons_zero, List.set_cons_succ]
        refine wpAnyH_take (i := 14) (oi := _) (v := undef) rfl (by kernel_rfl) (by kernel_rfl) (by kernel_rfl) (fun _ _ _ h => h) (Or.inr ⟨by kernel_rfl, rfl⟩) hHeld ?_
        try simp only [Act.put, List.getElem_toArray, List.getElem_cons_zero, List.getElem_cons_succ, List.setIfInBounds_toArray, List.set_cons_zero, List.set_cons_succ]
        refine wpAnyH_take (i := 15) (oi := _) (v := undef) rfl (by kernel_rfl) (by kernel_rfl) (by kernel_rfl) (fun _ _ _ h => h) (Or.inr ⟨by kernel_rfl, rfl⟩) hHeld ?_
        try simp only [Act.put, List.getElem_toArray, List.getElem_cons_zero, List.getElem_cons_succ, List.setIfInBounds_toArray, List.set_cons_zero, List.set_cons_succ]
        refine wpAnyH_take (i := 16) (oi := _) (v := undef) rfl (by kernel_rfl) (by kernel_rfl) (by kernel_rfl) (fun _ _ _ h => h) (Or.inr ⟨by kernel_rfl, rfl⟩) hHeld ?_
        try simp only [Act.put, List.getElem_toArray, List.getElem_cons_zero, List.getElem_cons_succ, List.setIfInBounds_toArray, List.set_cons_zero, List.set_cons_succ]
        refine wpAnyH_take (i := 17) (oi := _) (v := ?_) rfl (by kernel_rfl) (by kernel_rfl) (by kernel_rfl) (fun _ _ _ h => h) (Or.inl ⟨by kernel_rfl, ?_⟩) hHeld ?_
        rotate_left 1
        focus (intro w' hSw; (try dsimp only at hSw); go_simp; try with_reducible rfl)
        try simp only [Act.put, List.getElem_toArray, List.getElem_cons_zero, List.getElem_cons_succ, List.setIfInBounds_toArray, List.set_cons_zero, List.set_cons_succ]
        refine wpAnyH_take (i := 18) (oi := _) (v := ?_) rfl (by kernel_rfl) (by kernel_rfl) (by kernel_rfl) (fun _ _ _ h => h) (Or.inl ⟨by kernel_rfl, ?_⟩) hHeld ?_
        rotate_left 1
        focus (intro w' hSw; (try dsimp only at hSw); go_simp; try with_reducible rfl)
        try simp only [Act.put, List.getElem_toArray, List.getElem_cons_zero, List.getElem_cons_succ, List.setIfInBounds_toArray, List.set_cons_zero, List.set_cons_succ]
        refine wpAnyH_take (i := 19) (oi := _) (v := ?_) rfl (by kernel_rfl) (by kernel_rfl) (by kernel_rfl) (fun _ _ _ h => h) (Or.inl ⟨by kernel_rfl, ?_⟩) hHeld ?_
        rotate_left 1
        focus (intro w' hSw; (try dsimp only at hSw); go_simp; try with_reducible rfl)
        try simp only [Act.put, List.getElem_toArray, List.getElem_cons_zero, List.getElem_cons_succ, List.setIfInBounds_toArray, List.set_cons_zero, List.set_cons_succ]
        refine wpAnyH_done (by kernel_rfl) ?_ _
        clear hHeld
        go_wp2
        go_ret
        exact ⟨rfl, A90.out.below⟩
    go_wp2_with fail
    with_reducible refine (refoverlap_any r f' _ HRZ.out Z.out.2.1).mono ?_
    rw [O3.out]
    rintro e w10 ⟨rfl, hb⟩
    have A10 := hid (A9.out.on hb)
    have B10 := hid (B9.out.on hb)
    clear hb A9 B9
    clear c0 c1 c2 c3 c4 c5 c6 c7 f0 f1 f2 f3 f4 f5 f6 f7
    clear e0 e1 e2 e3 e4 e5 e6 e7 g0 g1 g2 g3 g4 g5 g6 g7
    obtain ⟨⟨c0, c1, c2, c3, c4, c5, c6, c7⟩, f0, f1, f2, f3, f4, f5, f6, f7⟩ := cells8 A10.out.1
    obtain ⟨⟨e0, e1, e2, e3, e4, e5, e6, e7⟩, g0, g1, g2, g3, g4, g5, g6, g7⟩ := cells8 B10.out.1
    cases x3
    · have hck := HCK.out
      cases e
      · simp only [Bool.false_or] at hck
        subst hck
        have hee : (u == u') = false := HE.out
        have hxx : (x == x) = true := by simp
        go_wp2_with fail
        have DA := hid A10.out.drew
        have DB := hid B10.out.drew
        go_region_held3 (fun w' => (w'.cell? ⟨w.heap.size, 0, none⟩ = some (.int .i64 k) ∧ w'.cell? ⟨w.heap.size, 1, none⟩ = some (.int .u64 u) ∧ w'.cell? ⟨w.heap.size, 2, none⟩ = some (.string f) ∧ w'.cell? ⟨w.heap.size, 3, none⟩ = some (.int .u64 q) ∧ w'.cell? ⟨w.heap.size, 4, none⟩ = some (.string s) ∧ w'.cell? ⟨w.heap.size, 5, none⟩ = some (.int .i64 m) ∧ w'.cell? ⟨w.heap.size, 6, none⟩ = some (.int .u64 n) ∧ w'.cell? ⟨w.heap.size, 7, none⟩ = some (.int .i64 t)) ∧ (w'.cell? ⟨w.heap.size + 1, 0, none⟩ = some (.int .i64 k') ∧ w'.cell? ⟨w.heap.size + 1, 1, none⟩ = some (.int .u64 u') ∧ w'.cell? ⟨w.heap.size + 1, 2, none⟩ = some (.string f') ∧ w'.cell? ⟨w.heap.size + 1, 3, none⟩ = some (.int .u64 q') ∧ w'.cell? ⟨w.heap.size + 1, 4, none⟩ = some (.string s') ∧ w'.cell? ⟨w.heap.size + 1, 5, none⟩ = some (.int .i64 m') ∧ w'.cell? ⟨w.heap.size + 1, 6, none⟩ = some (.int .u64 n') ∧ w'.cell? ⟨w.heap.size + 1, 7, none⟩ = some (.int .i64 t')))
          (first | exact ⟨(cells8 A10.out.1).1, (cells8 B10.out.1).1⟩ | exact ⟨(cells8 DA.out.1).1, (cells8 DB.out.1).1⟩ | exact ⟨(cells8 A90.out.1).1, (cells8 B90.out.1).1⟩ | exact ⟨(cells8 A91.out.1).1, (cells8 B91.out.1).1⟩)
          (first
            | (go_at_call 21; (with_reducible refine (clash_any ⟨k, u, f, q, s, m, n, t⟩ ⟨k', u', f', q', s', m', n', t'⟩ _ DA.out.parts Y.out.1.1 Y.out.1.2 Y.out.2.1 Y.out.2.2).mono ?_); rw [X1.out]; rintro e w90 ⟨rfl, hb90⟩; have A90 := hid (Boxed.on DA.out hb90); have B90 := hid (Boxed.on DB.out hb90))
            | (go_at_call 24; (with_reducible refine (refoverlap_any s f' _ Z.out.1.2 Z.out.2.1).mono ?_); rw [Z1.out]; rintro e w91 ⟨rfl, hb91⟩; have A91 := hid (Boxed.on A90.out hb91); have B91 := hid (Boxed.on B90.out hb91)))
        rename_i hHeld
        clear hHeld
        go_wp2
        go_ret
        exact ⟨rfl, A91.out.below⟩
      · simp only [Bool.true_or] at hck
        subst hck
        obtain rfl : u = u' := by simpa using HE.out
        go_wp2_with fail
        refine wp_region_held_drew (S := (fun w' => (w'.cell? ⟨w.heap.size, 0, none⟩ = some (.int .i64 k) ∧ w'.cell? ⟨w.heap.size, 1, none⟩ = some (.int .u64 u) ∧ w'.cell? ⟨w.heap.size, 2, none⟩ = some (.string f) ∧ w'.cell? ⟨w.heap.size, 3, none⟩ = some (.int .u64 q) ∧ w'.cell? ⟨w.heap.size, 4, none⟩ = some (.string s) ∧ w'.cell? ⟨w.heap.size, 5, none⟩ = some (.int .i64 m) ∧ w'.cell? ⟨w.heap.size, 6, none⟩ = some (.int .u64 n) ∧ w'.cell? ⟨w.heap.size, 7, none⟩ = some (.int .i64 t)) ∧ (w'.cell? ⟨w.heap.size + 1, 0, none⟩ = some (.int .i64 k') ∧ w'.cell? ⟨w.heap.size + 1, 1, none⟩ = some (.int .u64 u) ∧ w'.cell? ⟨w.heap.size + 1, 2, none⟩ = some (.string f') ∧ w'.cell? ⟨w.heap.size + 1, 3, none⟩ = some (.int .u64 q') ∧ w'.cell? ⟨w.heap.size + 1, 4, none⟩ = some (.string s') ∧ w'.cell? ⟨w.heap.size + 1, 5, none⟩ = some (.int .i64 m') ∧ w'.cell? ⟨w.heap.size + 1, 6, none⟩ = some (.int .u64 n') ∧ w'.cell? ⟨w.heap.size + 1, 7, none⟩ = some (.int .i64 t')))) (by kernel_rfl) (by exact ⟨(cells8 A10.out.1).1, (cells8 B10.out.1).1⟩) (fun hHeld => ?_)
        refine wpAnyH_take (i := 0) (oi := _) (v := ?_) rfl (by kernel_rfl) (by kernel_rfl) (by kernel_rfl) (fun _ _ _ h => h) (Or.inl ⟨by kernel_rfl, ?_⟩) hHeld ?_
        rotate_left 1
        focus (intro w' hSw; (try dsimp only at hSw); go_simp; try with_reducible rfl)
        try simp only [Act.put, List.getElem_toArray, List.getElem_cons_zero, List.getElem_cons_succ, List.setIfInBounds_toArray, List.set_cons_zero, List.set_cons_succ]
        refine wpAnyH_take (i := 1) (oi := _) (v := ?_) rfl (by kernel_rfl) (by kernel_rfl) (by kernel_rfl) (fun _ _ _ h => h) (Or.inl ⟨by kernel_rfl, ?_⟩) hHeld ?_
        rotate_left 1
        focus (intro w' hSw; (try dsimp only at hSw); go_simp; try with_reducible rfl)
        try simp only [Act.put, List.getElem_toArray, List.getElem_cons_zero, List.getElem_cons_succ, List.setIfInBounds_toArray, List.set_cons_zero, List.set_cons_succ]
        refine wpAnyH_take (i := 3) (oi := _) (v := ?_) rfl (by kernel_rfl) (by kernel_rfl) (by kernel_rfl) (fun _ _ _ h => h) (Or.inl ⟨by kernel_rfl, ?_⟩) hHeld ?_
        rotate_left 1
        focus (intro w' hSw; (try dsimp only at hSw); go_simp; try with_reducible rfl)
        try simp only [Act.put, List.getElem_toArray, List.getElem_cons_zero, List.getElem_cons_succ, List.setIfInBounds_toArray, List.set_cons_zero, List.set_cons_succ]
        refine wpAnyH_take (i := 4) (oi := _) (v := ?_) rfl (by kernel_rfl) (by kernel_rfl) (by kernel_rfl) (fun _ _ _ h => h) (Or.inl ⟨by kernel_rfl, ?_⟩) hHeld ?_
        rotate_left 1
        focus (intro w' hSw; (try dsimp only at hSw); go_simp; try with_reducible rfl)
        try simp only [Act.put, List.getElem_toArray, List.getElem_cons_zero, List.getElem_cons_succ, List.setIfInBounds_toArray, List.set_cons_zero, List.set_cons_succ]
        refine wpAnyH_take (i := 5) (oi := _) (v := ?_) rfl (by kernel_rfl) (by kernel_rfl) (by kernel_rfl) (fun _ _ _ h => h) (Or.inl ⟨by kernel_rfl, ?_⟩) hHeld ?_
        rotate_left 1
        focus (intro w' hSw; (try dsimp only at hSw); go_simp; try with_reducible rfl)
        try simp only [Act.put, List.getElem_toArray, List.getElem_cons_zero, List.getElem_cons_succ, List.setIfInBounds_toArray, List.set_cons_zero, List.set_cons_succ]
        refine wpAnyH_take (i := 6) (oi := _) (v := ?_) rfl (by kernel_rfl) (by kernel_rfl) (by kernel_rfl) (fun _ _ _ h => h) (Or.inl ⟨by kernel_rfl, ?_⟩) hHeld ?_
        rotate_left 1
        focus (intro w' hSw; (try dsimp only at hSw); go_simp; try with_reducible rfl)
        try simp only [Act.put, List.getElem_toArray, List.getElem_cons_zero, List.getElem_cons_succ, List.setIfInBounds_toArray, List.set_cons_zero, List.set_cons_succ]
        refine wpAnyH_take (i := 7) (oi := _) (v := ?_) rfl (by kernel_rfl) (by kernel_rfl) (by kernel_rfl) (fun _ _ _ h => h) (Or.inl ⟨by kernel_rfl, ?_⟩) hHeld ?_
        rotate_left 1
        focus (intro w' hSw; (try dsimp only at hSw); go_simp; try with_reducible rfl)
        try simp only [Act.put, List.getElem_toArray, List.getElem_cons_zero, List.getElem_cons_succ, List.setIfInBounds_toArray, List.set_cons_zero, List.set_cons_succ]
        refine wpAnyH_take (i := 8) (oi := _) (v := ?_) rfl (by kernel_rfl) (by kernel_rfl) (by kernel_rfl) (fun _ _ _ h => h) (Or.inl ⟨by kernel_rfl, ?_⟩) hHeld ?_
        rotate_left 1
        focus (intro w' hSw; (try dsimp only at hSw); go_simp; try with_reducible rfl)
        try simp only [Act.put, List.getElem_toArray, List.getElem_cons_zero, List.getElem_cons_succ, List.setIfInBounds_toArray, List.set_cons_zero, List.set_cons_succ]
        refine wpAnyH_take (i := 9) (oi := _) (v := ?_) rfl (by kernel_rfl) (by kernel_rfl) (by kernel_rfl) (fun _ _ _ h => h) (Or.inl ⟨by kernel_rfl, ?_⟩) hHeld ?_
        rotate_left 1
        focus (intro w' hSw; (try dsimp only at hSw); go_simp; try with_reducible rfl)
        try simp only [Act.put, List.getElem_toArray, List.getElem_cons_zero, List.getElem_cons_succ, List.setIfInBounds_toArray, List.set_cons_zero, List.set_cons_succ]
        refine wpAnyH_ready (rs := [2]) (by kernel_rfl) (by simp) ?_
        refine AllReadyH.cons (o := _) rfl (fun K hK => ?_) AllReadyH.nil
        go_simp
        go_at_call 21
        with_reducible refine (clash_any ⟨k, u, f, q, s, m, n, t⟩ ⟨k', u, f', q', s', m', n', t'⟩ _ (PartsIs.drew A10.out.parts) Y.out.1.1 Y.out.1.2 Y.out.2.1 Y.out.2.2).mono ?_
        rw [X1.out]
        rintro e w90 ⟨rfl, hb90⟩
        have A90 := hid (Boxed.on (Boxed.drew A10.out) hb90)
        have B90 := hid (Boxed.on (Boxed.drew B10.out) hb90)
        refine hK.out _ _ (by exact ⟨(cells8 A90.out.1).1, (cells8 B90.out.1).1⟩) (fun hHeld => ?_)
        clear hK K
        try simp only [Act.put, List.getElem_toArray, List.getElem_cons_zero, List.getElem_cons_succ, List.setIfInBounds_toArray, List.set_cons_zero, List.set_cons_succ]
        refine wpAnyH_take (i := 10) (oi := _) (v := ?_) rfl (by kernel_rfl) (by kernel_rfl) (by kernel_rfl) (fun _ _ _ h => h) (Or.inl ⟨by kernel_rfl, ?_⟩) hHeld ?_
        rotate_left 1
        focus (intro w' hSw; (try dsimp only at hSw); go_simp; try with_reducible rfl)
        try simp only [Act.put, List.getElem_toArray, List.getElem_cons_zero, List.getElem_cons_succ, List.setIfInBounds_toArray, List.set_cons_zero, List.set_cons_succ]
        refine wpAnyH_take (i := 11) (oi := _) (v := undef) rfl (by kernel_rfl) (by kernel_rfl) (by kernel_rfl) (fun _ _ _ h => h) (Or.inr ⟨by kernel_rfl, rfl⟩) hHeld ?_
        try simp only [Act.put, List.getElem_toArray, List.getElem_cons_zero, List.getElem_cons_succ, List.setIfInBounds_toArray, List.set_cons_zero, List.set_cons_succ]
        refine wpAnyH_take (i := 12) (oi := _) (v := undef) rfl (by kernel_rfl) (by kernel_rfl) (by kernel_rfl) (fun _ _ _ h => h) (Or.inr ⟨by kernel_rfl, rfl⟩) hHeld ?_
        try simp only [Act.put, List.getElem_toArray, List.getElem_cons_zero, List.getElem_cons_succ, List.setIfInBounds_toArray, List.set_cons_zero, List.set_cons_succ]
        refine wpAnyH_take (i := 13) (oi := _) (v := undef) rfl (by kernel_rfl) (by kernel_rfl) (by kernel_rfl) (fun _ _ _ h => h) (Or.inr ⟨by kernel_rfl, rfl⟩) hHeld ?_
        try simp only [Act.put, List.getElem_toArray, List.getElem_cons_zero, List.getElem_cons_succ, List.setIfInBounds_toArray, List.set_cons_zero, List.set_cons_succ]
        refine wpAnyH_take (i := 14) (oi := _) (v := undef) rfl (by kernel_rfl) (by kernel_rfl) (by kernel_rfl) (fun _ _ _ h => h) (Or.inr ⟨by kernel_rfl, rfl⟩) hHeld ?_
        try simp only [Act.put, List.getElem_toArray, List.getElem_cons_zero, List.getElem_cons_succ, List.setIfInBounds_toArray, List.set_cons_zero, List.set_cons_succ]
        refine wpAnyH_take (i := 15) (oi := _) (v := undef) rfl (by kernel_rfl) (by kernel_rfl) (by kernel_rfl) (fun _ _ _ h => h) (Or.inr ⟨by kernel_rfl, rfl⟩) hHeld ?_
        try simp only [Act.put, List.getElem_toArray, List.getElem_cons_zero, List.getElem_cons_succ, List.setIfInBounds_toArray, List.set_cons_zero, List.set_cons_succ]
        refine wpAnyH_take (i := 16) (oi := _) (v := undef) rfl (by kernel_rfl) (by kernel_rfl) (by kernel_rfl) (fun _ _ _ h => h) (Or.inr ⟨by kernel_rfl, rfl⟩) hHeld ?_
        try simp only [Act.put, List.getElem_toArray, List.getElem_cons_zero, List.getElem_cons_succ, List.setIfInBounds_toArray, List.set_cons_zero, List.set_cons_succ]
        refine wpAnyH_take (i := 17) (oi := _) (v := ?_) rfl (by kernel_rfl) (by kernel_rfl) (by kernel_rfl) (fun _ _ _ h => h) (Or.inl ⟨by kernel_rfl, ?_⟩) hHeld ?_
        rotate_left 1
        focus (intro w' hSw; (try dsimp only at hSw); go_simp; try with_reducible rfl)
        try simp only [Act.put, List.getElem_toArray, List.getElem_cons_zero, List.getElem_cons_succ, List.setIfInBounds_toArray, List.set_cons_zero, List.set_cons_succ]
        refine wpAnyH_take (i := 18) (oi := _) (v := ?_) rfl (by kernel_rfl) (by kernel_rfl) (by kernel_rfl) (fun _ _ _ h => h) (Or.inl ⟨by kernel_rfl, ?_⟩) hHeld ?_
        rotate_left 1
        focus (intro w' hSw; (try dsimp only at hSw); go_simp; try with_reducible rfl)
        try simp only [Act.put, List.getElem_toArray, List.getElem_cons_zero, List.getElem_cons_succ, List.setIfInBounds_toArray, List.set_cons_zero, List.set_cons_succ]
        refine wpAnyH_take (i := 19) (oi := _) (v := ?_) rfl (by kernel_rfl) (by kernel_rfl) (by kernel_rfl) (fun _ _ _ h => h) (Or.inl ⟨by kernel_rfl, ?_⟩) hHeld ?_
        rotate_left 1
        focus (intro w' hSw; (try dsimp only at hSw); go_simp; try with_reducible rfl)
        try simp only [Act.put, List.getElem_toArray, List.getElem_cons_zero, List.getElem_cons_succ, List.setIfInBounds_toArray, List.set_cons_zero, List.set_cons_succ]
        refine wpAnyH_done (by kernel_rfl) ?_ _
        clear hHeld
        go_wp2
        go_ret
        exact ⟨rfl, A90.out.below⟩
    go_wp2_with fail
    with_reducible refine (refabove_any f' r _ Z.out.2.1 HRZ.out).mono ?_
    rw [O4.out]
    rintro e w11 ⟨rfl, hb⟩
    have A11 := hid (A10.out.on hb)
    have B11 := hid (B10.out.on hb)
    clear hb A10 B10
    clear c0 c1 c2 c3 c4 c5 c6 c7 f0 f1 f2 f3 f4 f5 f6 f7
    clear e0 e1 e2 e3 e4 e5 e6 e7 g0 g1 g2 g3 g4 g5 g6 g7
    obtain ⟨⟨c0, c1, c2, c3, c4, c5, c6, c7⟩, f0, f1, f2, f3, f4, f5, f6, f7⟩ := cells8 A11.out.1
    obtain ⟨⟨e0, e1, e2, e3, e4, e5, e6, e7⟩, g0, g1, g2, g3, g4, g5, g6, g7⟩ := cells8 B11.out.1
    cases x4
    · have hck := HCK.out
      cases e
      · simp only [Bool.false_or] at hck
        subst hck
        have hee : (u == u') = false := HE.out
        have hxx : (x == x) = true := by simp
        go_wp2_with fail
        have DA := hid A11.out.drew
        have DB := hid B11.out.drew
        go_region_held3 (fun w' => (w'.cell? ⟨w.heap.size, 0, none⟩ = some (.int .i64 k) ∧ w'.cell? ⟨w.heap.size, 1, none⟩ = some (.int .u64 u) ∧ w'.cell? ⟨w.heap.size, 2, none⟩ = some (.string f) ∧ w'.cell? ⟨w.heap.size, 3, none⟩ = some (.int .u64 q) ∧ w'.cell? ⟨w.heap.size, 4, none⟩ = some (.string s) ∧ w'.cell? ⟨w.heap.size, 5, none⟩ = some (.int .i64 m) ∧ w'.cell? ⟨w.heap.size, 6, none⟩ = some (.int .u64 n) ∧ w'.cell? ⟨w.heap.size, 7, none⟩ = some (.int .i64 t)) ∧ (w'.cell? ⟨w.heap.size + 1, 0, none⟩ = some (.int .i64 k') ∧ w'.cell? ⟨w.heap.size + 1, 1, none⟩ = some (.int .u64 u') ∧ w'.cell? ⟨w.heap.size + 1, 2, none⟩ = some (.string f') ∧ w'.cell? ⟨w.heap.size + 1, 3, none⟩ = some (.int .u64 q') ∧ w'.cell? ⟨w.heap.size + 1, 4, none⟩ = some (.string s') ∧ w'.cell? ⟨w.heap.size + 1, 5, none⟩ = some (.int .i64 m') ∧ w'.cell? ⟨w.heap.size + 1, 6, none⟩ = some (.int .u64 n') ∧ w'.cell? ⟨w.heap.size + 1, 7, none⟩ = some (.int .i64 t')))
          (first | exact ⟨(cells8 A11.out.1).1, (cells8 B11.out.1).1⟩ | exact ⟨(cells8 DA.out.1).1, (cells8 DB.out.1).1⟩ | exact ⟨(cells8 A90.out.1).1, (cells8 B90.out.1).1⟩ | exact ⟨(cells8 A91.out.1).1, (cells8 B91.out.1).1⟩)
          (first
            | (go_at_call 21; (with_reducible refine (clash_any ⟨k, u, f, q, s, m, n, t⟩ ⟨k', u', f', q', s', m', n', t'⟩ _ DA.out.parts Y.out.1.1 Y.out.1.2 Y.out.2.1 Y.out.2.2).mono ?_); rw [X1.out]; rintro e w90 ⟨rfl, hb90⟩; have A90 := hid (Boxed.on DA.out hb90); have B90 := hid (Boxed.on DB.out hb90))
            | (go_at_call 24; (with_reducible refine (refoverlap_any s f' _ Z.out.1.2 Z.out.2.1).mono ?_); rw [Z1.out]; rintro e w91 ⟨rfl, hb91⟩; have A91 := hid (Boxed.on A90.out hb91); have B91 := hid (Boxed.on B90.out hb91)))
        rename_i hHeld
        clear hHeld
        go_wp2
        go_ret
        exact ⟨rfl, A91.out.below⟩
      · simp only [Bool.true_or] at hck
        subst hck
        obtain rfl : u = u' := by simpa using HE.out
        go_wp2_with fail
        refine wp_region_held_drew (S := (fun w' => (w'.cell? ⟨w.heap.size, 0, none⟩ = some (.int .i64 k) ∧ w'.cell? ⟨w.heap.size, 1, none⟩ = some (.int .u64 u) ∧ w'.cell? ⟨w.heap.size, 2, none⟩ = some (.string f) ∧ w'.cell? ⟨w.heap.size, 3, none⟩ = some (.int .u64 q) ∧ w'.cell? ⟨w.heap.size, 4, none⟩ = some (.string s) ∧ w'.cell? ⟨w.heap.size, 5, none⟩ = some (.int .i64 m) ∧ w'.cell? ⟨w.heap.size, 6, none⟩ = some (.int .u64 n) ∧ w'.cell? ⟨w.heap.size, 7, none⟩ = some (.int .i64 t)) ∧ (w'.cell? ⟨w.heap.size + 1, 0, none⟩ = some (.int .i64 k') ∧ w'.cell? ⟨w.heap.size + 1, 1, none⟩ = some (.int .u64 u) ∧ w'.cell? ⟨w.heap.size + 1, 2, none⟩ = some (.string f') ∧ w'.cell? ⟨w.heap.size + 1, 3, none⟩ = some (.int .u64 q') ∧ w'.cell? ⟨w.heap.size + 1, 4, none⟩ = some (.string s') ∧ w'.cell? ⟨w.heap.size + 1, 5, none⟩ = some (.int .i64 m') ∧ w'.cell? ⟨w.heap.size + 1, 6, none⟩ = some (.int .u64 n') ∧ w'.cell? ⟨w.heap.size + 1, 7, none⟩ = some (.int .i64 t')))) (by kernel_rfl) (by exact ⟨(cells8 A11.out.1).1, (cells8 B11.out.1).1⟩) (fun hHeld => ?_)
        refine wpAnyH_take (i := 0) (oi := _) (v := ?_) rfl (by kernel_rfl) (by kernel_rfl) (by kernel_rfl) (fun _ _ _ h => h) (Or.inl ⟨by kernel_rfl, ?_⟩) hHeld ?_
        rotate_left 1
        focus (intro w' hSw; (try dsimp only at hSw); go_simp; try with_reducible rfl)
        try simp only [Act.put, List.getElem_toArray, List.getElem_cons_zero, List.getElem_cons_succ, List.setIfInBounds_toArray, List.set_cons_zero, List.set_cons_succ]
        refine wpAnyH_take (i := 1) (oi := _) (v := ?_) rfl (by kernel_rfl) (by kernel_rfl) (by kernel_rfl) (fun _ _ _ h => h) (Or.inl ⟨by kernel_rfl, ?_⟩) hHeld ?_
        rotate_left 1
        focus (intro w' hSw; (try dsimp only at hSw); go_simp; try with_reducible rfl)
        try simp only [Act.put, List.getElem_toArray, List.getElem_cons_zero, List.getElem_cons_succ, List.setIfInBounds_toArray, List.set_cons_zero, List.set_cons_succ]
        refine wpAnyH_take (i := 3) (oi := _) (v := ?_) rfl (by kernel_rfl) (by kernel_rfl) (by kernel_rfl) (fun _ _ _ h => h) (Or.inl ⟨by kernel_rfl, ?_⟩) hHeld ?_
        rotate_left 1
        focus (intro w' hSw; (try dsimp only at hSw); go_simp; try with_reducible rfl)
        try simp only [Act.put, List.getElem_toArray, List.getElem_cons_zero, List.getElem_cons_succ, List.setIfInBounds_toArray, List.set_cons_zero, List.set_cons_succ]
        refine wpAnyH_take (i := 4) (oi := _) (v := ?_) rfl (by kernel_rfl) (by kernel_rfl) (by kernel_rfl) (fun _ _ _ h => h) (Or.inl ⟨by kernel_rfl, ?_⟩) hHeld ?_
        rotate_left 1
        focus (intro w' hSw; (try dsimp only at hSw); go_simp; try with_reducible rfl)
        try simp only [Act.put, List.getElem_toArray, List.getElem_cons_zero, List.getElem_cons_succ, List.setIfInBounds_toArray, List.set_cons_zero, List.set_cons_succ]
        refine wpAnyH_take (i := 5) (oi := _) (v := ?_) rfl (by kernel_rfl) (by kernel_rfl) (by kernel_rfl) (fun _ _ _ h => h) (Or.inl ⟨by kernel_rfl, ?_⟩) hHeld ?_
        rotate_left 1
        focus (intro w' hSw; (try dsimp only at hSw); go_simp; try with_reducible rfl)
        try simp only [Act.put, List.getElem_toArray, List.getElem_cons_zero, List.getElem_cons_succ, List.setIfInBounds_toArray, List.set_cons_zero, List.set_cons_succ]
        refine wpAnyH_take (i := 6) (oi := _) (v := ?_) rfl (by kernel_rfl) (by kernel_rfl) (by kernel_rfl) (fun _ _ _ h => h) (Or.inl ⟨by kernel_rfl, ?_⟩) hHeld ?_
        rotate_left 1
        focus (intro w' hSw; (try dsimp only at hSw); go_simp; try with_reducible rfl)
        try simp only [Act.put, List.getElem_toArray, List.getElem_cons_zero, List.getElem_cons_succ, List.setIfInBounds_toArray, List.set_cons_zero, List.set_cons_succ]
        refine wpAnyH_take (i := 7) (oi := _) (v := ?_) rfl (by kernel_rfl) (by kernel_rfl) (by kernel_rfl) (fun _ _ _ h => h) (Or.inl ⟨by kernel_rfl, ?_⟩) hHeld ?_
        rotate_left 1
        focus (intro w' hSw; (try dsimp only at hSw); go_simp; try with_reducible rfl)
        try simp only [Act.put, List.getElem_toArray, List.getElem_cons_zero, List.getElem_cons_succ, List.setIfInBounds_toArray, List.set_cons_zero, List.set_cons_succ]
        refine wpAnyH_take (i := 8) (oi := _) (v := ?_) rfl (by kernel_rfl) (by kernel_rfl) (by kernel_rfl) (fun _ _ _ h => h) (Or.inl ⟨by kernel_rfl, ?_⟩) hHeld ?_
        rotate_left 1
        focus (intro w' hSw; (try dsimp only at hSw); go_simp; try with_reducible rfl)
        try simp only [Act.put, List.getElem_toArray, List.getElem_cons_zero, List.getElem_cons_succ, List.setIfInBounds_toArray, List.set_cons_zero, List.set_cons_succ]
        refine wpAnyH_take (i := 9) (oi := _) (v := ?_) rfl (by kernel_rfl) (by kernel_rfl) (by kernel_rfl) (fun _ _ _ h => h) (Or.inl ⟨by kernel_rfl, ?_⟩) hHeld ?_
        rotate_left 1
        focus (intro w' hSw; (try dsimp only at hSw); go_simp; try with_reducible rfl)
        try simp only [Act.put, List.getElem_toArray, List.getElem_cons_zero, List.getElem_cons_succ, List.setIfInBounds_toArray, List.set_cons_zero, List.set_cons_succ]
        refine wpAnyH_ready (rs := [2]) (by kernel_rfl) (by simp) ?_
        refine AllReadyH.cons (o := _) rfl (fun K hK => ?_) AllReadyH.nil
        go_simp
        go_at_call 21
        with_reducible refine (clash_any ⟨k, u, f, q, s, m, n, t⟩ ⟨k', u, f', q', s', m', n', t'⟩ _ (PartsIs.drew A11.out.parts) Y.out.1.1 Y.out.1.2 Y.out.2.1 Y.out.2.2).mono ?_
        rw [X1.out]
        rintro e w90 ⟨rfl, hb90⟩
        have A90 := hid (Boxed.on (Boxed.drew A11.out) hb90)
        have B90 := hid (Boxed.on (Boxed.drew B11.out) hb90)
        refine hK.out _ _ (by exact ⟨(cells8 A90.out.1).1, (cells8 B90.out.1).1⟩) (fun hHeld => ?_)
        clear hK K
        try simp only [Act.put, List.getElem_toArray, List.getElem_cons_zero, List.getElem_cons_succ, List.setIfInBounds_toArray, List.set_cons_zero, List.set_cons_succ]
        refine wpAnyH_take (i := 10) (oi := _) (v := ?_) rfl (by kernel_rfl) (by kernel_rfl) (by kernel_rfl) (fun _ _ _ h => h) (Or.inl ⟨by kernel_rfl, ?_⟩) hHeld ?_
        rotate_left 1
        focus (intro w' hSw; (try dsimp only at hSw); go_simp; try with_reducible rfl)
        try simp only [Act.put, List.getElem_toArray, List.getElem_cons_zero, List.getElem_cons_succ, List.setIfInBounds_toArray, List.set_cons_zero, List.set_cons_succ]
        refine wpAnyH_take (i := 11) (oi := _) (v := undef) rfl (by kernel_rfl) (by kernel_rfl) (by kernel_rfl) (fun _ _ _ h => h) (Or.inr ⟨by kernel_rfl, rfl⟩) hHeld ?_
        try simp only [Act.put, List.getElem_toArray, List.getElem_cons_zero, List.getElem_cons_succ, List.setIfInBounds_toArray, List.set_cons_zero, List.set_cons_succ]
        refine wpAnyH_take (i := 12) (oi := _) (v := undef) rfl (by kernel_rfl) (by kernel_rfl) (by kernel_rfl) (fun _ _ _ h => h) (Or.inr ⟨by kernel_rfl, rfl⟩) hHeld ?_
        try simp only [Act.put, List.getElem_toArray, List.getElem_cons_zero, List.getElem_cons_succ, List.setIfInBounds_toArray, List.set_cons_zero, List.set_cons_succ]
        refine wpAnyH_take (i := 13) (oi := _) (v := undef) rfl (by kernel_rfl) (by kernel_rfl) (by kernel_rfl) (fun _ _ _ h => h) (Or.inr ⟨by kernel_rfl, rfl⟩) hHeld ?_
        try simp only [Act.put, List.getElem_toArray, List.getElem_cons_zero, List.getElem_cons_succ, List.setIfInBounds_toArray, List.set_cons_zero, List.set_cons_succ]
        refine wpAnyH_take (i := 14) (oi := _) (v := undef) rfl (by kernel_rfl) (by kernel_rfl) (by kernel_rfl) (fun _ _ _ h => h) (Or.inr ⟨by kernel_rfl, rfl⟩) hHeld ?_
        try simp only [Act.put, List.getElem_toArray, List.getElem_cons_zero, List.getElem_cons_succ, List.setIfInBounds_toArray, List.set_cons_zero, List.set_cons_succ]
        refine wpAnyH_take (i := 15) (oi := _) (v := undef) rfl (by kernel_rfl) (by kernel_rfl) (by kernel_rfl) (fun _ _ _ h => h) (Or.inr ⟨by kernel_rfl, rfl⟩) hHeld ?_
        try simp only [Act.put, List.getElem_toArray, List.getElem_cons_zero, List.getElem_cons_succ, List.setIfInBounds_toArray, List.set_cons_zero, List.set_cons_succ]
        refine wpAnyH_take (i := 16) (oi := _) (v := undef) rfl (by kernel_rfl) (by kernel_rfl) (by kernel_rfl) (fun _ _ _ h => h) (Or.inr ⟨by kernel_rfl, rfl⟩) hHeld ?_
        try simp only [Act.put, List.getElem_toArray, List.getElem_cons_zero, List.getElem_cons_succ, List.setIfInBounds_toArray, List.set_cons_zero, List.set_cons_succ]
        refine wpAnyH_take (i := 17) (oi := _) (v := ?_) rfl (by kernel_rfl) (by kernel_rfl) (by kernel_rfl) (fun _ _ _ h => h) (Or.inl ⟨by kernel_rfl, ?_⟩) hHeld ?_
        rotate_left 1
        focus (intro w' hSw; (try dsimp only at hSw); go_simp; try with_reducible rfl)
        try simp only [Act.put, List.getElem_toArray, List.getElem_cons_zero, List.getElem_cons_succ, List.setIfInBounds_toArray, List.set_cons_zero, List.set_cons_succ]
        refine wpAnyH_take (i := 18) (oi := _) (v := ?_) rfl (by kernel_rfl) (by kernel_rfl) (by kernel_rfl) (fun _ _ _ h => h) (Or.inl ⟨by kernel_rfl, ?_⟩) hHeld ?_
        rotate_left 1
        focus (intro w' hSw; (try dsimp only at hSw); go_simp; try with_reducible rfl)
        try simp only [Act.put, List.getElem_toArray, List.getElem_cons_zero, List.getElem_cons_succ, List.setIfInBounds_toArray, List.set_cons_zero, List.set_cons_succ]
        refine wpAnyH_take (i := 19) (oi := _) (v := ?_) rfl (by kernel_rfl) (by kernel_rfl) (by kernel_rfl) (fun _ _ _ h => h) (Or.inl ⟨by kernel_rfl, ?_⟩) hHeld ?_
        rotate_left 1
        focus (intro w' hSw; (try dsimp only at hSw); go_simp; try with_reducible rfl)
        try simp only [Act.put, List.getElem_toArray, List.getElem_cons_zero, List.getElem_cons_succ, List.setIfInBounds_toArray, List.set_cons_zero, List.set_cons_succ]
        refine wpAnyH_done (by kernel_rfl) ?_ _
        clear hHeld
        go_wp2
        go_ret
        exact ⟨rfl, A90.out.below⟩
    have hxt := HOV.out (by simp) (by simp)
    go_wp2_with fail
    with_reducible refine (clash_any ⟨k, u, f, q, s, m, n, t⟩ ⟨k', u', f', q', s', m', n', t'⟩ _ A11.out.parts Y.out.1.1 Y.out.1.2 Y.out.2.1 Y.out.2.2).mono ?_
    rw [X1.out]
    rintro e w12 ⟨rfl, hb⟩
    have A12 := hid (A11.out.on hb)
    have B12 := hid (B11.out.on hb)
    clear hb A11 B11
    clear c0 c1 c2 c3 c4 c5 c6 c7 f0 f1 f2 f3 f4 f5 f6 f7
    clear e0 e1 e2 e3 e4 e5 e6 e7 g0 g1 g2 g3 g4 g5 g6 g7
    obtain ⟨⟨c0, c1, c2, c3, c4, c5, c6, c7⟩, f0, f1, f2, f3, f4, f5, f6, f7⟩ := cells8 A12.out.1
    obtain ⟨⟨e0, e1, e2, e3, e4, e5, e6, e7⟩, g0, g1, g2, g3, g4, g5, g6, g7⟩ := cells8 B12.out.1
    rw [hxt]
    have hck := HCK.out
    cases e
    · simp only [Bool.false_or] at hck
      subst hck
      have hee : (u == u') = false := HE.out
      have hxx : (x == x) = true := by simp
      go_wp2_with fail
      have DA := hid A12.out.drew
      have DB := hid B12.out.drew
      go_region_held3 (fun w' => (w'.cell? ⟨w.heap.size, 0, none⟩ = some (.int .i64 k) ∧ w'.cell? ⟨w.heap.size, 1, none⟩ = some (.int .u64 u) ∧ w'.cell? ⟨w.heap.size, 2, none⟩ = some (.string f) ∧ w'.cell? ⟨w.heap.size, 3, none⟩ = some (.int .u64 q) ∧ w'.cell? ⟨w.heap.size, 4, none⟩ = some (.string s) ∧ w'.cell? ⟨w.heap.size, 5, none⟩ = some (.int .i64 m) ∧ w'.cell? ⟨w.heap.size, 6, none⟩ = some (.int .u64 n) ∧ w'.cell? ⟨w.heap.size, 7, none⟩ = some (.int .i64 t)) ∧ (w'.cell? ⟨w.heap.size + 1, 0, none⟩ = some (.int .i64 k') ∧ w'.cell? ⟨w.heap.size + 1, 1, none⟩ = some (.int .u64 u') ∧ w'.cell? ⟨w.heap.size + 1, 2, none⟩ = some (.string f') ∧ w'.cell? ⟨w.heap.size + 1, 3, none⟩ = some (.int .u64 q') ∧ w'.cell? ⟨w.heap.size + 1, 4, none⟩ = some (.string s') ∧ w'.cell? ⟨w.heap.size + 1, 5, none⟩ = some (.int .i64 m') ∧ w'.cell? ⟨w.heap.size + 1, 6, none⟩ = some (.int .u64 n') ∧ w'.cell? ⟨w.heap.size + 1, 7, none⟩ = some (.int .i64 t')))
        (first | exact ⟨(cells8 A12.out.1).1, (cells8 B12.out.1).1⟩ | exact ⟨(cells8 DA.out.1).1, (cells8 DB.out.1).1⟩ | exact ⟨(cells8 A90.out.1).1, (cells8 B90.out.1).1⟩ | exact ⟨(cells8 A91.out.1).1, (cells8 B91.out.1).1⟩)
        (first
          | (go_at_call 21; (with_reducible refine (clash_any ⟨k, u, f, q, s, m, n, t⟩ ⟨k', u', f', q', s', m', n', t'⟩ _ DA.out.parts Y.out.1.1 Y.out.1.2 Y.out.2.1 Y.out.2.2).mono ?_); rw [X1.out]; rintro e w90 ⟨rfl, hb90⟩; have A90 := hid (Boxed.on DA.out hb90); have B90 := hid (Boxed.on DB.out hb90))
          | (go_at_call 24; (with_reducible refine (refoverlap_any s f' _ Z.out.1.2 Z.out.2.1).mono ?_); rw [Z1.out]; rintro e w91 ⟨rfl, hb91⟩; have A91 := hid (Boxed.on A90.out hb91); have B91 := hid (Boxed.on B90.out hb91)))
      rename_i hHeld
      clear hHeld
      go_wp2
      go_ret
      exact ⟨rfl, A91.out.below⟩
    · simp only [Bool.true_or] at hck
      subst hck
      obtain rfl : u = u' := by simpa using HE.out
      go_wp2_with fail
      refine wp_region_held_drew (S := (fun w' => (w'.cell? ⟨w.heap.size, 0, none⟩ = some (.int .i64 k) ∧ w'.cell? ⟨w.heap.size, 1, none⟩ = some (.int .u64 u) ∧ w'.cell? ⟨w.heap.size, 2, none⟩ = some (.string f) ∧ w'.cell? ⟨w.heap.size, 3, none⟩ = some (.int .u64 q) ∧ w'.cell? ⟨w.heap.size, 4, none⟩ = some (.string s) ∧ w'.cell? ⟨w.heap.size, 5, none⟩ = some (.int .i64 m) ∧ w'.cell? ⟨w.heap.size, 6, none⟩ = some (.int .u64 n) ∧ w'.cell? ⟨w.heap.size, 7, none⟩ = some (.int .i64 t)) ∧ (w'.cell? ⟨w.heap.size + 1, 0, none⟩ = some (.int .i64 k') ∧ w'.cell? ⟨w.heap.size + 1, 1, none⟩ = some (.int .u64 u) ∧ w'.cell? ⟨w.heap.size + 1, 2, none⟩ = some (.string f') ∧ w'.cell? ⟨w.heap.size + 1, 3, none⟩ = some (.int .u64 q') ∧ w'.cell? ⟨w.heap.size + 1, 4, none⟩ = some (.string s') ∧ w'.cell? ⟨w.heap.size + 1, 5, none⟩ = some (.int .i64 m') ∧ w'.cell? ⟨w.heap.size + 1, 6, none⟩ = some (.int .u64 n') ∧ w'.cell? ⟨w.heap.size + 1, 7, none⟩ = some (.int .i64 t')))) (by kernel_rfl) (by exact ⟨(cells8 A12.out.1).1, (cells8 B12.out.1).1⟩) (fun hHeld => ?_)
      refine wpAnyH_take (i := 0) (oi := _) (v := ?_) rfl (by kernel_rfl) (by kernel_rfl) (by kernel_rfl) (fun _ _ _ h => h) (Or.inl ⟨by kernel_rfl, ?_⟩) hHeld ?_
      rotate_left 1
      focus (intro w' hSw; (try dsimp only at hSw); go_simp; try with_reducible rfl)
      try simp only [Act.put, List.getElem_toArray, List.getElem_cons_zero, List.getElem_cons_succ, List.setIfInBounds_toArray, List.set_cons_zero, List.set_cons_succ]
      refine wpAnyH_take (i := 1) (oi := _) (v := ?_) rfl (by kernel_rfl) (by kernel_rfl) (by kernel_rfl) (fun _ _ _ h => h) (Or.inl ⟨by kernel_rfl, ?_⟩) hHeld ?_
      rotate_left 1
      focus (intro w' hSw; (try dsimp only at hSw); go_simp; try with_reducible rfl)
      try simp only [Act.put, List.getElem_toArray, List.getElem_cons_zero, List.getElem_cons_succ, List.setIfInBounds_toArray, List.set_cons_zero, List.set_cons_succ]
      refine wpAnyH_take (i := 3) (oi := _) (v := ?_) rfl (by kernel_rfl) (by kernel_rfl) (by kernel_rfl) (fun _ _ _ h => h) (Or.inl ⟨by kernel_rfl, ?_⟩) hHeld ?_
      rotate_left 1
      focus (intro w' hSw; (try dsimp only at hSw); go_simp; try with_reducible rfl)
      try simp only [Act.put, List.getElem_toArray, List.getElem_cons_zero, List.getElem_cons_succ, List.setIfInBounds_toArray, List.set_cons_zero, List.set_cons_succ]
      refine wpAnyH_take (i := 4) (oi := _) (v := ?_) rfl (by kernel_rfl) (by kernel_rfl) (by kernel_rfl) (fun _ _ _ h => h) (Or.inl ⟨by kernel_rfl, ?_⟩) hHeld ?_
      rotate_left 1
      focus (intro w' hSw; (try dsimp only at hSw); go_simp; try with_reducible rfl)
      try simp only [Act.put, List.getElem_toArray, List.getElem_cons_zero, List.getElem_cons_succ, List.setIfInBounds_toArray, List.set_cons_zero, List.set_cons_succ]
      refine wpAnyH_take (i := 5) (oi := _) (v := ?_) rfl (by kernel_rfl) (by kernel_rfl) (by kernel_rfl) (fun _ _ _ h => h) (Or.inl ⟨by kernel_rfl, ?_⟩) hHeld ?_
      rotate_left 1
      focus (intro w' hSw; (try dsimp only at hSw); go_simp; try with_reducible rfl)
      try simp only [Act.put, List.getElem_toArray, List.getElem_cons_zero, List.getElem_cons_succ, List.setIfInBounds_toArray, List.set_cons_zero, List.set_cons_succ]
      refine wpAnyH_take (i := 6) (oi := _) (v := ?_) rfl (by kernel_rfl) (by kernel_rfl) (by kernel_rfl) (fun _ _ _ h => h) (Or.inl ⟨by kernel_rfl, ?_⟩) hHeld ?_
      rotate_left 1
      focus (intro w' hSw; (try dsimp only at hSw); go_simp; try with_reducible rfl)
      try simp only [Act.put, List.getElem_toArray, List.getElem_cons_zero, List.getElem_cons_succ, List.setIfInBounds_toArray, List.set_cons_zero, List.set_cons_succ]
      refine wpAnyH_take (i := 7) (oi := _) (v := ?_) rfl (by kernel_rfl) (by kernel_rfl) (by kernel_rfl) (fun _ _ _ h => h) (Or.inl ⟨by kernel_rfl, ?_⟩) hHeld ?_
      rotate_left 1
      focus (intro w' hSw; (try dsimp only at hSw); go_simp; try with_reducible rfl)
      try simp only [Act.put, List.getElem_toArray, List.getElem_cons_zero, List.getElem_cons_succ, List.setIfInBounds_toArray, List.set_cons_zero, List.set_cons_succ]
      refine wpAnyH_take (i := 8) (oi := _) (v := ?_) rfl (by kernel_rfl) (by kernel_rfl) (by kernel_rfl) (fun _ _ _ h => h) (Or.inl ⟨by kernel_rfl, ?_⟩) hHeld ?_
      rotate_left 1
      focus (intro w' hSw; (try dsimp only at hSw); go_simp; try with_reducible rfl)
      try simp only [Act.put, List.getElem_toArray, List.getElem_cons_zero, List.getElem_cons_succ, List.setIfInBounds_toArray, List.set_cons_zero, List.set_cons_succ]
      refine wpAnyH_take (i := 9) (oi := _) (v := ?_) rfl (by kernel_rfl) (by kernel_rfl) (by kernel_rfl) (fun _ _ _ h => h) (Or.inl ⟨by kernel_rfl, ?_⟩) hHeld ?_
      rotate_left 1
      focus (intro w' hSw; (try dsimp only at hSw); go_simp; try with_reducible rfl)
      try simp only [Act.put, List.getElem_toArray, List.getElem_cons_zero, List.getElem_cons_succ, List.setIfInBounds_toArray, List.set_cons_zero, List.set_cons_succ]
      refine wpAnyH_ready (rs := [2]) (by kernel_rfl) (by simp) ?_
      refine AllReadyH.cons (o := _) rfl (fun K hK => ?_) AllReadyH.nil
      go_simp
      go_at_call 21
      with_reducible refine (clash_any ⟨k, u, f, q, s, m, n, t⟩ ⟨k', u, f', q', s', m', n', t'⟩ _ (PartsIs.drew A12.out.parts) Y.out.1.1 Y.out.1.2 Y.out.2.1 Y.out.2.2).mono ?_
      rw [X1.out]
      rintro e w90 ⟨rfl, hb90⟩
      have A90 := hid (Boxed.on (Boxed.drew A12.out) hb90)
      have B90 := hid (Boxed.on (Boxed.drew B12.out) hb90)
      refine hK.out _ _ (by exact ⟨(cells8 A90.out.1).1, (cells8 B90.out.1).1⟩) (fun hHeld => ?_)
      clear hK K
      try simp only [Act.put, List.getElem_toArray, List.getElem_cons_zero, List.getElem_cons_succ, List.setIfInBounds_toArray, List.set_cons_zero, List.set_cons_succ]
      refine wpAnyH_take (i := 10) (oi := _) (v := ?_) rfl (by kernel_rfl) (by kernel_rfl) (by kernel_rfl) (fun _ _ _ h => h) (Or.inl ⟨by kernel_rfl, ?_⟩) hHeld ?_
      rotate_left 1
      focus (intro w' hSw; (try dsimp only at hSw); go_simp; try with_reducible rfl)
      try simp only [Act.put, List.getElem_toArray, List.getElem_cons_zero, List.getElem_cons_succ, List.setIfInBounds_toArray, List.set_cons_zero, List.set_cons_succ]
      refine wpAnyH_take (i := 11) (oi := _) (v := undef) rfl (by kernel_rfl) (by kernel_rfl) (by kernel_rfl) (fun _ _ _ h => h) (Or.inr ⟨by kernel_rfl, rfl⟩) hHeld ?_
      try simp only [Act.put, List.getElem_toArray, List.getElem_cons_zero, List.getElem_cons_succ, List.setIfInBounds_toArray, List.set_cons_zero, List.set_cons_succ]
      refine wpAnyH_take (i := 12) (oi := _) (v := undef) rfl (by kernel_rfl) (by kernel_rfl) (by kernel_rfl) (fun _ _ _ h => h) (Or.inr ⟨by kernel_rfl, rfl⟩) hHeld ?_
      try simp only [Act.put, List.getElem_toArray, List.getElem_cons_zero, List.getElem_cons_succ, List.setIfInBounds_toArray, List.set_cons_zero, List.set_cons_succ]
      refine wpAnyH_take (i := 13) (oi := _) (v := undef) rfl (by kernel_rfl) (by kernel_rfl) (by kernel_rfl) (fun _ _ _ h => h) (Or.inr ⟨by kernel_rfl, rfl⟩) hHeld ?_
      try simp only [Act.put, List.getElem_toArray, List.getElem_cons_zero, List.getElem_cons_succ, List.setIfInBounds_toArray, List.set_cons_zero, List.set_cons_succ]
      refine wpAnyH_take (i := 14) (oi := _) (v := undef) rfl (by kernel_rfl) (by kernel_rfl) (by kernel_rfl) (fun _ _ _ h => h) (Or.inr ⟨by kernel_rfl, rfl⟩) hHeld ?_
      try simp only [Act.put, List.getElem_toArray, List.getElem_cons_zero, List.getElem_cons_succ, List.setIfInBounds_toArray, List.set_cons_zero, List.set_cons_succ]
      refine wpAnyH_take (i := 15) (oi := _) (v := undef) rfl (by kernel_rfl) (by kernel_rfl) (by kernel_rfl) (fun _ _ _ h => h) (Or.inr ⟨by kernel_rfl, rfl⟩) hHeld ?_
      try simp only [Act.put, List.getElem_toArray, List.getElem_cons_zero, List.getElem_cons_succ, List.setIfInBounds_toArray, List.set_cons_zero, List.set_cons_succ]
      refine wpAnyH_take (i := 16) (oi := _) (v := undef) rfl (by kernel_rfl) (by kernel_rfl) (by kernel_rfl) (fun _ _ _ h => h) (Or.inr ⟨by kernel_rfl, rfl⟩) hHeld ?_
      try simp only [Act.put, List.getElem_toArray, List.getElem_cons_zero, List.getElem_cons_succ, List.setIfInBounds_toArray, List.set_cons_zero, List.set_cons_succ]
      refine wpAnyH_take (i := 17) (oi := _) (v := ?_) rfl (by kernel_rfl) (by kernel_rfl) (by kernel_rfl) (fun _ _ _ h => h) (Or.inl ⟨by kernel_rfl, ?_⟩) hHeld ?_
      rotate_left 1
      focus (intro w' hSw; (try dsimp only at hSw); go_simp; try with_reducible rfl)
      try simp only [Act.put, List.getElem_toArray, List.getElem_cons_zero, List.getElem_cons_succ, List.setIfInBounds_toArray, List.set_cons_zero, List.set_cons_succ]
      refine wpAnyH_take (i := 18) (oi := _) (v := ?_) rfl (by kernel_rfl) (by kernel_rfl) (by kernel_rfl) (fun _ _ _ h => h) (Or.inl ⟨by kernel_rfl, ?_⟩) hHeld ?_
      rotate_left 1
      focus (intro w' hSw; (try dsimp only at hSw); go_simp; try with_reducible rfl)
      try simp only [Act.put, List.getElem_toArray, List.getElem_cons_zero, List.getElem_cons_succ, List.setIfInBounds_toArray, List.set_cons_zero, List.set_cons_succ]
      refine wpAnyH_take (i := 19) (oi := _) (v := ?_) rfl (by kernel_rfl) (by kernel_rfl) (by kernel_rfl) (fun _ _ _ h => h) (Or.inl ⟨by kernel_rfl, ?_⟩) hHeld ?_
      rotate_left 1
      focus (intro w' hSw; (try dsimp only at hSw); go_simp; try with_reducible rfl)
      try simp only [Act.put, List.getElem_toArray, List.getElem_cons_zero, List.getElem_cons_succ, List.setIfInBounds_toArray, List.set_cons_zero, List.set_cons_succ]
      refine wpAnyH_done (by kernel_rfl) ?_ _
      clear hHeld
      go_wp2
      go_ret
      exact ⟨rfl, A90.out.below⟩
  · go_wp2_with fail
    with_reducible refine (of8 ⟨k', u', f', q', s', m', n', t'⟩ _).mono ?_
    rintro e w6 ⟨rfl, hb⟩
    have A6 := hid (A5.out.on hb)
    have B6 := hid (B5.out.on hb)
    clear hb A5 B5
    clear c0 c1 c2 c3 c4 c5 c6 c7 f0 f1 f2 f3 f4 f5 f6 f7
    clear e0 e1 e2 e3 e4 e5 e6 e7 g0 g1 g2 g3 g4 g5 g6 g7
    obtain ⟨⟨c0, c1, c2, c3, c4, c5, c6, c7⟩, f0, f1, f2, f3, f4, f5, f6, f7⟩ := cells8 A6.out.1
    obtain ⟨⟨e0, e1, e2, e3, e4, e5, e6, e7⟩, g0, g1, g2, g3, g4, g5, g6, g7⟩ := cells8 B6.out.1
    go_wp2_with fail
    with_reducible refine (refright7 ⟨k', u', f', q', s', m', n', t'⟩ _ HO'.out Z.out.2.1 Z.out.2.2).mono ?_
    rw [R2.out]
    rintro e w7 ⟨rfl, hb⟩
    have A7 := hid (A6.out.on hb)
    have B7 := hid (B6.out.on hb)
    clear hb A6 B6
    clear c0 c1 c2 c3 c4 c5 c6 c7 f0 f1 f2 f3 f4 f5 f6 f7
    clear e0 e1 e2 e3 e4 e5 e6 e7 g0 g1 g2 g3 g4 g5 g6 g7
    obtain ⟨⟨c0, c1, c2, c3, c4, c5, c6, c7⟩, f0, f1, f2, f3, f4, f5, f6, f7⟩ := cells8 A7.out.1
    obtain ⟨⟨e0, e1, e2, e3, e4, e5, e6, e7⟩, g0, g1, g2, g3, g4, g5, g6, g7⟩ := cells8 B7.out.1
    cases r2
    · go_wp2
      go_ret
      exact ⟨rfl, A7.out.below⟩
    clear y4 y4b
    obtain ⟨ka, kf⟩ := foot_path R1.out (show L (K.path ⟨k, u, f, q, s, m, n, t⟩) ≠ [] from Z4.out)
    obtain ⟨kb, kg⟩ := foot_end R2.out (show K.kind ⟨k', u', f', q', s', m', n', t'⟩ = 2 ∨ K.kind ⟨k', u', f', q', s', m', n', t'⟩ = 8 from KK.out)
    have hck : clashK ⟨k, u, f, q, s, m, n, t⟩ ⟨k', u', f', q', s', m', n', t'⟩ = ((u == u') || overlap (L s) (L f')) := by rw [clashF_off _ _ ka kb, kf, kg]
    obtain ⟨x, hx⟩ : ∃ x, clashK ⟨k, u, f, q, s, m, n, t⟩ ⟨k', u', f', q', s', m', n', t'⟩ = x := ⟨_, rfl⟩
    obtain ⟨z, hz⟩ : ∃ x, overlap (L s) (L f') = x := ⟨_, rfl⟩
    obtain ⟨e, he⟩ : ∃ x, (u == u') = x := ⟨_, rfl⟩
    rw [hx, hz, he] at hck
    have X1 := hid hx
    have Z1 := hid hz
    have HE := hid he
    have HCK := hid hck
    clear ka kf kb kg hck hx hz he
    obtain ⟨r, hr⟩ : ∃ r, s ++ ⟨#[47, 120]⟩ = r := ⟨_, rfl⟩
    have hrL : L r = L s ++ [47, 120] := by rw [← hr, L_append]; rfl
    have hrz : r.size ≤ 900 := by rw [← L_length, hrL]; simp [L_length]; omega
    have HRL := hid hrL
    have HRZ := hid hrz
    clear hrL hrz
    obtain ⟨x1, hx1⟩ : ∃ x, above (L f) (L s) = x := ⟨_, rfl⟩
    obtain ⟨x2, hx2⟩ : ∃ x, right (L r) = x := ⟨_, rfl⟩
    obtain ⟨x3, hx3⟩ : ∃ x, overlap (L r) (L f') = x := ⟨_, rfl⟩
    obtain ⟨x4, hx4⟩ : ∃ x, above (L f') (L r) = x := ⟨_, rfl⟩
    have hov : x1 = true → x4 = true → x = true := fun h1 h4 => by
      have hR : right (L s) = true := by
        rw [h1] at hx1; unfold above at hx1; simp only [Bool.and_eq_true] at hx1; exact hx1.1.2
      rw [h4] at hx4
      have := below_over HRL.out hR hx4
      rw [Z1.out] at this
      rw [HCK.out, this]; simp
    have O1 := hid hx1
    have O2 := hid hx2
    have O3 := hid hx3
    have O4 := hid hx4
    have HOV := hid hov
    clear hx1 hx2 hx3 hx4 hov
    go_wp2_with fail
    with_reducible refine (refabove_any f s _ Z.out.1.1 Z.out.1.2).mono ?_
    rw [O1.out]
    rintro e w8 ⟨rfl, hb⟩
    have A8 := hid (A7.out.on hb)
    have B8 := hid (B7.out.on hb)
    clear hb A7 B7
    clear c0 c1 c2 c3 c4 c5 c6 c7 f0 f1 f2 f3 f4 f5 f6 f7
    clear e0 e1 e2 e3 e4 e5 e6 e7 g0 g1 g2 g3 g4 g5 g6 g7
    obtain ⟨⟨c0, c1, c2, c3, c4, c5, c6, c7⟩, f0, f1, f2, f3, f4, f5, f6, f7⟩ := cells8 A8.out.1
    obtain ⟨⟨e0, e1, e2, e3, e4, e5, e6, e7⟩, g0, g1, g2, g3, g4, g5, g6, g7⟩ := cells8 B8.out.1
    cases x1
    · go_wp2
      go_ret
      exact ⟨rfl, A8.out.below⟩
    go_wp2_with fail
    with_reducible refine (refright_any r _ HRZ.out).mono ?_
    rw [O2.out]
    rintro e w9 ⟨rfl, hb⟩
    have A9 := hid (A8.out.on hb)
    have B9 := hid (B8.out.on hb)
    clear hb A8 B8
    clear c0 c1 c2 c3 c4 c5 c6 c7 f0 f1 f2 f3 f4 f5 f6 f7
    clear e0 e1 e2 e3 e4 e5 e6 e7 g0 g1 g2 g3 g4 g5 g6 g7
    obtain ⟨⟨c0, c1, c2, c3, c4, c5, c6, c7⟩, f0, f1, f2, f3, f4, f5, f6, f7⟩ := cells8 A9.out.1
    obtain ⟨⟨e0, e1, e2, e3, e4, e5, e6, e7⟩, g0, g1, g2, g3, g4, g5, g6, g7⟩ := cells8 B9.out.1
    cases x2
    · have hck := HCK.out
      cases e
      · simp only [Bool.false_or] at hck
        subst hck
        have hee : (u == u') = false := HE.out
        have hxx : (x == x) = true := by simp
        go_wp2_with fail
        have DA := hid A9.out.drew
        have DB := hid B9.out.drew
        go_region_held3 (fun w' => (w'.cell? ⟨w.heap.size, 0, none⟩ = some (.int .i64 k) ∧ w'.cell? ⟨w.heap.size, 1, none⟩ = some (.int .u64 u) ∧ w'.cell? ⟨w.heap.size, 2, none⟩ = some (.string f) ∧ w'.cell? ⟨w.heap.size, 3, none⟩ = some (.int .u64 q) ∧ w'.cell? ⟨w.heap.size, 4, none⟩ = some (.string s) ∧ w'.cell? ⟨w.heap.size, 5, none⟩ = some (.int .i64 m) ∧ w'.cell? ⟨w.heap.size, 6, none⟩ = some (.int .u64 n) ∧ w'.cell? ⟨w.heap.size, 7, none⟩ = some (.int .i64 t)) ∧ (w'.cell? ⟨w.heap.size + 1, 0, none⟩ = some (.int .i64 k') ∧ w'.cell? ⟨w.heap.size + 1, 1, none⟩ = some (.int .u64 u') ∧ w'.cell? ⟨w.heap.size + 1, 2, none⟩ = some (.string f') ∧ w'.cell? ⟨w.heap.size + 1, 3, none⟩ = some (.int .u64 q') ∧ w'.cell? ⟨w.heap.size + 1, 4, none⟩ = some (.string s') ∧ w'.cell? ⟨w.heap.size + 1, 5, none⟩ = some (.int .i64 m') ∧ w'.cell? ⟨w.heap.size + 1, 6, none⟩ = some (.int .u64 n') ∧ w'.cell? ⟨w.heap.size + 1, 7, none⟩ = some (.int .i64 t')))
          (first | exact ⟨(cells8 A9.out.1).1, (cells8 B9.out.1).1⟩ | exact ⟨(cells8 DA.out.1).1, (cells8 DB.out.1).1⟩ | exact ⟨(cells8 A90.out.1).1, (cells8 B90.out.1).1⟩ | exact ⟨(cells8 A91.out.1).1, (cells8 B91.out.1).1⟩)
          (first
            | (go_at_call 21; (with_reducible refine (clash_any ⟨k, u, f, q, s, m, n, t⟩ ⟨k', u', f', q', s', m', n', t'⟩ _ DA.out.parts Y.out.1.1 Y.out.1.2 Y.out.2.1 Y.out.2.2).mono ?_); rw [X1.out]; rintro e w90 ⟨rfl, hb90⟩; have A90 := hid (Boxed.on DA.out hb90); have B90 := hid (Boxed.on DB.out hb90))
            | (go_at_call 24; (with_reducible refine (refoverlap_any s f' _ Z.out.1.2 Z.out.2.1).mono ?_); rw [Z1.out]; rintro e w91 ⟨rfl, hb91⟩; have A91 := hid (Boxed.on A90.out hb91); have B91 := hid (Boxed.on B90.out hb91)))
        rename_i hHeld
        clear hHeld
        go_wp2
        go_ret
        exact ⟨rfl, A91.out.below⟩
      · simp only [Bool.true_or] at hck
        subst hck
        obtain rfl : u = u' := by simpa using HE.out
        go_wp2_with fail
        refine wp_region_held_drew (S := (fun w' => (w'.cell? ⟨w.heap.size, 0, none⟩ = some (.int .i64 k) ∧ w'.cell? ⟨w.heap.size, 1, none⟩ = some (.int .u64 u) ∧ w'.cell? ⟨w.heap.size, 2, none⟩ = some (.string f) ∧ w'.cell? ⟨w.heap.size, 3, none⟩ = some (.int .u64 q) ∧ w'.cell? ⟨w.heap.size, 4, none⟩ = some (.string s) ∧ w'.cell? ⟨w.heap.size, 5, none⟩ = some (.int .i64 m) ∧ w'.cell? ⟨w.heap.size, 6, none⟩ = some (.int .u64 n) ∧ w'.cell? ⟨w.heap.size, 7, none⟩ = some (.int .i64 t)) ∧ (w'.cell? ⟨w.heap.size + 1, 0, none⟩ = some (.int .i64 k') ∧ w'.cell? ⟨w.heap.size + 1, 1, none⟩ = some (.int .u64 u) ∧ w'.cell? ⟨w.heap.size + 1, 2, none⟩ = some (.string f') ∧ w'.cell? ⟨w.heap.size + 1, 3, none⟩ = some (.int .u64 q') ∧ w'.cell? ⟨w.heap.size + 1, 4, none⟩ = some (.string s') ∧ w'.cell? ⟨w.heap.size + 1, 5, none⟩ = some (.int .i64 m') ∧ w'.cell? ⟨w.heap.size + 1, 6, none⟩ = some (.int .u64 n') ∧ w'.cell? ⟨w.heap.size + 1, 7, none⟩ = some (.int .i64 t')))) (by kernel_rfl) (by exact ⟨(cells8 A9.out.1).1, (cells8 B9.out.1).1⟩) (fun hHeld => ?_)
        refine wpAnyH_take (i := 0) (oi := _) (v := ?_) rfl (by kernel_rfl) (by kernel_rfl) (by kernel_rfl) (fun _ _ _ h => h) (Or.inl ⟨by kernel_rfl, ?_⟩) hHeld ?_
        rotate_left 1
        focus (intro w' hSw; (try dsimp only at hSw); go_simp; try with_reducible rfl)
        try simp only [Act.put, List.getElem_toArray, List.getElem_cons_zero, List.getElem_cons_succ, List.setIfInBounds_toArray, List.set_cons_zero, List.set_cons_succ]
        refine wpAnyH_take (i := 1) (oi := _) (v := ?_) rfl (by kernel_rfl) (by kernel_rfl) (by kernel_rfl) (fun _ _ _ h => h) (Or.inl ⟨by kernel_rfl, ?_⟩) hHeld ?_
        rotate_left 1
        focus (intro w' hSw; (try dsimp only at hSw); go_simp; try with_reducible rfl)
        try simp only [Act.put, List.getElem_toArray, List.getElem_cons_zero, List.getElem_cons_succ, List.setIfInBounds_toArray, List.set_cons_zero, List.set_cons_succ]
        refine wpAnyH_take (i := 3) (oi := _) (v := ?_) rfl (by kernel_rfl) (by kernel_rfl) (by kernel_rfl) (fun _ _ _ h => h) (Or.inl ⟨by kernel_rfl, ?_⟩) hHeld ?_
        rotate_left 1
        focus (intro w' hSw; (try dsimp only at hSw); go_simp; try with_reducible rfl)
        try simp only [Act.put, List.getElem_toArray, List.getElem_cons_zero, List.getElem_cons_succ, List.setIfInBounds_toArray, List.set_cons_zero, List.set_cons_succ]
        refine wpAnyH_take (i := 4) (oi := _) (v := ?_) rfl (by kernel_rfl) (by kernel_rfl) (by kernel_rfl) (fun _ _ _ h => h) (Or.inl ⟨by kernel_rfl, ?_⟩) hHeld ?_
        rotate_left 1
        focus (intro w' hSw; (try dsimp only at hSw); go_simp; try with_reducible rfl)
        try simp only [Act.put, List.getElem_toArray, List.getElem_cons_zero, List.getElem_cons_succ, List.setIfInBounds_toArray, List.set_cons_zero, List.set_cons_succ]
        refine wpAnyH_take (i := 5) (oi := _) (v := ?_) rfl (by kernel_rfl) (by kernel_rfl) (by kernel_rfl) (fun _ _ _ h => h) (Or.inl ⟨by kernel_rfl, ?_⟩) hHeld ?_
        rotate_left 1
        focus (intro w' hSw; (try dsimp only at hSw); go_simp; try with_reducible rfl)
        try simp only [Act.put, List.getElem_toArray, List.getElem_cons_zero, List.getElem_cons_succ, List.setIfInBounds_toArray, List.set_cons_zero, List.set_cons_succ]
        refine wpAnyH_take (i := 6) (oi := _) (v := ?_) rfl (by kernel_rfl) (by kernel_rfl) (by kernel_rfl) (fun _ _ _ h => h) (Or.inl ⟨by kernel_rfl, ?_⟩) hHeld ?_
        rotate_left 1
        focus (intro w' hSw; (try dsimp only at hSw); go_simp; try with_reducible rfl)
        try simp only [Act.put, List.getElem_toArray, List.getElem_cons_zero, List.getElem_cons_succ, List.setIfInBounds_toArray, List.set_cons_zero, List.set_cons_succ]
        refine wpAnyH_take (i := 7) (oi := _) (v := ?_) rfl (by kernel_rfl) (by kernel_rfl) (by kernel_rfl) (fun _ _ _ h => h) (Or.inl ⟨by kernel_rfl, ?_⟩) hHeld ?_
        rotate_left 1
        focus (intro w' hSw; (try dsimp only at hSw); go_simp; try with_reducible rfl)
        try simp only [Act.put, List.getElem_toArray, List.getElem_cons_zero, List.getElem_cons_succ, List.setIfInBounds_toArray, List.set_cons_zero, List.set_cons_succ]
        refine wpAnyH_take (i := 8) (oi := _) (v := ?_) rfl (by kernel_rfl) (by kernel_rfl) (by kernel_rfl) (fun _ _ _ h => h) (Or.inl ⟨by kernel_rfl, ?_⟩) hHeld ?_
        rotate_left 1
        focus (intro w' hSw; (try dsimp only at hSw); go_simp; try with_reducible rfl)
        try simp only [Act.put, List.getElem_toArray, List.getElem_cons_zero, List.getElem_cons_succ, List.setIfInBounds_toArray, List.set_cons_zero, List.set_cons_succ]
        refine wpAnyH_take (i := 9) (oi := _) (v := ?_) rfl (by kernel_rfl) (by kernel_rfl) (by kernel_rfl) (fun _ _ _ h => h) (Or.inl ⟨by kernel_rfl, ?_⟩) hHeld ?_
        rotate_left 1
        focus (intro w' hSw; (try dsimp only at hSw); go_simp; try with_reducible rfl)
        try simp only [Act.put, List.getElem_toArray, List.getElem_cons_zero, List.getElem_cons_succ, List.setIfInBounds_toArray, List.set_cons_zero, List.set_cons_succ]
        refine wpAnyH_ready (rs := [2]) (by kernel_rfl) (by simp) ?_
        refine AllReadyH.cons (o := _) rfl (fun K hK => ?_) AllReadyH.nil
        go_simp
        go_at_call 21
        with_reducible refine (clash_any ⟨k, u, f, q, s, m, n, t⟩ ⟨k', u, f', q', s', m', n', t'⟩ _ (PartsIs.drew A9.out.parts) Y.out.1.1 Y.out.1.2 Y.out.2.1 Y.out.2.2).mono ?_
        rw [X1.out]
        rintro e w90 ⟨rfl, hb90⟩
        have A90 := hid (Boxed.on (Boxed.drew A9.out) hb90)
        have B90 := hid (Boxed.on (Boxed.drew B9.out) hb90)
        refine hK.out _ _ (by exact ⟨(cells8 A90.out.1).1, (cells8 B90.out.1).1⟩) (fun hHeld => ?_)
        clear hK K
        try simp only [Act.put, List.getElem_toArray, List.getElem_cons_zero, List.getElem_cons_succ, List.setIfInBounds_toArray, List.set_cons_zero, List.set_cons_succ]
        refine wpAnyH_take (i := 10) (oi := _) (v := ?_) rfl (by kernel_rfl) (by kernel_rfl) (by kernel_rfl) (fun _ _ _ h => h) (Or.inl ⟨by kernel_rfl, ?_⟩) hHeld ?_
        rotate_left 1
        focus (intro w' hSw; (try dsimp only at hSw); go_simp; try with_reducible rfl)
        try simp only [Act.put, List.getElem_toArray, List.getElem_cons_zero, List.getElem_cons_succ, List.setIfInBounds_toArray, List.set_cons_zero, List.set_cons_succ]
        refine wpAnyH_take (i := 11) (oi := _) (v := undef) rfl (by kernel_rfl) (by kernel_rfl) (by kernel_rfl) (fun _ _ _ h => h) (Or.inr ⟨by kernel_rfl, rfl⟩) hHeld ?_
        try simp only [Act.put, List.getElem_toArray, List.getElem_cons_zero, List.getElem_cons_succ, List.setIfInBounds_toArray, List.set_cons_zero, List.set_cons_succ]
        refine wpAnyH_take (i := 12) (oi := _) (v := undef) rfl (by kernel_rfl) (by kernel_rfl) (by kernel_rfl) (fun _ _ _ h => h) (Or.inr ⟨by kernel_rfl, rfl⟩) hHeld ?_
        try simp only [Act.put, List.getElem_toArray, List.getElem_cons_zero, List.getElem_cons_succ, List.setIfInBounds_toArray, List.set_cons_zero, List.set_cons_succ]
        refine wpAnyH_take (i := 13) (oi := _) (v := undef) rfl (by kernel_rfl) (by kernel_rfl) (by kernel_rfl) (fun _ _ _ h => h) (Or.inr ⟨by kernel_rfl, rfl⟩) hHeld ?_
        try simp only [Act.put, List.getElem_toArray, List.getElem_cons_zero, List.getElem_cons_succ, List.setIfInBounds_toArray, List.set_cons_zero, List.set_cons_succ]
        refine wpAnyH_take (i := 14) (oi := _) (v := undef) rfl (by kernel_rfl) (by kernel_rfl) (by kernel_rfl) (fun _ _ _ h => h) (Or.inr ⟨by kernel_rfl, rfl⟩) hHeld ?_
        try simp only [Act.put, List.getElem_toArray, List.getElem_cons_zero, List.getElem_cons_succ, List.setIfInBounds_toArray, List.set_cons_zero, List.set_cons_succ]
        refine wpAnyH_take (i := 15) (oi := _) (v := undef) rfl (by kernel_rfl) (by kernel_rfl) (by kernel_rfl) (fun _ _ _ h => h) (Or.inr ⟨by kernel_rfl, rfl⟩) hHeld ?_
        try simp only [Act.put, List.getElem_toArray, List.getElem_cons_zero, List.getElem_cons_succ, List.setIfInBounds_toArray, List.set_cons_zero, List.set_cons_succ]
        refine wpAnyH_take (i := 16) (oi := _) (v := undef) rfl (by kernel_rfl) (by kernel_rfl) (by kernel_rfl) (fun _ _ _ h => h) (Or.inr ⟨by kernel_rfl, rfl⟩) hHeld ?_
        try simp only [Act.put, List.getElem_toArray, List.getElem_cons_zero, List.getElem_cons_succ, List.setIfInBounds_toArray, List.set_cons_zero, List.set_cons_succ]
        refine wpAnyH_take (i := 17) (oi := _) (v := ?_) rfl (by kernel_rfl) (by kernel_rfl) (by kernel_rfl) (fun _ _ _ h => h) (Or.inl ⟨by kernel_rfl, ?_⟩) hHeld ?_
        rotate_left 1
        focus (intro w' hSw; (try dsimp only at hSw); go_simp; try with_reducible rfl)
        try simp only [Act.put, List.getElem_toArray, List.getElem_cons_zero, List.getElem_cons_succ, List.setIfInBounds_toArray, List.set_cons_zero, List.set_cons_succ]
        refine wpAnyH_take (i := 18) (oi := _) (v := ?_) rfl (by kernel_rfl) (by kernel_rfl) (by kernel_rfl) (fun _ _ _ h => h) (Or.inl ⟨by kernel_rfl, ?_⟩) hHeld ?_
        rotate_left 1
        focus (intro w' hSw; (try dsimp only at hSw); go_simp; try with_reducible rfl)
        try simp only [Act.put, List.getElem_toArray, List.getElem_cons_zero, List.getElem_cons_succ, List.setIfInBounds_toArray, List.set_cons_zero, List.set_cons_succ]
        refine wpAnyH_take (i := 19) (oi := _) (v := ?_) rfl (by kernel_rfl) (by kernel_rfl) (by kernel_rfl) (fun _ _ _ h => h) (Or.inl ⟨by kernel_rfl, ?_⟩) hHeld ?_
        rotate_left 1
        focus (intro w' hSw; (try dsimp only at hSw); go_simp; try with_reducible rfl)
        try simp only [Act.put, List.getElem_toArray, List.getElem_cons_zero, List.getElem_cons_succ, List.setIfInBounds_toArray, List.set_cons_zero, List.set_cons_succ]
        refine wpAnyH_done (by kernel_rfl) ?_ _
        clear hHeld
        go_wp2
        go_ret
        exact ⟨rfl, A90.out.below⟩
    go_wp2_with fail
    with_reducible refine (refoverlap_any r f' _ HRZ.out Z.out.2.1).mono ?_
    rw [O3.out]
    rintro e w10 ⟨rfl, hb⟩
    have A10 := hid (A9.out.on hb)
    have B10 := hid (B9.out.on hb)
    clear hb A9 B9
    clear c0 c1 c2 c3 c4 c5 c6 c7 f0 f1 f2 f3 f4 f5 f6 f7
    clear e0 e1 e2 e3 e4 e5 e6 e7 g0 g1 g2 g3 g4 g5 g6 g7
    obtain ⟨⟨c0, c1, c2, c3, c4, c5, c6, c7⟩, f0, f1, f2, f3, f4, f5, f6, f7⟩ := cells8 A10.out.1
    obtain ⟨⟨e0, e1, e2, e3, e4, e5, e6, e7⟩, g0, g1, g2, g3, g4, g5, g6, g7⟩ := cells8 B10.out.1
    cases x3
    · have hck := HCK.out
      cases e
      · simp only [Bool.false_or] at hck
        subst hck
        have hee : (u == u') = false := HE.out
        have hxx : (x == x) = true := by simp
        go_wp2_with fail
        have DA := hid A10.out.drew
        have DB := hid B10.out.drew
        go_region_held3 (fun w' => (w'.cell? ⟨w.heap.size, 0, none⟩ = some (.int .i64 k) ∧ w'.cell? ⟨w.heap.size, 1, none⟩ = some (.int .u64 u) ∧ w'.cell? ⟨w.heap.size, 2, none⟩ = some (.string f) ∧ w'.cell? ⟨w.heap.size, 3, none⟩ = some (.int .u64 q) ∧ w'.cell? ⟨w.heap.size, 4, none⟩ = some (.string s) ∧ w'.cell? ⟨w.heap.size, 5, none⟩ = some (.int .i64 m) ∧ w'.cell? ⟨w.heap.size, 6, none⟩ = some (.int .u64 n) ∧ w'.cell? ⟨w.heap.size, 7, none⟩ = some (.int .i64 t)) ∧ (w'.cell? ⟨w.heap.size + 1, 0, none⟩ = some (.int .i64 k') ∧ w'.cell? ⟨w.heap.size + 1, 1, none⟩ = some (.int .u64 u') ∧ w'.cell? ⟨w.heap.size + 1, 2, none⟩ = some (.string f') ∧ w'.cell? ⟨w.heap.size + 1, 3, none⟩ = some (.int .u64 q') ∧ w'.cell? ⟨w.heap.size + 1, 4, none⟩ = some (.string s') ∧ w'.cell? ⟨w.heap.size + 1, 5, none⟩ = some (.int .i64 m') ∧ w'.cell? ⟨w.heap.size + 1, 6, none⟩ = some (.int .u64 n') ∧ w'.cell? ⟨w.heap.size + 1, 7, none⟩ = some (.int .i64 t')))
          (first | exact ⟨(cells8 A10.out.1).1, (cells8 B10.out.1).1⟩ | exact ⟨(cells8 DA.out.1).1, (cells8 DB.out.1).1⟩ | exact ⟨(cells8 A90.out.1).1, (cells8 B90.out.1).1⟩ | exact ⟨(cells8 A91.out.1).1, (cells8 B91.out.1).1⟩)
          (first
            | (go_at_call 21; (with_reducible refine (clash_any ⟨k, u, f, q, s, m, n, t⟩ ⟨k', u', f', q', s', m', n', t'⟩ _ DA.out.parts Y.out.1.1 Y.out.1.2 Y.out.2.1 Y.out.2.2).mono ?_); rw [X1.out]; rintro e w90 ⟨rfl, hb90⟩; have A90 := hid (Boxed.on DA.out hb90); have B90 := hid (Boxed.on DB.out hb90))
            | (go_at_call 24; (with_reducible refine (refoverlap_any s f' _ Z.out.1.2 Z.out.2.1).mono ?_); rw [Z1.out]; rintro e w91 ⟨rfl, hb91⟩; have A91 := hid (Boxed.on A90.out hb91); have B91 := hid (Boxed.on B90.out hb91)))
        rename_i hHeld
        clear hHeld
        go_wp2
        go_ret
        exact ⟨rfl, A91.out.below⟩
      · simp only [Bool.true_or] at hck
        subst hck
        obtain rfl : u = u' := by simpa using HE.out
        go_wp2_with fail
        refine wp_region_held_drew (S := (fun w' => (w'.cell? ⟨w.heap.size, 0, none⟩ = some (.int .i64 k) ∧ w'.cell? ⟨w.heap.size, 1, none⟩ = some (.int .u64 u) ∧ w'.cell? ⟨w.heap.size, 2, none⟩ = some (.string f) ∧ w'.cell? ⟨w.heap.size, 3, none⟩ = some (.int .u64 q) ∧ w'.cell? ⟨w.heap.size, 4, none⟩ = some (.string s) ∧ w'.cell? ⟨w.heap.size, 5, none⟩ = some (.int .i64 m) ∧ w'.cell? ⟨w.heap.size, 6, none⟩ = some (.int .u64 n) ∧ w'.cell? ⟨w.heap.size, 7, none⟩ = some (.int .i64 t)) ∧ (w'.cell? ⟨w.heap.size + 1, 0, none⟩ = some (.int .i64 k') ∧ w'.cell? ⟨w.heap.size + 1, 1, none⟩ = some (.int .u64 u) ∧ w'.cell? ⟨w.heap.size + 1, 2, none⟩ = some (.string f') ∧ w'.cell? ⟨w.heap.size + 1, 3, none⟩ = some (.int .u64 q') ∧ w'.cell? ⟨w.heap.size + 1, 4, none⟩ = some (.string s') ∧ w'.cell? ⟨w.heap.size + 1, 5, none⟩ = some (.int .i64 m') ∧ w'.cell? ⟨w.heap.size + 1, 6, none⟩ = some (.int .u64 n') ∧ w'.cell? ⟨w.heap.size + 1, 7, none⟩ = some (.int .i64 t')))) (by kernel_rfl) (by exact ⟨(cells8 A10.out.1).1, (cells8 B10.out.1).1⟩) (fun hHeld => ?_)
        refine wpAnyH_take (i := 0) (oi := _) (v := ?_) rfl (by kernel_rfl) (by kernel_rfl) (by kernel_rfl) (fun _ _ _ h => h) (Or.inl ⟨by kernel_rfl, ?_⟩) hHeld ?_
        rotate_left 1
        focus (intro w' hSw; (try dsimp only at hSw); go_simp; try with_reducible rfl)
        try simp only [Act.put, List.getElem_toArray, List.getElem_cons_zero, List.getElem_cons_succ, List.setIfInBounds_toArray, List.set_cons_zero, List.set_cons_succ]
        refine wpAnyH_take (i := 1) (oi := _) (v := ?_) rfl (by kernel_rfl) (by kernel_rfl) (by kernel_rfl) (fun _ _ _ h => h) (Or.inl ⟨by kernel_rfl, ?_⟩) hHeld ?_
        rotate_left 1
        focus (intro w' hSw; (try dsimp only at hSw); go_simp; try with_reducible rfl)
        try simp only [Act.put, List.getElem_toArray, List.getElem_cons_zero, List.getElem_cons_succ, List.setIfInBounds_toArray, List.set_cons_zero, List.set_cons_succ]
        refine wpAnyH_take (i := 3) (oi := _) (v := ?_) rfl (by kernel_rfl) (by kernel_rfl) (by kernel_rfl) (fun _ _ _ h => h) (Or.inl ⟨by kernel_rfl, ?_⟩) hHeld ?_
        rotate_left 1
        focus (intro w' hSw; (try dsimp only at hSw); go_simp; try with_reducible rfl)
        try simp only [Act.put, List.getElem_toArray, List.getElem_cons_zero, List.getElem_cons_succ, List.setIfInBounds_toArray, List.set_cons_zero, List.set_cons_succ]
        refine wpAnyH_take (i := 4) (oi := _) (v := ?_) rfl (by kernel_rfl) (by kernel_rfl) (by kernel_rfl) (fun _ _ _ h => h) (Or.inl ⟨by kernel_rfl, ?_⟩) hHeld ?_
        rotate_left 1
        focus (intro w' hSw; (try dsimp only at hSw); go_simp; try with_reducible rfl)
        try simp only [Act.put, List.getElem_toArray, List.getElem_cons_zero, List.getElem_cons_succ, List.setIfInBounds_toArray, List.set_cons_zero, List.set_cons_succ]
        refine wpAnyH_take (i := 5) (oi := _) (v := ?_) rfl (by kernel_rfl) (by kernel_rfl) (by kernel_rfl) (fun _ _ _ h => h) (Or.inl ⟨by kernel_rfl, ?_⟩) hHeld ?_
        rotate_left 1
        focus (intro w' hSw; (try dsimp only at hSw); go_simp; try with_reducible rfl)
        try simp only [Act.put, List.getElem_toArray, List.getElem_cons_zero, List.getElem_cons_succ, List.setIfInBounds_toArray, List.set_cons_zero, List.set_cons_succ]
        refine wpAnyH_take (i := 6) (oi := _) (v := ?_) rfl (by kernel_rfl) (by kernel_rfl) (by kernel_rfl) (fun _ _ _ h => h) (Or.inl ⟨by kernel_rfl, ?_⟩) hHeld ?_
        rotate_left 1
        focus (intro w' hSw; (try dsimp only at hSw); go_simp; try with_reducible rfl)
        try simp only [Act.put, List.getElem_toArray, List.getElem_cons_zero, List.getElem_cons_succ, List.setIfInBounds_toArray, List.set_cons_zero, List.set_cons_succ]
        refine wpAnyH_take (i := 7) (oi := _) (v := ?_) rfl (by kernel_rfl) (by kernel_rfl) (by kernel_rfl) (fun _ _ _ h => h) (Or.inl ⟨by kernel_rfl, ?_⟩) hHeld ?_
        rotate_left 1
        focus (intro w' hSw; (try dsimp only at hSw); go_simp; try with_reducible rfl)
        try simp only [Act.put, List.getElem_toArray, List.getElem_cons_zero, List.getElem_cons_succ, List.setIfInBounds_toArray, List.set_cons_zero, List.set_cons_succ]
        refine wpAnyH_take (i := 8) (oi := _) (v := ?_) rfl (by kernel_rfl) (by kernel_rfl) (by kernel_rfl) (fun _ _ _ h => h) (Or.inl ⟨by kernel_rfl, ?_⟩) hHeld ?_
        rotate_left 1
        focus (intro w' hSw; (try dsimp only at hSw); go_simp; try with_reducible rfl)
        try simp only [Act.put, List.getElem_toArray, List.getElem_cons_zero, List.getElem_cons_succ, List.setIfInBounds_toArray, List.set_cons_zero, List.set_cons_succ]
        refine wpAnyH_take (i := 9) (oi := _) (v := ?_) rfl (by kernel_rfl) (by kernel_rfl) (by kernel_rfl) (fun _ _ _ h => h) (Or.inl ⟨by kernel_rfl, ?_⟩) hHeld ?_
        rotate_left 1
        focus (intro w' hSw; (try dsimp only at hSw); go_simp; try with_reducible rfl)
        try simp only [Act.put, List.getElem_toArray, List.getElem_cons_zero, List.getElem_cons_succ, List.setIfInBounds_toArray, List.set_cons_zero, List.set_cons_succ]
        refine wpAnyH_ready (rs := [2]) (by kernel_rfl) (by simp) ?_
        refine AllReadyH.cons (o := _) rfl (fun K hK => ?_) AllReadyH.nil
        go_simp
        go_at_call 21
        with_reducible refine (clash_any ⟨k, u, f, q, s, m, n, t⟩ ⟨k', u, f', q', s', m', n', t'⟩ _ (PartsIs.drew A10.out.parts) Y.out.1.1 Y.out.1.2 Y.out.2.1 Y.out.2.2).mono ?_
        rw [X1.out]
        rintro e w90 ⟨rfl, hb90⟩
        have A90 := hid (Boxed.on (Boxed.drew A10.out) hb90)
        have B90 := hid (Boxed.on (Boxed.drew B10.out) hb90)
        refine hK.out _ _ (by exact ⟨(cells8 A90.out.1).1, (cells8 B90.out.1).1⟩) (fun hHeld => ?_)
        clear hK K
        try simp only [Act.put, List.getElem_toArray, List.getElem_cons_zero, List.getElem_cons_succ, List.setIfInBounds_toArray, List.set_cons_zero, List.set_cons_succ]
        refine wpAnyH_take (i := 10) (oi := _) (v := ?_) rfl (by kernel_rfl) (by kernel_rfl) (by kernel_rfl) (fun _ _ _ h => h) (Or.inl ⟨by kernel_rfl, ?_⟩) hHeld ?_
        rotate_left 1
        focus (intro w' hSw; (try dsimp only at hSw); go_simp; try with_reducible rfl)
        try simp only [Act.put, List.getElem_toArray, List.getElem_cons_zero, List.getElem_cons_succ, List.setIfInBounds_toArray, List.set_cons_zero, List.set_cons_succ]
        refine wpAnyH_take (i := 11) (oi := _) (v := undef) rfl (by kernel_rfl) (by kernel_rfl) (by kernel_rfl) (fun _ _ _ h => h) (Or.inr ⟨by kernel_rfl, rfl⟩) hHeld ?_
        try simp only [Act.put, List.getElem_toArray, List.getElem_cons_zero, List.getElem_cons_succ, List.setIfInBounds_toArray, List.set_cons_zero, List.set_cons_succ]
        refine wpAnyH_take (i := 12) (oi := _) (v := undef) rfl (by kernel_rfl) (by kernel_rfl) (by kernel_rfl) (fun _ _ _ h => h) (Or.inr ⟨by kernel_rfl, rfl⟩) hHeld ?_
        try simp only [Act.put, List.getElem_toArray, List.getElem_cons_zero, List.getElem_cons_succ, List.setIfInBounds_toArray, List.set_cons_zero, List.set_cons_succ]
        refine wpAnyH_take (i := 13) (oi := _) (v := undef) rfl (by kernel_rfl) (by kernel_rfl) (by kernel_rfl) (fun _ _ _ h => h) (Or.inr ⟨by kernel_rfl, rfl⟩) hHeld ?_
        try simp only [Act.put, List.getElem_toArray, List.getElem_cons_zero, List.getElem_cons_succ, List.setIfInBounds_toArray, List.set_cons_zero, List.set_cons_succ]
        refine wpAnyH_take (i := 14) (oi := _) (v := undef) rfl (by kernel_rfl) (by kernel_rfl) (by kernel_rfl) (fun _ _ _ h => h) (Or.inr ⟨by kernel_rfl, rfl⟩) hHeld ?_
        try simp only [Act.put, List.getElem_toArray, List.getElem_cons_zero, List.getElem_cons_succ, List.setIfInBounds_toArray, List.set_cons_zero, List.set_cons_succ]
        refine wpAnyH_take (i := 15) (oi := _) (v := undef) rfl (by kernel_rfl) (by kernel_rfl) (by kernel_rfl) (fun _ _ _ h => h) (Or.inr ⟨by kernel_rfl, rfl⟩) hHeld ?_
        try simp only [Act.put, List.getElem_toArray, List.getElem_cons_zero, List.getElem_cons_succ, List.setIfInBounds_toArray, List.set_cons_zero, List.set_cons_succ]
        refine wpAnyH_take (i := 16) (oi := _) (v := undef) rfl (by kernel_rfl) (by kernel_rfl) (by kernel_rfl) (fun _ _ _ h => h) (Or.inr ⟨by kernel_rfl, rfl⟩) hHeld ?_
        try simp only [Act.put, List.getElem_toArray, List.getElem_cons_zero, List.getElem_cons_succ, List.setIfInBounds_toArray, List.set_cons_zero, List.set_cons_succ]
        refine wpAnyH_take (i := 17) (oi := _) (v := ?_) rfl (by kernel_rfl) (by kernel_rfl) (by kernel_rfl) (fun _ _ _ h => h) (Or.inl ⟨by kernel_rfl, ?_⟩) hHeld ?_
        rotate_left 1
        focus (intro w' hSw; (try dsimp only at hSw); go_simp; try with_reducible rfl)
        try simp only [Act.put, List.getElem_toArray, List.getElem_cons_zero, List.getElem_cons_succ, List.setIfInBounds_toArray, List.set_cons_zero, List.set_cons_succ]
        refine wpAnyH_take (i := 18) (oi := _) (v := ?_) rfl (by kernel_rfl) (by kernel_rfl) (by kernel_rfl) (fun _ _ _ h => h) (Or.inl ⟨by kernel_rfl, ?_⟩) hHeld ?_
        rotate_left 1
        focus (intro w' hSw; (try dsimp only at hSw); go_simp; try with_reducible rfl)
        try simp only [Act.put, List.getElem_toArray, List.getElem_cons_zero, List.getElem_cons_succ, List.setIfInBounds_toArray, List.set_cons_zero, List.set_cons_succ]
        refine wpAnyH_take (i := 19) (oi := _) (v := ?_) rfl (by kernel_rfl) (by kernel_rfl) (by kernel_rfl) (fun _ _ _ h => h) (Or.inl ⟨by kernel_rfl, ?_⟩) hHeld ?_
        rotate_left 1
        focus (intro w' hSw; (try dsimp only at hSw); go_simp; try with_reducible rfl)
        try simp only [Act.put, List.getElem_toArray, List.getElem_cons_zero, List.getElem_cons_succ, List.setIfInBounds_toArray, List.set_cons_zero, List.set_cons_succ]
        refine wpAnyH_done (by kernel_rfl) ?_ _
        clear hHeld
        go_wp2
        go_ret
        exact ⟨rfl, A90.out.below⟩
    go_wp2_with fail
    with_reducible refine (refabove_any f' r _ Z.out.2.1 HRZ.out).mono ?_
    rw [O4.out]
    rintro e w11 ⟨rfl, hb⟩
    have A11 := hid (A10.out.on hb)
    have B11 := hid (B10.out.on hb)
    clear hb A10 B10
    clear c0 c1 c2 c3 c4 c5 c6 c7 f0 f1 f2 f3 f4 f5 f6 f7
    clear e0 e1 e2 e3 e4 e5 e6 e7 g0 g1 g2 g3 g4 g5 g6 g7
    obtain ⟨⟨c0, c1, c2, c3, c4, c5, c6, c7⟩, f0, f1, f2, f3, f4, f5, f6, f7⟩ := cells8 A11.out.1
    obtain ⟨⟨e0, e1, e2, e3, e4, e5, e6, e7⟩, g0, g1, g2, g3, g4, g5, g6, g7⟩ := cells8 B11.out.1
    cases x4
    · have hck := HCK.out
      cases e
      · simp only [Bool.false_or] at hck
        subst hck
        have hee : (u == u') = false := HE.out
        have hxx : (x == x) = true := by simp
        go_wp2_with fail
        have DA := hid A11.out.drew
        have DB := hid B11.out.drew
        go_region_held3 (fun w' => (w'.cell? ⟨w.heap.size, 0, none⟩ = some (.int .i64 k) ∧ w'.cell? ⟨w.heap.size, 1, none⟩ = some (.int .u64 u) ∧ w'.cell? ⟨w.heap.size, 2, none⟩ = some (.string f) ∧ w'.cell? ⟨w.heap.size, 3, none⟩ = some (.int .u64 q) ∧ w'.cell? ⟨w.heap.size, 4, none⟩ = some (.string s) ∧ w'.cell? ⟨w.heap.size, 5, none⟩ = some (.int .i64 m) ∧ w'.cell? ⟨w.heap.size, 6, none⟩ = some (.int .u64 n) ∧ w'.cell? ⟨w.heap.size, 7, none⟩ = some (.int .i64 t)) ∧ (w'.cell? ⟨w.heap.size + 1, 0, none⟩ = some (.int .i64 k') ∧ w'.cell? ⟨w.heap.size + 1, 1, none⟩ = some (.int .u64 u') ∧ w'.cell? ⟨w.heap.size + 1, 2, none⟩ = some (.string f') ∧ w'.cell? ⟨w.heap.size + 1, 3, none⟩ = some (.int .u64 q') ∧ w'.cell? ⟨w.heap.size + 1, 4, none⟩ = some (.string s') ∧ w'.cell? ⟨w.heap.size + 1, 5, none⟩ = some (.int .i64 m') ∧ w'.cell? ⟨w.heap.size + 1, 6, none⟩ = some (.int .u64 n') ∧ w'.cell? ⟨w.heap.size + 1, 7, none⟩ = some (.int .i64 t')))
          (first | exact ⟨(cells8 A11.out.1).1, (cells8 B11.out.1).1⟩ | exact ⟨(cells8 DA.out.1).1, (cells8 DB.out.1).1⟩ | exact ⟨(cells8 A90.out.1).1, (cells8 B90.out.1).1⟩ | exact ⟨(cells8 A91.out.1).1, (cells8 B91.out.1).1⟩)
          (first
            | (go_at_call 21; (with_reducible refine (clash_any ⟨k, u, f, q, s, m, n, t⟩ ⟨k', u', f', q', s', m', n', t'⟩ _ DA.out.parts Y.out.1.1 Y.out.1.2 Y.out.2.1 Y.out.2.2).mono ?_); rw [X1.out]; rintro e w90 ⟨rfl, hb90⟩; have A90 := hid (Boxed.on DA.out hb90); have B90 := hid (Boxed.on DB.out hb90))
            | (go_at_call 24; (with_reducible refine (refoverlap_any s f' _ Z.out.1.2 Z.out.2.1).mono ?_); rw [Z1.out]; rintro e w91 ⟨rfl, hb91⟩; have A91 := hid (Boxed.on A90.out hb91); have B91 := hid (Boxed.on B90.out hb91)))
        rename_i hHeld
        clear hHeld
        go_wp2
        go_ret
        exact ⟨rfl, A91.out.below⟩
      · simp only [Bool.true_or] at hck
        subst hck
        obtain rfl : u = u' := by simpa using HE.out
        go_wp2_with fail
        refine wp_region_held_drew (S := (fun w' => (w'.cell? ⟨w.heap.size, 0, none⟩ = some (.int .i64 k) ∧ w'.cell? ⟨w.heap.size, 1, none⟩ = some (.int .u64 u) ∧ w'.cell? ⟨w.heap.size, 2, none⟩ = some (.string f) ∧ w'.cell? ⟨w.heap.size, 3, none⟩ = some (.int .u64 q) ∧ w'.cell? ⟨w.heap.size, 4, none⟩ = some (.string s) ∧ w'.cell? ⟨w.heap.size, 5, none⟩ = some (.int .i64 m) ∧ w'.cell? ⟨w.heap.size, 6, none⟩ = some (.int .u64 n) ∧ w'.cell? ⟨w.heap.size, 7, none⟩ = some (.int .i64 t)) ∧ (w'.cell? ⟨w.heap.size + 1, 0, none⟩ = some (.int .i64 k') ∧ w'.cell? ⟨w.heap.size + 1, 1, none⟩ = some (.int .u64 u) ∧ w'.cell? ⟨w.heap.size + 1, 2, none⟩ = some (.string f') ∧ w'.cell? ⟨w.heap.size + 1, 3, none⟩ = some (.int .u64 q') ∧ w'.cell? ⟨w.heap.size + 1, 4, none⟩ = some (.string s') ∧ w'.cell? ⟨w.heap.size + 1, 5, none⟩ = some (.int .i64 m') ∧ w'.cell? ⟨w.heap.size + 1, 6, none⟩ = some (.int .u64 n') ∧ w'.cell? ⟨w.heap.size + 1, 7, none⟩ = some (.int .i64 t')))) (by kernel_rfl) (by exact ⟨(cells8 A11.out.1).1, (cells8 B11.out.1).1⟩) (fun hHeld => ?_)
        refine wpAnyH_take (i := 0) (oi := _) (v := ?_) rfl (by kernel_rfl) (by kernel_rfl) (by kernel_rfl) (fun _ _ _ h => h) (Or.inl ⟨by kernel_rfl, ?_⟩) hHeld ?_
        rotate_left 1
        focus (intro w' hSw; (try dsimp only at hSw); go_simp; try with_reducible rfl)
        try simp only [Act.put, List.getElem_toArray, List.getElem_cons_zero, List.getElem_cons_succ, List.setIfInBounds_toArray, List.set_cons_zero, List.set_cons_succ]
        refine wpAnyH_take (i := 1) (oi := _) (v := ?_) rfl (by kernel_rfl) (by kernel_rfl) (by kernel_rfl) (fun _ _ _ h => h) (Or.inl ⟨by kernel_rfl, ?_⟩) hHeld ?_
        rotate_left 1
        focus (intro w' hSw; (try dsimp only at hSw); go_simp; try with_reducible rfl)
        try simp only [Act.put, List.getElem_toArray, List.getElem_cons_zero, List.getElem_cons_succ, List.setIfInBounds_toArray, List.set_cons_zero, List.set_cons_succ]
        refine wpAnyH_take (i := 3) (oi := _) (v := ?_) rfl (by kernel_rfl) (by kernel_rfl) (by kernel_rfl) (fun _ _ _ h => h) (Or.inl ⟨by kernel_rfl, ?_⟩) hHeld ?_
        rotate_left 1
        focus (intro w' hSw; (try dsimp only at hSw); go_simp; try with_reducible rfl)
        try simp only [Act.put, List.getElem_toArray, List.getElem_cons_zero, List.getElem_cons_succ, List.setIfInBounds_toArray, List.set_cons_zero, List.set_cons_succ]
        refine wpAnyH_take (i := 4) (oi := _) (v := ?_) rfl (by kernel_rfl) (by kernel_rfl) (by kernel_rfl) (fun _ _ _ h => h) (Or.inl ⟨by kernel_rfl, ?_⟩) hHeld ?_
        rotate_left 1
        focus (intro w' hSw; (try dsimp only at hSw); go_simp; try with_reducible rfl)
        try simp only [Act.put, List.getElem_toArray, List.getElem_cons_zero, List.getElem_cons_succ, List.setIfInBounds_toArray, List.set_cons_zero, List.set_cons_succ]
        refine wpAnyH_take (i := 5) (oi := _) (v := ?_) rfl (by kernel_rfl) (by kernel_rfl) (by kernel_rfl) (fun _ _ _ h => h) (Or.inl ⟨by kernel_rfl, ?_⟩) hHeld ?_
        rotate_left 1
        focus (intro w' hSw; (try dsimp only at hSw); go_simp; try with_reducible rfl)
        try simp only [Act.put, List.getElem_toArray, List.getElem_cons_zero, List.getElem_cons_succ, List.setIfInBounds_toArray, List.set_cons_zero, List.set_cons_succ]
        refine wpAnyH_take (i := 6) (oi := _) (v := ?_) rfl (by kernel_rfl) (by kernel_rfl) (by kernel_rfl) (fun _ _ _ h => h) (Or.inl ⟨by kernel_rfl, ?_⟩) hHeld ?_
        rotate_left 1
        focus (intro w' hSw; (try dsimp only at hSw); go_simp; try with_reducible rfl)
        try simp only [Act.put, List.getElem_toArray, List.getElem_cons_zero, List.getElem_cons_succ, List.setIfInBounds_toArray, List.set_cons_zero, List.set_cons_succ]
        refine wpAnyH_take (i := 7) (oi := _) (v := ?_) rfl (by kernel_rfl) (by kernel_rfl) (by kernel_rfl) (fun _ _ _ h => h) (Or.inl ⟨by kernel_rfl, ?_⟩) hHeld ?_
        rotate_left 1
        focus (intro w' hSw; (try dsimp only at hSw); go_simp; try with_reducible rfl)
        try simp only [Act.put, List.getElem_toArray, List.getElem_cons_zero, List.getElem_cons_succ, List.setIfInBounds_toArray, List.set_cons_zero, List.set_cons_succ]
        refine wpAnyH_take (i := 8) (oi := _) (v := ?_) rfl (by kernel_rfl) (by kernel_rfl) (by kernel_rfl) (fun _ _ _ h => h) (Or.inl ⟨by kernel_rfl, ?_⟩) hHeld ?_
        rotate_left 1
        focus (intro w' hSw; (try dsimp only at hSw); go_simp; try with_reducible rfl)
        try simp only [Act.put, List.getElem_toArray, List.getElem_cons_zero, List.getElem_cons_succ, List.setIfInBounds_toArray, List.set_cons_zero, List.set_cons_succ]
        refine wpAnyH_take (i := 9) (oi := _) (v := ?_) rfl (by kernel_rfl) (by kernel_rfl) (by kernel_rfl) (fun _ _ _ h => h) (Or.inl ⟨by kernel_rfl, ?_⟩) hHeld ?_
        rotate_left 1
        focus (intro w' hSw; (try dsimp only at hSw); go_simp; try with_reducible rfl)
        try simp only [Act.put, List.getElem_toArray, List.getElem_cons_zero, List.getElem_cons_succ, List.setIfInBounds_toArray, List.set_cons_zero, List.set_cons_succ]
        refine wpAnyH_ready (rs := [2]) (by kernel_rfl) (by simp) ?_
        refine AllReadyH.cons (o := _) rfl (fun K hK => ?_) AllReadyH.nil
        go_simp
        go_at_call 21
        with_reducible refine (clash_any ⟨k, u, f, q, s, m, n, t⟩ ⟨k', u, f', q', s', m', n', t'⟩ _ (PartsIs.drew A11.out.parts) Y.out.1.1 Y.out.1.2 Y.out.2.1 Y.out.2.2).mono ?_
        rw [X1.out]
        rintro e w90 ⟨rfl, hb90⟩
        have A90 := hid (Boxed.on (Boxed.drew A11.out) hb90)
        have B90 := hid (Boxed.on (Boxed.drew B11.out) hb90)
        refine hK.out _ _ (by exact ⟨(cells8 A90.out.1).1, (cells8 B90.out.1).1⟩) (fun hHeld => ?_)
        clear hK K
        try simp only [Act.put, List.getElem_toArray, List.getElem_cons_zero, List.getElem_cons_succ, List.setIfInBounds_toArray, List.set_cons_zero, List.set_cons_succ]
        refine wpAnyH_take (i := 10) (oi := _) (v := ?_) rfl (by kernel_rfl) (by kernel_rfl) (by kernel_rfl) (fun _ _ _ h => h) (Or.inl ⟨by kernel_rfl, ?_⟩) hHeld ?_
        rotate_left 1
        focus (intro w' hSw; (try dsimp only at hSw); go_simp; try with_reducible rfl)
        try simp only [Act.put, List.getElem_toArray, List.getElem_cons_zero, List.getElem_cons_succ, List.setIfInBounds_toArray, List.set_cons_zero, List.set_cons_succ]
        refine wpAnyH_take (i := 11) (oi := _) (v := undef) rfl (by kernel_rfl) (by kernel_rfl) (by kernel_rfl) (fun _ _ _ h => h) (Or.inr ⟨by kernel_rfl, rfl⟩) hHeld ?_
        try simp only [Act.put, List.getElem_toArray, List.getElem_cons_zero, List.getElem_cons_succ, List.setIfInBounds_toArray, List.set_cons_zero, List.set_cons_succ]
        refine wpAnyH_take (i := 12) (oi := _) (v := undef) rfl (by kernel_rfl) (by kernel_rfl) (by kernel_rfl) (fun _ _ _ h => h) (Or.inr ⟨by kernel_rfl, rfl⟩) hHeld ?_
        try simp only [Act.put, List.getElem_toArray, List.getElem_cons_zero, List.getElem_cons_succ, List.setIfInBounds_toArray, List.set_cons_zero, List.set_cons_succ]
        refine wpAnyH_take (i := 13) (oi := _) (v := undef) rfl (by kernel_rfl) (by kernel_rfl) (by kernel_rfl) (fun _ _ _ h => h) (Or.inr ⟨by kernel_rfl, rfl⟩) hHeld ?_
        try simp only [Act.put, List.getElem_toArray, List.getElem_cons_zero, List.getElem_cons_succ, List.setIfInBounds_toArray, List.set_cons_zero, List.set_cons_succ]
        refine wpAnyH_take (i := 14) (oi := _) (v := undef) rfl (by kernel_rfl) (by kernel_rfl) (by kernel_rfl) (fun _ _ _ h => h) (Or.inr ⟨by kernel_rfl, rfl⟩) hHeld ?_
        try simp only [Act.put, List.getElem_toArray, List.getElem_cons_zero, List.getElem_cons_succ, List.setIfInBounds_toArray, List.set_cons_zero, List.set_cons_succ]
        refine wpAnyH_take (i := 15) (oi := _) (v := undef) rfl (by kernel_rfl) (by kernel_rfl) (by kernel_rfl) (fun _ _ _ h => h) (Or.inr ⟨by kernel_rfl, rfl⟩) hHeld ?_
        try simp only [Act.put, List.getElem_toArray, List.getElem_cons_zero, List.getElem_cons_succ, List.setIfInBounds_toArray, List.set_cons_zero, List.set_cons_succ]
        refine wpAnyH_take (i := 16) (oi := _) (v := undef) rfl (by kernel_rfl) (by kernel_rfl) (by kernel_rfl) (fun _ _ _ h => h) (Or.inr ⟨by kernel_rfl, rfl⟩) hHeld ?_
        try simp only [Act.put, List.getElem_toArray, List.getElem_cons_zero, List.getElem_cons_succ, List.setIfInBounds_toArray, List.set_cons_zero, List.set_cons_succ]
        refine wpAnyH_take (i := 17) (oi := _) (v := ?_) rfl (by kernel_rfl) (by kernel_rfl) (by kernel_rfl) (fun _ _ _ h => h) (Or.inl ⟨by kernel_rfl, ?_⟩) hHeld ?_
        rotate_left 1
        focus (intro w' hSw; (try dsimp only at hSw); go_simp; try with_reducible rfl)
        try simp only [Act.put, List.getElem_toArray, List.getElem_cons_zero, List.getElem_cons_succ, List.setIfInBounds_toArray, List.set_cons_zero, List.set_cons_succ]
        refine wpAnyH_take (i := 18) (oi := _) (v := ?_) rfl (by kernel_rfl) (by kernel_rfl) (by kernel_rfl) (fun _ _ _ h => h) (Or.inl ⟨by kernel_rfl, ?_⟩) hHeld ?_
        rotate_left 1
        focus (intro w' hSw; (try dsimp only at hSw); go_simp; try with_reducible rfl)
        try simp only [Act.put, List.getElem_toArray, List.getElem_cons_zero, List.getElem_cons_succ, List.setIfInBounds_toArray, List.set_cons_zero, List.set_cons_succ]
        refine wpAnyH_take (i := 19) (oi := _) (v := ?_) rfl (by kernel_rfl) (by kernel_rfl) (by kernel_rfl) (fun _ _ _ h => h) (Or.inl ⟨by kernel_rfl, ?_⟩) hHeld ?_
        rotate_left 1
        focus (intro w' hSw; (try dsimp only at hSw); go_simp; try with_reducible rfl)
        try simp only [Act.put, List.getElem_toArray, List.getElem_cons_zero, List.getElem_cons_succ, List.setIfInBounds_toArray, List.set_cons_zero, List.set_cons_succ]
        refine wpAnyH_done (by kernel_rfl) ?_ _
        clear hHeld
        go_wp2
        go_ret
        exact ⟨rfl, A90.out.below⟩
    have hxt := HOV.out (by simp) (by simp)
    go_wp2_with fail
    with_reducible refine (clash_any ⟨k, u, f, q, s, m, n, t⟩ ⟨k', u', f', q', s', m', n', t'⟩ _ A11.out.parts Y.out.1.1 Y.out.1.2 Y.out.2.1 Y.out.2.2).mono ?_
    rw [X1.out]
    rintro e w12 ⟨rfl, hb⟩
    have A12 := hid (A11.out.on hb)
    have B12 := hid (B11.out.on hb)
    clear hb A11 B11
    clear c0 c1 c2 c3 c4 c5 c6 c7 f0 f1 f2 f3 f4 f5 f6 f7
    clear e0 e1 e2 e3 e4 e5 e6 e7 g0 g1 g2 g3 g4 g5 g6 g7
    obtain ⟨⟨c0, c1, c2, c3, c4, c5, c6, c7⟩, f0, f1, f2, f3, f4, f5, f6, f7⟩ := cells8 A12.out.1
    obtain ⟨⟨e0, e1, e2, e3, e4, e5, e6, e7⟩, g0, g1, g2, g3, g4, g5, g6, g7⟩ := cells8 B12.out.1
    rw [hxt]
    have hck := HCK.out
    cases e
    · simp only [Bool.false_or] at hck
      subst hck
      have hee : (u == u') = false := HE.out
      have hxx : (x == x) = true := by simp
      go_wp2_with fail
      have DA := hid A12.out.drew
      have DB := hid B12.out.drew
      go_region_held3 (fun w' => (w'.cell? ⟨w.heap.size, 0, none⟩ = some (.int .i64 k) ∧ w'.cell? ⟨w.heap.size, 1, none⟩ = some (.int .u64 u) ∧ w'.cell? ⟨w.heap.size, 2, none⟩ = some (.string f) ∧ w'.cell? ⟨w.heap.size, 3, none⟩ = some (.int .u64 q) ∧ w'.cell? ⟨w.heap.size, 4, none⟩ = some (.string s) ∧ w'.cell? ⟨w.heap.size, 5, none⟩ = some (.int .i64 m) ∧ w'.cell? ⟨w.heap.size, 6, none⟩ = some (.int .u64 n) ∧ w'.cell? ⟨w.heap.size, 7, none⟩ = some (.int .i64 t)) ∧ (w'.cell? ⟨w.heap.size + 1, 0, none⟩ = some (.int .i64 k') ∧ w'.cell? ⟨w.heap.size + 1, 1, none⟩ = some (.int .u64 u') ∧ w'.cell? ⟨w.heap.size + 1, 2, none⟩ = some (.string f') ∧ w'.cell? ⟨w.heap.size + 1, 3, none⟩ = some (.int .u64 q') ∧ w'.cell? ⟨w.heap.size + 1, 4, none⟩ = some (.string s') ∧ w'.cell? ⟨w.heap.size + 1, 5, none⟩ = some (.int .i64 m') ∧ w'.cell? ⟨w.heap.size + 1, 6, none⟩ = some (.int .u64 n') ∧ w'.cell? ⟨w.heap.size + 1, 7, none⟩ = some (.int .i64 t')))
        (first | exact ⟨(cells8 A12.out.1).1, (cells8 B12.out.1).1⟩ | exact ⟨(cells8 DA.out.1).1, (cells8 DB.out.1).1⟩ | exact ⟨(cells8 A90.out.1).1, (cells8 B90.out.1).1⟩ | exact ⟨(cells8 A91.out.1).1, (cells8 B91.out.1).1⟩)
        (first
          | (go_at_call 21; (with_reducible refine (clash_any ⟨k, u, f, q, s, m, n, t⟩ ⟨k', u', f', q', s', m', n', t'⟩ _ DA.out.parts Y.out.1.1 Y.out.1.2 Y.out.2.1 Y.out.2.2).mono ?_); rw [X1.out]; rintro e w90 ⟨rfl, hb90⟩; have A90 := hid (Boxed.on DA.out hb90); have B90 := hid (Boxed.on DB.out hb90))
          | (go_at_call 24; (with_reducible refine (refoverlap_any s f' _ Z.out.1.2 Z.out.2.1).mono ?_); rw [Z1.out]; rintro e w91 ⟨rfl, hb91⟩; have A91 := hid (Boxed.on A90.out hb91); have B91 := hid (Boxed.on B90.out hb91)))
      rename_i hHeld
      clear hHeld
      go_wp2
      go_ret
      exact ⟨rfl, A91.out.below⟩
    · simp only [Bool.true_or] at hck
      subst hck
      obtain rfl : u = u' := by simpa using HE.out
      go_wp2_with fail
      refine wp_region_held_drew (S := (fun w' => (w'.cell? ⟨w.heap.size, 0, none⟩ = some (.int .i64 k) ∧ w'.cell? ⟨w.heap.size, 1, none⟩ = some (.int .u64 u) ∧ w'.cell? ⟨w.heap.size, 2, none⟩ = some (.string f) ∧ w'.cell? ⟨w.heap.size, 3, none⟩ = some (.int .u64 q) ∧ w'.cell? ⟨w.heap.size, 4, none⟩ = some (.string s) ∧ w'.cell? ⟨w.heap.size, 5, none⟩ = some (.int .i64 m) ∧ w'.cell? ⟨w.heap.size, 6, none⟩ = some (.int .u64 n) ∧ w'.cell? ⟨w.heap.size, 7, none⟩ = some (.int .i64 t)) ∧ (w'.cell? ⟨w.heap.size + 1, 0, none⟩ = some (.int .i64 k') ∧ w'.cell? ⟨w.heap.size + 1, 1, none⟩ = some (.int .u64 u) ∧ w'.cell? ⟨w.heap.size + 1, 2, none⟩ = some (.string f') ∧ w'.cell? ⟨w.heap.size + 1, 3, none⟩ = some (.int .u64 q') ∧ w'.cell? ⟨w.heap.size + 1, 4, none⟩ = some (.string s') ∧ w'.cell? ⟨w.heap.size + 1, 5, none⟩ = some (.int .i64 m') ∧ w'.cell? ⟨w.heap.size + 1, 6, none⟩ = some (.int .u64 n') ∧ w'.cell? ⟨w.heap.size + 1, 7, none⟩ = some (.int .i64 t')))) (by kernel_rfl) (by exact ⟨(cells8 A12.out.1).1, (cells8 B12.out.1).1⟩) (fun hHeld => ?_)
      refine wpAnyH_take (i := 0) (oi := _) (v := ?_) rfl (by kernel_rfl) (by kernel_rfl) (by kernel_rfl) (fun _ _ _ h => h) (Or.inl ⟨by kernel_rfl, ?_⟩) hHeld ?_
      rotate_left 1
      focus (intro w' hSw; (try dsimp only at hSw); go_simp; try with_reducible rfl)
      try simp only [Act.put, List.getElem_toArray, List.getElem_cons_zero, List.getElem_cons_succ, List.setIfInBounds_toArray, List.set_cons_zero, List.set_cons_succ]
      refine wpAnyH_take (i := 1) (oi := _) (v := ?_) rfl (by kernel_rfl) (by kernel_rfl) (by kernel_rfl) (fun _ _ _ h => h) (Or.inl ⟨by kernel_rfl, ?_⟩) hHeld ?_
      rotate_left 1
      focus (intro w' hSw; (try dsimp only at hSw); go_simp; try with_reducible rfl)
      try simp only [Act.put, List.getElem_toArray, List.getElem_cons_zero, List.getElem_cons_succ, List.setIfInBounds_toArray, List.set_cons_zero, List.set_cons_succ]
      refine wpAnyH_take (i := 3) (oi := _) (v := ?_) rfl (by kernel_rfl) (by kernel_rfl) (by kernel_rfl) (fun _ _ _ h => h) (Or.inl ⟨by kernel_rfl, ?_⟩) hHeld ?_
      rotate_left 1
      focus (intro w' hSw; (try dsimp only at hSw); go_simp; try with_reducible rfl)
      try simp only [Act.put, List.getElem_toArray, List.getElem_cons_zero, List.getElem_cons_succ, List.setIfInBounds_toArray, List.set_cons_zero, List.set_cons_succ]
      refine wpAnyH_take (i := 4) (oi := _) (v := ?_) rfl (by kernel_rfl) (by kernel_rfl) (by kernel_rfl) (fun _ _ _ h => h) (Or.inl ⟨by kernel_rfl, ?_⟩) hHeld ?_
      rotate_left 1
      focus (intro w' hSw; (try dsimp only at hSw); go_simp; try with_reducible rfl)
      try simp only [Act.put, List.getElem_toArray, List.getElem_cons_zero, List.getElem_cons_succ, List.setIfInBounds_toArray, List.set_cons_zero, List.set_cons_succ]
      refine wpAnyH_take (i := 5) (oi := _) (v := ?_) rfl (by kernel_rfl) (by kernel_rfl) (by kernel_rfl) (fun _ _ _ h => h) (Or.inl ⟨by kernel_rfl, ?_⟩) hHeld ?_
      rotate_left 1
      focus (intro w' hSw; (try dsimp only at hSw); go_simp; try with_reducible rfl)
      try simp only [Act.put, List.getElem_toArray, List.getElem_cons_zero, List.getElem_cons_succ, List.setIfInBounds_toArray, List.set_cons_zero, List.set_cons_succ]
      refine wpAnyH_take (i := 6) (oi := _) (v := ?_) rfl (by kernel_rfl) (by kernel_rfl) (by kernel_rfl) (fun _ _ _ h => h) (Or.inl ⟨by kernel_rfl, ?_⟩) hHeld ?_
      rotate_left 1
      focus (intro w' hSw; (try dsimp only at hSw); go_simp; try with_reducible rfl)
      try simp only [Act.put, List.getElem_toArray, List.getElem_cons_zero, List.getElem_cons_succ, List.setIfInBounds_toArray, List.set_cons_zero, List.set_cons_succ]
      refine wpAnyH_take (i := 7) (oi := _) (v := ?_) rfl (by kernel_rfl) (by kernel_rfl) (by kernel_rfl) (fun _ _ _ h => h) (Or.inl ⟨by kernel_rfl, ?_⟩) hHeld ?_
      rotate_left 1
      focus (intro w' hSw; (try dsimp only at hSw); go_simp; try with_reducible rfl)
      try simp only [Act.put, List.getElem_toArray, List.getElem_cons_zero, List.getElem_cons_succ, List.setIfInBounds_toArray, List.set_cons_zero, List.set_cons_succ]
      refine wpAnyH_take (i := 8) (oi := _) (v := ?_) rfl (by kernel_rfl) (by kernel_rfl) (by kernel_rfl) (fun _ _ _ h => h) (Or.inl ⟨by kernel_rfl, ?_⟩) hHeld ?_
      rotate_left 1
      focus (intro w' hSw; (try dsimp only at hSw); go_simp; try with_reducible rfl)
      try simp only [Act.put, List.getElem_toArray, List.getElem_cons_zero, List.getElem_cons_succ, List.setIfInBounds_toArray, List.set_cons_zero, List.set_cons_succ]
      refine wpAnyH_take (i := 9) (oi := _) (v := ?_) rfl (by kernel_rfl) (by kernel_rfl) (by kernel_rfl) (fun _ _ _ h => h) (Or.inl ⟨by kernel_rfl, ?_⟩) hHeld ?_
      rotate_left 1
      focus (intro w' hSw; (try dsimp only at hSw); go_simp; try with_reducible rfl)
      try simp only [Act.put, List.getElem_toArray, List.getElem_cons_zero, List.getElem_cons_succ, List.setIfInBounds_toArray, List.set_cons_zero, List.set_cons_succ]
      refine wpAnyH_ready (rs := [2]) (by kernel_rfl) (by simp) ?_
      refine AllReadyH.cons (o := _) rfl (fun K hK => ?_) AllReadyH.nil
      go_simp
      go_at_call 21
      with_reducible refine (clash_any ⟨k, u, f, q, s, m, n, t⟩ ⟨k', u, f', q', s', m', n', t'⟩ _ (PartsIs.drew A12.out.parts) Y.out.1.1 Y.out.1.2 Y.out.2.1 Y.out.2.2).mono ?_
      rw [X1.out]
      rintro e w90 ⟨rfl, hb90⟩
      have A90 := hid (Boxed.on (Boxed.drew A12.out) hb90)
      have B90 := hid (Boxed.on (Boxed.drew B12.out) hb90)
      refine hK.out _ _ (by exact ⟨(cells8 A90.out.1).1, (cells8 B90.out.1).1⟩) (fun hHeld => ?_)
      clear hK K
      try simp only [Act.put, List.getElem_toArray, List.getElem_cons_zero, List.getElem_cons_succ, List.setIfInBounds_toArray, List.set_cons_zero, List.set_cons_succ]
      refine wpAnyH_take (i := 10) (oi := _) (v := ?_) rfl (by kernel_rfl) (by kernel_rfl) (by kernel_rfl) (fun _ _ _ h => h) (Or.inl ⟨by kernel_rfl, ?_⟩) hHeld ?_
      rotate_left 1
      focus (intro w' hSw; (try dsimp only at hSw); go_simp; try with_reducible rfl)
      try simp only [Act.put, List.getElem_toArray, List.getElem_cons_zero, List.getElem_cons_succ, List.setIfInBounds_toArray, List.set_cons_zero, List.set_cons_succ]
      refine wpAnyH_take (i := 11) (oi := _) (v := undef) rfl (by kernel_rfl) (by kernel_rfl) (by kernel_rfl) (fun _ _ _ h => h) (Or.inr ⟨by kernel_rfl, rfl⟩) hHeld ?_
      try simp only [Act.put, List.getElem_toArray, List.getElem_cons_zero, List.getElem_cons_succ, List.setIfInBounds_toArray, List.set_cons_zero, List.set_cons_succ]
      refine wpAnyH_take (i := 12) (oi := _) (v := undef) rfl (by kernel_rfl) (by kernel_rfl) (by kernel_rfl) (fun _ _ _ h => h) (Or.inr ⟨by kernel_rfl, rfl⟩) hHeld ?_
      try simp only [Act.put, List.getElem_toArray, List.getElem_cons_zero, List.getElem_cons_succ, List.setIfInBounds_toArray, List.set_cons_zero, List.set_cons_succ]
      refine wpAnyH_take (i := 13) (oi := _) (v := undef) rfl (by kernel_rfl) (by kernel_rfl) (by kernel_rfl) (fun _ _ _ h => h) (Or.inr ⟨by kernel_rfl, rfl⟩) hHeld ?_
      try simp only [Act.put, List.getElem_toArray, List.getElem_cons_zero, List.getElem_cons_succ, List.setIfInBounds_toArray, List.set_cons_zero, List.set_cons_succ]
      refine wpAnyH_take (i := 14) (oi := _) (v := undef) rfl (by kernel_rfl) (by kernel_rfl) (by kernel_rfl) (fun _ _ _ h => h) (Or.inr ⟨by kernel_rfl, rfl⟩) hHeld ?_
      try simp only [Act.put, List.getElem_toArray, List.getElem_cons_zero, List.getElem_cons_succ, List.setIfInBounds_toArray, List.set_cons_zero, List.set_cons_succ]
      refine wpAnyH_take (i := 15) (oi := _) (v := undef) rfl (by kernel_rfl) (by kernel_rfl) (by kernel_rfl) (fun _ _ _ h => h) (Or.inr ⟨by kernel_rfl, rfl⟩) hHeld ?_
      try simp only [Act.put, List.getElem_toArray, List.getElem_cons_zero, List.getElem_cons_succ, List.setIfInBounds_toArray, List.set_cons_zero, List.set_cons_succ]
      refine wpAnyH_take (i := 16) (oi := _) (v := undef) rfl (by kernel_rfl) (by kernel_rfl) (by kernel_rfl) (fun _ _ _ h => h) (Or.inr ⟨by kernel_rfl, rfl⟩) hHeld ?_
      try simp only [Act.put, List.getElem_toArray, List.getElem_cons_zero, List.getElem_cons_succ, List.setIfInBounds_toArray, List.set_cons_zero, List.set_cons_succ]
      refine wpAnyH_take (i := 17) (oi := _) (v := ?_) rfl (by kernel_rfl) (by kernel_rfl) (by kernel_rfl) (fun _ _ _ h => h) (Or.inl ⟨by kernel_rfl, ?_⟩) hHeld ?_
      rotate_left 1
      focus (intro w' hSw; (try dsimp only at hSw); go_simp; try with_reducible rfl)
      try simp only [Act.put, List.getElem_toArray, List.getElem_cons_zero, List.getElem_cons_succ, List.setIfInBounds_toArray, List.set_cons_zero, List.set_cons_succ]
      refine wpAnyH_take (i := 18) (oi := _) (v := ?_) rfl (by kernel_rfl) (by kernel_rfl) (by kernel_rfl) (fun _ _ _ h => h) (Or.inl ⟨by kernel_rfl, ?_⟩) hHeld ?_
      rotate_left 1
      focus (intro w' hSw; (try dsimp only at hSw); go_simp; try with_reducible rfl)
      try simp only [Act.put, List.getElem_toArray, List.getElem_cons_zero, List.getElem_cons_succ, List.setIfInBounds_toArray, List.set_cons_zero, List.set_cons_succ]
      refine wpAnyH_take (i := 19) (oi := _) (v := ?_) rfl (by kernel_rfl) (by kernel_rfl) (by kernel_rfl) (fun _ _ _ h => h) (Or.inl ⟨by kernel_rfl, ?_⟩) hHeld ?_
      rotate_left 1
      focus (intro w' hSw; (try dsimp only at hSw); go_simp; try with_reducible rfl)
      try simp only [Act.put, List.getElem_toArray, List.getElem_cons_zero, List.getElem_cons_succ, List.setIfInBounds_toArray, List.set_cons_zero, List.set_cons_succ]
      refine wpAnyH_done (by kernel_rfl) ?_ _
      clear hHeld
      go_wp2
      go_ret
      exact ⟨rfl, A90.out.below⟩

theorem walk (c d : K) (hok : okK c) (hok' : okK d) (w : World) (hP : PartsIs w) :
    Calls Tryd.prog 7 #[val c, val d] w fun e w' => e = .returned (.bool true) ∧ Below w.heap.size w w' :=
  walk_k c.kind c.num c.foot c.req c.path c.mode c.n c.time d.kind d.num d.foot d.req d.path d.mode d.n d.time w hok hok' hP

end Go.Proofs.YtfdphcgfdodnoaaDoor.clashSessions
