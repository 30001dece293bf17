/-
  The contracts of the document's Overlap and Clash (moothillref04, moothillref08), and of the law's anchor.
-/
import Derived.Test.YtfdphcgfdodnoaaDoorQBase
import Derived.Test.YtfdphcgfdodnoaaDoorKRef
import Derived.Test.YtfdphcgfdodnoaaDoorPRefA
namespace Go.Proofs.YtfdphcgfdodnoaaDoor
open Go.ChangeShapes Go.WideShapes Go.ChangeAt Go.RowKit Go.Lib
set_option linter.unusedSimpArgs false
set_option linter.unusedVariables false

set_option maxHeartbeats 1000000 in
theorem refoverlap_any (p q : ByteArray) (w : World) (hp : p.size ≤ 900) (hq : q.size ≤ 900) : Calls Tryd.prog 24 #[.string p, .string q] w (Asks (.bool (overlap (L p) (L q))) w) := by
  obtain ⟨x, hx⟩ : ∃ x, above (L p) (L q) = x := ⟨_, rfl⟩
  obtain ⟨y, hy⟩ : ∃ x, above (L q) (L p) = x := ⟨_, rfl⟩
  have X := hid hx
  have Y := hid hy
  have E : Hid (overlap (L p) (L q) = (x || y)) := hid (by unfold overlap; rw [hx, hy])
  rw [E.out]
  clear hx hy E
  go_enter Tryd.func24, Tryd.ntmps24
  go_wp2_with fail
  with_reducible refine (refabove_any p q _ hp hq).mono ?_
  rw [X.out]
  rintro e w1 ⟨rfl, hb⟩
  have B1 := hid hb
  clear hb
  cases x
  · go_wp2_with fail
    with_reducible refine (refabove_any q p _ hq hp).mono ?_
    rw [Y.out]
    rintro e w2 ⟨rfl, hb⟩
    have B2 := hid (B1.out.trans (hb.mono B1.out.size))
    clear hb B1
    go_wp2
    go_ret
    exact ⟨ret_bool (by simp), B2.out⟩
  · go_wp2
    go_ret
    exact ⟨ret_bool (by simp), B1.out⟩

theorem clashF_off (c d : K) (h1 : keyed c = true) (h2 : keyed d = true) : clashK c d = ((c.num == d.num) || overlap (L (keyF c)) (L (keyF d))) := by
  have e1 : keyN c = c.num := by unfold keyN; unfold keyed at h1; rw [h1]; rfl
  have e2 : keyN d = d.num := by unfold keyN; unfold keyed at h2; rw [h2]; rfl
  unfold clashK clashF
  rw [h1, h2, e1, e2]
  rfl
theorem overlap_comm (p q : List UInt8) : overlap p q = overlap q p := by unfold overlap; exact Bool.or_comm _ _
theorem clashK_comm (c d : K) : clashK c d = clashK d c := by
  unfold clashK clashF
  rw [overlap_comm, Bool.and_comm (keyed c), show (keyN c == keyN d) = (keyN d == keyN c) by rw [Bool.eq_iff_iff]; simp; exact eq_comm]
theorem clashK_self (c : K) : clashK c c = keyed c := by
  unfold clashK clashF
  simp
theorem keyed_eq (c : K) : keyed c = (rightK c && (c.kind != 0)) := by
  unfold keyed footK
  cases hr : rightK c
  · simp
  · have hk := right_kind hr
    have : h0 c.kind = (c.kind != 0) := by
      have : c.kind = 0 ∨ c.kind = 1 ∨ c.kind = 2 ∨ c.kind = 3 ∨ c.kind = 4 ∨ c.kind = 5 ∨ c.kind = 6 ∨ c.kind = 7 ∨ c.kind = 8 := by omega
      rcases this with h | h | h | h | h | h | h | h | h <;> rw [h] <;> rfl
    rw [this]
    cases (c.kind != 0) <;> rfl

set_option maxRecDepth 100000 in
set_option maxHeartbeats 2000000 in
theorem refclash_any (c d : K) (w : World) (ho : okK c) (ho' : okK d) (hf : c.foot.size ≤ 900) (hp : c.path.size ≤ 900) (hf' : d.foot.size ≤ 900) (hp' : d.path.size ≤ 900) :
    Calls Tryd.prog 18 #[val c, val d] w fun e w' => e = .returned (.bool (clashK c d)) ∧ Below w.heap.size w w' := by
  have z1 := keyF_size c 900 hf hp
  have z2 := keyF_size d 900 hf' hp'
  obtain ⟨x, hx⟩ : ∃ x, (c.num == d.num) = x := ⟨_, rfl⟩
  have hE : keyed c = true → keyed d = true → clashK c d = (x || overlap (L (keyF c)) (L (keyF d))) := fun h1 h2 => by rw [clashF_off c d h1 h2, hx]
  have hN1 : keyed c = false → clashK c d = false := fun h => by unfold clashK; rw [h]; rfl
  have hN2 : keyed d = false → clashK c d = false := fun h => by unfold clashK; rw [h]; simp
  obtain ⟨F, hF⟩ : ∃ F, keyF c = F := ⟨_, rfl⟩
  obtain ⟨F', hF'⟩ : ∃ F, keyF d = F := ⟨_, rfl⟩
  obtain ⟨B, hB⟩ : ∃ B, keyed c = B := ⟨_, rfl⟩
  obtain ⟨B', hB'⟩ : ∃ B, keyed d = B := ⟨_, rfl⟩
  obtain ⟨y, hy⟩ : ∃ B, overlap (L F) (L F') = B := ⟨_, rfl⟩
  obtain ⟨z, hz⟩ : ∃ B, clashK c d = B := ⟨_, rfl⟩
  rw [hF, hF', hB, hB', hy, hz] at hE
  rw [hB, hz] at hN1
  rw [hB', hz] at hN2
  rw [hz]
  rw [hF] at z1
  rw [hF'] at z2
  have KO1 := hid (fun w => refoot_any c w ho hf hp)
  have KO2 := hid (fun w => refoot_any d w ho' hf' hp')
  have KV := hid (fun w => refoverlap_any F F' w z1 z2)
  have e1 : (footK c).1 = F := hF
  have e2 : (footK c).2 = B := hB
  have e3 : (footK d).1 = F' := hF'
  have e4 : (footK d).2 = B' := hB'
  rw [e1, e2] at KO1
  rw [e3, e4] at KO2
  rw [hy] at KV
  have HE := hid hE
  have HN1 := hid hN1
  have HN2 := hid hN2
  clear hE hN1 hN2 z1 z2 hF hF' hB hB' hy hz e1 e2 e3 e4 hf hp hf' hp' ho ho'
  obtain ⟨k, u, f, q, s, m, n, t⟩ := c
  obtain ⟨k', u', f', q', s', m', n', t'⟩ := d
  have A0 := hid ((BoxedC.start w ⟨k, u, f, q, s, m, n, t⟩).alloc (.cells (cellsOf ⟨k', u', f', q', s', m', n', t'⟩) 33))
  have C0 : Hid (BoxedC w ((w.alloc (.cells (cellsOf ⟨k, u, f, q, s, m, n, t⟩) 33)).alloc (.cells (cellsOf ⟨k', u', f', q', s', m', n', t'⟩) 33)) (w.heap.size + 1) ⟨k', u', f', q', s', m', n', t'⟩) := hid ⟨by have h := Blk.new (w.alloc (.cells (cellsOf ⟨k, u, f, q, s, m, n, t⟩) 33)) 33 (cellsOf ⟨k', u', f', q', s', m', n', t'⟩); simpa using h, by omega, A0.out.below⟩
  dsimp only at hx
  go_enter Tryd.func18, Tryd.ntmps18
  obtain ⟨⟨c0, c1, c2, c3, c4, c5, c6, c7⟩, f0, f1, f2, f3, f4, f5, f6, f7⟩ := cells8 A0.out.1
  go_wp2_with fail
  with_reducible refine (KO1.out _).mono ?_
  rintro e w1 ⟨rfl, hb⟩
  have A1 := hid (A0.out.on hb)
  have C1 := hid (C0.out.on hb)
  clear hb A0 C0
  clear c0 c1 c2 c3 c4 c5 c6 c7 f0 f1 f2 f3 f4 f5 f6 f7
  obtain ⟨⟨c0, c1, c2, c3, c4, c5, c6, c7⟩, f0, f1, f2, f3, f4, f5, f6, f7⟩ := cells8 C1.out.1
  go_wp2_with fail
  with_reducible refine (KO2.out _).mono ?_
  rintro e w2 ⟨rfl, hb⟩
  have A2 := hid (A1.out.on hb)
  have C2 := hid (C1.out.on hb)
  clear hb A1 C1
  clear c0 c1 c2 c3 c4 c5 c6 c7 f0 f1 f2 f3 f4 f5 f6 f7
  cases B
  · have hz := HN1.out rfl
    subst hz
    go_wp2
    go_ret
    exact ⟨rfl, A2.out.below⟩
  cases B'
  · have hz := HN2.out rfl
    subst hz
    go_wp2
    go_ret
    exact ⟨rfl, A2.out.below⟩
  have hz := HE.out rfl rfl
  subst hz
  obtain ⟨⟨c0, c1, c2, c3, c4, c5, c6, c7⟩, f0, f1, f2, f3, f4, f5, f6, f7⟩ := cells8 A2.out.1
  obtain ⟨⟨e0, e1, e2, e3, e4, e5, e6, e7⟩, g0, g1, g2, g3, g4, g5, g6, g7⟩ := cells8 C2.out.1
  cases x
  · go_wp2_with fail
    with_reducible refine (KV.out _).mono ?_
    rintro e w3 ⟨rfl, hb⟩
    have A3 := hid (A2.out.on hb)
    clear hb A2
    go_wp2
    go_ret
    exact ⟨ret_bool (by simp), A3.out.below⟩
  · go_wp2
    go_ret
    exact ⟨ret_bool (by simp), A2.out.below⟩

theorem anc1 : clashK ⟨2, 1, ⟨#[97]⟩, 1, ⟨#[]⟩, 0, 0, 0⟩ ⟨4, 2, ⟨#[97, 47, 98]⟩, 1, ⟨#[97, 47, 98]⟩, 2, 0, 0⟩ = true := by kernel_rfl
theorem anc2 : clashK ⟨4, 2, ⟨#[97, 47, 98]⟩, 1, ⟨#[97, 47, 98]⟩, 2, 0, 0⟩ ⟨2, 3, ⟨#[98]⟩, 1, ⟨#[]⟩, 0, 0, 0⟩ = false := by kernel_rfl

set_option maxRecDepth 100000 in
set_option maxHeartbeats 2000000 in
theorem anchor8 (w : World) (hP : PartsIs w) : Calls Tryd.prog 16 #[] w fun e w' => e = .returned (.bool true) ∧ Below w.heap.size w w' := by
  have A1 := hid (((Boxed.start hP ⟨2, 1, ⟨#[97]⟩, 1, ⟨#[]⟩, 0, 0, 0⟩).alloc (.cells (cellsOf ⟨4, 2, ⟨#[97, 47, 98]⟩, 1, ⟨#[97, 47, 98]⟩, 2, 0, 0⟩) 26)).alloc (.cells (cellsOf ⟨2, 3, ⟨#[98]⟩, 1, ⟨#[]⟩, 0, 0, 0⟩) 26))
  have B1 : Hid (Blk ((w.alloc (.cells (cellsOf ⟨2, 1, ⟨#[97]⟩, 1, ⟨#[]⟩, 0, 0, 0⟩) 26)).alloc (.cells (cellsOf ⟨4, 2, ⟨#[97, 47, 98]⟩, 1, ⟨#[97, 47, 98]⟩, 2, 0, 0⟩) 26)) (w.heap.size + 1) 26 (cellsOf ⟨4, 2, ⟨#[97, 47, 98]⟩, 1, ⟨#[97, 47, 98]⟩, 2, 0, 0⟩)) := hid (by have h := Blk.new (w.alloc (.cells (cellsOf ⟨2, 1, ⟨#[97]⟩, 1, ⟨#[]⟩, 0, 0, 0⟩) 26)) 26 (cellsOf ⟨4, 2, ⟨#[97, 47, 98]⟩, 1, ⟨#[97, 47, 98]⟩, 2, 0, 0⟩); simpa using h)
  have B2 := hid (B1.out.alloc (.cells (cellsOf ⟨2, 3, ⟨#[98]⟩, 1, ⟨#[]⟩, 0, 0, 0⟩) 26))
  have D2 : Hid (Blk (((w.alloc (.cells (cellsOf ⟨2, 1, ⟨#[97]⟩, 1, ⟨#[]⟩, 0, 0, 0⟩) 26)).alloc (.cells (cellsOf ⟨4, 2, ⟨#[97, 47, 98]⟩, 1, ⟨#[97, 47, 98]⟩, 2, 0, 0⟩) 26)).alloc (.cells (cellsOf ⟨2, 3, ⟨#[98]⟩, 1, ⟨#[]⟩, 0, 0, 0⟩) 26)) (w.heap.size + 1 + 1) 26 (cellsOf ⟨2, 3, ⟨#[98]⟩, 1, ⟨#[]⟩, 0, 0, 0⟩)) := hid (by have h := Blk.new ((w.alloc (.cells (cellsOf ⟨2, 1, ⟨#[97]⟩, 1, ⟨#[]⟩, 0, 0, 0⟩) 26)).alloc (.cells (cellsOf ⟨4, 2, ⟨#[97, 47, 98]⟩, 1, ⟨#[97, 47, 98]⟩, 2, 0, 0⟩) 26)) 26 (cellsOf ⟨2, 3, ⟨#[98]⟩, 1, ⟨#[]⟩, 0, 0, 0⟩); simpa using h)
  have N1 := hid anc1
  have N2 := hid anc2
  clear hP B1
  go_enter Tryd.func16, Tryd.ntmps16
  go_wp2_with fail
  with_reducible refine (clash_any ⟨2, 1, ⟨#[97]⟩, 1, ⟨#[]⟩, 0, 0, 0⟩ ⟨4, 2, ⟨#[97, 47, 98]⟩, 1, ⟨#[97, 47, 98]⟩, 2, 0, 0⟩ _ A1.out.parts (by decide) (by decide) (by decide) (by decide)).mono ?_
  rw [N1.out]
  rintro e w1 ⟨rfl, hb⟩
  have A2 := hid (A1.out.on hb)
  have B3 := hid (B2.out.below hb B2.out.lt)
  have D3 := hid (D2.out.below hb D2.out.lt)
  clear hb A1 B2 D2
  obtain ⟨⟨c0, c1, c2, c3, c4, c5, c6, c7⟩, f0, f1, f2, f3, f4, f5, f6, f7⟩ := cells8 B3.out
  obtain ⟨⟨e0, e1, e2, e3, e4, e5, e6, e7⟩, g0, g1, g2, g3, g4, g5, g6, g7⟩ := cells8 D3.out
  go_wp2_with fail
  with_reducible refine (clash_any ⟨4, 2, ⟨#[97, 47, 98]⟩, 1, ⟨#[97, 47, 98]⟩, 2, 0, 0⟩ ⟨2, 3, ⟨#[98]⟩, 1, ⟨#[]⟩, 0, 0, 0⟩ _ A2.out.parts (by decide) (by decide) (by decide) (by decide)).mono ?_
  rw [N2.out]
  rintro e w2 ⟨rfl, hb⟩
  have A3 := hid (A2.out.on hb)
  clear hb A2
  go_wp2
  go_ret
  exact ⟨rfl, A3.out.below⟩

end Go.Proofs.YtfdphcgfdodnoaaDoor
