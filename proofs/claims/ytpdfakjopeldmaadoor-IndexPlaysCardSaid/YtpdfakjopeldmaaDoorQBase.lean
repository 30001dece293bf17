/-
  The contracts of package clash's Of, Clash and Key.Clash; of the law's small and of.
-/
import Derived.Test.YtpdfakjopeldmaaDoorKSmall
import Derived.Test.YtpdfakjopeldmaaDoorPAbove
import Derived.BigQuiet
namespace Go.Proofs.YtpdfakjopeldmaaDoor
open Go.ChangeShapes Go.WideShapes Go.ChangeAt Go.RowKit Go.Lib
set_option linter.unusedSimpArgs false
set_option linter.unusedVariables false

/-- A key, by value, and its cells. -/
abbrev keyV (f : ByteArray) (u : Int) : Value := .agg #[.string f, .int .u64 u]
abbrev keyC (f : ByteArray) (u : Int) : Array Value := #[.string f, .int .u64 u]
theorem cells2 {w : World} {g : Nat} {T : TypeId} {a b : Value} (h : Blk w g T #[a, b]) :
    (w.cell? ⟨g, 0, none⟩ = some a ∧ w.cell? ⟨g, 1, none⟩ = some b) ∧ w.frozen? ⟨g, 0, none⟩ = false ∧ w.frozen? ⟨g, 1, none⟩ = false :=
  ⟨⟨(h.cell 0).trans rfl, (h.cell 1).trans rfl⟩, h.frozen 0, h.frozen 1⟩
def keyF (c : K) : ByteArray := (footK c).1
def keyN (c : K) : Int := if (footK c).2 then c.num else 0
def keyed (c : K) : Bool := (footK c).2

set_option maxRecDepth 100000 in
set_option maxHeartbeats 1000000 in
theorem keyof_any (c : K) (w : World) (hP : PartsIs w) (hf : c.foot.size ≤ 281474976710656) (hp : c.path.size ≤ 281474976710656) :
    Calls Tryd.prog 32 #[val c] w fun e w' => e = .returned (.tuple #[keyV (keyF c) (keyN c), .bool (keyed c)]) ∧ Below w.heap.size w w' := by
  obtain ⟨F, hF⟩ : ∃ F, (footK c).1 = F := ⟨_, rfl⟩
  obtain ⟨B, hB⟩ : ∃ B, (footK c).2 = B := ⟨_, rfl⟩
  have hE : B = false → F = ⟨#[]⟩ := by
    intro h
    rw [← hF]
    rw [h] at hB
    unfold footK at hB ⊢
    split at hB
    · cases hB
    · rename_i h; rw [if_neg h]
  have HF := hid hF
  have HB := hid hB
  unfold keyF keyN keyed
  rw [hF, hB]
  clear hF hB
  obtain ⟨k, u, f, q, s, m, n, t⟩ := c
  simp only at hf hp
  have A0 := hid ((Boxed.start hP ⟨k, u, f, q, s, m, n, t⟩).alloc (.cells (keyC ⟨#[]⟩ 0) 37))
  have R0 : Hid (Blk ((w.alloc (.cells (cellsOf ⟨k, u, f, q, s, m, n, t⟩) 27)).alloc (.cells (keyC ⟨#[]⟩ 0) 37)) (w.heap.size + 1) 37 (keyC ⟨#[]⟩ 0)) := hid (by have h := Blk.new (w.alloc (.cells (cellsOf ⟨k, u, f, q, s, m, n, t⟩) 27)) 37 (keyC ⟨#[]⟩ 0); simpa using h)
  clear hP
  go_enter Tryd.func32, Tryd.ntmps32
  obtain ⟨⟨c0, c1, c2, c3, c4, c5, c6, c7⟩, f0, f1, f2, f3, f4, f5, f6, f7⟩ := cells8 A0.out.1
  go_wp2_with fail
  with_reducible refine (foot_any ⟨k, u, f, q, s, m, n, t⟩ _ A0.out.parts hf hp).mono ?_
  rw [HF.out, HB.out]
  rintro e w1 ⟨rfl, hb⟩
  have A1 := hid (A0.out.on hb)
  have R1 := hid (R0.out.below hb R0.out.lt)
  clear hb A0 R0
  clear c0 c1 c2 c3 c4 c5 c6 c7 f0 f1 f2 f3 f4 f5 f6 f7
  obtain ⟨⟨c0, c1, c2, c3, c4, c5, c6, c7⟩, f0, f1, f2, f3, f4, f5, f6, f7⟩ := cells8 A1.out.1
  obtain ⟨⟨d0, d1⟩, g0, g1⟩ := cells2 R1.out
  cases B
  · obtain rfl := hE rfl
    have G := hid ((A1.out.far (p := ⟨w.heap.size + 1, 0, none⟩) (by simp) (by simp) (.string ⟨#[]⟩)).far (p := ⟨w.heap.size + 1, 1, none⟩) (by simp) (by simp) (.int .u64 0)).below
    have R2 := hid ((R1.out.set_ 0 (.string ⟨#[]⟩)).set_ 1 (.int .u64 0))
    go_wp2
    obtain ⟨⟨e0, e1⟩, i0, i1⟩ := cells2 R2.out
    refine bodyPost_ret (v := .tuple #[keyV ⟨#[]⟩ 0, .bool false]) (by simp [results, Tryd.results32, go_sem, d0, d1, e0, e1]) rfl ⟨rfl, G.out⟩
  · have G := hid ((A1.out.far (p := ⟨w.heap.size + 1, 0, none⟩) (by simp) (by simp) (.string F)).far (p := ⟨w.heap.size + 1, 1, none⟩) (by simp) (by simp) (.int .u64 u)).below
    have R2 := hid ((R1.out.set_ 0 (.string F)).set_ 1 (.int .u64 u))
    go_wp2
    obtain ⟨⟨e0, e1⟩, i0, i1⟩ := cells2 R2.out
    refine bodyPost_ret (v := .tuple #[keyV F u, .bool true]) (by simp [results, Tryd.results32, go_sem, e0, e1]) rfl ⟨rfl, G.out⟩

/-- Two keys interfere. -/
def clashF (f : ByteArray) (u : Int) (g : ByteArray) (v : Int) : Bool := (u == v) || overlap (L f) (L g)

set_option maxRecDepth 100000 in
set_option maxHeartbeats 1000000 in
theorem keyclash_any (f : ByteArray) (u : Int) (g : ByteArray) (v : Int) (w : World) (hf : f.size ≤ 4611686018427387903) (hg : g.size ≤ 4611686018427387903) :
    Calls Tryd.prog 39 #[keyV f u, keyV g v] w fun e w' => e = .returned (.bool (clashF f u g v)) ∧ Below w.heap.size w w' := by
  obtain ⟨x, hx⟩ : ∃ x, (u == v) = x := ⟨_, rfl⟩
  obtain ⟨y, hy⟩ : ∃ y, overlap (L f) (L g) = y := ⟨_, rfl⟩
  have HY := hid hy
  have E : Hid (clashF f u g v = (x || y)) := hid (by unfold clashF; rw [hx, hy])
  have B0 := hid (((Below.refl w.heap.size w).alloc (Nat.le_refl _) (.cells (keyC f u) 37)).alloc (by simp) (.cells (keyC g v) 37))
  clear hy
  go_enter Tryd.func39, Tryd.ntmps39
  cases x
  · go_wp2_with fail
    with_reducible refine (overlap_any f g _ hf hg).mono ?_
    rw [HY.out]
    rintro e w1 ⟨rfl, hb⟩
    have B1 := hid (B0.out.trans (hb.mono B0.out.size))
    clear hb B0
    go_wp2
    go_ret
    exact ⟨ret_bool (by rw [E.out]; simp), B1.out⟩
  · go_wp2
    go_ret
    exact ⟨ret_bool (by rw [E.out]; simp), B0.out⟩

/-- Two commands interfere. -/
def clashK (c d : K) : Bool := keyed c && keyed d && clashF (keyF c) (keyN c) (keyF d) (keyN d)
theorem keyF_size (c : K) (n : Nat) (hf : c.foot.size ≤ n) (hp : c.path.size ≤ n) : (keyF c).size ≤ n := by
  unfold keyF footK
  split
  · dsimp only; split <;> assumption
  · exact Nat.zero_le _

set_option maxRecDepth 100000 in
set_option maxHeartbeats 2000000 in
theorem clash_any (c d : K) (w : World) (hP : PartsIs w) (hf : c.foot.size ≤ 281474976710656) (hp : c.path.size ≤ 281474976710656) (hf' : d.foot.size ≤ 281474976710656) (hp' : d.path.size ≤ 281474976710656) :
    Calls Tryd.prog 18 #[val c, val d] w fun e w' => e = .returned (.bool (clashK c d)) ∧ Below w.heap.size w w' := by
  have z1 := keyF_size c 281474976710656 hf hp
  have z2 := keyF_size d 281474976710656 hf' hp'
  obtain ⟨F, hF⟩ : ∃ F, keyF c = F := ⟨_, rfl⟩
  obtain ⟨F', hF'⟩ : ∃ F, keyF d = F := ⟨_, rfl⟩
  obtain ⟨U, hU⟩ : ∃ F, keyN c = F := ⟨_, rfl⟩
  obtain ⟨U', hU'⟩ : ∃ F, keyN d = F := ⟨_, rfl⟩
  obtain ⟨B, hB⟩ : ∃ B, keyed c = B := ⟨_, rfl⟩
  obtain ⟨B', hB'⟩ : ∃ B, keyed d = B := ⟨_, rfl⟩
  obtain ⟨x, hx⟩ : ∃ B, clashF F U F' U' = B := ⟨_, rfl⟩
  have E : Hid (clashK c d = (B && B' && x)) := hid (by unfold clashK; rw [hF, hF', hU, hU', hB, hB', hx])
  rw [hF] at z1
  rw [hF'] at z2
  have z3 : F.size ≤ 4611686018427387903 := by omega
  have z4 : F'.size ≤ 4611686018427387903 := by omega
  rw [E.out]
  have KO1 := hid (fun w h => keyof_any c w h hf hp)
  have KO2 := hid (fun w h => keyof_any d w h hf' hp')
  have KC := hid (fun w => keyclash_any F U F' U' w z3 z4)
  rw [hF, hU, hB] at KO1
  rw [hF', hU', hB'] at KO2
  rw [hx] at KC
  clear z1 z2 z3 z4 hF hF' hU hU' hB hB' hx hf hf' hp hp' E
  obtain ⟨k, u, f, q, s, m, n, t⟩ := c
  obtain ⟨k', u', f', q', s', m', n', t'⟩ := d
  have A0 := hid ((Boxed.start hP ⟨k, u, f, q, s, m, n, t⟩).alloc (.cells (cellsOf ⟨k', u', f', q', s', m', n', t'⟩) 27))
  have C0 : Hid (Boxed w ((w.alloc (.cells (cellsOf ⟨k, u, f, q, s, m, n, t⟩) 27)).alloc (.cells (cellsOf ⟨k', u', f', q', s', m', n', t'⟩) 27)) (w.heap.size + 1) ⟨k', u', f', q', s', m', n', t'⟩) := hid ⟨by have h := Blk.new (w.alloc (.cells (cellsOf ⟨k, u, f, q, s, m, n, t⟩) 27)) 27 (cellsOf ⟨k', u', f', q', s', m', n', t'⟩); simpa using h, by omega, A0.out.below, hP⟩
  clear hP
  go_enter Tryd.func18, Tryd.ntmps18
  obtain ⟨⟨c0, c1, c2, c3, c4, c5, c6, c7⟩, f0, f1, f2, f3, f4, f5, f6, f7⟩ := cells8 A0.out.1
  go_wp2_with fail
  with_reducible refine (KO1.out _ A0.out.parts).mono ?_
  rintro e w1 ⟨rfl, hb⟩
  have A1 := hid (A0.out.on hb)
  have C1 := hid (C0.out.on hb)
  clear hb A0 C0
  clear c0 c1 c2 c3 c4 c5 c6 c7 f0 f1 f2 f3 f4 f5 f6 f7
  have K1 := hid (Blk.new w1 37 (keyC F U))
  have A2 := hid (A1.out.alloc (.cells (keyC F U) 37))
  have C2 := hid (C1.out.alloc (.cells (keyC F U) 37))
  clear A1 C1
  obtain ⟨⟨c0, c1, c2, c3, c4, c5, c6, c7⟩, f0, f1, f2, f3, f4, f5, f6, f7⟩ := cells8 C2.out.1
  go_wp2_with fail
  with_reducible refine (KO2.out _ A2.out.parts).mono ?_
  rintro e w2 ⟨rfl, hb⟩
  have A3 := hid ((A2.out.on hb).alloc (.cells (keyC F' U') 37))
  have K2 := hid ((K1.out.below hb K1.out.lt).alloc (.cells (keyC F' U') 37))
  have J2 := hid (Blk.new w2 37 (keyC F' U'))
  clear hb A2 C2 K1
  clear c0 c1 c2 c3 c4 c5 c6 c7 f0 f1 f2 f3 f4 f5 f6 f7
  obtain ⟨⟨d0, d1⟩, g0, g1⟩ := cells2 K2.out
  obtain ⟨⟨e0, e1⟩, i0, i1⟩ := cells2 J2.out
  cases B
  · go_wp2
    go_ret
    exact ⟨rfl, A3.out.below⟩
  cases B'
  · go_wp2
    go_ret
    exact ⟨rfl, A3.out.below⟩
  go_wp2_with fail
  with_reducible refine (KC.out _).mono ?_
  rintro e w3 ⟨rfl, hb⟩
  have A4 := hid (A3.out.on hb)
  clear hb A3
  go_wp2
  go_ret
  exact ⟨rfl, A4.out.below⟩

end Go.Proofs.YtpdfakjopeldmaaDoor
