/-
  The contracts of package clash's Of, Clash and Key.Clash; of the law's small and of.
-/
import Derived.Test.YtpdfakjopeldmaaGreatDoorKSmall
import Derived.Test.YtpdfakjopeldmaaGreatDoorPAbove
import Derived.BigQuiet
namespace Go.Proofs.YtpdfakjopeldmaaGreatDoor
open Go.ChangeShapes Go.WideShapes Go.ChangeAt Go.RowKit Go.Lib
set_option linter.unusedSimpArgs false
set_option linter.unusedVariables false

/-- A key, by value, and its cells. -/
abbrev keyV (f : ByteArray) (u : Int) : Value := .agg #[.string f, .int .u64 u]
abbrev keyC (f : ByteArray) (u : Int) : Array Value := #[.string f, .int .u64 u]
theorem cells2 {w : World} {g : Nat} {T : TypeId} {a b : Value} (h : Blk w g T #[a, b]) :
    (w.cell? ⟨g, 0, none⟩ = some a ∧ w.cell? ⟨g, 1, none⟩ = some b) ∧ w.frozen? ⟨g, 0, none⟩ = false ∧ w.frozen? ⟨g, 1, none⟩ = false :=
  ⟨⟨(h.cell 0).trans rfl, (h.cell 1).trans rfl⟩, h.frozen 0, h.frozen 1⟩
def keyF (c : K) : ByteArray := (footK c).1
def keyN (c : K) : Int := if (footK c).2 then c.num else 0
def keyed (c : K) : Bool := (footK c).2

set_option maxRecDepth 100000 in
set_option maxHeartbeats 1000000 in
theorem keyof_any (c : K) (w : World) (hP : PartsIs w) (hf : c.foot.size ≤ 281474976710656) (hp : c.path.size ≤ 281474976710656) :
    Calls Tryz.prog 39 #[val c] w fun e w' => e = .returned (.tuple #[keyV (keyF c) (keyN c), .bool (keyed c)]) ∧ Below w.heap.size w w' := by
  obtain ⟨F, hF⟩ : ∃ F, (footK c).1 = F := ⟨_, rfl⟩
  obtain ⟨B, hB⟩ : ∃ B, (footK c).2 = B := ⟨_, rfl⟩
  have hE : B = false → F = ⟨#[]⟩ := by
    intro h
    rw [← hF]
    rw [h] at hB
    unfold footK at hB ⊢
    split at hB
    · cases hB
    · rename_i h; rw [if_neg h]
  have HF := hid hF
  have HB := hid hB
  unfold keyF keyN keyed
  rw [hF, hB]
  clear hF hB
  obtain ⟨k, u, f, q, s, m, n, t⟩ := c
  simp only at hf hp
  have A0 := hid ((Boxed.start hP ⟨k, u, f, q, s, m, n, t⟩).alloc (.cells (keyC ⟨#[]⟩ 0) 36))
  have R0 : Hid (Blk ((w.alloc (.cells (cellsOf ⟨k, u, f, q, s, m, n, t⟩) 27)).alloc (.cells (keyC ⟨#[]⟩ 0) 36)) (w.heap.size + 1) 36 (keyC ⟨#[]⟩ 0)) := hid (by have h := Blk.new (w.alloc (.cells (cellsOf ⟨k, u, f, q, s, m, n, t⟩) 27)) 36 (keyC ⟨#[]⟩ 0); simpa using h)
  clear hP
  go_enter Tryz.func39, Tryz.ntmps39
  obtain ⟨⟨c0, c1, c2, c3, c4, c5, c6, c7⟩, f0, f1, f2, f3, f4, f5, f6, f7⟩ := cells8 A0.out.1
  go_wp2_with fail
  with_reducible refine (foot_any ⟨k, u, f, q, s, m, n, t⟩ _ A0.out.parts hf hp).mono ?_
  rw [HF.out, HB.out]
  rintro e w1 ⟨rfl, hb⟩
  have A1 := hid (A0.out.on hb)
  have R1 := hid (R0.out.below hb R0.out.lt)
  clear hb A0 R0
  clear c0 c1 c2 c3 c4 c5 c6 c7 f0 f1 f2 f3 f4 f5 f6 f7
  obtain ⟨⟨c0, c1, c2, c3, c4, c5, c6, c7⟩, f0, f1, f2, f3, f4, f5, f6, f7⟩ := cells8 A1.out.1
  obtain ⟨⟨d0, d1⟩, g0, g1⟩ := cells2 R1.out
  cases B
  · obtain rfl := hE rfl
    have G := hid ((A1.out.far (p := ⟨w.heap.size + 1, 0, none⟩) (by simp) (by simp) (.string ⟨#[]⟩)).far (p := ⟨w.heap.size + 1, 1, none⟩) (by simp) (by simp) (.int .u64 0)).below
    have R2 := hid ((R1.out.set_ 0 (.string ⟨#[]⟩)).set_ 1 (.int .u64 0))
    go_wp2
    obtain ⟨⟨e0, e1⟩, i0, i1⟩ := cells2 R2.out
    refine bodyPost_ret (v := .tuple #[keyV ⟨#[]⟩ 0, .bool false]) (by simp [results, Tryz.results39, go_sem, d0, d1, e0, e1]) rfl ⟨rfl, G.out⟩
  · have G := hid ((A1.out.far (p := ⟨w.heap.size + 1, 0, none⟩) (by simp) (by simp) (.string F)).far (p := ⟨w.heap.size + 1, 1, none⟩) (by simp) (by simp) (.int .u64 u)).below
    have R2 := hid ((R1.out.set_ 0 (.string F)).set_ 1 (.int .u64 u))
    go_wp2
    obtain ⟨⟨e0, e1⟩, i0, i1⟩ := cells2 R2.out
    refine bodyPost_ret (v := .tuple #[keyV F u, .bool true]) (by simp [results, Tryz.results39, go_sem, e0, e1]) rfl ⟨rfl, G.out⟩

/-- Two keys interfere. -/
def clashF (f : ByteArray) (u : Int) (g : ByteArray) (v : Int) : Bool := (u == v) || overlap (L f) (L g)

set_option maxRecDepth 100000 in
set_option maxHeartbeats 1000000 in
theorem keyclash_any (f : ByteArray) (u : Int) (g : ByteArray) (v : Int) (w : World) (hf : f.size ≤ 4611686018427387903) (hg : g.size ≤ 4611686018427387903) :
    Calls Tryz.prog 64 #[keyV f u, keyV g v] w fun e w' => e = .returned (.bool (clashF f u g v)) ∧ Below w.heap.size w w' := by
  obtain ⟨x, hx⟩ : ∃ x, (u == v) = x := ⟨_, rfl⟩
  obtain ⟨y, hy⟩ : ∃ y, overlap (L f) (L g) = y := ⟨_, rfl⟩
  have HY := hid hy
  have E : Hid (clashF f u g v = (x || y)) := hid (by unfold clashF; rw [hx, hy])
  have B0 := hid (((Below.refl w.heap.size w).alloc (Nat.le_refl _) (.cells (keyC f u) 36)).alloc (by simp) (.cells (keyC g v) 36))
  clear hy
  go_enter Tryz.func64, Tryz.ntmps64
  cases x
  · go_wp2_with fail
    with_reducible refine (overlap_any f g _ hf hg).mono ?_
    rw [HY.out]
    rintro e w1 ⟨rfl, hb⟩
    have B1 := hid (B0.out.trans (hb.mono B0.out.size))
    clear hb B0
    go_wp2
    go_ret
    exact ⟨ret_bool (by rw [E.out]; simp), B1.out⟩
  · go_wp2
    go_ret
    exact ⟨ret_bool (by rw [E.out]; simp), B0.out⟩

/-- Two commands interfere. -/
def clashK (c d : K) : Bool := keyed c && keyed d && clashF (keyF c) (keyN c) (keyF d) (keyN d)
theorem keyF_size (c : K) (n : Nat) (hf : c.foot.size ≤ n) (hp : c.path.size ≤ n) : (keyF c).size ≤ n := by
  unfold keyF footK
  split
  · dsimp only; split <;> assumption
  · exact Nat.zero_le _

end Go.Proofs.YtpdfakjopeldmaaGreatDoor
