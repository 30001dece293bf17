/-
  The law's small and of; the document's table of kinds; Client and Foot (package cmd).
-/
import Derived.Test.YtpdfakjopeldmaaGreatDoorKRight
namespace Go.Proofs.YtpdfakjopeldmaaGreatDoor
open Go.ChangeShapes Go.WideShapes Go.ChangeAt Go.RowKit Go.Lib

def smallK (c : K) : Bool := decide (c.path.size < 200) && decide (c.foot.size < 200)

set_option maxHeartbeats 400000 in
theorem sclone_any (s : ByteArray) (w : World) (hs : s.size ≤ 281474976710656) : Calls Tryz.prog 23 #[.string s] w (Asks (.string s) w) := by
  go_enter Tryz.func23, Tryz.ntmps23
  go_wp2_with fail
  refine (Tryz.stringslite_Clone s _ hs).mono ?_
  rintro e w1 ⟨rfl, hb⟩
  have HB := hid hb
  clear hb
  go_wp2
  go_ret
  exact ⟨rfl, HB.out⟩

/-- A command's footprint. -/
def footK (c : K) : ByteArray × Bool := if rightK c && h0 c.kind then (if h2 c.kind then c.path else c.foot, true) else (⟨#[]⟩, false)

set_option maxRecDepth 100000 in
set_option maxHeartbeats 1000000 in
theorem foot_any (c : K) (w : World) (hP : PartsIs w) (hf : c.foot.size ≤ 281474976710656) (hp : c.path.size ≤ 281474976710656) :
    Calls Tryz.prog 62 #[val c] w fun e w' => e = .returned (.tuple #[.string (footK c).1, .bool (footK c).2]) ∧ Below w.heap.size w w' := by
  obtain ⟨k, u, f, q, s, m, n, t⟩ := c
  simp only at hf hp
  obtain ⟨x, hx⟩ : ∃ x, rightK ⟨k, u, f, q, s, m, n, t⟩ = x := ⟨_, rfl⟩
  obtain ⟨y, hy⟩ : ∃ x, h0 k = x := ⟨_, rfl⟩
  obtain ⟨z, hz⟩ : ∃ x, h2 k = x := ⟨_, rfl⟩
  have X := hid hx
  have Y := hid hy
  have Z := hid hz
  have A0 := hid (Boxed.start hP ⟨k, u, f, q, s, m, n, t⟩)
  have HE : Hid (footK ⟨k, u, f, q, s, m, n, t⟩ = if x && y then (if z then s else f, true) else (⟨#[]⟩, false)) := hid (by unfold footK; rw [hx, hy, hz])
  rw [HE.out]
  have hf' : f.size ≤ 4611686018427387903 := by omega
  have hp' : s.size ≤ 4611686018427387903 := by omega
  clear hx hy hz hP HE
  cases x
  · go_enter Tryz.func62, Tryz.ntmps62
    go_wp2_with fail
    with_reducible refine (cmdright_any ⟨k, u, f, q, s, m, n, t⟩ _ A0.out.parts hf' hp').mono ?_
    rw [X.out]
    rintro e w1 ⟨rfl, hb⟩
    have A1 := hid (A0.out.on hb)
    clear hb A0
    go_wp2
    go_ret2
    exact ⟨rfl, A1.out.below⟩
  · go_enter Tryz.func62, Tryz.ntmps62
    go_wp2_with fail
    with_reducible refine (cmdright_any ⟨k, u, f, q, s, m, n, t⟩ _ A0.out.parts hf' hp').mono ?_
    rw [X.out]
    rintro e w1 ⟨rfl, hb⟩
    have A1 := hid (A0.out.on hb)
    clear hb A0
    obtain ⟨⟨c0, c1, c2, c3, c4, c5, c6, c7⟩, f0, f1, f2, f3, f4, f5, f6, f7⟩ := cells8 A1.out.1
    go_wp2_with fail
    with_reducible refine (has_0 ⟨k, u, f, q, s, m, n, t⟩ y _ Y.out A1.out.parts).mono ?_
    rintro e w2 ⟨rfl, hb⟩
    have A2 := hid (A1.out.on hb)
    clear hb A1 c0 c1 c2 c3 c4 c5 c6 c7 f0 f1 f2 f3 f4 f5 f6 f7
    obtain ⟨⟨c0, c1, c2, c3, c4, c5, c6, c7⟩, f0, f1, f2, f3, f4, f5, f6, f7⟩ := cells8 A2.out.1
    cases y
    · go_wp2
      go_ret2
      exact ⟨rfl, A2.out.below⟩
    · go_wp2_with fail
      with_reducible refine (has_2 ⟨k, u, f, q, s, m, n, t⟩ z _ Z.out A2.out.parts).mono ?_
      rintro e w3 ⟨rfl, hb⟩
      have A3 := hid (A2.out.on hb)
      clear hb A2 c0 c1 c2 c3 c4 c5 c6 c7 f0 f1 f2 f3 f4 f5 f6 f7
      obtain ⟨⟨c0, c1, c2, c3, c4, c5, c6, c7⟩, f0, f1, f2, f3, f4, f5, f6, f7⟩ := cells8 A3.out.1
      cases z
      · go_wp2_with fail
        with_reducible refine (sclone_any f _ hf).mono ?_
        rintro e w4 ⟨rfl, hb⟩
        have A4 := hid (A3.out.on hb)
        clear hb A3
        go_wp2
        go_ret2
        exact ⟨rfl, A4.out.below⟩
      · go_wp2_with fail
        with_reducible refine (sclone_any s _ hp).mono ?_
        rintro e w4 ⟨rfl, hb⟩
        have A4 := hid (A3.out.on hb)
        clear hb A3
        go_wp2
        go_ret2
        exact ⟨rfl, A4.out.below⟩

end Go.Proofs.YtpdfakjopeldmaaGreatDoor
