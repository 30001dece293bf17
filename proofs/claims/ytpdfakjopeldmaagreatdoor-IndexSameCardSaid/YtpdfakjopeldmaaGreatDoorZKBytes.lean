/-
  The contracts of Put and Bytes (package cmd) of any command.
-/
import Derived.Test.YtpdfakjopeldmaaGreatDoorZKPut
namespace Go.Proofs.YtpdfakjopeldmaaGreatDoor
open Go.ChangeShapes Go.WideShapes Go.ChangeAt Go.RowKit Go.Lib
set_option linter.unusedVariables false

/-- What a right command tells of its parts. -/
theorem right_in (c : K) (ho : okK c) (hr : rightK c = true) : (0 ≤ c.kind ∧ c.kind ≤ 8) ∧ (0 ≤ c.mode ∧ c.mode ≤ 2) ∧ (0 ≤ c.time ∧ c.time ≤ 1099511627776) ∧ c.foot.size ≤ 64 ∧ c.path.size ≤ 64 := by
  unfold rightK at hr
  simp only [Bool.and_eq_true, decide_eq_true_eq] at hr
  obtain ⟨⟨hk, he⟩, hi⟩ := hr
  unfold isK at hk
  rw [decide_eq_true_eq] at hk
  have hl := (own_eq c).1 he
  unfold areIn at hi
  simp only [Bool.and_eq_true] at hi
  obtain ⟨⟨⟨⟨⟨i0, i1⟩, i2⟩, i3⟩, i4⟩, i5⟩ := hi
  unfold lacks at hl
  simp only [Bool.or_eq_false_iff, Bool.and_eq_false_iff, Bool.not_eq_false', decide_eq_false_iff_not, Decidable.not_not, L_nil, ne_eq] at hl
  obtain ⟨⟨⟨⟨⟨l0, l1⟩, l2⟩, l3⟩, l4⟩, l5⟩ := hl
  have size64 : ∀ s : ByteArray, right (L s) = true → s.size ≤ 64 := fun s h => by
    have := (right_iff.1 h).1
    rwa [L_length] at this
  refine ⟨by omega, ?_, ?_, ?_, ?_⟩
  · unfold in3 at i3
    simp only [Bool.or_eq_true, Bool.not_eq_true', decide_eq_true_eq] at i3
    rcases l3 with h | h
    · rcases i3 with g | g
      · rw [h] at g; cases g
      · omega
    · omega
  · unfold in5 at i5
    simp only [Bool.or_eq_true, Bool.not_eq_true', decide_eq_true_eq] at i5
    rcases l5 with h | h
    · rcases i5 with g | g
      · rw [h] at g; cases g
      · exact g
    · omega
  · unfold in0 at i0
    simp only [Bool.or_eq_true, Bool.not_eq_true'] at i0
    rcases l0 with h | h
    · rcases i0 with g | g
      · rw [h] at g; cases g
      · exact size64 _ g
    · rw [h.2]; decide
  · unfold in2 at i2
    simp only [Bool.or_eq_true, Bool.not_eq_true'] at i2
    rcases l2 with h | h
    · rcases i2 with g | g
      · rw [h] at g; cases g
      · exact size64 _ g
    · rw [h]; decide

abbrev noK : K := ⟨0, 0, ⟨#[]⟩, 0, ⟨#[]⟩, 0, 0, 0⟩

theorem OutAt.box {w : World} {base g b : Nat} {l : List Nat} {T : TypeId} {cs : Array Value} (h : OutAt w base g l) (hb : Blk w b T cs) (hT : 5 ≠ T) (hgb : g ≠ b) (i : Nat) (v : Value) : OutAt (w.setCell ⟨b, i, none⟩ v) base g l := by
  obtain ⟨h0, x, h1, h2⟩ := h
  exact ⟨h0, x, h1.far (p := ⟨b, i, none⟩) hgb v, h2.kept (only_setCell (p := ⟨b, i, none⟩) (World.grownBy.refl _ _) (.inl rfl) _) (.inr (row_ne h2 hb hT))⟩
theorem PutAt.set_ {w0 w : World} {base g b : Nat} {c : K} {l : List Nat} (h : PutAt w0 w base g b c l) (i : Nat) (u : Value) (c' : K) (hc : (cellsOf c).setIfInBounds i u = cellsOf c') : PutAt w0 (w.setCell ⟨b, i, none⟩ u) base g b c' l := by
  have hB : Below base w (w.setCell ⟨b, i, none⟩ u) := Below.setCell (p := ⟨b, i, none⟩) (Below.refl _ _) (Nat.le_trans h.1.1 (Nat.le_of_lt h.2.2.1)) u
  refine ⟨h.1.box h.2.1 (by decide) (Nat.ne_of_lt h.2.2.1) i u, hc ▸ h.2.1.set_ i u, h.2.2.1, h.2.2.2.1.trans hB, h.2.2.2.2.1.under h.2.2.2.2.2.1 hB, h.2.2.2.2.2.1, h.2.2.2.2.2.2.1, Nat.le_trans h.stays.1 (by simp), fun k T cs hk hT hb => ?_⟩
  have hlt := hb.lt
  have hle := h.2.2.2.2.2.2.1
  exact (h.stays.2 k T cs hk hT hb).far (by simp; omega) u
theorem PutAt.putK {w0 w : World} {base g b : Nat} {c : K} {l : List Nat} (h : PutAt w0 w base g b c l) (d : K) : PutAt w0 (putK w b d) base g b d l := by
  obtain ⟨k, u, f, q, s, m, n, t⟩ := c
  obtain ⟨k', u', f', q', s', m', n', t'⟩ := d
  exact (((((((h.set_ 0 (.int .i64 k') ⟨k', u, f, q, s, m, n, t⟩ rfl).set_ 1 (.int .u64 u') ⟨k', u', f, q, s, m, n, t⟩ rfl).set_ 2 (.string f') ⟨k', u', f', q, s, m, n, t⟩ rfl).set_ 3 (.int .u64 q') ⟨k', u', f', q', s, m, n, t⟩ rfl).set_ 4 (.string s') ⟨k', u', f', q', s', m, n, t⟩ rfl).set_ 5 (.int .i64 m') ⟨k', u', f', q', s', m', n, t⟩ rfl).set_ 6 (.int .u64 n') ⟨k', u', f', q', s', m', n', t⟩ rfl).set_ 7 (.int .i64 t') ⟨k', u', f', q', s', m', n', t'⟩ rfl

/-- A right command's bytes; a Noop's of another. -/
def encR (c : K) : List Nat := if rightK c then enc c else [0]

theorem enc_len (c : K) (ho : okK c) (hr : rightK c = true) : (enc c).length ≤ 300 := by
  obtain ⟨r1, r2, r3, r4, r5⟩ := right_in c ho hr
  obtain ⟨o1, o2, o3, _⟩ := ho
  have t0 : ∀ s : ByteArray, s.size ≤ 64 → (textN s).length ≤ 74 := fun s h => by
    unfold textN
    have h1 := shortN_len10 (show s.size < 18446744073709551616 by omega)
    rw [List.length_append, bytesOfS_len]; omega
  have a0 : (e0 c).length ≤ 82 := by
    unfold e0; split
    · have := t0 _ r4; rw [List.length_append, bytesN_len]; omega
    · simp
  have a1 : (e1 c).length ≤ 10 := by unfold e1; split; exact shortN_len10 (by omega); simp
  have a2 : (e2 c).length ≤ 74 := by unfold e2; split; exact t0 _ r5; simp
  have a3 : (e3 c).length ≤ 1 := by unfold e3; split <;> simp
  have a4 : (e4 c).length ≤ 10 := by unfold e4; split; exact shortN_len10 (by omega); simp
  have a5 : (e5 c).length ≤ 10 := by unfold e5; split; exact shortN_len10 (by omega); simp
  unfold enc
  simp only [List.length_cons, List.length_append]
  omega
theorem encR_len (c : K) (ho : okK c) : (encR c).length ≤ 300 := by
  unfold encR; split
  · rename_i h; exact enc_len c ho h
  · simp

/-- Bytes hands back what Put puts. -/
def HandsN7 (l : List Nat) (w : World) (e : Ending) (w' : World) : Prop := Hands l w e w'

end Go.Proofs.YtpdfakjopeldmaaGreatDoor
