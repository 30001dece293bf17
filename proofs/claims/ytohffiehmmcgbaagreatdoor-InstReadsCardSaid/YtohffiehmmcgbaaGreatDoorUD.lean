/-
  The contracts of Put and Bytes (package cmd) of any command.
-/
import Derived.Test.YtohffiehmmcgbaaGreatDoorUKPut
import Derived.Test.YtohffiehmmcgbaaGreatDoorUC
import Derived.Test.YtohffiehmmcgbaaGreatDoorUA
import Derived.Deep.Cut
namespace Go.Proofs.YtohffiehmmcgbaaGreatDoor
open Go.ChangeShapes Go.WideShapes Go.ChangeAt Go.RowKit Go.Lib
set_option linter.unusedVariables false
theorem right_in (c : K) (ho : okK c) (hr : rightK c = true) : (0 ≤ c.kind ∧ c.kind ≤ 8) ∧ (0 ≤ c.mode ∧ c.mode ≤ 2) ∧ (0 ≤ c.time ∧ c.time ≤ 1099511627776) ∧ c.foot.size ≤ 64 ∧ c.path.size ≤ 64 := by
  unfold rightK at hr
  simp only [Bool.and_eq_true, decide_eq_true_eq] at hr
  obtain ⟨⟨hk, he⟩, hi⟩ := hr
  unfold isK at hk
  rw [decide_eq_true_eq] at hk
  have hl := (own_eq c).1 he
  unfold areIn at hi
  simp only [Bool.and_eq_true] at hi
  obtain ⟨⟨⟨⟨⟨i0, i1⟩, i2⟩, i3⟩, i4⟩, i5⟩ := hi
  unfold lacks at hl
  simp only [Bool.or_eq_false_iff, Bool.and_eq_false_iff, Bool.not_eq_false', decide_eq_false_iff_not, Decidable.not_not, L_nil, ne_eq] at hl
  obtain ⟨⟨⟨⟨⟨l0, l1⟩, l2⟩, l3⟩, l4⟩, l5⟩ := hl
  have size64 : ∀ s : ByteArray, right (L s) = true → s.size ≤ 64 := fun s h => by
    have := (right_iff.1 h).1
    rwa [L_length] at this
  refine ⟨by omega, ?_, ?_, ?_, ?_⟩
  · unfold in3 at i3
    simp only [Bool.or_eq_true, Bool.not_eq_true', decide_eq_true_eq] at i3
    rcases l3 with h | h
    · rcases i3 with g | g
      · rw [h] at g; cases g
      · omega
    · omega
  · unfold in5 at i5
    simp only [Bool.or_eq_true, Bool.not_eq_true', decide_eq_true_eq] at i5
    rcases l5 with h | h
    · rcases i5 with g | g
      · rw [h] at g; cases g
      · exact g
    · omega
  · unfold in0 at i0
    simp only [Bool.or_eq_true, Bool.not_eq_true'] at i0
    rcases l0 with h | h
    · rcases i0 with g | g
      · rw [h] at g; cases g
      · exact size64 _ g
    · rw [h.2]; decide
  · unfold in2 at i2
    simp only [Bool.or_eq_true, Bool.not_eq_true'] at i2
    rcases l2 with h | h
    · rcases i2 with g | g
      · rw [h] at g; cases g
      · exact size64 _ g
    · rw [h]; decide
abbrev noK : K := ⟨0, 0, ⟨#[]⟩, 0, ⟨#[]⟩, 0, 0, 0⟩
theorem OutAt.box {w : World} {base g b : Nat} {l : List Nat} {T : TypeId} {cs : Array Value} (h : OutAt w base g l) (hb : Blk w b T cs) (hT : 5 ≠ T) (hgb : g ≠ b) (i : Nat) (v : Value) : OutAt (w.setCell ⟨b, i, none⟩ v) base g l := by
  obtain ⟨h0, x, h1, h2⟩ := h
  exact ⟨h0, x, h1.far (p := ⟨b, i, none⟩) hgb v, h2.kept (only_setCell (p := ⟨b, i, none⟩) (World.grownBy.refl _ _) (.inl rfl) _) (.inr (row_ne h2 hb hT))⟩
theorem PutAt.set_ {w0 w : World} {base g b : Nat} {c : K} {l : List Nat} (h : PutAt w0 w base g b c l) (i : Nat) (u : Value) (c' : K) (hc : (cellsOf c).setIfInBounds i u = cellsOf c') : PutAt w0 (w.setCell ⟨b, i, none⟩ u) base g b c' l := by
  have hB : Below base w (w.setCell ⟨b, i, none⟩ u) := Below.setCell (p := ⟨b, i, none⟩) (Below.refl _ _) (Nat.le_trans h.1.1 (Nat.le_of_lt h.2.2.1)) u
  refine ⟨h.1.box h.2.1 (by decide) (Nat.ne_of_lt h.2.2.1) i u, hc ▸ h.2.1.set_ i u, h.2.2.1, h.2.2.2.1.trans hB, h.2.2.2.2.1.under h.2.2.2.2.2.1 hB, h.2.2.2.2.2.1, h.2.2.2.2.2.2.1, Nat.le_trans h.stays.1 (by simp), fun k T cs hk hT hb => ?_⟩
  have hlt := hb.lt
  have hle := h.2.2.2.2.2.2.1
  exact (h.stays.2 k T cs hk hT hb).far (by simp; omega) u
theorem PutAt.putK {w0 w : World} {base g b : Nat} {c : K} {l : List Nat} (h : PutAt w0 w base g b c l) (d : K) : PutAt w0 (putK w b d) base g b d l := by
  obtain ⟨k, u, f, q, s, m, n, t⟩ := c
  obtain ⟨k', u', f', q', s', m', n', t'⟩ := d
  exact (((((((h.set_ 0 (.int .i64 k') ⟨k', u, f, q, s, m, n, t⟩ rfl).set_ 1 (.int .u64 u') ⟨k', u', f, q, s, m, n, t⟩ rfl).set_ 2 (.string f') ⟨k', u', f', q, s, m, n, t⟩ rfl).set_ 3 (.int .u64 q') ⟨k', u', f', q', s, m, n, t⟩ rfl).set_ 4 (.string s') ⟨k', u', f', q', s', m, n, t⟩ rfl).set_ 5 (.int .i64 m') ⟨k', u', f', q', s', m', n, t⟩ rfl).set_ 6 (.int .u64 n') ⟨k', u', f', q', s', m', n', t⟩ rfl).set_ 7 (.int .i64 t') ⟨k', u', f', q', s', m', n', t'⟩ rfl
end Go.Proofs.YtohffiehmmcgbaaGreatDoor
namespace Go.Proofs.YtohffiehmmcgbaaGreatDoor
open Go.Lib
set_option linter.unusedVariables false
set_option linter.unusedSimpArgs false
def body (c : K) : List Nat := e0 c ++ (e1 c ++ (e2 c ++ (e3 c ++ (e4 c ++ e5 c))))
end Go.Proofs.YtohffiehmmcgbaaGreatDoor
namespace Go.Proofs.YtohffiehmmcgbaaGreatDoor
open Go.ChangeShapes Go.WideShapes Go.ChangeAt Go.RowKit
end Go.Proofs.YtohffiehmmcgbaaGreatDoor
namespace Go.Proofs.YtohffiehmmcgbaaGreatDoor
open Go.ChangeShapes Go.WideShapes Go.ChangeAt Go.RowKit
set_option linter.unusedVariables false
set_option linter.unusedSimpArgs false
theorem only_setRow {a w : World} {g r : Nat} {cs : Array Value} (h : a.grownBy w (some g)) (hr : a.heap.size ≤ r) : a.grownBy (w.setRow r cs) (some g) :=
  ⟨h.os, h.tape, h.output, by simpa using h.size, fun i hi hne => (setRow_other w r i cs (by omega)).trans (h.block i hi hne)⟩
theorem InAt.setRow {w : World} {g r : Nat} {l : List Nat} {e : Nat} {cs : Array Value} (h : InAt w g l e) (hr : g < r) : InAt (w.setRow r cs) g l e := h.keep (below_setRow_ (Below.refl _ _) hr)
theorem InAt.setCell {w : World} {g r i : Nat} {l : List Nat} {e : Nat} {x : Value} (h : InAt w g l e) (hr : g < r) : InAt (w.setCell ⟨r, i, none⟩ x) g l e := h.keep (Below.setCell (p := ⟨r, i, none⟩) (Below.refl _ _) hr _)
end Go.Proofs.YtohffiehmmcgbaaGreatDoor
namespace Go.Proofs.YtohffiehmmcgbaaGreatDoor
open Go.ChangeShapes Go.WideShapes Go.ChangeAt Go.RowKit
set_option linter.unusedVariables false
set_option linter.unusedSimpArgs false
end Go.Proofs.YtohffiehmmcgbaaGreatDoor
namespace Go.Proofs.YtohffiehmmcgbaaGreatDoor
open Go.Lib
set_option linter.unusedVariables false
set_option linter.unusedSimpArgs false
theorem zeroK_ok : okK zeroK := ⟨by simp, by simp, by simp, by simp, by simp, by simp⟩
theorem rightJ_in {x : J} (hok : okJ x) (hr : rightJ x = true) : ∃ a b v u t : Nat, x.r = a ∧ x.s = b ∧ x.bal = v ∧ x.vote = u ∧ x.st = t ∧ a < 7 ∧ b < 1024 ∧ v < 4294967296 ∧ ballotB v = true ∧ u < 4294967296 ∧ ballotB u = true ∧ t ≤ 3 ∧
    (t ≠ 0 → rightK x.c = true ∧ okB x.f = true) ∧ (t = 0 → x.vote = 0 ∧ x.same = false ∧ x.c = zeroK ∧ ∀ i, i < 8 → x.f i = 0) := by
  unfold rightJ at hr
  simp only [Bool.and_eq_true] at hr
  obtain ⟨⟨hn, hb⟩, hv⟩ := hr
  obtain ⟨a, b, ha, hb2, ha7, hb10, _⟩ := name_in hn
  unfold balB at hb
  by_cases h0 : x.st = 0
  · rw [if_pos h0] at hv
    unfold eqJ emptyJ at hv
    simp only [Bool.and_eq_true, beq_iff_eq, decide_eq_true_eq, eqA_iff] at hv
    obtain ⟨_, _, _, h4, h5, h6, h7⟩ := hv
    refine ⟨a, b, x.bal.toNat, 0, 0, ha, hb2, by have := hok.1; omega, h4, h0, ha7, hb10, by have := hok.1; omega, hb, by omega, by decide, by omega, fun h => absurd rfl h, fun _ => ⟨h4, h5, h6, h7⟩⟩
  · rw [if_neg h0] at hv
    unfold valB statB balB at hv
    simp only [Bool.and_eq_true, decide_eq_true_eq] at hv
    obtain ⟨hs, ⟨⟨⟨⟨hv1, hv2⟩, hv3⟩, hv4⟩, hv5⟩⟩ := hv
    unfold ownB at hv5
    simp only [Bool.and_eq_true, decide_eq_true_eq] at hv5
    refine ⟨a, b, x.bal.toNat, x.vote.toNat, x.st.toNat, ha, hb2, by have := hok.1; omega, by have := hok.2; omega, by omega, ha7, hb10, by have := hok.1; omega, hb, by have := hok.2; omega, hv1, by omega, fun _ => ⟨hv4, hv5.1.1⟩, fun h => absurd h (by omega)⟩
theorem eqJ_self (x : J) : eqJ x x = true := by
  unfold eqJ
  simp [eqA_self]
theorem eqJ_of {x y : J} (h1 : x.r = y.r) (h2 : x.s = y.s) (h3 : x.st = y.st) (h4 : x.bal = y.bal) (h5 : x.vote = y.vote) (h6 : x.same = y.same) (h7 : x.c = y.c) (h8 : eqA x.f y.f = true) : eqJ x y = true := by
  unfold eqJ
  simp [h1, h2, h3, h4, h5, h6, h7, h8]
theorem okB_congr {f g : Nat → Int} (h : eqA f g = true) : okB f = okB g := by
  have e := eqA_iff.1 h
  rw [Bool.eq_iff_iff, okB_iff, okB_iff, e 0 (by decide)]
  constructor
  · rintro ⟨a, b⟩
    exact ⟨a, fun i hi => by rw [← e (i + 1) (by omega)]; exact b i hi⟩
  · rintro ⟨a, b⟩
    exact ⟨a, fun i hi => by rw [e (i + 1) (by omega)]; exact b i hi⟩
theorem ownB_congr {f g : Nat → Int} (h : eqA f g = true) (r s : Int) : ownB f r s = ownB g r s := by
  unfold ownB
  rw [okB_congr h]
  cases hn : nameB r s
  · simp
  · obtain ⟨a, b, rfl, rfl, ha, _, _⟩ := name_in hn
    rw [Int.toNat_natCast, eqA_iff.1 h (1 + a) (by omega)]
theorem eqA_right {f g k : Nat → Int} (h : eqA f g = true) : eqA f k = eqA g k := by
  rw [Bool.eq_iff_iff, eqA_iff, eqA_iff]
  have e := eqA_iff.1 h
  constructor
  · intro a i hi; rw [← e i hi]; exact a i hi
  · intro a i hi; rw [e i hi]; exact a i hi
theorem rightJ_att (x : J) (V : Nat → Int) (h : eqA V x.f = true) : rightJ ⟨x.r, x.s, x.st, x.bal, x.vote, x.same, x.c, V⟩ = rightJ x := by
  unfold rightJ valB eqJ emptyJ maySame
  simp only
  rw [eqA_right h, ownB_congr h]
end Go.Proofs.YtohffiehmmcgbaaGreatDoor
