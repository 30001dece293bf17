/-
  A right command's bytes are no beginning of another one's.
-/
import Derived.Test.YtkfnbjeknekcgaaDoorKDec
import Derived.Test.YtkfnbjeknekcgaaDoorKBytes
namespace Go.Proofs.YtkfnbjeknekcgaaDoor
open Go.ChangeShapes Go.WideShapes Go.ChangeAt Go.RowKit Go.Lib
set_option linter.unusedVariables false
set_option linter.unusedSimpArgs false

theorem fixed_inj {a b : Nat} {x y : List Nat} (ha : a < 18446744073709551616) (hb : b < 18446744073709551616) (h : bytesN a 8 ++ x = bytesN b 8 ++ y) : a = b ∧ x = y := by
  have h1 := sFixed_put a x ha
  rw [h, sFixed_put b y hb] at h1
  simp only [Prod.mk.injEq] at h1
  exact ⟨h1.2.2.symm, h1.1.symm⟩
theorem short_inj {a b : Nat} {x y : List Nat} (ha : a < 18446744073709551616) (hb : b < 18446744073709551616) (h : shortN a ++ x = shortN b ++ y) : a = b ∧ x = y := by
  have h1 := sShort_put a 18446744073709551615 x ha (by omega)
  rw [h, sShort_put b 18446744073709551615 y hb (by omega)] at h1
  simp only [Prod.mk.injEq] at h1
  exact ⟨h1.2.2.symm, h1.1.symm⟩
theorem text_inj {a b : ByteArray} {x y : List Nat} (ha : a.size ≤ 64) (hb : b.size ≤ 64) (h : textN a ++ x = textN b ++ y) : a = b ∧ x = y := by
  have h1 := sText_put a x 64 ha (by omega)
  rw [h, sText_put b y 64 hb (by omega)] at h1
  simp only [Prod.mk.injEq] at h1
  refine ⟨?_, h1.1.symm⟩
  rw [← strN_bytesOfS a, ← strN_bytesOfS b, h1.2.2]

theorem right_own {c : K} (hr : rightK c = true) : c = own c := by
  unfold rightK at hr
  simp only [Bool.and_eq_true, decide_eq_true_eq] at hr
  exact hr.1.2

theorem enc_front {c d : K} (oc : okK c) (od : okK d) (rc : rightK c = true) (rd : rightK d = true) (t : List Nat) (h : enc c ++ t = enc d) : c = d := by
  obtain ⟨a1, a2, a3, a4, a5⟩ := right_in c oc rc
  obtain ⟨b1, b2, b3, b4, b5⟩ := right_in d od rd
  have hc := right_own rc
  have hd := right_own rd
  obtain ⟨oc1, oc2, oc3, _⟩ := oc
  obtain ⟨od1, od2, od3, _⟩ := od
  obtain ⟨k, u, f, q, s, m, n, tt⟩ := c
  obtain ⟨k', u', f', q', s', m', n', t'⟩ := d
  simp only at a1 a2 a3 a4 a5 b1 b2 b3 b4 b5 oc1 oc2 oc3 od1 od2 od3
  unfold enc at h
  simp only [List.cons_append, List.cons.injEq] at h
  obtain ⟨hk, h⟩ := h
  obtain rfl : k = k' := by omega
  have h' := h.trans (List.append_nil _).symm
  clear h
  rcases sig_cases k with ⟨g, _⟩ | ⟨_, g⟩ | ⟨_, g⟩ | ⟨_, g⟩ | ⟨_, g⟩ | ⟨_, g⟩ | ⟨_, g⟩ | ⟨_, g⟩
  · obtain ⟨s0, s1, s2, s3, s4, s5⟩ := g
    simp only [own, s0, s1, s2, s3, s4, s5, if_true, if_false, Bool.false_eq_true, K.mk.injEq, true_and, and_true] at hc hd
    simp only [e0, e1, e2, e3, e4, e5, s0, s1, s2, s3, s4, s5, if_true, if_false, Bool.false_eq_true, List.append_assoc, List.nil_append] at h'
    simp only [K.mk.injEq]
    simp [*]
    try omega
  · obtain ⟨s0, s1, s2, s3, s4, s5⟩ := g
    simp only [own, s0, s1, s2, s3, s4, s5, if_true, if_false, Bool.false_eq_true, K.mk.injEq, true_and, and_true] at hc hd
    simp only [e0, e1, e2, e3, e4, e5, s0, s1, s2, s3, s4, s5, if_true, if_false, Bool.false_eq_true, List.append_assoc, List.nil_append] at h'
    obtain ⟨q1, p1⟩ := fixed_inj (by omega) (by omega) h'
    obtain ⟨q2, p2⟩ := text_inj a4 b4 p1
    obtain ⟨q3, p3⟩ := short_inj (by omega) (by omega) p2
    obtain ⟨q4, p4⟩ := short_inj (by omega) (by omega) p3
    obtain ⟨q5, p5⟩ := short_inj (by omega) (by omega) p4
    simp only [K.mk.injEq]
    simp [*]
    try omega
  · obtain ⟨s0, s1, s2, s3, s4, s5⟩ := g
    simp only [own, s0, s1, s2, s3, s4, s5, if_true, if_false, Bool.false_eq_true, K.mk.injEq, true_and, and_true] at hc hd
    simp only [e0, e1, e2, e3, e4, e5, s0, s1, s2, s3, s4, s5, if_true, if_false, Bool.false_eq_true, List.append_assoc, List.nil_append] at h'
    obtain ⟨q1, p1⟩ := fixed_inj (by omega) (by omega) h'
    obtain ⟨q2, p2⟩ := text_inj a4 b4 p1
    obtain ⟨q3, p3⟩ := short_inj (by omega) (by omega) p2
    simp only [K.mk.injEq]
    simp [*]
    try omega
  · obtain ⟨s0, s1, s2, s3, s4, s5⟩ := g
    simp only [own, s0, s1, s2, s3, s4, s5, if_true, if_false, Bool.false_eq_true, K.mk.injEq, true_and, and_true] at hc hd
    simp only [e0, e1, e2, e3, e4, e5, s0, s1, s2, s3, s4, s5, if_true, if_false, Bool.false_eq_true, List.append_assoc, List.nil_append] at h'
    obtain ⟨q1, p1⟩ := fixed_inj (by omega) (by omega) h'
    obtain ⟨q2, p2⟩ := text_inj a4 b4 p1
    obtain ⟨q3, p3⟩ := short_inj (by omega) (by omega) p2
    obtain ⟨q4, p4⟩ := short_inj (by omega) (by omega) p3
    simp only [K.mk.injEq]
    simp [*]
    try omega
  · obtain ⟨s0, s1, s2, s3, s4, s5⟩ := g
    simp only [own, s0, s1, s2, s3, s4, s5, if_true, if_false, Bool.false_eq_true, K.mk.injEq, true_and, and_true] at hc hd
    simp only [e0, e1, e2, e3, e4, e5, s0, s1, s2, s3, s4, s5, if_true, if_false, Bool.false_eq_true, List.append_assoc, List.nil_append] at h'
    obtain ⟨q1, p1⟩ := fixed_inj (by omega) (by omega) h'
    obtain ⟨q2, p2⟩ := text_inj a4 b4 p1
    obtain ⟨q3, p3⟩ := short_inj (by omega) (by omega) p2
    obtain ⟨q4, p4⟩ := text_inj a5 b5 p3
    simp only [List.cons_append, List.nil_append, List.cons.injEq] at p4
    obtain ⟨qm, pm⟩ := p4
    simp only [K.mk.injEq]
    simp [*]
    try omega
  · obtain ⟨s0, s1, s2, s3, s4, s5⟩ := g
    simp only [own, s0, s1, s2, s3, s4, s5, if_true, if_false, Bool.false_eq_true, K.mk.injEq, true_and, and_true] at hc hd
    simp only [e0, e1, e2, e3, e4, e5, s0, s1, s2, s3, s4, s5, if_true, if_false, Bool.false_eq_true, List.append_assoc, List.nil_append] at h'
    obtain ⟨q1, p1⟩ := fixed_inj (by omega) (by omega) h'
    obtain ⟨q2, p2⟩ := text_inj a4 b4 p1
    obtain ⟨q3, p3⟩ := short_inj (by omega) (by omega) p2
    obtain ⟨q4, p4⟩ := text_inj a5 b5 p3
    simp only [K.mk.injEq]
    simp [*]
    try omega
  · obtain ⟨s0, s1, s2, s3, s4, s5⟩ := g
    simp only [own, s0, s1, s2, s3, s4, s5, if_true, if_false, Bool.false_eq_true, K.mk.injEq, true_and, and_true] at hc hd
    simp only [e0, e1, e2, e3, e4, e5, s0, s1, s2, s3, s4, s5, if_true, if_false, Bool.false_eq_true, List.append_assoc, List.nil_append] at h'
    obtain ⟨q1, p1⟩ := fixed_inj (by omega) (by omega) h'
    obtain ⟨q2, p2⟩ := text_inj a4 b4 p1
    obtain ⟨q3, p3⟩ := short_inj (by omega) (by omega) p2
    obtain ⟨q4, p4⟩ := text_inj a5 b5 p3
    obtain ⟨q5, p5⟩ := short_inj (by omega) (by omega) p4
    simp only [K.mk.injEq]
    simp [*]
    try omega
  · obtain ⟨s0, s1, s2, s3, s4, s5⟩ := g
    simp only [own, s0, s1, s2, s3, s4, s5, if_true, if_false, Bool.false_eq_true, K.mk.injEq, true_and, and_true] at hc hd
    simp only [e0, e1, e2, e3, e4, e5, s0, s1, s2, s3, s4, s5, if_true, if_false, Bool.false_eq_true, List.append_assoc, List.nil_append] at h'
    obtain ⟨q1, p1⟩ := fixed_inj (by omega) (by omega) h'
    obtain ⟨q2, p2⟩ := text_inj a4 b4 p1
    obtain ⟨q3, p3⟩ := short_inj (by omega) (by omega) p2
    simp only [K.mk.injEq]
    simp [*]
    try omega

end Go.Proofs.YtkfnbjeknekcgaaDoor
