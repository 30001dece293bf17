/-
  The contracts of Take and Parse (package cmd) off a right command's bytes.
-/
import Derived.Test.YtkfnbjeknekcgaaDoorKBytes
import Derived.Test.YtkfnbjeknekcgaaDoorKTaken
namespace Go.Proofs.YtkfnbjeknekcgaaDoor
open Go.ChangeShapes Go.WideShapes Go.ChangeAt Go.RowKit Go.Lib
set_option linter.unusedSimpArgs false

abbrev kindK (k : Int) : K := ⟨k, 0, ⟨#[]⟩, 0, ⟨#[]⟩, 0, 0, 0⟩
/-- A right command's bytes behind its kind. -/
def body (c : K) : List Nat := e0 c ++ (e1 c ++ (e2 c ++ (e3 c ++ (e4 c ++ e5 c))))
theorem enc_body (c : K) : enc c = c.kind.toNat :: body c := rfl

theorem withtaken_any (g : Nat) (c : K) (more : List Nat) (w : World) (hP : PartsIs w) (hg : 1 < g) (ho : okK c) (hr : rightK c = true) (hI : InAt w g (body c ++ more) 0) (h8 : ∀ x ∈ more, x < 256) (hl : more.length ≤ 1000000000000000) :
    Calls Tryd.prog 37 #[val (kindK c.kind), .pointer (some ⟨g, 0, none⟩)] w fun e w' => e = .returned (val c) ∧ InAt w' g more 0 ∧ w.grownBy w' (some g) := by
  obtain ⟨r1, r2, r3, r4, r5⟩ := right_in c ho hr
  obtain ⟨o1, o2, o3, _⟩ := ho
  have he : c = own c := by
    unfold rightK at hr
    simp only [Bool.and_eq_true, decide_eq_true_eq] at hr
    exact hr.1.2
  obtain ⟨k, u, f, q, s, m, n, t⟩ := c
  simp only at o1 o2 o3 r2 r3 r4 r5
  obtain ⟨un, rfl⟩ : ∃ x : Nat, u = (x : Int) := ⟨u.toNat, by omega⟩
  obtain ⟨qn, rfl⟩ : ∃ x : Nat, q = (x : Int) := ⟨q.toNat, by omega⟩
  obtain ⟨mn, rfl⟩ : ∃ x : Nat, m = (x : Int) := ⟨m.toNat, by omega⟩
  obtain ⟨nn, rfl⟩ : ∃ x : Nat, n = (x : Int) := ⟨n.toNat, by omega⟩
  obtain ⟨tn, rfl⟩ : ∃ x : Nat, t = (x : Int) := ⟨t.toNat, by omega⟩
  rcases sig_cases k with ⟨h, _⟩ | ⟨_, h⟩ | ⟨_, h⟩ | ⟨_, h⟩ | ⟨_, h⟩ | ⟨_, h⟩ | ⟨_, h⟩ | ⟨_, h⟩
  · have hc := fun hI => taken_0 g k un f qn s mn nn tn more w hP hg hI h (by omega) (by omega) (by omega) (by omega) (by omega) r4 r5 h8 hl
    obtain ⟨s0, s1, s2, s3, s4, s5⟩ := h
    simp only [own, s0, s1, s2, s3, s4, s5, if_true, if_false, Bool.false_eq_true, K.mk.injEq, true_and, and_true] at he
    simp only [body, e0, e1, e2, e3, e4, e5, s0, s1, s2, s3, s4, s5, if_true, if_false, Bool.false_eq_true, Int.toNat_natCast, List.append_assoc, List.nil_append, List.append_nil] at hI
    have hc := hc (by first | exact hI | simpa [List.append_assoc] using hI)
    simp only [he] at hc ⊢
    exact hc
  · have hc := fun hI => taken_1 g k un f qn s mn nn tn more w hP hg hI h (by omega) (by omega) (by omega) (by omega) (by omega) r4 r5 h8 hl
    obtain ⟨s0, s1, s2, s3, s4, s5⟩ := h
    simp only [own, s0, s1, s2, s3, s4, s5, if_true, if_false, Bool.false_eq_true, K.mk.injEq, true_and, and_true] at he
    simp only [body, e0, e1, e2, e3, e4, e5, s0, s1, s2, s3, s4, s5, if_true, if_false, Bool.false_eq_true, Int.toNat_natCast, List.append_assoc, List.nil_append, List.append_nil] at hI
    have hc := hc (by first | exact hI | simpa [List.append_assoc] using hI)
    simp only [he] at hc ⊢
    exact hc
  · have hc := fun hI => taken_2 g k un f qn s mn nn tn more w hP hg hI h (by omega) (by omega) (by omega) (by omega) (by omega) r4 r5 h8 hl
    obtain ⟨s0, s1, s2, s3, s4, s5⟩ := h
    simp only [own, s0, s1, s2, s3, s4, s5, if_true, if_false, Bool.false_eq_true, K.mk.injEq, true_and, and_true] at he
    simp only [body, e0, e1, e2, e3, e4, e5, s0, s1, s2, s3, s4, s5, if_true, if_false, Bool.false_eq_true, Int.toNat_natCast, List.append_assoc, List.nil_append, List.append_nil] at hI
    have hc := hc (by first | exact hI | simpa [List.append_assoc] using hI)
    simp only [he] at hc ⊢
    exact hc
  · have hc := fun hI => taken_3 g k un f qn s mn nn tn more w hP hg hI h (by omega) (by omega) (by omega) (by omega) (by omega) r4 r5 h8 hl
    obtain ⟨s0, s1, s2, s3, s4, s5⟩ := h
    simp only [own, s0, s1, s2, s3, s4, s5, if_true, if_false, Bool.false_eq_true, K.mk.injEq, true_and, and_true] at he
    simp only [body, e0, e1, e2, e3, e4, e5, s0, s1, s2, s3, s4, s5, if_true, if_false, Bool.false_eq_true, Int.toNat_natCast, List.append_assoc, List.nil_append, List.append_nil] at hI
    have hc := hc (by first | exact hI | simpa [List.append_assoc] using hI)
    simp only [he] at hc ⊢
    exact hc
  · have hc := fun hI => taken_4 g k un f qn s mn nn tn more w hP hg hI h (by omega) (by omega) (by omega) (by omega) (by omega) r4 r5 h8 hl
    obtain ⟨s0, s1, s2, s3, s4, s5⟩ := h
    simp only [own, s0, s1, s2, s3, s4, s5, if_true, if_false, Bool.false_eq_true, K.mk.injEq, true_and, and_true] at he
    simp only [body, e0, e1, e2, e3, e4, e5, s0, s1, s2, s3, s4, s5, if_true, if_false, Bool.false_eq_true, Int.toNat_natCast, List.append_assoc, List.nil_append, List.append_nil] at hI
    have hc := hc (by first | exact hI | simpa [List.append_assoc] using hI)
    simp only [he] at hc ⊢
    exact hc
  · have hc := fun hI => taken_6 g k un f qn s mn nn tn more w hP hg hI h (by omega) (by omega) (by omega) (by omega) (by omega) r4 r5 h8 hl
    obtain ⟨s0, s1, s2, s3, s4, s5⟩ := h
    simp only [own, s0, s1, s2, s3, s4, s5, if_true, if_false, Bool.false_eq_true, K.mk.injEq, true_and, and_true] at he
    simp only [body, e0, e1, e2, e3, e4, e5, s0, s1, s2, s3, s4, s5, if_true, if_false, Bool.false_eq_true, Int.toNat_natCast, List.append_assoc, List.nil_append, List.append_nil] at hI
    have hc := hc (by first | exact hI | simpa [List.append_assoc] using hI)
    simp only [he] at hc ⊢
    exact hc
  · have hc := fun hI => taken_7 g k un f qn s mn nn tn more w hP hg hI h (by omega) (by omega) (by omega) (by omega) (by omega) r4 r5 h8 hl
    obtain ⟨s0, s1, s2, s3, s4, s5⟩ := h
    simp only [own, s0, s1, s2, s3, s4, s5, if_true, if_false, Bool.false_eq_true, K.mk.injEq, true_and, and_true] at he
    simp only [body, e0, e1, e2, e3, e4, e5, s0, s1, s2, s3, s4, s5, if_true, if_false, Bool.false_eq_true, Int.toNat_natCast, List.append_assoc, List.nil_append, List.append_nil] at hI
    have hc := hc (by first | exact hI | simpa [List.append_assoc] using hI)
    simp only [he] at hc ⊢
    exact hc
  · have hc := fun hI => taken_8 g k un f qn s mn nn tn more w hP hg hI h (by omega) (by omega) (by omega) (by omega) (by omega) r4 r5 h8 hl
    obtain ⟨s0, s1, s2, s3, s4, s5⟩ := h
    simp only [own, s0, s1, s2, s3, s4, s5, if_true, if_false, Bool.false_eq_true, K.mk.injEq, true_and, and_true] at he
    simp only [body, e0, e1, e2, e3, e4, e5, s0, s1, s2, s3, s4, s5, if_true, if_false, Bool.false_eq_true, Int.toNat_natCast, List.append_assoc, List.nil_append, List.append_nil] at hI
    have hc := hc (by first | exact hI | simpa [List.append_assoc] using hI)
    simp only [he] at hc ⊢
    exact hc

set_option maxRecDepth 100000 in
set_option maxHeartbeats 8000000 in
theorem take_right (g : Nat) (k u : Int) (f : ByteArray) (q : Int) (s : ByteArray) (m n t : Int) (more : List Nat) (w : World) (hP : PartsIs w) (hg : 1 < g) (ho : okK ⟨k, u, f, q, s, m, n, t⟩) (hr : rightK ⟨k, u, f, q, s, m, n, t⟩ = true) (hI : InAt w g (enc ⟨k, u, f, q, s, m, n, t⟩ ++ more) 0) (h8 : ∀ x ∈ more, x < 256) (hl : more.length ≤ 1000000000000000) :
    Calls Tryd.prog 19 #[.pointer (some ⟨g, 0, none⟩)] w fun e w' => e = .returned (val ⟨k, u, f, q, s, m, n, t⟩) ∧ InAt w' g more 0 ∧ w.grownBy w' (some g) := by
  obtain ⟨r1, r2, r3, r4, r5⟩ := right_in _ ho hr
  obtain ⟨kn, rfl⟩ : ∃ x : Nat, k = (x : Int) := ⟨k.toNat, by simp only at r1; omega⟩
  have hf : f.size ≤ 4611686018427387903 := by simp only at r4; omega
  have hp : s.size ≤ 4611686018427387903 := by simp only at r5; omega
  have hk : isK (kn : Int) = true := by
    unfold rightK at hr
    simp only [Bool.and_eq_true, decide_eq_true_eq] at hr
    exact hr.1.1
  rw [enc_body] at hI
  obtain ⟨X, hX⟩ : ∃ x, body ⟨kn, u, f, q, s, m, n, t⟩ ++ more = x := ⟨_, rfl⟩
  have hI2 : InAt w g ([kn] ++ X) 0 := by rw [← hX]; simpa using hI
  have HX := hid hX
  have HO := hid ho
  have HR := hid hr
  have H8 := hid h8
  have HK := hid hk
  have b1 : kn ≤ 8 := by simp only at r1; omega
  have W1 : IntKind.i64.wrap (kn : Int) = kn := by rw [IntKind.wrap_i64]; omega
  have HG := hid hg
  have A0 := hid (TakeAt.start hI2 hP hg noK)
  clear hI hI2 hX ho hr h8 hk r1 r2 r3 r4 r5 hP hg
  go_enter Tryd.func19, Tryd.ntmps19
  go_wp2_with fail
  with_reducible refine (byte_any g ([kn] ++ X) 0 X 0 kn _ A0.out.iat (fine0 _) (sByte_put kn X)).mono ?_
  rintro en w1 ⟨rfl, hin, hgr⟩
  have R1 := hid (A0.out.turn hin hgr)
  have R1lt := hid R1.out.2.1.lt
  have HS1 := hid (R1.out.grown.size)
  clear hin hgr A0
  have A1 : Hid (Blk (w1.alloc (.cells (cellsOf (kindK (kn : Int))) 26)) w1.heap.size 26 (cellsOf (kindK (kn : Int)))) := hid (Blk.new _ _ _)
  have R2 := hid (R1.out.on ((Below.refl _ _).alloc (Nat.le_refl _) (.cells (cellsOf (kindK (kn : Int))) 26)))
  clear R1
  obtain ⟨⟨c0, c1, c2, c3, c4, c5, c6, c7⟩, f0, f1, f2, f3, f4, f5, f6, f7⟩ := cells8 A1.out
  go_wp2_with fail
  with_reducible refine (iskind_any (kn : Int) _).mono ?_
  rw [HK.out]
  rintro e w' ⟨rfl, rfl⟩
  go_wp2_with fail
  with_reducible refine (withtaken_any g ⟨kn, u, f, q, s, m, n, t⟩ more _ R2.out.parts HG.out HO.out HR.out (by rw [HX.out]; exact R2.out.iat) H8.out hl).mono ?_
  rintro en w3 ⟨rfl, hin, hgr⟩
  have R3 := hid (R2.out.turn hin hgr)
  have A3 := hid (A1.out.grown hgr (by have := R2.out.2.2.2.2.2.2; have := HS1.out; intro e; injection e with e; omega))
  clear hin hgr R2 A1 c0 c1 c2 c3 c4 c5 c6 c7 f0 f1 f2 f3 f4 f5 f6 f7
  obtain ⟨⟨c0, c1, c2, c3, c4, c5, c6, c7⟩, f0, f1, f2, f3, f4, f5, f6, f7⟩ := cells8 A3.out
  have hb0 := HS1.out
  have P4 : Hid (TakeAt w (putK w3 w1.heap.size ⟨kn, u, f, q, s, m, n, t⟩) g w.heap.size noK more) := hid (by
    have hs := R3.out.grown.size
    have hlt : w.heap.size < w1.heap.size := R1lt.out
    have hle := Nat.le_of_lt hlt
    exact (((((((R3.out.far (p := ⟨w1.heap.size, 0, none⟩) (Nat.ne_of_lt hlt) hle _).far (p := ⟨w1.heap.size, 1, none⟩) (Nat.ne_of_lt hlt) hle _).far (p := ⟨w1.heap.size, 2, none⟩) (Nat.ne_of_lt hlt) hle _).far (p := ⟨w1.heap.size, 3, none⟩) (Nat.ne_of_lt hlt) hle _).far (p := ⟨w1.heap.size, 4, none⟩) (Nat.ne_of_lt hlt) hle _).far (p := ⟨w1.heap.size, 5, none⟩) (Nat.ne_of_lt hlt) hle _).far (p := ⟨w1.heap.size, 6, none⟩) (Nat.ne_of_lt hlt) hle _).far (p := ⟨w1.heap.size, 7, none⟩) (Nat.ne_of_lt hlt) hle _)
  have A4 : Hid (Blk (putK w3 w1.heap.size ⟨kn, u, f, q, s, m, n, t⟩) w1.heap.size 26 (cellsOf ⟨kn, u, f, q, s, m, n, t⟩)) := hid (A3.out.set_ 0 _ |>.set_ 1 _ |>.set_ 2 _ |>.set_ 3 _ |>.set_ 4 _ |>.set_ 5 _ |>.set_ 6 _ |>.set_ 7 _)
  clear R3 A3
  go_wp2_with fail
  with_reducible refine (cmdright_any ⟨kn, u, f, q, s, m, n, t⟩ _ P4.out.parts hf hp).mono ?_
  rw [HR.out]
  rintro en w5 ⟨rfl, hb⟩
  have P5 := hid (P4.out.on hb)
  have A5 := hid (A4.out.below hb A4.out.lt)
  clear hb P4 A4 c0 c1 c2 c3 c4 c5 c6 c7 f0 f1 f2 f3 f4 f5 f6 f7
  obtain ⟨⟨c0, c1, c2, c3, c4, c5, c6, c7⟩, f0, f1, f2, f3, f4, f5, f6, f7⟩ := cells8 A5.out
  go_wp2_with fail
  with_reducible refine (failed_no g more _ P5.out.iat).mono ?_
  rintro en w6 ⟨rfl, rfl⟩
  obtain ⟨⟨d0, d1, d2, d3, d4, d5, d6, d7⟩, g0, g1, g2, g3, g4, g5, g6, g7⟩ := cells8 P5.out.2.1
  have E := hid (P5.out.put ⟨kn, u, f, q, s, m, n, t⟩)
  clear P5 A5
  go_wp2
  refine bodyPost_ret (v := val ⟨kn, u, f, q, s, m, n, t⟩) (by simp [results, Tryd.results19, go_sem, d0, d1, d2, d3, d4, d5, d6, d7]) rfl ⟨rfl, E.out.iat, E.out.grown⟩

theorem take_any7 (g : Nat) (c : K) (more : List Nat) (w : World) (hP : PartsIs w) (hg : 1 < g) (ho : okK c) (hr : rightK c = true) (hI : InAt w g (enc c ++ more) 0) (h8 : ∀ x ∈ more, x < 256) (hl : more.length ≤ 1000000000000000) :
    Calls Tryd.prog 19 #[.pointer (some ⟨g, 0, none⟩)] w fun e w' => e = .returned (val c) ∧ InAt w' g more 0 ∧ w.grownBy w' (some g) :=
  take_right g c.kind c.num c.foot c.req c.path c.mode c.n c.time more w hP hg ho hr hI h8 hl

theorem enc_byte (c : K) (ho : okK c) (hr : rightK c = true) : ∀ x ∈ enc c, x < 256 := by
  obtain ⟨r1, r2, r3, r4, r5⟩ := right_in c ho hr
  intro x hx
  unfold enc e0 e1 e2 e3 e4 e5 at hx
  simp only [List.mem_cons, List.mem_append] at hx
  rcases hx with rfl | hx | hx | hx | hx | hx | hx
  · omega
  · split at hx
    · rcases List.mem_append.1 hx with h | h
      · exact bytesN_byte 8 _ x h
      · exact textN_byte _ x h
    · cases hx
  · split at hx
    · exact shortN_byte _ x hx
    · cases hx
  · split at hx
    · exact textN_byte _ x hx
    · cases hx
  · split at hx
    · rw [List.mem_singleton.1 hx]; omega
    · cases hx
  · split at hx
    · exact shortN_byte _ x hx
    · cases hx
  · split at hx
    · exact shortN_byte _ x hx
    · cases hx

set_option maxRecDepth 100000 in
set_option maxHeartbeats 1000000 in
theorem parse_right (A : Option Addr) (n0 ca : Nat) (k u : Int) (f : ByteArray) (q : Int) (s : ByteArray) (m n t : Int) (w : World) (hP : PartsIs w) (ho : okK ⟨k, u, f, q, s, m, n, t⟩) (hr : rightK ⟨k, u, f, q, s, m, n, t⟩ = true) (hn : (enc ⟨k, u, f, q, s, m, n, t⟩).length = n0) (hc : A = none → ca = 0) (hA : Sees .u8 w A (enc ⟨k, u, f, q, s, m, n, t⟩)) :
    Calls Tryd.prog 17 #[.slice A n0 ca] w fun e w' => e = .returned (.tuple #[val ⟨k, u, f, q, s, m, n, t⟩, .int .i64 0]) ∧ Below w.heap.size w w' := by
  have hlen := enc_len _ ho hr
  rw [hn] at hlen
  have HA : Hid (Sees .u8 (w.alloc (.cells (cellsOf noK) 26)) A (enc ⟨k, u, f, q, s, m, n, t⟩)) := hid ((hA.held.below ((Below.refl _ _).alloc (Nat.le_refl _) _)).sees (by simp))
  have HN := hid hn
  have HC := hid hc
  have HO := hid ho
  have HR := hid hr
  have hlt := hP.lt
  have R0 := hid (Boxed.start hP noK)
  clear hP ho hr hn hc hA
  go_enter Tryd.func17, Tryd.ntmps17
  go_wp2_with fail
  with_reducible refine (newin_any A (enc ⟨k, u, f, q, s, m, n, t⟩) n0 ca _ HN.out (by omega) HC.out HA.out).mono ?_
  rintro en w1 ⟨g, rfl, hin, hb, hg⟩
  have R1 := hid (R0.out.on hb)
  have HI := hid hin
  have hgl : 1 < g := by simp at hg; omega
  have hgw : w.heap.size < g := by simp at hg; omega
  have HL := hid hin.lt
  clear hin hb hg R0
  go_wp2_with fail
  with_reducible refine (take_any7 g ⟨k, u, f, q, s, m, n, t⟩ [] _ R1.out.parts hgl HO.out HR.out (by rw [List.append_nil]; exact HI.out) (by simp) (by simp)).mono ?_
  rintro en w2 ⟨rfl, hin, hgr⟩
  have B2 := hid (below_only (B := w.heap.size) hgr (by omega) (R1.out.below.size))
  have R2 : Hid (Boxed w w2 w.heap.size noK) := hid ⟨R1.out.1.below (below_only (B := w.heap.size + 1) hgr (by omega) R1.out.lt) (by omega), R1.out.2.1, R1.out.2.2.1.trans B2.out, R1.out.2.2.2⟩
  have HI2 := hid (hin.keep ((Below.refl (g + 1) w2).alloc (by have := hin.lt; omega) (.cells (cellsOf ⟨k, u, f, q, s, m, n, t⟩) 26)))
  have A2 := hid (Blk.new w2 26 (cellsOf ⟨k, u, f, q, s, m, n, t⟩))
  have R3 := hid (R2.out.alloc (.cells (cellsOf ⟨k, u, f, q, s, m, n, t⟩) 26))
  clear hin hgr R2 R1 HI B2
  go_wp2_with fail
  with_reducible refine (end_any g [] 0 _ HI2.out).mono ?_
  rintro en w3 ⟨rfl, rfl⟩
  obtain ⟨⟨c0, c1, c2, c3, c4, c5, c6, c7⟩, f0, f1, f2, f3, f4, f5, f6, f7⟩ := cells8 A2.out
  obtain ⟨⟨d0, d1, d2, d3, d4, d5, d6, d7⟩, g0, g1, g2, g3, g4, g5, g6, g7⟩ := cells8 R3.out.1
  have HZ : ((endE [] 0 : Nat) : Int) = 0 := rfl
  rw [HZ]
  have E := hid (R3.out.put ⟨k, u, f, q, s, m, n, t⟩)
  clear R3 A2 HI2 HZ
  go_wp2
  refine bodyPost_ret (v := .tuple #[val ⟨k, u, f, q, s, m, n, t⟩, .int .i64 0]) (by simp [results, Tryd.results17, go_sem, d0, d1, d2, d3, d4, d5, d6, d7]) rfl ⟨rfl, E.out.below⟩

end Go.Proofs.YtkfnbjeknekcgaaDoor
