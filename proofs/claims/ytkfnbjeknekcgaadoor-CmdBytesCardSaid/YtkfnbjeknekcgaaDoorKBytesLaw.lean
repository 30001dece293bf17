/-
  CmdBytes: for any command, and any bytes behind its own, the law's call returns true: a command that may be is read from its bytes, whatever follows; of others a Noop's are written.
-/
import Derived.Test.YtkfnbjeknekcgaaDoorKRef
import Derived.Test.YtkfnbjeknekcgaaDoorKTake
import Derived.Test.YtkfnbjeknekcgaaDoorKEq
import Derived.Deep.RegionHeld3
namespace Go.Proofs.YtkfnbjeknekcgaaDoor.cmdBytes
open Go.ChangeShapes Go.WideShapes Go.ChangeAt Go.RowKit Go.Lib
set_option linter.unusedVariables false
set_option linter.unusedSimpArgs false

theorem take_7 (g : Nat) (d : K) (l : List Nat) (w : World) (hP : PartsIs w) (hg : 1 < g) (ho : okK d) (hr : rightK d = true) (hI : InAt w g (enc d ++ l) 0) (h8 : ∀ x ∈ l, x < 256) (hl : l.length ≤ 1000000000000000) :
    Calls Tryd.prog 19 #[.pointer (some ⟨g, 0, none⟩)] w fun e w' => e = .returned (val d) ∧ InAt w' g l 0 ∧ w.grownBy w' (some g) := take_any7 g d l w hP hg ho hr hI h8 hl
theorem parse_7 (P : Option Addr) (X : List Nat) (pc : Nat) (d : K) (w : World) (hP : PartsIs w) (ho : okK d) (hr : rightK d = true) (hX : enc d = X) (hc : P = none → pc = 0) (hA : Sees .u8 w P X) :
    Calls Tryd.prog 17 #[.slice P X.length pc] w fun e w' => e = .returned (.tuple #[val d, .int .i64 0]) ∧ Below w.heap.size w w' :=
  parse_right P X.length pc d.kind d.num d.foot d.req d.path d.mode d.n d.time w hP ho hr (congrArg List.length hX) hc (by subst hX; exact hA)

theorem InAt.drew {w : World} {g : Nat} {l : List Nat} {e : Nat} (h : InAt w g l e) : InAt w.drew g l e := h

theorem boxed_only {w0 w w' : World} {g b : Nat} {c : K} (h : Boxed w0 w b c) (hb : w.grownBy w' (some g)) (hg : b < g) : Boxed w0 w' b c := by
  have h0 := h.2.1
  have hs := h.2.2.1.size
  have hl := h.1.lt
  exact ⟨h.1.grown hb (by intro e; injection e with e; omega), h.2.1, h.2.2.1.trans (below_only hb (by omega) hs), h.2.2.2⟩
theorem boxed_putfar {w0 w : World} {g x : Nat} {c : K} (h : Boxed w0 w g c) (hg : g ≠ x) (h0 : w0.heap.size ≤ x) (d : K) : Boxed w0 (putK w x d) g c :=
  (((((((h.far (p := ⟨x, 0, none⟩) hg h0 _).far (p := ⟨x, 1, none⟩) hg h0 _).far (p := ⟨x, 2, none⟩) hg h0 _).far (p := ⟨x, 3, none⟩) hg h0 _).far (p := ⟨x, 4, none⟩) hg h0 _).far (p := ⟨x, 5, none⟩) hg h0 _).far (p := ⟨x, 6, none⟩) hg h0 _).far (p := ⟨x, 7, none⟩) hg h0 _

set_option maxRecDepth 100000 in
set_option maxHeartbeats 4000000 in
theorem walk_r (k u : Int) (f : ByteArray) (q : Int) (s : ByteArray) (m n t : Int) (A : Option Addr) (l : List Nat) (ca : Nat) (w : World) (hok : okK ⟨k, u, f, q, s, m, n, t⟩) (hP : PartsIs w) (hn : A = none → ca = 0) (hl : l.length ≤ 140737488351232) (h8 : ∀ x ∈ l, x < 256) (hA : Sees .u8 w A l) (hr : rightK ⟨k, u, f, q, s, m, n, t⟩ = true) :
    Calls Tryd.prog 4 #[val ⟨k, u, f, q, s, m, n, t⟩, .slice A l.length ca] w fun e w' => e = .returned (.bool true) ∧ Below w.heap.size w w' := by
  obtain ⟨i0, hi, hz0, hz1, hz2⟩ := info_parts info_u8
  have rd : rightK ⟨k, u, f, q, s, m, n, t⟩ = true := hr
  have od : okK ⟨k, u, f, q, s, m, n, t⟩ := hok
  have hE : encR ⟨k, u, f, q, s, m, n, t⟩ = enc ⟨k, u, f, q, s, m, n, t⟩ := by unfold encR; rw [hr]; rfl
  have hlen := enc_len _ od rd
  have HO := hid hok
  have OD := hid od
  have RD := hid rd
  have HR := hid hr
  have EB := hid (enc_byte _ od rd)
  have HA := hid hA
  have HN := hid hn
  have H8 := hid h8
  have A0 := hid (Boxed.start hP ⟨k, u, f, q, s, m, n, t⟩)
  have hlt := hP.lt
  obtain ⟨X, hX⟩ : ∃ x, enc ⟨k, u, f, q, s, m, n, t⟩ = x := ⟨_, rfl⟩
  rw [hX] at hE hlen EB
  have HE := hid hE
  have HX := hid hX
  obtain ⟨L, hL⟩ : ∃ L, L = X ++ l := ⟨_, rfl⟩
  have HL := hid hL
  have hLl : L.length ≤ 140737488355328 := by rw [hL, List.length_append]; omega
  obtain ⟨sm, hsm⟩ : ∃ x, smallK ⟨k, u, f, q, s, m, n, t⟩ = x := ⟨_, rfl⟩
  have SM := hid hsm
  clear hok hP hsm hr hE rd od hn h8 hA hX hL
  go_enter Tryd.func4, Tryd.ntmps4
  go_wp2_with fail
  with_reducible refine (anchor7 _ A0.out.parts).mono ?_
  rintro e w1 ⟨rfl, hb⟩
  have A1 := hid (A0.out.on hb)
  clear hb A0
  obtain ⟨⟨c0, c1, c2, c3, c4, c5, c6, c7⟩, f0, f1, f2, f3, f4, f5, f6, f7⟩ := cells8 A1.out.1
  go_wp2_with fail
  with_reducible refine (small_any ⟨k, u, f, q, s, m, n, t⟩ _).mono ?_
  rw [SM.out]
  rintro e w2 ⟨rfl, hb⟩
  have A2 := hid (A1.out.on hb)
  clear hb A1
  clear c0 c1 c2 c3 c4 c5 c6 c7 f0 f1 f2 f3 f4 f5 f6 f7
  obtain ⟨⟨c0, c1, c2, c3, c4, c5, c6, c7⟩, f0, f1, f2, f3, f4, f5, f6, f7⟩ := cells8 A2.out.1
  cases sm
  · go_wp2
    go_ret
    exact ⟨rfl, A2.out.below⟩
  have hs := SM.out
  unfold smallK at hs
  simp only [Bool.and_eq_true, decide_eq_true_eq] at hs
  obtain ⟨hp, hf⟩ := hs
  have hf9 : f.size ≤ 900 := by omega
  have hp9 : s.size ≤ 900 := by omega
  have hf4 : f.size ≤ 4611686018427387903 := by omega
  have hp4 : s.size ≤ 4611686018427387903 := by omega
  have A3 := hid (A2.out.alloc (.cells (cellsOf ⟨k, u, f, q, s, m, n, t⟩) 26))
  have X3 : Hid (Boxed w (w2.alloc (.cells (cellsOf ⟨k, u, f, q, s, m, n, t⟩) 26)) w2.heap.size ⟨k, u, f, q, s, m, n, t⟩) := hid ⟨Blk.new _ _ _, A2.out.below.size, A3.out.below, A3.out.2.2.2⟩
  have hwx : w.heap.size < w2.heap.size := A2.out.lt
  clear A2
  obtain ⟨⟨a0, a1, a2, a3, a4, a5, a6, a7⟩, b0, b1, b2, b3, b4, b5, b6, b7⟩ := cells8 A3.out.1
  obtain ⟨⟨e0, e1, e2, e3, e4, e5, e6, e7⟩, g0, g1, g2, g3, g4, g5, g6, g7⟩ := cells8 X3.out.1
  go_wp2_with fail
  with_reducible refine (of_any ⟨k, u, f, q, s, m, n, t⟩ _).mono ?_
  rintro e w4 ⟨rfl, hb⟩
  have A4 := hid (A3.out.on hb)
  have X4 := hid (X3.out.on hb)
  clear hb A3 X3 a0 a1 a2 a3 a4 a5 a6 a7 b0 b1 b2 b3 b4 b5 b6 b7
  clear c0 c1 c2 c3 c4 c5 c6 c7 f0 f1 f2 f3 f4 f5 f6 f7
  clear e0 e1 e2 e3 e4 e5 e6 e7 g0 g1 g2 g3 g4 g5 g6 g7
  obtain ⟨⟨c0, c1, c2, c3, c4, c5, c6, c7⟩, f0, f1, f2, f3, f4, f5, f6, f7⟩ := cells8 A4.out.1
  obtain ⟨⟨e0, e1, e2, e3, e4, e5, e6, e7⟩, g0, g1, g2, g3, g4, g5, g6, g7⟩ := cells8 X4.out.1
  go_wp2_with fail
  with_reducible refine (refright7 ⟨k, u, f, q, s, m, n, t⟩ _ HO.out hf9 hp9).mono ?_
  rw [HR.out]
  rintro e w5 ⟨rfl, hb⟩
  have A5 := hid (A4.out.on hb)
  have X5 := hid (X4.out.on hb)
  clear hb A4 X4
  clear c0 c1 c2 c3 c4 c5 c6 c7 f0 f1 f2 f3 f4 f5 f6 f7
  clear e0 e1 e2 e3 e4 e5 e6 e7 g0 g1 g2 g3 g4 g5 g6 g7
  obtain ⟨⟨c0, c1, c2, c3, c4, c5, c6, c7⟩, f0, f1, f2, f3, f4, f5, f6, f7⟩ := cells8 A5.out.1
  obtain ⟨⟨e0, e1, e2, e3, e4, e5, e6, e7⟩, g0, g1, g2, g3, g4, g5, g6, g7⟩ := cells8 X5.out.1
  obtain ⟨x, hx⟩ : ∃ x, w2.heap.size = x := ⟨_, rfl⟩
  rw [hx] at X5 hwx e0 e1 e2 e3 e4 e5 e6 e7 g0 g1 g2 g3 g4 g5 g6 g7
  have A6 := hid A5.out
  have X6 := hid X5.out
  clear A5 X5
  go_wp2_with fail
  with_reducible refine (cmdbytes_any ⟨k, u, f, q, s, m, n, t⟩ _ A6.out.parts HO.out hf4 hp4).mono ?_
  rw [HE.out]
  rintro e w7 ⟨P, pc, rfl, hn7, hl7, hs7, hb⟩
  have A7 := hid (A6.out.on hb)
  have X7 := hid (X6.out.on hb)
  have Q7 := hid hs7
  have N7 := hid hn7
  clear hb A6 X6 hs7 hn7 hx
  clear c0 c1 c2 c3 c4 c5 c6 c7 f0 f1 f2 f3 f4 f5 f6 f7
  clear e0 e1 e2 e3 e4 e5 e6 e7 g0 g1 g2 g3 g4 g5 g6 g7
  obtain ⟨⟨c0, c1, c2, c3, c4, c5, c6, c7⟩, f0, f1, f2, f3, f4, f5, f6, f7⟩ := cells8 A7.out.1
  obtain ⟨⟨e0, e1, e2, e3, e4, e5, e6, e7⟩, g0, g1, g2, g3, g4, g5, g6, g7⟩ := cells8 X7.out.1
  go_wp2_with fail
  with_reducible refine (parse_7 P X pc ⟨k, u, f, q, s, m, n, t⟩ _ A7.out.parts OD.out RD.out HX.out N7.out Q7.out).mono ?_
  rintro e w8 ⟨rfl, hb⟩
  have A8 := hid (A7.out.on hb)
  have X8 := hid (X7.out.on hb)
  have Q8 := hid (Q7.out.below hb)
  clear hb A7 X7 Q7
  clear c0 c1 c2 c3 c4 c5 c6 c7 f0 f1 f2 f3 f4 f5 f6 f7
  clear e0 e1 e2 e3 e4 e5 e6 e7 g0 g1 g2 g3 g4 g5 g6 g7
  obtain ⟨y, hy⟩ : ∃ y, w8.heap.size = y := ⟨_, rfl⟩
  have G9 : Hid (Blk (w8.alloc (.cells (cellsOf ⟨k, u, f, q, s, m, n, t⟩) 26)) y 26 (cellsOf ⟨k, u, f, q, s, m, n, t⟩)) := hid (by rw [← hy]; exact Blk.new _ _ _)
  have hbs : y + 1 ≤ (w8.alloc (.cells (cellsOf ⟨k, u, f, q, s, m, n, t⟩) 26)).heap.size := by rw [← hy]; simp
  have W8 : Hid (Below y w8 (w8.alloc (.cells (cellsOf ⟨k, u, f, q, s, m, n, t⟩) 26))) := hid (by rw [← hy]; exact (Below.refl _ _).alloc (Nat.le_refl _) _)
  have hxy : x < y := by rw [← hy]; exact X8.out.lt
  have hwy : w.heap.size < y := by rw [← hy]; exact A8.out.lt
  have QY : Hid (∀ w', Below y w8 w' → Sees .u8 w' P X) := hid (fun w' h => Q8.out.below (by rw [hy]; exact h))
  have QA : Hid (∀ w', Below y w8 w' → Sees .u8 w' A l) := hid (fun w' h => HA.out.below (A8.out.below.trans (h.mono (Nat.le_of_lt hwy))))
  have HY := hid hy
  clear Q8 hy
  go_wp2_with (first
    | ((with_reducible refine wpList_build_none (o := ⟨some 28, _, _, _, _, _⟩) rfl 34 5 rfl Tryd.underlying34 i0 hi (y + 1) hbs ?_); intro s5 z5 hown5 hb5; have C5 := hid (hb5.mono hbs); have y5 := Nat.le_trans hbs hb5.size; have D5 := hid (W8.out.trans (C5.out.mono (Nat.le_succ y))))
    | (at_builtin; refine wpList_append_sees rfl (.tmp 28) (.tmp 29) 34 rfl (y + 1) 5 i0 (.int .u8 0) 1 Tryd.underlying34 hi hz0 hz1 hz2 rfl _ 0 [] rfl hown5 .u8 P pc X rfl N7.out (QY.out _ D5.out) (by unfold maxLen; omega) (by omega) y5 ?_; intro s6 z6 hown6 hg6; simp only [Nat.zero_add, List.nil_append] at hown6; have C6 := hid (C5.out.grown hg6 y5 (fun k hk => (hown5.lt k hk).1)); have y6 := Nat.le_trans y5 hg6.size; have D6 := hid (W8.out.trans (C6.out.mono (Nat.le_succ y))))
    | (at_builtin; refine wpList_append_sees rfl (.tmp 30) (.tmp 31) 34 rfl (y + 1) 5 i0 (.int .u8 0) 1 Tryd.underlying34 hi hz0 hz1 hz2 rfl _ _ _ rfl hown6 .u8 A ca l rfl HN.out (QA.out _ D6.out) (by unfold maxLen; omega) (by omega) y6 ?_; intro s7 z7 hown7 hg7; have C7 := hid (C6.out.grown hg7 y6 (fun k hk => (hown6.lt k hk).1)); have y7 := Nat.le_trans y6 hg7.size; have D7 := hid (W8.out.trans (C7.out.mono (Nat.le_succ y))); obtain ⟨A7, c7, rfl, hn9, _, hs9⟩ := own_slice2 HL.out hown7)
    | (go_at_call 18; (with_reducible refine (newin_any A7 L L.length c7 _ rfl hLl hn9 hs9).mono ?_); rintro e w10 ⟨g, rfl, hin, hb10, hg10⟩))
  have E10 : Hid (Below y w8 w10) := hid (D7.out.trans (hb10.mono (by omega)))
  have A10 := hid (A8.out.on (by rw [HY.out]; exact E10.out))
  have X10 := hid (X8.out.on (by rw [HY.out]; exact E10.out))
  have G10 : Hid (Boxed w w10 y ⟨k, u, f, q, s, m, n, t⟩) := hid ⟨G9.out.below (C7.out.trans (hb10.mono y7)) (Nat.lt_succ_self y), Nat.le_of_lt hwy, A10.out.below, A10.out.2.2.2⟩
  have hyg : y < g := by omega
  have hxg : x < g := by omega
  have hwg : w.heap.size < g := by omega
  have hpg : 1 < g := by omega
  have HI10 : Hid (InAt w10.drew g (enc ⟨k, u, f, q, s, m, n, t⟩ ++ l) 0) := hid (by rw [HX.out, ← HL.out]; exact InAt.drew hin)
  have hl15 : l.length ≤ 1000000000000000 := by omega
  clear hin hb10 hg10 hown5 hown6 hown7 hg6 hg7 hb5 hs9 hn9 C5 C6 C7 D5 D6 D7 y5 y6 y7 hbs W8 G9 E10 QY QA A8 X8 N7
  have EG := eq_guard
  have EQ := fun w => eq_val ⟨k, u, f, q, s, m, n, t⟩ ⟨k, u, f, q, s, m, n, t⟩ true (decide_eq_true rfl) w
  dsimp only [val] at EQ
  rw [HY.out]
  go_region_held3 (fun w' => (w'.cell? ⟨x, 0, none⟩ = some (.int .i64 k) ∧ w'.cell? ⟨x, 1, none⟩ = some (.int .u64 u) ∧ w'.cell? ⟨x, 2, none⟩ = some (.string f) ∧ w'.cell? ⟨x, 3, none⟩ = some (.int .u64 q) ∧ w'.cell? ⟨x, 4, none⟩ = some (.string s) ∧ w'.cell? ⟨x, 5, none⟩ = some (.int .i64 m) ∧ w'.cell? ⟨x, 6, none⟩ = some (.int .u64 n) ∧ w'.cell? ⟨x, 7, none⟩ = some (.int .i64 t)) ∧ w'.cell? ⟨y, 0, none⟩ = some (.int .i64 k) ∧ w'.cell? ⟨y, 1, none⟩ = some (.int .u64 u) ∧ w'.cell? ⟨y, 2, none⟩ = some (.string f) ∧ w'.cell? ⟨y, 3, none⟩ = some (.int .u64 q) ∧ w'.cell? ⟨y, 4, none⟩ = some (.string s) ∧ w'.cell? ⟨y, 5, none⟩ = some (.int .i64 m) ∧ w'.cell? ⟨y, 6, none⟩ = some (.int .u64 n) ∧ w'.cell? ⟨y, 7, none⟩ = some (.int .i64 t))
    (first | exact ⟨(cells8 X10.out.1).1, (cells8 G10.out.1).1⟩ | exact ⟨(cells8 X10.out.drew.1).1, (cells8 G10.out.drew.1).1⟩ | exact ⟨(cells8 X11.out.1).1, (cells8 G11.out.1).1⟩)
    (first
      | (go_at_call 19; (with_reducible refine (take_7 g ⟨k, u, f, q, s, m, n, t⟩ l _ (PartsIs.drew A10.out.parts) hpg OD.out RD.out HI10.out H8.out hl15).mono ?_); rintro e w11 ⟨rfl, hin11, hgr11⟩; have X11 := hid (boxed_only (Boxed.drew X10.out) hgr11 hxg); have G11 := hid (boxed_only (Boxed.drew G10.out) hgr11 hyg); have A11 := hid (boxed_only (Boxed.drew A10.out) hgr11 hwg))
      | (go_at_call 20; (with_reducible refine (left_any g l 0 _ hin11).mono ?_); rintro e w12 ⟨rfl, rfl⟩))
  rename_i hHeld
  clear hHeld EG EQ
  go_wp2
  go_ret
  exact ⟨rfl, A11.out.below⟩

set_option maxRecDepth 100000 in
set_option maxHeartbeats 4000000 in
theorem walk_w (k u : Int) (f : ByteArray) (q : Int) (s : ByteArray) (m n t : Int) (A : Option Addr) (l : List Nat) (ca : Nat) (w : World) (hok : okK ⟨k, u, f, q, s, m, n, t⟩) (hP : PartsIs w) (hn : A = none → ca = 0) (hl : l.length ≤ 140737488351232) (h8 : ∀ x ∈ l, x < 256) (hA : Sees .u8 w A l) (hr : rightK ⟨k, u, f, q, s, m, n, t⟩ = false) :
    Calls Tryd.prog 4 #[val ⟨k, u, f, q, s, m, n, t⟩, .slice A l.length ca] w fun e w' => e = .returned (.bool true) ∧ Below w.heap.size w w' := by
  obtain ⟨i0, hi, hz0, hz1, hz2⟩ := info_parts info_u8
  have rd : rightK ⟨0, 0, ⟨#[]⟩, 0, ⟨#[]⟩, 0, 0, 0⟩ = true := by kernel_rfl
  have od : okK ⟨0, 0, ⟨#[]⟩, 0, ⟨#[]⟩, 0, 0, 0⟩ := by unfold okK; decide
  have hE : encR ⟨k, u, f, q, s, m, n, t⟩ = enc ⟨0, 0, ⟨#[]⟩, 0, ⟨#[]⟩, 0, 0, 0⟩ := by unfold encR; rw [hr]; kernel_rfl
  have hlen := enc_len _ od rd
  have HO := hid hok
  have OD := hid od
  have RD := hid rd
  have HR := hid hr
  have EB := hid (enc_byte _ od rd)
  have HA := hid hA
  have HN := hid hn
  have H8 := hid h8
  have A0 := hid (Boxed.start hP ⟨k, u, f, q, s, m, n, t⟩)
  have hlt := hP.lt
  obtain ⟨X, hX⟩ : ∃ x, enc ⟨0, 0, ⟨#[]⟩, 0, ⟨#[]⟩, 0, 0, 0⟩ = x := ⟨_, rfl⟩
  rw [hX] at hE hlen EB
  have HE := hid hE
  have HX := hid hX
  obtain ⟨L, hL⟩ : ∃ L, L = X ++ l := ⟨_, rfl⟩
  have HL := hid hL
  have hLl : L.length ≤ 140737488355328 := by rw [hL, List.length_append]; omega
  obtain ⟨sm, hsm⟩ : ∃ x, smallK ⟨k, u, f, q, s, m, n, t⟩ = x := ⟨_, rfl⟩
  have SM := hid hsm
  clear hok hP hsm hr hE rd od hn h8 hA hX hL
  go_enter Tryd.func4, Tryd.ntmps4
  go_wp2_with fail
  with_reducible refine (anchor7 _ A0.out.parts).mono ?_
  rintro e w1 ⟨rfl, hb⟩
  have A1 := hid (A0.out.on hb)
  clear hb A0
  obtain ⟨⟨c0, c1, c2, c3, c4, c5, c6, c7⟩, f0, f1, f2, f3, f4, f5, f6, f7⟩ := cells8 A1.out.1
  go_wp2_with fail
  with_reducible refine (small_any ⟨k, u, f, q, s, m, n, t⟩ _).mono ?_
  rw [SM.out]
  rintro e w2 ⟨rfl, hb⟩
  have A2 := hid (A1.out.on hb)
  clear hb A1
  clear c0 c1 c2 c3 c4 c5 c6 c7 f0 f1 f2 f3 f4 f5 f6 f7
  obtain ⟨⟨c0, c1, c2, c3, c4, c5, c6, c7⟩, f0, f1, f2, f3, f4, f5, f6, f7⟩ := cells8 A2.out.1
  cases sm
  · go_wp2
    go_ret
    exact ⟨rfl, A2.out.below⟩
  have hs := SM.out
  unfold smallK at hs
  simp only [Bool.and_eq_true, decide_eq_true_eq] at hs
  obtain ⟨hp, hf⟩ := hs
  have hf9 : f.size ≤ 900 := by omega
  have hp9 : s.size ≤ 900 := by omega
  have hf4 : f.size ≤ 4611686018427387903 := by omega
  have hp4 : s.size ≤ 4611686018427387903 := by omega
  have A3 := hid (A2.out.alloc (.cells (cellsOf ⟨k, u, f, q, s, m, n, t⟩) 26))
  have X3 : Hid (Boxed w (w2.alloc (.cells (cellsOf ⟨k, u, f, q, s, m, n, t⟩) 26)) w2.heap.size ⟨k, u, f, q, s, m, n, t⟩) := hid ⟨Blk.new _ _ _, A2.out.below.size, A3.out.below, A3.out.2.2.2⟩
  have hwx : w.heap.size < w2.heap.size := A2.out.lt
  clear A2
  obtain ⟨⟨a0, a1, a2, a3, a4, a5, a6, a7⟩, b0, b1, b2, b3, b4, b5, b6, b7⟩ := cells8 A3.out.1
  obtain ⟨⟨e0, e1, e2, e3, e4, e5, e6, e7⟩, g0, g1, g2, g3, g4, g5, g6, g7⟩ := cells8 X3.out.1
  go_wp2_with fail
  with_reducible refine (of_any ⟨k, u, f, q, s, m, n, t⟩ _).mono ?_
  rintro e w4 ⟨rfl, hb⟩
  have A4 := hid (A3.out.on hb)
  have X4 := hid (X3.out.on hb)
  clear hb A3 X3 a0 a1 a2 a3 a4 a5 a6 a7 b0 b1 b2 b3 b4 b5 b6 b7
  clear c0 c1 c2 c3 c4 c5 c6 c7 f0 f1 f2 f3 f4 f5 f6 f7
  clear e0 e1 e2 e3 e4 e5 e6 e7 g0 g1 g2 g3 g4 g5 g6 g7
  obtain ⟨⟨c0, c1, c2, c3, c4, c5, c6, c7⟩, f0, f1, f2, f3, f4, f5, f6, f7⟩ := cells8 A4.out.1
  obtain ⟨⟨e0, e1, e2, e3, e4, e5, e6, e7⟩, g0, g1, g2, g3, g4, g5, g6, g7⟩ := cells8 X4.out.1
  go_wp2_with fail
  with_reducible refine (refright7 ⟨k, u, f, q, s, m, n, t⟩ _ HO.out hf9 hp9).mono ?_
  rw [HR.out]
  rintro e w5 ⟨rfl, hb⟩
  have A5 := hid (A4.out.on hb)
  have X5 := hid (X4.out.on hb)
  clear hb A4 X4
  clear c0 c1 c2 c3 c4 c5 c6 c7 f0 f1 f2 f3 f4 f5 f6 f7
  clear e0 e1 e2 e3 e4 e5 e6 e7 g0 g1 g2 g3 g4 g5 g6 g7
  obtain ⟨⟨c0, c1, c2, c3, c4, c5, c6, c7⟩, f0, f1, f2, f3, f4, f5, f6, f7⟩ := cells8 A5.out.1
  obtain ⟨⟨e0, e1, e2, e3, e4, e5, e6, e7⟩, g0, g1, g2, g3, g4, g5, g6, g7⟩ := cells8 X5.out.1
  obtain ⟨x, hx⟩ : ∃ x, w2.heap.size = x := ⟨_, rfl⟩
  rw [hx] at X5 hwx e0 e1 e2 e3 e4 e5 e6 e7 g0 g1 g2 g3 g4 g5 g6 g7
  have A6 := hid (boxed_putfar A5.out (Nat.ne_of_lt hwx) (Nat.le_of_lt hwx) noK)
  have X6 := hid (X5.out.put noK)
  clear A5 X5
  go_wp2_with fail
  with_reducible refine (cmdbytes_any ⟨k, u, f, q, s, m, n, t⟩ _ A6.out.parts HO.out hf4 hp4).mono ?_
  rw [HE.out]
  rintro e w7 ⟨P, pc, rfl, hn7, hl7, hs7, hb⟩
  have A7 := hid (A6.out.on hb)
  have X7 := hid (X6.out.on hb)
  have Q7 := hid hs7
  have N7 := hid hn7
  clear hb A6 X6 hs7 hn7 hx
  clear c0 c1 c2 c3 c4 c5 c6 c7 f0 f1 f2 f3 f4 f5 f6 f7
  clear e0 e1 e2 e3 e4 e5 e6 e7 g0 g1 g2 g3 g4 g5 g6 g7
  obtain ⟨⟨c0, c1, c2, c3, c4, c5, c6, c7⟩, f0, f1, f2, f3, f4, f5, f6, f7⟩ := cells8 A7.out.1
  obtain ⟨⟨e0, e1, e2, e3, e4, e5, e6, e7⟩, g0, g1, g2, g3, g4, g5, g6, g7⟩ := cells8 X7.out.1
  go_wp2_with fail
  with_reducible refine (parse_7 P X pc ⟨0, 0, ⟨#[]⟩, 0, ⟨#[]⟩, 0, 0, 0⟩ _ A7.out.parts OD.out RD.out HX.out N7.out Q7.out).mono ?_
  rintro e w8 ⟨rfl, hb⟩
  have A8 := hid (A7.out.on hb)
  have X8 := hid (X7.out.on hb)
  have Q8 := hid (Q7.out.below hb)
  clear hb A7 X7 Q7
  clear c0 c1 c2 c3 c4 c5 c6 c7 f0 f1 f2 f3 f4 f5 f6 f7
  clear e0 e1 e2 e3 e4 e5 e6 e7 g0 g1 g2 g3 g4 g5 g6 g7
  obtain ⟨y, hy⟩ : ∃ y, w8.heap.size = y := ⟨_, rfl⟩
  have G9 : Hid (Blk (w8.alloc (.cells (cellsOf ⟨0, 0, ⟨#[]⟩, 0, ⟨#[]⟩, 0, 0, 0⟩) 26)) y 26 (cellsOf ⟨0, 0, ⟨#[]⟩, 0, ⟨#[]⟩, 0, 0, 0⟩)) := hid (by rw [← hy]; exact Blk.new _ _ _)
  have hbs : y + 1 ≤ (w8.alloc (.cells (cellsOf ⟨0, 0, ⟨#[]⟩, 0, ⟨#[]⟩, 0, 0, 0⟩) 26)).heap.size := by rw [← hy]; simp
  have W8 : Hid (Below y w8 (w8.alloc (.cells (cellsOf ⟨0, 0, ⟨#[]⟩, 0, ⟨#[]⟩, 0, 0, 0⟩) 26))) := hid (by rw [← hy]; exact (Below.refl _ _).alloc (Nat.le_refl _) _)
  have hxy : x < y := by rw [← hy]; exact X8.out.lt
  have hwy : w.heap.size < y := by rw [← hy]; exact A8.out.lt
  have QY : Hid (∀ w', Below y w8 w' → Sees .u8 w' P X) := hid (fun w' h => Q8.out.below (by rw [hy]; exact h))
  have QA : Hid (∀ w', Below y w8 w' → Sees .u8 w' A l) := hid (fun w' h => HA.out.below (A8.out.below.trans (h.mono (Nat.le_of_lt hwy))))
  have HY := hid hy
  clear Q8 hy
  go_wp2_with (first
    | ((with_reducible refine wpList_build_none (o := ⟨some 28, _, _, _, _, _⟩) rfl 34 5 rfl Tryd.underlying34 i0 hi (y + 1) hbs ?_); intro s5 z5 hown5 hb5; have C5 := hid (hb5.mono hbs); have y5 := Nat.le_trans hbs hb5.size; have D5 := hid (W8.out.trans (C5.out.mono (Nat.le_succ y))))
    | (at_builtin; refine wpList_append_sees rfl (.tmp 28) (.tmp 29) 34 rfl (y + 1) 5 i0 (.int .u8 0) 1 Tryd.underlying34 hi hz0 hz1 hz2 rfl _ 0 [] rfl hown5 .u8 P pc X rfl N7.out (QY.out _ D5.out) (by unfold maxLen; omega) (by omega) y5 ?_; intro s6 z6 hown6 hg6; simp only [Nat.zero_add, List.nil_append] at hown6; have C6 := hid (C5.out.grown hg6 y5 (fun k hk => (hown5.lt k hk).1)); have y6 := Nat.le_trans y5 hg6.size; have D6 := hid (W8.out.trans (C6.out.mono (Nat.le_succ y))))
    | (at_builtin; refine wpList_append_sees rfl (.tmp 30) (.tmp 31) 34 rfl (y + 1) 5 i0 (.int .u8 0) 1 Tryd.underlying34 hi hz0 hz1 hz2 rfl _ _ _ rfl hown6 .u8 A ca l rfl HN.out (QA.out _ D6.out) (by unfold maxLen; omega) (by omega) y6 ?_; intro s7 z7 hown7 hg7; have C7 := hid (C6.out.grown hg7 y6 (fun k hk => (hown6.lt k hk).1)); have y7 := Nat.le_trans y6 hg7.size; have D7 := hid (W8.out.trans (C7.out.mono (Nat.le_succ y))); obtain ⟨A7, c7, rfl, hn9, _, hs9⟩ := own_slice2 HL.out hown7)
    | (go_at_call 18; (with_reducible refine (newin_any A7 L L.length c7 _ rfl hLl hn9 hs9).mono ?_); rintro e w10 ⟨g, rfl, hin, hb10, hg10⟩))
  have E10 : Hid (Below y w8 w10) := hid (D7.out.trans (hb10.mono (by omega)))
  have A10 := hid (A8.out.on (by rw [HY.out]; exact E10.out))
  have X10 := hid (X8.out.on (by rw [HY.out]; exact E10.out))
  have G10 : Hid (Boxed w w10 y ⟨0, 0, ⟨#[]⟩, 0, ⟨#[]⟩, 0, 0, 0⟩) := hid ⟨G9.out.below (C7.out.trans (hb10.mono y7)) (Nat.lt_succ_self y), Nat.le_of_lt hwy, A10.out.below, A10.out.2.2.2⟩
  have hyg : y < g := by omega
  have hxg : x < g := by omega
  have hwg : w.heap.size < g := by omega
  have hpg : 1 < g := by omega
  have HI10 : Hid (InAt w10.drew g (enc ⟨0, 0, ⟨#[]⟩, 0, ⟨#[]⟩, 0, 0, 0⟩ ++ l) 0) := hid (by rw [HX.out, ← HL.out]; exact InAt.drew hin)
  have hl15 : l.length ≤ 1000000000000000 := by omega
  clear hin hb10 hg10 hown5 hown6 hown7 hg6 hg7 hb5 hs9 hn9 C5 C6 C7 D5 D6 D7 y5 y6 y7 hbs W8 G9 E10 QY QA A8 X8 N7
  have EG := eq_guard
  have EQ := fun w => eq_val ⟨0, 0, ⟨#[]⟩, 0, ⟨#[]⟩, 0, 0, 0⟩ ⟨0, 0, ⟨#[]⟩, 0, ⟨#[]⟩, 0, 0, 0⟩ true (decide_eq_true rfl) w
  dsimp only [val] at EQ
  rw [HY.out]
  go_region_held3 (fun w' => (w'.cell? ⟨x, 0, none⟩ = some (.int .i64 0) ∧ w'.cell? ⟨x, 1, none⟩ = some (.int .u64 0) ∧ w'.cell? ⟨x, 2, none⟩ = some (.string ⟨#[]⟩) ∧ w'.cell? ⟨x, 3, none⟩ = some (.int .u64 0) ∧ w'.cell? ⟨x, 4, none⟩ = some (.string ⟨#[]⟩) ∧ w'.cell? ⟨x, 5, none⟩ = some (.int .i64 0) ∧ w'.cell? ⟨x, 6, none⟩ = some (.int .u64 0) ∧ w'.cell? ⟨x, 7, none⟩ = some (.int .i64 0)) ∧ w'.cell? ⟨y, 0, none⟩ = some (.int .i64 0) ∧ w'.cell? ⟨y, 1, none⟩ = some (.int .u64 0) ∧ w'.cell? ⟨y, 2, none⟩ = some (.string ⟨#[]⟩) ∧ w'.cell? ⟨y, 3, none⟩ = some (.int .u64 0) ∧ w'.cell? ⟨y, 4, none⟩ = some (.string ⟨#[]⟩) ∧ w'.cell? ⟨y, 5, none⟩ = some (.int .i64 0) ∧ w'.cell? ⟨y, 6, none⟩ = some (.int .u64 0) ∧ w'.cell? ⟨y, 7, none⟩ = some (.int .i64 0))
    (first | exact ⟨(cells8 X10.out.1).1, (cells8 G10.out.1).1⟩ | exact ⟨(cells8 X10.out.drew.1).1, (cells8 G10.out.drew.1).1⟩ | exact ⟨(cells8 X11.out.1).1, (cells8 G11.out.1).1⟩)
    (first
      | (go_at_call 19; (with_reducible refine (take_7 g ⟨0, 0, ⟨#[]⟩, 0, ⟨#[]⟩, 0, 0, 0⟩ l _ (PartsIs.drew A10.out.parts) hpg OD.out RD.out HI10.out H8.out hl15).mono ?_); rintro e w11 ⟨rfl, hin11, hgr11⟩; have X11 := hid (boxed_only (Boxed.drew X10.out) hgr11 hxg); have G11 := hid (boxed_only (Boxed.drew G10.out) hgr11 hyg); have A11 := hid (boxed_only (Boxed.drew A10.out) hgr11 hwg))
      | (go_at_call 20; (with_reducible refine (left_any g l 0 _ hin11).mono ?_); rintro e w12 ⟨rfl, rfl⟩))
  rename_i hHeld
  clear hHeld EG EQ
  go_wp2
  go_ret
  exact ⟨rfl, A11.out.below⟩

end Go.Proofs.YtkfnbjeknekcgaaDoor.cmdBytes
