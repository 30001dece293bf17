/-
  The document's table of kinds (moothillref07.Has), and a command of its own in a box.
-/
import Derived.Test.YtapmchkikafpmaaDoorKRight
import Derived.Test.YtapmchkikafpmaaDoorPRefJ
import Derived.Laws.Rows
import Derived.Laws.Tables
import Derived.Great.BuildSlice
import Derived.Test.YtapmchkikafpmaaDoorKBytes
import Derived.Test.YtapmchkikafpmaaDoorKSmall
namespace Go.Proofs.YtapmchkikafpmaaDoor
open Go.ChangeShapes Go.WideShapes Go.ChangeAt Go.RowKit Go.Lib
set_option linter.unusedSimpArgs false

def hasBits : List Bool := [false, false, false, false, false, false, true, true, false, false, true, true, true, true, false, false, false, false, true, true, false, false, false, true, true, true, true, true, false, false, true, true, true, true, false, false, true, true, true, false, false, false, true, true, true, false, true, false, true, false, false, false, false, true]
def hasCells : Array Value := (hasBits.map Value.bool).toArray

theorem below_setRow {n g : Nat} {a w : World} (h : Below n a w) (hg : n ≤ g) (cs : Array Value) : Below n a (w.setRow g cs) :=
  ⟨h.os, h.tape, h.output, by have := h.size; simpa [World.setRow] using this, fun i hi => (setRow_other w g i cs (by omega)).trans (h.block i hi)⟩

theorem zeros54 (w : World) {zs : Array Value} (hz : #[Value.bool false, Value.bool false, Value.bool false, Value.bool false, Value.bool false, Value.bool false, Value.bool false, Value.bool false, Value.bool false, Value.bool false, Value.bool false, Value.bool false, Value.bool false, Value.bool false, Value.bool false, Value.bool false, Value.bool false, Value.bool false, Value.bool false, Value.bool false, Value.bool false, Value.bool false, Value.bool false, Value.bool false, Value.bool false, Value.bool false, Value.bool false, Value.bool false, Value.bool false, Value.bool false, Value.bool false, Value.bool false, Value.bool false, Value.bool false, Value.bool false, Value.bool false, Value.bool false, Value.bool false, Value.bool false, Value.bool false, Value.bool false, Value.bool false, Value.bool false, Value.bool false, Value.bool false, Value.bool false, Value.bool false, Value.bool false, Value.bool false, Value.bool false, Value.bool false, Value.bool false, Value.bool false, Value.bool false] = zs) : (w.alloc (.cells #[Value.bool false, Value.bool false, Value.bool false, Value.bool false, Value.bool false, Value.bool false, Value.bool false, Value.bool false, Value.bool false, Value.bool false, Value.bool false, Value.bool false, Value.bool false, Value.bool false, Value.bool false, Value.bool false, Value.bool false, Value.bool false, Value.bool false, Value.bool false, Value.bool false, Value.bool false, Value.bool false, Value.bool false, Value.bool false, Value.bool false, Value.bool false, Value.bool false, Value.bool false, Value.bool false, Value.bool false, Value.bool false, Value.bool false, Value.bool false, Value.bool false, Value.bool false, Value.bool false, Value.bool false, Value.bool false, Value.bool false, Value.bool false, Value.bool false, Value.bool false, Value.bool false, Value.bool false, Value.bool false, Value.bool false, Value.bool false, Value.bool false, Value.bool false, Value.bool false, Value.bool false, Value.bool false, Value.bool false] 75)).heap[w.heap.size]? = some (.cells zs 75 (0, 0)) := by
  subst hz
  exact Blk.new w _ _

set_option maxRecDepth 100000 in
set_option maxHeartbeats 1000000 in
theorem has_ref (w : World) : Calls Tryd.prog 39 #[] w fun e w' => e = .returned (.agg hasCells) ∧ Below w.heap.size w w' := by
  obtain ⟨zs, hz⟩ : ∃ zs, #[Value.bool false, Value.bool false, Value.bool false, Value.bool false, Value.bool false, Value.bool false, Value.bool false, Value.bool false, Value.bool false, Value.bool false, Value.bool false, Value.bool false, Value.bool false, Value.bool false, Value.bool false, Value.bool false, Value.bool false, Value.bool false, Value.bool false, Value.bool false, Value.bool false, Value.bool false, Value.bool false, Value.bool false, Value.bool false, Value.bool false, Value.bool false, Value.bool false, Value.bool false, Value.bool false, Value.bool false, Value.bool false, Value.bool false, Value.bool false, Value.bool false, Value.bool false, Value.bool false, Value.bool false, Value.bool false, Value.bool false, Value.bool false, Value.bool false, Value.bool false, Value.bool false, Value.bool false, Value.bool false, Value.bool false, Value.bool false, Value.bool false, Value.bool false, Value.bool false, Value.bool false, Value.bool false, Value.bool false] = zs := ⟨_, rfl⟩
  have N := hid (zeros54 w hz)
  have H4 : Hid ((Tryd.prog.info? 75).map (·.size) = some hasCells.size) := hid (by kernel_rfl)
  have H6 : Hid (zs.size = hasCells.size) := hid (by rw [← hz]; rfl)
  have H5 : Hid (hasCells.all (·.oneCell') = true) := hid (by kernel_rfl)
  have HZ := hid hz
  clear hz
  go_enter Tryd.func39, Tryd.ntmps39
  go_wp2_with (first
    | (with_reducible refine wpList_buildTo (o := ⟨some 10, _, _, _, _, _⟩) rfl 75 _ rfl (some 10) rfl hasCells (by kernel_rfl) ?_)
    | (with_reducible refine wpList_store_row (o := ⟨none, _, _, _, _, _⟩) rfl 75 (.tmp 0) (.tmp 10) rfl w.heap.size hasCells rfl rfl 75 zs N.out H4.out H6.out H5.out ?_))
  obtain ⟨W0, hW0⟩ : ∃ W0, w.alloc (.cells #[Value.bool false, Value.bool false, Value.bool false, Value.bool false, Value.bool false, Value.bool false, Value.bool false, Value.bool false, Value.bool false, Value.bool false, Value.bool false, Value.bool false, Value.bool false, Value.bool false, Value.bool false, Value.bool false, Value.bool false, Value.bool false, Value.bool false, Value.bool false, Value.bool false, Value.bool false, Value.bool false, Value.bool false, Value.bool false, Value.bool false, Value.bool false, Value.bool false, Value.bool false, Value.bool false, Value.bool false, Value.bool false, Value.bool false, Value.bool false, Value.bool false, Value.bool false, Value.bool false, Value.bool false, Value.bool false, Value.bool false, Value.bool false, Value.bool false, Value.bool false, Value.bool false, Value.bool false, Value.bool false, Value.bool false, Value.bool false, Value.bool false, Value.bool false, Value.bool false, Value.bool false, Value.bool false, Value.bool false] 75) = W0 := ⟨_, rfl⟩
  rw [hW0] at N ⊢
  have HB0 : Hid (Below w.heap.size w W0) := hid (by rw [← hW0]; exact (Below.refl _ _).alloc (Nat.le_refl _) _)
  have K : Hid ((W0.setRow w.heap.size hasCells).heap[w.heap.size]? = some (.cells hasCells 75 (0, 0))) := hid (setRow_heap W0 w.heap.size zs hasCells 75 (0, 0) N.out)
  have HB1 : Hid (Below w.heap.size w (W0.setRow w.heap.size hasCells)) := hid (below_setRow HB0.out (Nat.le_refl _) _)
  clear hW0
  exact bodyPost_ret (v := .agg hasCells) (results_cell_row Tryd.results39 _ _ w.heap.size 75 hasCells (0, 0) _ rfl K.out Tryd.underlying75 rfl H4.out) rfl ⟨rfl, HB1.out⟩

theorem has_ix0 (W : World) : (Instr.index 75 (.agg hasCells) (.int .i64 0)).run Tryd.prog W = .ok (.agg #[Value.bool false, Value.bool false, Value.bool false, Value.bool false, Value.bool false, Value.bool false]) W := by kernel_rfl
theorem has_ix1 (W : World) : (Instr.index 75 (.agg hasCells) (.int .i64 1)).run Tryd.prog W = .ok (.agg #[Value.bool true, Value.bool true, Value.bool false, Value.bool false, Value.bool true, Value.bool true]) W := by kernel_rfl
theorem has_ix2 (W : World) : (Instr.index 75 (.agg hasCells) (.int .i64 2)).run Tryd.prog W = .ok (.agg #[Value.bool true, Value.bool true, Value.bool false, Value.bool false, Value.bool false, Value.bool false]) W := by kernel_rfl
theorem has_ix3 (W : World) : (Instr.index 75 (.agg hasCells) (.int .i64 3)).run Tryd.prog W = .ok (.agg #[Value.bool true, Value.bool true, Value.bool false, Value.bool false, Value.bool false, Value.bool true]) W := by kernel_rfl
theorem has_ix4 (W : World) : (Instr.index 75 (.agg hasCells) (.int .i64 4)).run Tryd.prog W = .ok (.agg #[Value.bool true, Value.bool true, Value.bool true, Value.bool true, Value.bool false, Value.bool false]) W := by kernel_rfl
theorem has_ix5 (W : World) : (Instr.index 75 (.agg hasCells) (.int .i64 5)).run Tryd.prog W = .ok (.agg #[Value.bool true, Value.bool true, Value.bool true, Value.bool true, Value.bool false, Value.bool false]) W := by kernel_rfl
theorem has_ix6 (W : World) : (Instr.index 75 (.agg hasCells) (.int .i64 6)).run Tryd.prog W = .ok (.agg #[Value.bool true, Value.bool true, Value.bool true, Value.bool false, Value.bool false, Value.bool false]) W := by kernel_rfl
theorem has_ix7 (W : World) : (Instr.index 75 (.agg hasCells) (.int .i64 7)).run Tryd.prog W = .ok (.agg #[Value.bool true, Value.bool true, Value.bool true, Value.bool false, Value.bool true, Value.bool false]) W := by kernel_rfl
theorem has_ix8 (W : World) : (Instr.index 75 (.agg hasCells) (.int .i64 8)).run Tryd.prog W = .ok (.agg #[Value.bool true, Value.bool false, Value.bool false, Value.bool false, Value.bool false, Value.bool true]) W := by kernel_rfl

/-- A command, as the document has it, in a box of the call's own. -/
def BoxedC (w0 w : World) (g : Nat) (c : K) : Prop := Blk w g 42 (cellsOf c) ∧ w0.heap.size ≤ g ∧ Below w0.heap.size w0 w
theorem BoxedC.lt {w0 w : World} {g : Nat} {c : K} (h : BoxedC w0 w g c) : g < w.heap.size := h.1.lt
theorem BoxedC.below {w0 w : World} {g : Nat} {c : K} (h : BoxedC w0 w g c) : Below w0.heap.size w0 w := h.2.2
theorem BoxedC.on {w0 w w' : World} {g : Nat} {c : K} (h : BoxedC w0 w g c) (hb : Below w.heap.size w w') : BoxedC w0 w' g c :=
  ⟨h.1.below hb h.1.lt, h.2.1, h.2.2.trans (hb.mono h.2.2.size)⟩
theorem BoxedC.drew {w0 w : World} {g : Nat} {c : K} (h : BoxedC w0 w g c) : BoxedC w0 w.drew g c := ⟨h.1.drew, h.2.1, below_drew h.2.2⟩
theorem BoxedC.alloc {w0 w : World} {g : Nat} {c : K} (h : BoxedC w0 w g c) (o : Obj) : BoxedC w0 (w.alloc o) g c := h.on ((Below.refl _ _).alloc (Nat.le_refl _) o)
theorem BoxedC.far {w0 w : World} {g : Nat} {c : K} (h : BoxedC w0 w g c) {p : Addr} (hp : g ≠ p.block) (h0 : w0.heap.size ≤ p.block) (u : Value) : BoxedC w0 (w.setCell p u) g c :=
  ⟨h.1.far hp u, h.2.1, Below.setCell (p := p) h.2.2 h0 u⟩
theorem BoxedC.start (w : World) (c : K) : BoxedC w (w.alloc (.cells (cellsOf c) 42)) w.heap.size c :=
  ⟨Blk.new _ _ _, Nat.le_refl _, (Below.refl _ _).alloc (Nat.le_refl _) _⟩

theorem BoxedC.kind {w0 w : World} {g : Nat} {c : K} (h : BoxedC w0 w g c) : w.cell? ⟨g, 0, none⟩ = some (.int .i64 c.kind) := (cells8 h.1).1.1

/-- The document's row of a kind in a box made last. -/
def RowAt7 (w : World) (h : Nat) (a b c d e f : Bool) : Prop := Blk w h 74 #[.bool a, .bool b, .bool c, .bool d, .bool e, .bool f]
theorem row7 {w : World} {h : Nat} {a b c d e f : Bool} (r : RowAt7 w h a b c d e f) : (w.cell? ⟨h, 0, none⟩ = some (.bool a) ∧ w.cell? ⟨h, 1, none⟩ = some (.bool b) ∧ w.cell? ⟨h, 2, none⟩ = some (.bool c) ∧ w.cell? ⟨h, 3, none⟩ = some (.bool d) ∧ w.cell? ⟨h, 4, none⟩ = some (.bool e) ∧ w.cell? ⟨h, 5, none⟩ = some (.bool f)) :=
  ⟨(Blk.cell r 0).trans rfl, (Blk.cell r 1).trans rfl, (Blk.cell r 2).trans rfl, (Blk.cell r 3).trans rfl, (Blk.cell r 4).trans rfl, (Blk.cell r 5).trans rfl⟩
theorem rowf7 {w : World} {h : Nat} {a b c d e f : Bool} (r : RowAt7 w h a b c d e f) : w.frozen? ⟨h, 0, none⟩ = false ∧ w.frozen? ⟨h, 1, none⟩ = false ∧ w.frozen? ⟨h, 2, none⟩ = false ∧ w.frozen? ⟨h, 3, none⟩ = false ∧ w.frozen? ⟨h, 4, none⟩ = false ∧ w.frozen? ⟨h, 5, none⟩ = false :=
  ⟨Blk.frozen r 0, Blk.frozen r 1, Blk.frozen r 2, Blk.frozen r 3, Blk.frozen r 4, Blk.frozen r 5⟩
theorem row7_put {w : World} {h : Nat} {a b c d e f a' b' c' d' e' f' : Bool} (r : RowAt7 w h a b c d e f) : RowAt7 ((((((w.setCell ⟨h, 0, none⟩ (.bool a')).setCell ⟨h, 1, none⟩ (.bool b')).setCell ⟨h, 2, none⟩ (.bool c')).setCell ⟨h, 3, none⟩ (.bool d')).setCell ⟨h, 4, none⟩ (.bool e')).setCell ⟨h, 5, none⟩ (.bool f')) h a' b' c' d' e' f' :=
  (((((Blk.set_ r 0 (.bool a')).set_ 1 (.bool b')).set_ 2 (.bool c')).set_ 3 (.bool d')).set_ 4 (.bool e')).set_ 5 (.bool f')
theorem BoxedC.row {w0 w : World} {g h : Nat} {c : K} (hk : BoxedC w0 w g c) (hg : g ≠ h) (h0 : w0.heap.size ≤ h) (a b c' d e f : Value) : BoxedC w0 ((((((w.setCell ⟨h, 0, none⟩ a).setCell ⟨h, 1, none⟩ b).setCell ⟨h, 2, none⟩ c').setCell ⟨h, 3, none⟩ d).setCell ⟨h, 4, none⟩ e).setCell ⟨h, 5, none⟩ f) g c :=
  (((((hk.far (p := ⟨h, 0, none⟩) hg h0 a).far (p := ⟨h, 1, none⟩) hg h0 b).far (p := ⟨h, 2, none⟩) hg h0 c').far (p := ⟨h, 3, none⟩) hg h0 d).far (p := ⟨h, 4, none⟩) hg h0 e).far (p := ⟨h, 5, none⟩) hg h0 f
theorem row_first {W w1 : World} (hb : Below (W.alloc (.cells #[.bool false, .bool false, .bool false, .bool false, .bool false, .bool false] 74)).drew.heap.size (W.alloc (.cells #[.bool false, .bool false, .bool false, .bool false, .bool false, .bool false] 74)).drew w1) : RowAt7 w1 W.heap.size false false false false false false := by
  have h := Blk.new W 74 #[.bool false, .bool false, .bool false, .bool false, .bool false, .bool false]
  exact h.drew.below hb h.lt

end Go.Proofs.YtapmchkikafpmaaDoor

/-
  The contract of the document's Right (moothillref07), kind by kind.
-/
namespace Go.Proofs.YtapmchkikafpmaaDoor
open Go.ChangeShapes Go.WideShapes Go.ChangeAt Go.RowKit Go.Lib
set_option linter.unusedSimpArgs false
set_option linter.unusedVariables false

set_option maxRecDepth 100000 in
set_option maxHeartbeats 8000000 in
theorem ref_0 (u : Int) (f : ByteArray) (q : Int) (s : ByteArray) (m n t : Int) (w : World) (hf : f.size ≤ 900) (hp : s.size ≤ 900) (o1 : 0 ≤ q) (o2 : 0 ≤ n) :
    Calls Tryd.prog 20 #[val ⟨0, u, f, q, s, m, n, t⟩] w fun e w' => e = .returned (.bool (docK ⟨0, u, f, q, s, m, n, t⟩)) ∧ Below w.heap.size w w' := by
  have S0 : Hid (h0 0 = false) := hid rfl
  have S1 : Hid (h1 0 = false) := hid rfl
  have S2 : Hid (h2 0 = false) := hid rfl
  have S3 : Hid (h3 0 = false) := hid rfl
  have S4 : Hid (h4 0 = false) := hid rfl
  have S5 : Hid (h5 0 = false) := hid rfl
  have SK : Hid (isK 0 = true) := hid rfl
  obtain ⟨x0, hx0⟩ : ∃ x, right (L f) = x := ⟨_, rfl⟩
  obtain ⟨x2, hx2⟩ : ∃ x, right (L s) = x := ⟨_, rfl⟩
  have X0 := hid hx0
  have X2 := hid hx2
  clear hx0 hx2
  have A0 : Hid (BoxedC w (w.alloc (.cells (cellsOf ⟨0, u, f, q, s, m, n, t⟩) 42)) w.heap.size ⟨0, u, f, q, s, m, n, t⟩) := hid (BoxedC.start w ⟨0, u, f, q, s, m, n, t⟩)
  go_enter Tryd.func20, Tryd.ntmps20
  obtain ⟨⟨c0, c1, c2, c3, c4, c5, c6, c7⟩, f0, f1, f2, f3, f4, f5, f6, f7⟩ := cells8 A0.out.1
  go_wp2_with fail
  rename_i Kr hKr
  have key0 : ∀ (W : World) (h : Nat), Hid (BoxedC w W w.heap.size ⟨0, u, f, q, s, m, n, t⟩) → Hid (RowAt7 W h false false false false false false) → Kr ⟨#[val ⟨0, u, f, q, s, m, n, t⟩, .pointer (some ⟨w.heap.size, 0, none⟩), .bool false, .pointer (some ⟨h, 0, none⟩), .pointer (some ⟨w.heap.size, 0, none⟩), .int .i64 0, .bool false, .bool false, .pointer (some ⟨w.heap.size, 0, none⟩), .int .i64 0, .bool false, .bool false, .agg hasCells, .pointer (some ⟨w.heap.size, 0, none⟩), .int .i64 0, .agg #[.bool false, .bool false, .bool false, .bool false, .bool false, .bool false], undef, undef, undef, undef, undef, undef, undef, undef, undef, undef, undef, undef, undef, undef, undef, undef, undef, undef, undef, undef, undef, undef, undef, undef, undef, undef, undef, undef, undef, undef, undef, undef, undef, undef, undef, undef, undef, undef, undef, undef, undef, undef, undef, undef, undef, undef, undef, undef, undef, undef, undef, undef, undef, undef, undef, undef, undef, undef, undef, undef, undef, undef, undef, undef, undef, undef, undef, undef, undef, undef, undef, undef, undef, undef, undef, undef, undef, undef, undef, undef, undef, undef, undef, undef, undef, undef, undef, undef, undef, undef, undef, undef, undef, undef, undef, undef, undef, undef, undef, undef, undef, undef, undef, undef, undef, undef, undef, undef, undef, undef, undef, undef, undef, undef, undef, undef, undef, undef, undef, undef, undef, undef, undef, undef, undef, undef, undef, undef, undef, undef, undef, undef, undef, undef, undef, undef, undef, undef, undef, undef, undef, undef], []⟩ W := by
    intro W h A1 R1
    clear A0
    clear c0 c1 c2 c3 c4 c5 c6 c7 f0 f1 f2 f3 f4 f5 f6 f7
    obtain ⟨⟨c0, c1, c2, c3, c4, c5, c6, c7⟩, f0, f1, f2, f3, f4, f5, f6, f7⟩ := cells8 A1.out.1
    obtain ⟨r0, r1, r2, r3, r4, r5⟩ := row7 R1.out
    rcases Decidable.em (u = 0) with z1 | z1
    · have y1 : (u != 0) = false := by rw [z1]; rfl
      have Z1 := hid z1
      clear z1
      rcases Decidable.em (L f = []) with z2 | z2
      · have y2 : f.toList.isEmpty = true := by rw [toList_L, z2]; rfl
        have y2b : f.toList = [] := by rw [toList_L, z2]
        have Z2 := hid z2
        clear z2
        rcases Decidable.em (q = 0) with z3 | z3
        · have y3 : (q != 0) = false := by rw [z3]; rfl
          have Z3 := hid z3
          clear z3
          rcases Decidable.em (L s = []) with z4 | z4
          · have y4 : s.toList.isEmpty = true := by rw [toList_L, z4]; rfl
            have y4b : s.toList = [] := by rw [toList_L, z4]
            have Z4 := hid z4
            clear z4
            rcases Decidable.em (m = 0) with z5 | z5
            · have y5 : (m != 0) = false := by rw [z5]; rfl
              have Z5 := hid z5
              clear z5
              rcases Decidable.em (n = 0) with z6 | z6
              · have y6 : (n != 0) = false := by rw [z6]; rfl
                have Z6 := hid z6
                clear z6
                rcases Decidable.em (t = 0) with z7 | z7
                · have y7 : (t != 0) = false := by rw [z7]; rfl
                  have yt1 : 0 ≤ t := by omega
                  have yt2 : t ≤ 1099511627776 := by omega
                  have Z7 := hid z7
                  clear z7
                  have E : docK ⟨0, u, f, q, s, m, n, t⟩ = true := by simp [docK, lacks, SK.out, S0.out, S1.out, S2.out, S3.out, S4.out, S5.out, X0.out, X2.out, Z1.out, Z2.out, Z3.out, Z4.out, Z5.out, Z6.out, Z7.out] <;> omega
                  have HE := hid E
                  clear E
                  go_wp2
                  go_ret
                  exact ⟨ret_bool (by first | exact HE.out.symm | (rw [HE.out]; simp; omega)), A1.out.below⟩
                · have y7 : (t != 0) = true := bne_iff_ne.2 z7
                  have E : docK ⟨0, u, f, q, s, m, n, t⟩ = false := by simp [docK, lacks, SK.out, S0.out, S1.out, S2.out, S3.out, S4.out, S5.out, X0.out, X2.out, Z1.out, Z2.out, Z3.out, Z4.out, Z5.out, Z6.out, z7] <;> omega
                  have HE := hid E
                  clear E
                  go_wp2
                  go_ret
                  exact ⟨ret_bool (by first | exact HE.out.symm | (rw [HE.out]; simp; omega)), A1.out.below⟩
              · have y6 : (n != 0) = true := bne_iff_ne.2 z6
                have E : docK ⟨0, u, f, q, s, m, n, t⟩ = false := by simp [docK, lacks, SK.out, S0.out, S1.out, S2.out, S3.out, S4.out, S5.out, X0.out, X2.out, Z1.out, Z2.out, Z3.out, Z4.out, Z5.out, z6] <;> omega
                have HE := hid E
                clear E
                go_wp2
                go_ret
                exact ⟨ret_bool (by first | exact HE.out.symm | (rw [HE.out]; simp; omega)), A1.out.below⟩
            · have y5 : (m != 0) = true := bne_iff_ne.2 z5
              have E : docK ⟨0, u, f, q, s, m, n, t⟩ = false := by simp [docK, lacks, SK.out, S0.out, S1.out, S2.out, S3.out, S4.out, S5.out, X0.out, X2.out, Z1.out, Z2.out, Z3.out, Z4.out, z5] <;> omega
              have HE := hid E
              clear E
              go_wp2
              go_ret
              exact ⟨ret_bool (by first | exact HE.out.symm | (rw [HE.out]; simp; omega)), A1.out.below⟩
          · have y4 : s.toList.isEmpty = false := (not_empty (l := L s) rfl z4).1
            have y4b : ¬ s.toList = [] := (not_empty (l := L s) rfl z4).2
            have E : docK ⟨0, u, f, q, s, m, n, t⟩ = false := by simp [docK, lacks, SK.out, S0.out, S1.out, S2.out, S3.out, S4.out, S5.out, X0.out, X2.out, Z1.out, Z2.out, Z3.out, z4] <;> omega
            have HE := hid E
            clear E
            go_wp2
            go_ret
            exact ⟨ret_bool (by first | exact HE.out.symm | (rw [HE.out]; simp; omega)), A1.out.below⟩
        · have y3 : (q != 0) = true := bne_iff_ne.2 z3
          have E : docK ⟨0, u, f, q, s, m, n, t⟩ = false := by simp [docK, lacks, SK.out, S0.out, S1.out, S2.out, S3.out, S4.out, S5.out, X0.out, X2.out, Z1.out, Z2.out, z3] <;> omega
          have HE := hid E
          clear E
          go_wp2
          go_ret
          exact ⟨ret_bool (by first | exact HE.out.symm | (rw [HE.out]; simp; omega)), A1.out.below⟩
      · have y2 : f.toList.isEmpty = false := (not_empty (l := L f) rfl z2).1
        have y2b : ¬ f.toList = [] := (not_empty (l := L f) rfl z2).2
        have E : docK ⟨0, u, f, q, s, m, n, t⟩ = false := by simp [docK, lacks, SK.out, S0.out, S1.out, S2.out, S3.out, S4.out, S5.out, X0.out, X2.out, Z1.out, z2] <;> omega
        have HE := hid E
        clear E
        go_wp2
        go_ret
        exact ⟨ret_bool (by first | exact HE.out.symm | (rw [HE.out]; simp; omega)), A1.out.below⟩
    · have y1 : (u != 0) = true := bne_iff_ne.2 z1
      have E : docK ⟨0, u, f, q, s, m, n, t⟩ = false := by simp [docK, lacks, SK.out, S0.out, S1.out, S2.out, S3.out, S4.out, S5.out, X0.out, X2.out, z1] <;> omega
      have HE := hid E
      clear E
      go_wp2
      go_ret
      exact ⟨ret_bool (by first | exact HE.out.symm | (rw [HE.out]; simp; omega)), A1.out.below⟩
  have key := hid key0
  clear key0 hKr
  obtain ⟨W0, hW0⟩ : ∃ W0, w.alloc (.cells #[.int .i64 0, .int .u64 u, .string f, .int .u64 q, .string s, .int .i64 m, .int .u64 n, .int .i64 t] 42) = W0 := ⟨_, rfl⟩
  have B0 : Hid (BoxedC w W0 w.heap.size ⟨0, u, f, q, s, m, n, t⟩) := hid (by rw [← hW0]; exact A0.out)
  rw [hW0] at c0 c1 c2 c3 c4 c5 c6 c7 f0 f1 f2 f3 f4 f5 f6 f7 ⊢
  have hsz : Hid (w.heap.size < W0.heap.size) := hid B0.out.lt
  clear A0 hW0
  have IX := has_ix0
  go_region_held3 (fun w' => w'.cell? ⟨w.heap.size, 0, none⟩ = some (.int .i64 0))
    (first | with_reducible exact BoxedC.kind (BoxedC.drew B0.out) | with_reducible exact BoxedC.kind (BoxedC.drew (BoxedC.alloc B0.out _)) | with_reducible exact BoxedC.kind A1.out | with_reducible exact BoxedC.kind (BoxedC.alloc A1.out _) | with_reducible exact BoxedC.kind (BoxedC.row (BoxedC.alloc A1.out _) (Nat.ne_of_lt (BoxedC.lt A1.out)) (Nat.le_of_lt (BoxedC.lt A1.out)) _ _ _ _ _ _) | with_reducible exact BoxedC.kind (BoxedC.row A1.out (Nat.ne_of_lt hsz.out) (Nat.le_of_lt hsz.out) _ _ _ _ _ _))
    (first
      | (go_at_call 39; (with_reducible refine (has_ref _).mono ?_); rintro e w1 ⟨rfl, hb1⟩; have A1 := hid (BoxedC.on (BoxedC.drew B0.out) hb1))
      | (go_at_call 39; (with_reducible refine (has_ref _).mono ?_); rintro e w1 ⟨rfl, hb1⟩; have A1 := hid (BoxedC.on (BoxedC.drew (BoxedC.alloc B0.out _)) hb1); have R1 := hid (row_first hb1); obtain ⟨q0, q1, q2, q3, q4, q5⟩ := row7 R1.out; obtain ⟨v0, v1, v2, v3, v4, v5⟩ := rowf7 R1.out))
  all_goals change Kr _ _
  all_goals with_reducible refine key.out _ _ ?_ ?_
  · exact hid (A1.out.alloc _)
  · exact hid (Blk.new w1 74 #[.bool false, .bool false, .bool false, .bool false, .bool false, .bool false])
  · exact hid (A1.out.alloc _)
  · exact hid (Blk.new w1 74 #[.bool false, .bool false, .bool false, .bool false, .bool false, .bool false])
  · exact hid (A1.out.row (Nat.ne_of_lt hsz.out) (Nat.le_of_lt hsz.out) _ _ _ _ _ _)
  · exact hid (row7_put R1.out)

set_option maxRecDepth 100000 in
set_option maxHeartbeats 8000000 in
theorem ref_1 (u : Int) (f : ByteArray) (q : Int) (s : ByteArray) (m n t : Int) (w : World) (hf : f.size ≤ 900) (hp : s.size ≤ 900) (o1 : 0 ≤ q) (o2 : 0 ≤ n) :
    Calls Tryd.prog 20 #[val ⟨1, u, f, q, s, m, n, t⟩] w fun e w' => e = .returned (.bool (docK ⟨1, u, f, q, s, m, n, t⟩)) ∧ Below w.heap.size w w' := by
  have S0 : Hid (h0 1 = true) := hid rfl
  have S1 : Hid (h1 1 = true) := hid rfl
  have S2 : Hid (h2 1 = false) := hid rfl
  have S3 : Hid (h3 1 = false) := hid rfl
  have S4 : Hid (h4 1 = true) := hid rfl
  have S5 : Hid (h5 1 = true) := hid rfl
  have SK : Hid (isK 1 = true) := hid rfl
  obtain ⟨x0, hx0⟩ : ∃ x, right (L f) = x := ⟨_, rfl⟩
  obtain ⟨x2, hx2⟩ : ∃ x, right (L s) = x := ⟨_, rfl⟩
  have X0 := hid hx0
  have X2 := hid hx2
  clear hx0 hx2
  have A0 : Hid (BoxedC w (w.alloc (.cells (cellsOf ⟨1, u, f, q, s, m, n, t⟩) 42)) w.heap.size ⟨1, u, f, q, s, m, n, t⟩) := hid (BoxedC.start w ⟨1, u, f, q, s, m, n, t⟩)
  go_enter Tryd.func20, Tryd.ntmps20
  obtain ⟨⟨c0, c1, c2, c3, c4, c5, c6, c7⟩, f0, f1, f2, f3, f4, f5, f6, f7⟩ := cells8 A0.out.1
  go_wp2_with fail
  rename_i Kr hKr
  have key0 : ∀ (W : World) (h : Nat), Hid (BoxedC w W w.heap.size ⟨1, u, f, q, s, m, n, t⟩) → Hid (RowAt7 W h true true false false true true) → Kr ⟨#[val ⟨1, u, f, q, s, m, n, t⟩, .pointer (some ⟨w.heap.size, 0, none⟩), .bool false, .pointer (some ⟨h, 0, none⟩), .pointer (some ⟨w.heap.size, 0, none⟩), .int .i64 1, .bool false, .bool false, .pointer (some ⟨w.heap.size, 0, none⟩), .int .i64 1, .bool false, .bool false, .agg hasCells, .pointer (some ⟨w.heap.size, 0, none⟩), .int .i64 1, .agg #[.bool true, .bool true, .bool false, .bool false, .bool true, .bool true], undef, undef, undef, undef, undef, undef, undef, undef, undef, undef, undef, undef, undef, undef, undef, undef, undef, undef, undef, undef, undef, undef, undef, undef, undef, undef, undef, undef, undef, undef, undef, undef, undef, undef, undef, undef, undef, undef, undef, undef, undef, undef, undef, undef, undef, undef, undef, undef, undef, undef, undef, undef, undef, undef, undef, undef, undef, undef, undef, undef, undef, undef, undef, undef, undef, undef, undef, undef, undef, undef, undef, undef, undef, undef, undef, undef, undef, undef, undef, undef, undef, undef, undef, undef, undef, undef, undef, undef, undef, undef, undef, undef, undef, undef, undef, undef, undef, undef, undef, undef, undef, undef, undef, undef, undef, undef, undef, undef, undef, undef, undef, undef, undef, undef, undef, undef, undef, undef, undef, undef, undef, undef, undef, undef, undef, undef, undef, undef, undef, undef, undef, undef, undef, undef, undef, undef, undef, undef, undef, undef, undef, undef], []⟩ W := by
    intro W h A1 R1
    clear A0
    clear c0 c1 c2 c3 c4 c5 c6 c7 f0 f1 f2 f3 f4 f5 f6 f7
    obtain ⟨⟨c0, c1, c2, c3, c4, c5, c6, c7⟩, f0, f1, f2, f3, f4, f5, f6, f7⟩ := cells8 A1.out.1
    obtain ⟨r0, r1, r2, r3, r4, r5⟩ := row7 R1.out
    rcases Decidable.em (L s = []) with z1 | z1
    · have y1 : s.toList.isEmpty = true := by rw [toList_L, z1]; rfl
      have y1b : s.toList = [] := by rw [toList_L, z1]
      have Z1 := hid z1
      clear z1
      rcases Decidable.em (m = 0) with z2 | z2
      · have y2 : (m != 0) = false := by rw [z2]; rfl
        have Z2 := hid z2
        clear z2
        cases x0
        · go_wp2_with fail
          with_reducible refine (refright_any f _ hf).mono ?_
          rw [X0.out]
          rintro e w13 ⟨rfl, hb⟩
          have A13 := hid (A1.out.on hb)
          have R13 : Hid (RowAt7 w13 h true true false false true true) := hid (Blk.below R1.out hb (Blk.lt R1.out))
          clear hb A1 R1 r0 r1 r2 r3 r4 r5
          clear c0 c1 c2 c3 c4 c5 c6 c7 f0 f1 f2 f3 f4 f5 f6 f7
          obtain ⟨⟨c0, c1, c2, c3, c4, c5, c6, c7⟩, f0, f1, f2, f3, f4, f5, f6, f7⟩ := cells8 A13.out.1
          obtain ⟨r0, r1, r2, r3, r4, r5⟩ := row7 R13.out
          have E : docK ⟨1, u, f, q, s, m, n, t⟩ = false := by simp [docK, lacks, SK.out, S0.out, S1.out, S2.out, S3.out, S4.out, S5.out, X0.out, X2.out, Z1.out, Z2.out] <;> omega
          have HE := hid E
          clear E
          go_wp2
          go_ret
          exact ⟨ret_bool (by first | exact HE.out.symm | (rw [HE.out]; simp; omega)), A13.out.below⟩
        · go_wp2_with fail
          with_reducible refine (refright_any f _ hf).mono ?_
          rw [X0.out]
          rintro e w13 ⟨rfl, hb⟩
          have A13 := hid (A1.out.on hb)
          have R13 : Hid (RowAt7 w13 h true true false false true true) := hid (Blk.below R1.out hb (Blk.lt R1.out))
          clear hb A1 R1 r0 r1 r2 r3 r4 r5
          clear c0 c1 c2 c3 c4 c5 c6 c7 f0 f1 f2 f3 f4 f5 f6 f7
          obtain ⟨⟨c0, c1, c2, c3, c4, c5, c6, c7⟩, f0, f1, f2, f3, f4, f5, f6, f7⟩ := cells8 A13.out.1
          obtain ⟨r0, r1, r2, r3, r4, r5⟩ := row7 R13.out
          rcases Decidable.em (q = 0) with z4 | z4
          · have y4 : (q == 0) = true := by rw [z4]; rfl
            have E : docK ⟨1, u, f, q, s, m, n, t⟩ = false := by simp [docK, lacks, SK.out, S0.out, S1.out, S2.out, S3.out, S4.out, S5.out, X0.out, X2.out, Z1.out, Z2.out, z4] <;> omega
            have HE := hid E
            clear E
            go_wp2
            go_ret
            exact ⟨ret_bool (by first | exact HE.out.symm | (rw [HE.out]; simp; omega)), A13.out.below⟩
          · have y4 : (q == 0) = false := beq_eq_false_iff_ne.2 z4
            rcases Decidable.em (n = 0) with z5 | z5
            · have y5 : (n == 0) = true := by rw [z5]; rfl
              have E : docK ⟨1, u, f, q, s, m, n, t⟩ = false := by simp [docK, lacks, SK.out, S0.out, S1.out, S2.out, S3.out, S4.out, S5.out, X0.out, X2.out, Z1.out, Z2.out, z4, z5] <;> omega
              have HE := hid E
              clear E
              go_wp2
              go_ret
              exact ⟨ret_bool (by first | exact HE.out.symm | (rw [HE.out]; simp; omega)), A13.out.below⟩
            · have y5 : (n == 0) = false := beq_eq_false_iff_ne.2 z5
              rcases Decidable.em (1048576 < n) with z6 | z6
              · have y6 := z6
                have E : docK ⟨1, u, f, q, s, m, n, t⟩ = false := by simp [docK, lacks, SK.out, S0.out, S1.out, S2.out, S3.out, S4.out, S5.out, X0.out, X2.out, Z1.out, Z2.out, z4, z5] <;> omega
                have HE := hid E
                clear E
                go_wp2
                go_ret
                exact ⟨ret_bool (by first | exact HE.out.symm | (rw [HE.out]; simp; omega)), A13.out.below⟩
              · have y6 := z6
                have y6b : ¬ (9223372036854775807 < n) := by omega
                rcases Decidable.em (0 ≤ t) with z7 | z7
                · rcases Decidable.em (t ≤ 1099511627776) with z7b | z7b
                  · have y7 := z7
                    have E : docK ⟨1, u, f, q, s, m, n, t⟩ = true := by simp [docK, lacks, SK.out, S0.out, S1.out, S2.out, S3.out, S4.out, S5.out, X0.out, X2.out, Z1.out, Z2.out, z4, z5] <;> omega
                    have HE := hid E
                    clear E
                    go_wp2
                    go_ret
                    exact ⟨ret_bool (by first | exact HE.out.symm | (rw [HE.out]; simp; omega)), A13.out.below⟩
                  · have y7 := z7
                    have E : docK ⟨1, u, f, q, s, m, n, t⟩ = false := by simp [docK, lacks, SK.out, S0.out, S1.out, S2.out, S3.out, S4.out, S5.out, X0.out, X2.out, Z1.out, Z2.out, z4, z5] <;> omega
                    have HE := hid E
                    clear E
                    go_wp2
                    go_ret
                    exact ⟨ret_bool (by first | exact HE.out.symm | (rw [HE.out]; simp; omega)), A13.out.below⟩
                · have y7 := z7
                  have E : docK ⟨1, u, f, q, s, m, n, t⟩ = false := by simp [docK, lacks, SK.out, S0.out, S1.out, S2.out, S3.out, S4.out, S5.out, X0.out, X2.out, Z1.out, Z2.out, z4, z5] <;> omega
                  have HE := hid E
                  clear E
                  go_wp2
                  go_ret
                  exact ⟨ret_bool (by first | exact HE.out.symm | (rw [HE.out]; simp; omega)), A13.out.below⟩
      · have y2 : (m != 0) = true := bne_iff_ne.2 z2
        have E : docK ⟨1, u, f, q, s, m, n, t⟩ = false := by simp [docK, lacks, SK.out, S0.out, S1.out, S2.out, S3.out, S4.out, S5.out, X0.out, X2.out, Z1.out, z2] <;> omega
        have HE := hid E
        clear E
        go_wp2
        go_ret
        exact ⟨ret_bool (by first | exact HE.out.symm | (rw [HE.out]; simp; omega)), A1.out.below⟩
    · have y1 : s.toList.isEmpty = false := (not_empty (l := L s) rfl z1).1
      have y1b : ¬ s.toList = [] := (not_empty (l := L s) rfl z1).2
      have E : docK ⟨1, u, f, q, s, m, n, t⟩ = false := by simp [docK, lacks, SK.out, S0.out, S1.out, S2.out, S3.out, S4.out, S5.out, X0.out, X2.out, z1] <;> omega
      have HE := hid E
      clear E
      go_wp2
      go_ret
      exact ⟨ret_bool (by first | exact HE.out.symm | (rw [HE.out]; simp; omega)), A1.out.below⟩
  have key := hid key0
  clear key0 hKr
  obtain ⟨W0, hW0⟩ : ∃ W0, w.alloc (.cells #[.int .i64 1, .int .u64 u, .string f, .int .u64 q, .string s, .int .i64 m, .int .u64 n, .int .i64 t] 42) = W0 := ⟨_, rfl⟩
  have B0 : Hid (BoxedC w W0 w.heap.size ⟨1, u, f, q, s, m, n, t⟩) := hid (by rw [← hW0]; exact A0.out)
  rw [hW0] at c0 c1 c2 c3 c4 c5 c6 c7 f0 f1 f2 f3 f4 f5 f6 f7 ⊢
  have hsz : Hid (w.heap.size < W0.heap.size) := hid B0.out.lt
  clear A0 hW0
  have IX := has_ix1
  go_region_held3 (fun w' => w'.cell? ⟨w.heap.size, 0, none⟩ = some (.int .i64 1))
    (first | with_reducible exact BoxedC.kind (BoxedC.drew B0.out) | with_reducible exact BoxedC.kind (BoxedC.drew (BoxedC.alloc B0.out _)) | with_reducible exact BoxedC.kind A1.out | with_reducible exact BoxedC.kind (BoxedC.alloc A1.out _) | with_reducible exact BoxedC.kind (BoxedC.row (BoxedC.alloc A1.out _) (Nat.ne_of_lt (BoxedC.lt A1.out)) (Nat.le_of_lt (BoxedC.lt A1.out)) _ _ _ _ _ _) | with_reducible exact BoxedC.kind (BoxedC.row A1.out (Nat.ne_of_lt hsz.out) (Nat.le_of_lt hsz.out) _ _ _ _ _ _))
    (first
      | (go_at_call 39; (with_reducible refine (has_ref _).mono ?_); rintro e w1 ⟨rfl, hb1⟩; have A1 := hid (BoxedC.on (BoxedC.drew B0.out) hb1))
      | (go_at_call 39; (with_reducible refine (has_ref _).mono ?_); rintro e w1 ⟨rfl, hb1⟩; have A1 := hid (BoxedC.on (BoxedC.drew (BoxedC.alloc B0.out _)) hb1); have R1 := hid (row_first hb1); obtain ⟨q0, q1, q2, q3, q4, q5⟩ := row7 R1.out; obtain ⟨v0, v1, v2, v3, v4, v5⟩ := rowf7 R1.out))
  all_goals change Kr _ _
  all_goals with_reducible refine key.out _ _ ?_ ?_
  · exact hid (A1.out.alloc _)
  · exact hid (Blk.new w1 74 #[.bool true, .bool true, .bool false, .bool false, .bool true, .bool true])
  · exact hid (A1.out.alloc _)
  · exact hid (Blk.new w1 74 #[.bool true, .bool true, .bool false, .bool false, .bool true, .bool true])
  · exact hid (A1.out.row (Nat.ne_of_lt hsz.out) (Nat.le_of_lt hsz.out) _ _ _ _ _ _)
  · exact hid (row7_put R1.out)

set_option maxRecDepth 100000 in
set_option maxHeartbeats 8000000 in
theorem ref_2 (u : Int) (f : ByteArray) (q : Int) (s : ByteArray) (m n t : Int) (w : World) (hf : f.size ≤ 900) (hp : s.size ≤ 900) (o1 : 0 ≤ q) (o2 : 0 ≤ n) :
    Calls Tryd.prog 20 #[val ⟨2, u, f, q, s, m, n, t⟩] w fun e w' => e = .returned (.bool (docK ⟨2, u, f, q, s, m, n, t⟩)) ∧ Below w.heap.size w w' := by
  have S0 : Hid (h0 2 = true) := hid rfl
  have S1 : Hid (h1 2 = true) := hid rfl
  have S2 : Hid (h2 2 = false) := hid rfl
  have S3 : Hid (h3 2 = false) := hid rfl
  have S4 : Hid (h4 2 = false) := hid rfl
  have S5 : Hid (h5 2 = false) := hid rfl
  have SK : Hid (isK 2 = true) := hid rfl
  obtain ⟨x0, hx0⟩ : ∃ x, right (L f) = x := ⟨_, rfl⟩
  obtain ⟨x2, hx2⟩ : ∃ x, right (L s) = x := ⟨_, rfl⟩
  have X0 := hid hx0
  have X2 := hid hx2
  clear hx0 hx2
  have A0 : Hid (BoxedC w (w.alloc (.cells (cellsOf ⟨2, u, f, q, s, m, n, t⟩) 42)) w.heap.size ⟨2, u, f, q, s, m, n, t⟩) := hid (BoxedC.start w ⟨2, u, f, q, s, m, n, t⟩)
  go_enter Tryd.func20, Tryd.ntmps20
  obtain ⟨⟨c0, c1, c2, c3, c4, c5, c6, c7⟩, f0, f1, f2, f3, f4, f5, f6, f7⟩ := cells8 A0.out.1
  go_wp2_with fail
  rename_i Kr hKr
  have key0 : ∀ (W : World) (h : Nat), Hid (BoxedC w W w.heap.size ⟨2, u, f, q, s, m, n, t⟩) → Hid (RowAt7 W h true true false false false false) → Kr ⟨#[val ⟨2, u, f, q, s, m, n, t⟩, .pointer (some ⟨w.heap.size, 0, none⟩), .bool false, .pointer (some ⟨h, 0, none⟩), .pointer (some ⟨w.heap.size, 0, none⟩), .int .i64 2, .bool false, .bool false, .pointer (some ⟨w.heap.size, 0, none⟩), .int .i64 2, .bool false, .bool false, .agg hasCells, .pointer (some ⟨w.heap.size, 0, none⟩), .int .i64 2, .agg #[.bool true, .bool true, .bool false, .bool false, .bool false, .bool false], undef, undef, undef, undef, undef, undef, undef, undef, undef, undef, undef, undef, undef, undef, undef, undef, undef, undef, undef, undef, undef, undef, undef, undef, undef, undef, undef, undef, undef, undef, undef, undef, undef, undef, undef, undef, undef, undef, undef, undef, undef, undef, undef, undef, undef, undef, undef, undef, undef, undef, undef, undef, undef, undef, undef, undef, undef, undef, undef, undef, undef, undef, undef, undef, undef, undef, undef, undef, undef, undef, undef, undef, undef, undef, undef, undef, undef, undef, undef, undef, undef, undef, undef, undef, undef, undef, undef, undef, undef, undef, undef, undef, undef, undef, undef, undef, undef, undef, undef, undef, undef, undef, undef, undef, undef, undef, undef, undef, undef, undef, undef, undef, undef, undef, undef, undef, undef, undef, undef, undef, undef, undef, undef, undef, undef, undef, undef, undef, undef, undef, undef, undef, undef, undef, undef, undef, undef, undef, undef, undef, undef, undef], []⟩ W := by
    intro W h A1 R1
    clear A0
    clear c0 c1 c2 c3 c4 c5 c6 c7 f0 f1 f2 f3 f4 f5 f6 f7
    obtain ⟨⟨c0, c1, c2, c3, c4, c5, c6, c7⟩, f0, f1, f2, f3, f4, f5, f6, f7⟩ := cells8 A1.out.1
    obtain ⟨r0, r1, r2, r3, r4, r5⟩ := row7 R1.out
    rcases Decidable.em (L s = []) with z1 | z1
    · have y1 : s.toList.isEmpty = true := by rw [toList_L, z1]; rfl
      have y1b : s.toList = [] := by rw [toList_L, z1]
      have Z1 := hid z1
      clear z1
      rcases Decidable.em (m = 0) with z2 | z2
      · have y2 : (m != 0) = false := by rw [z2]; rfl
        have Z2 := hid z2
        clear z2
        rcases Decidable.em (n = 0) with z3 | z3
        · have y3 : (n != 0) = false := by rw [z3]; rfl
          have Z3 := hid z3
          clear z3
          rcases Decidable.em (t = 0) with z4 | z4
          · have y4 : (t != 0) = false := by rw [z4]; rfl
            have yt1 : 0 ≤ t := by omega
            have yt2 : t ≤ 1099511627776 := by omega
            have Z4 := hid z4
            clear z4
            cases x0
            · go_wp2_with fail
              with_reducible refine (refright_any f _ hf).mono ?_
              rw [X0.out]
              rintro e w15 ⟨rfl, hb⟩
              have A15 := hid (A1.out.on hb)
              have R15 : Hid (RowAt7 w15 h true true false false false false) := hid (Blk.below R1.out hb (Blk.lt R1.out))
              clear hb A1 R1 r0 r1 r2 r3 r4 r5
              clear c0 c1 c2 c3 c4 c5 c6 c7 f0 f1 f2 f3 f4 f5 f6 f7
              obtain ⟨⟨c0, c1, c2, c3, c4, c5, c6, c7⟩, f0, f1, f2, f3, f4, f5, f6, f7⟩ := cells8 A15.out.1
              obtain ⟨r0, r1, r2, r3, r4, r5⟩ := row7 R15.out
              have E : docK ⟨2, u, f, q, s, m, n, t⟩ = false := by simp [docK, lacks, SK.out, S0.out, S1.out, S2.out, S3.out, S4.out, S5.out, X0.out, X2.out, Z1.out, Z2.out, Z3.out, Z4.out] <;> omega
              have HE := hid E
              clear E
              go_wp2
              go_ret
              exact ⟨ret_bool (by first | exact HE.out.symm | (rw [HE.out]; simp; omega)), A15.out.below⟩
            · go_wp2_with fail
              with_reducible refine (refright_any f _ hf).mono ?_
              rw [X0.out]
              rintro e w15 ⟨rfl, hb⟩
              have A15 := hid (A1.out.on hb)
              have R15 : Hid (RowAt7 w15 h true true false false false false) := hid (Blk.below R1.out hb (Blk.lt R1.out))
              clear hb A1 R1 r0 r1 r2 r3 r4 r5
              clear c0 c1 c2 c3 c4 c5 c6 c7 f0 f1 f2 f3 f4 f5 f6 f7
              obtain ⟨⟨c0, c1, c2, c3, c4, c5, c6, c7⟩, f0, f1, f2, f3, f4, f5, f6, f7⟩ := cells8 A15.out.1
              obtain ⟨r0, r1, r2, r3, r4, r5⟩ := row7 R15.out
              rcases Decidable.em (q = 0) with z6 | z6
              · have y6 : (q == 0) = true := by rw [z6]; rfl
                have E : docK ⟨2, u, f, q, s, m, n, t⟩ = false := by simp [docK, lacks, SK.out, S0.out, S1.out, S2.out, S3.out, S4.out, S5.out, X0.out, X2.out, Z1.out, Z2.out, Z3.out, Z4.out, z6] <;> omega
                have HE := hid E
                clear E
                go_wp2
                go_ret
                exact ⟨ret_bool (by first | exact HE.out.symm | (rw [HE.out]; simp; omega)), A15.out.below⟩
              · have y6 : (q == 0) = false := beq_eq_false_iff_ne.2 z6
                have E : docK ⟨2, u, f, q, s, m, n, t⟩ = true := by simp [docK, lacks, SK.out, S0.out, S1.out, S2.out, S3.out, S4.out, S5.out, X0.out, X2.out, Z1.out, Z2.out, Z3.out, Z4.out, z6] <;> omega
                have HE := hid E
                clear E
                go_wp2
                go_ret
                exact ⟨ret_bool (by first | exact HE.out.symm | (rw [HE.out]; simp; omega)), A15.out.below⟩
          · have y4 : (t != 0) = true := bne_iff_ne.2 z4
            have E : docK ⟨2, u, f, q, s, m, n, t⟩ = false := by simp [docK, lacks, SK.out, S0.out, S1.out, S2.out, S3.out, S4.out, S5.out, X0.out, X2.out, Z1.out, Z2.out, Z3.out, z4] <;> omega
            have HE := hid E
            clear E
            go_wp2
            go_ret
            exact ⟨ret_bool (by first | exact HE.out.symm | (rw [HE.out]; simp; omega)), A1.out.below⟩
        · have y3 : (n != 0) = true := bne_iff_ne.2 z3
          have E : docK ⟨2, u, f, q, s, m, n, t⟩ = false := by simp [docK, lacks, SK.out, S0.out, S1.out, S2.out, S3.out, S4.out, S5.out, X0.out, X2.out, Z1.out, Z2.out, z3] <;> omega
          have HE := hid E
          clear E
          go_wp2
          go_ret
          exact ⟨ret_bool (by first | exact HE.out.symm | (rw [HE.out]; simp; omega)), A1.out.below⟩
      · have y2 : (m != 0) = true := bne_iff_ne.2 z2
        have E : docK ⟨2, u, f, q, s, m, n, t⟩ = false := by simp [docK, lacks, SK.out, S0.out, S1.out, S2.out, S3.out, S4.out, S5.out, X0.out, X2.out, Z1.out, z2] <;> omega
        have HE := hid E
        clear E
        go_wp2
        go_ret
        exact ⟨ret_bool (by first | exact HE.out.symm | (rw [HE.out]; simp; omega)), A1.out.below⟩
    · have y1 : s.toList.isEmpty = false := (not_empty (l := L s) rfl z1).1
      have y1b : ¬ s.toList = [] := (not_empty (l := L s) rfl z1).2
      have E : docK ⟨2, u, f, q, s, m, n, t⟩ = false := by simp [docK, lacks, SK.out, S0.out, S1.out, S2.out, S3.out, S4.out, S5.out, X0.out, X2.out, z1] <;> omega
      have HE := hid E
      clear E
      go_wp2
      go_ret
      exact ⟨ret_bool (by first | exact HE.out.symm | (rw [HE.out]; simp; omega)), A1.out.below⟩
  have key := hid key0
  clear key0 hKr
  obtain ⟨W0, hW0⟩ : ∃ W0, w.alloc (.cells #[.int .i64 2, .int .u64 u, .string f, .int .u64 q, .string s, .int .i64 m, .int .u64 n, .int .i64 t] 42) = W0 := ⟨_, rfl⟩
  have B0 : Hid (BoxedC w W0 w.heap.size ⟨2, u, f, q, s, m, n, t⟩) := hid (by rw [← hW0]; exact A0.out)
  rw [hW0] at c0 c1 c2 c3 c4 c5 c6 c7 f0 f1 f2 f3 f4 f5 f6 f7 ⊢
  have hsz : Hid (w.heap.size < W0.heap.size) := hid B0.out.lt
  clear A0 hW0
  have IX := has_ix2
  go_region_held3 (fun w' => w'.cell? ⟨w.heap.size, 0, none⟩ = some (.int .i64 2))
    (first | with_reducible exact BoxedC.kind (BoxedC.drew B0.out) | with_reducible exact BoxedC.kind (BoxedC.drew (BoxedC.alloc B0.out _)) | with_reducible exact BoxedC.kind A1.out | with_reducible exact BoxedC.kind (BoxedC.alloc A1.out _) | with_reducible exact BoxedC.kind (BoxedC.row (BoxedC.alloc A1.out _) (Nat.ne_of_lt (BoxedC.lt A1.out)) (Nat.le_of_lt (BoxedC.lt A1.out)) _ _ _ _ _ _) | with_reducible exact BoxedC.kind (BoxedC.row A1.out (Nat.ne_of_lt hsz.out) (Nat.le_of_lt hsz.out) _ _ _ _ _ _))
    (first
      | (go_at_call 39; (with_reducible refine (has_ref _).mono ?_); rintro e w1 ⟨rfl, hb1⟩; have A1 := hid (BoxedC.on (BoxedC.drew B0.out) hb1))
      | (go_at_call 39; (with_reducible refine (has_ref _).mono ?_); rintro e w1 ⟨rfl, hb1⟩; have A1 := hid (BoxedC.on (BoxedC.drew (BoxedC.alloc B0.out _)) hb1); have R1 := hid (row_first hb1); obtain ⟨q0, q1, q2, q3, q4, q5⟩ := row7 R1.out; obtain ⟨v0, v1, v2, v3, v4, v5⟩ := rowf7 R1.out))
  all_goals change Kr _ _
  all_goals with_reducible refine key.out _ _ ?_ ?_
  · exact hid (A1.out.alloc _)
  · exact hid (Blk.new w1 74 #[.bool true, .bool true, .bool false, .bool false, .bool false, .bool false])
  · exact hid (A1.out.alloc _)
  · exact hid (Blk.new w1 74 #[.bool true, .bool true, .bool false, .bool false, .bool false, .bool false])
  · exact hid (A1.out.row (Nat.ne_of_lt hsz.out) (Nat.le_of_lt hsz.out) _ _ _ _ _ _)
  · exact hid (row7_put R1.out)

end Go.Proofs.YtapmchkikafpmaaDoor

/-
  The contract of the document's Right (moothillref07), kind by kind.
-/
namespace Go.Proofs.YtapmchkikafpmaaDoor
open Go.ChangeShapes Go.WideShapes Go.ChangeAt Go.RowKit Go.Lib
set_option linter.unusedSimpArgs false
set_option linter.unusedVariables false

set_option maxRecDepth 100000 in
set_option maxHeartbeats 8000000 in
theorem ref_3 (u : Int) (f : ByteArray) (q : Int) (s : ByteArray) (m n t : Int) (w : World) (hf : f.size ≤ 900) (hp : s.size ≤ 900) (o1 : 0 ≤ q) (o2 : 0 ≤ n) :
    Calls Tryd.prog 20 #[val ⟨3, u, f, q, s, m, n, t⟩] w fun e w' => e = .returned (.bool (docK ⟨3, u, f, q, s, m, n, t⟩)) ∧ Below w.heap.size w w' := by
  have S0 : Hid (h0 3 = true) := hid rfl
  have S1 : Hid (h1 3 = true) := hid rfl
  have S2 : Hid (h2 3 = false) := hid rfl
  have S3 : Hid (h3 3 = false) := hid rfl
  have S4 : Hid (h4 3 = false) := hid rfl
  have S5 : Hid (h5 3 = true) := hid rfl
  have SK : Hid (isK 3 = true) := hid rfl
  obtain ⟨x0, hx0⟩ : ∃ x, right (L f) = x := ⟨_, rfl⟩
  obtain ⟨x2, hx2⟩ : ∃ x, right (L s) = x := ⟨_, rfl⟩
  have X0 := hid hx0
  have X2 := hid hx2
  clear hx0 hx2
  have A0 : Hid (BoxedC w (w.alloc (.cells (cellsOf ⟨3, u, f, q, s, m, n, t⟩) 42)) w.heap.size ⟨3, u, f, q, s, m, n, t⟩) := hid (BoxedC.start w ⟨3, u, f, q, s, m, n, t⟩)
  go_enter Tryd.func20, Tryd.ntmps20
  obtain ⟨⟨c0, c1, c2, c3, c4, c5, c6, c7⟩, f0, f1, f2, f3, f4, f5, f6, f7⟩ := cells8 A0.out.1
  go_wp2_with fail
  rename_i Kr hKr
  have key0 : ∀ (W : World) (h : Nat), Hid (BoxedC w W w.heap.size ⟨3, u, f, q, s, m, n, t⟩) → Hid (RowAt7 W h true true false false false true) → Kr ⟨#[val ⟨3, u, f, q, s, m, n, t⟩, .pointer (some ⟨w.heap.size, 0, none⟩), .bool false, .pointer (some ⟨h, 0, none⟩), .pointer (some ⟨w.heap.size, 0, none⟩), .int .i64 3, .bool false, .bool false, .pointer (some ⟨w.heap.size, 0, none⟩), .int .i64 3, .bool false, .bool false, .agg hasCells, .pointer (some ⟨w.heap.size, 0, none⟩), .int .i64 3, .agg #[.bool true, .bool true, .bool false, .bool false, .bool false, .bool true], undef, undef, undef, undef, undef, undef, undef, undef, undef, undef, undef, undef, undef, undef, undef, undef, undef, undef, undef, undef, undef, undef, undef, undef, undef, undef, undef, undef, undef, undef, undef, undef, undef, undef, undef, undef, undef, undef, undef, undef, undef, undef, undef, undef, undef, undef, undef, undef, undef, undef, undef, undef, undef, undef, undef, undef, undef, undef, undef, undef, undef, undef, undef, undef, undef, undef, undef, undef, undef, undef, undef, undef, undef, undef, undef, undef, undef, undef, undef, undef, undef, undef, undef, undef, undef, undef, undef, undef, undef, undef, undef, undef, undef, undef, undef, undef, undef, undef, undef, undef, undef, undef, undef, undef, undef, undef, undef, undef, undef, undef, undef, undef, undef, undef, undef, undef, undef, undef, undef, undef, undef, undef, undef, undef, undef, undef, undef, undef, undef, undef, undef, undef, undef, undef, undef, undef, undef, undef, undef, undef, undef, undef], []⟩ W := by
    intro W h A1 R1
    clear A0
    clear c0 c1 c2 c3 c4 c5 c6 c7 f0 f1 f2 f3 f4 f5 f6 f7
    obtain ⟨⟨c0, c1, c2, c3, c4, c5, c6, c7⟩, f0, f1, f2, f3, f4, f5, f6, f7⟩ := cells8 A1.out.1
    obtain ⟨r0, r1, r2, r3, r4, r5⟩ := row7 R1.out
    rcases Decidable.em (L s = []) with z1 | z1
    · have y1 : s.toList.isEmpty = true := by rw [toList_L, z1]; rfl
      have y1b : s.toList = [] := by rw [toList_L, z1]
      have Z1 := hid z1
      clear z1
      rcases Decidable.em (m = 0) with z2 | z2
      · have y2 : (m != 0) = false := by rw [z2]; rfl
        have Z2 := hid z2
        clear z2
        rcases Decidable.em (n = 0) with z3 | z3
        · have y3 : (n != 0) = false := by rw [z3]; rfl
          have Z3 := hid z3
          clear z3
          cases x0
          · go_wp2_with fail
            with_reducible refine (refright_any f _ hf).mono ?_
            rw [X0.out]
            rintro e w14 ⟨rfl, hb⟩
            have A14 := hid (A1.out.on hb)
            have R14 : Hid (RowAt7 w14 h true true false false false true) := hid (Blk.below R1.out hb (Blk.lt R1.out))
            clear hb A1 R1 r0 r1 r2 r3 r4 r5
            clear c0 c1 c2 c3 c4 c5 c6 c7 f0 f1 f2 f3 f4 f5 f6 f7
            obtain ⟨⟨c0, c1, c2, c3, c4, c5, c6, c7⟩, f0, f1, f2, f3, f4, f5, f6, f7⟩ := cells8 A14.out.1
            obtain ⟨r0, r1, r2, r3, r4, r5⟩ := row7 R14.out
            have E : docK ⟨3, u, f, q, s, m, n, t⟩ = false := by simp [docK, lacks, SK.out, S0.out, S1.out, S2.out, S3.out, S4.out, S5.out, X0.out, X2.out, Z1.out, Z2.out, Z3.out] <;> omega
            have HE := hid E
            clear E
            go_wp2
            go_ret
            exact ⟨ret_bool (by first | exact HE.out.symm | (rw [HE.out]; simp; omega)), A14.out.below⟩
          · go_wp2_with fail
            with_reducible refine (refright_any f _ hf).mono ?_
            rw [X0.out]
            rintro e w14 ⟨rfl, hb⟩
            have A14 := hid (A1.out.on hb)
            have R14 : Hid (RowAt7 w14 h true true false false false true) := hid (Blk.below R1.out hb (Blk.lt R1.out))
            clear hb A1 R1 r0 r1 r2 r3 r4 r5
            clear c0 c1 c2 c3 c4 c5 c6 c7 f0 f1 f2 f3 f4 f5 f6 f7
            obtain ⟨⟨c0, c1, c2, c3, c4, c5, c6, c7⟩, f0, f1, f2, f3, f4, f5, f6, f7⟩ := cells8 A14.out.1
            obtain ⟨r0, r1, r2, r3, r4, r5⟩ := row7 R14.out
            rcases Decidable.em (q = 0) with z5 | z5
            · have y5 : (q == 0) = true := by rw [z5]; rfl
              have E : docK ⟨3, u, f, q, s, m, n, t⟩ = false := by simp [docK, lacks, SK.out, S0.out, S1.out, S2.out, S3.out, S4.out, S5.out, X0.out, X2.out, Z1.out, Z2.out, Z3.out, z5] <;> omega
              have HE := hid E
              clear E
              go_wp2
              go_ret
              exact ⟨ret_bool (by first | exact HE.out.symm | (rw [HE.out]; simp; omega)), A14.out.below⟩
            · have y5 : (q == 0) = false := beq_eq_false_iff_ne.2 z5
              rcases Decidable.em (0 ≤ t) with z6 | z6
              · rcases Decidable.em (t ≤ 1099511627776) with z6b | z6b
                · have y6 := z6
                  have E : docK ⟨3, u, f, q, s, m, n, t⟩ = true := by simp [docK, lacks, SK.out, S0.out, S1.out, S2.out, S3.out, S4.out, S5.out, X0.out, X2.out, Z1.out, Z2.out, Z3.out, z5] <;> omega
                  have HE := hid E
                  clear E
                  go_wp2
                  go_ret
                  exact ⟨ret_bool (by first | exact HE.out.symm | (rw [HE.out]; simp; omega)), A14.out.below⟩
                · have y6 := z6
                  have E : docK ⟨3, u, f, q, s, m, n, t⟩ = false := by simp [docK, lacks, SK.out, S0.out, S1.out, S2.out, S3.out, S4.out, S5.out, X0.out, X2.out, Z1.out, Z2.out, Z3.out, z5] <;> omega
                  have HE := hid E
                  clear E
                  go_wp2
                  go_ret
                  exact ⟨ret_bool (by first | exact HE.out.symm | (rw [HE.out]; simp; omega)), A14.out.below⟩
              · have y6 := z6
                have E : docK ⟨3, u, f, q, s, m, n, t⟩ = false := by simp [docK, lacks, SK.out, S0.out, S1.out, S2.out, S3.out, S4.out, S5.out, X0.out, X2.out, Z1.out, Z2.out, Z3.out, z5] <;> omega
                have HE := hid E
                clear E
                go_wp2
                go_ret
                exact ⟨ret_bool (by first | exact HE.out.symm | (rw [HE.out]; simp; omega)), A14.out.below⟩
        · have y3 : (n != 0) = true := bne_iff_ne.2 z3
          have E : docK ⟨3, u, f, q, s, m, n, t⟩ = false := by simp [docK, lacks, SK.out, S0.out, S1.out, S2.out, S3.out, S4.out, S5.out, X0.out, X2.out, Z1.out, Z2.out, z3] <;> omega
          have HE := hid E
          clear E
          go_wp2
          go_ret
          exact ⟨ret_bool (by first | exact HE.out.symm | (rw [HE.out]; simp; omega)), A1.out.below⟩
      · have y2 : (m != 0) = true := bne_iff_ne.2 z2
        have E : docK ⟨3, u, f, q, s, m, n, t⟩ = false := by simp [docK, lacks, SK.out, S0.out, S1.out, S2.out, S3.out, S4.out, S5.out, X0.out, X2.out, Z1.out, z2] <;> omega
        have HE := hid E
        clear E
        go_wp2
        go_ret
        exact ⟨ret_bool (by first | exact HE.out.symm | (rw [HE.out]; simp; omega)), A1.out.below⟩
    · have y1 : s.toList.isEmpty = false := (not_empty (l := L s) rfl z1).1
      have y1b : ¬ s.toList = [] := (not_empty (l := L s) rfl z1).2
      have E : docK ⟨3, u, f, q, s, m, n, t⟩ = false := by simp [docK, lacks, SK.out, S0.out, S1.out, S2.out, S3.out, S4.out, S5.out, X0.out, X2.out, z1] <;> omega
      have HE := hid E
      clear E
      go_wp2
      go_ret
      exact ⟨ret_bool (by first | exact HE.out.symm | (rw [HE.out]; simp; omega)), A1.out.below⟩
  have key := hid key0
  clear key0 hKr
  obtain ⟨W0, hW0⟩ : ∃ W0, w.alloc (.cells #[.int .i64 3, .int .u64 u, .string f, .int .u64 q, .string s, .int .i64 m, .int .u64 n, .int .i64 t] 42) = W0 := ⟨_, rfl⟩
  have B0 : Hid (BoxedC w W0 w.heap.size ⟨3, u, f, q, s, m, n, t⟩) := hid (by rw [← hW0]; exact A0.out)
  rw [hW0] at c0 c1 c2 c3 c4 c5 c6 c7 f0 f1 f2 f3 f4 f5 f6 f7 ⊢
  have hsz : Hid (w.heap.size < W0.heap.size) := hid B0.out.lt
  clear A0 hW0
  have IX := has_ix3
  go_region_held3 (fun w' => w'.cell? ⟨w.heap.size, 0, none⟩ = some (.int .i64 3))
    (first | with_reducible exact BoxedC.kind (BoxedC.drew B0.out) | with_reducible exact BoxedC.kind (BoxedC.drew (BoxedC.alloc B0.out _)) | with_reducible exact BoxedC.kind A1.out | with_reducible exact BoxedC.kind (BoxedC.alloc A1.out _) | with_reducible exact BoxedC.kind (BoxedC.row (BoxedC.alloc A1.out _) (Nat.ne_of_lt (BoxedC.lt A1.out)) (Nat.le_of_lt (BoxedC.lt A1.out)) _ _ _ _ _ _) | with_reducible exact BoxedC.kind (BoxedC.row A1.out (Nat.ne_of_lt hsz.out) (Nat.le_of_lt hsz.out) _ _ _ _ _ _))
    (first
      | (go_at_call 39; (with_reducible refine (has_ref _).mono ?_); rintro e w1 ⟨rfl, hb1⟩; have A1 := hid (BoxedC.on (BoxedC.drew B0.out) hb1))
      | (go_at_call 39; (with_reducible refine (has_ref _).mono ?_); rintro e w1 ⟨rfl, hb1⟩; have A1 := hid (BoxedC.on (BoxedC.drew (BoxedC.alloc B0.out _)) hb1); have R1 := hid (row_first hb1); obtain ⟨q0, q1, q2, q3, q4, q5⟩ := row7 R1.out; obtain ⟨v0, v1, v2, v3, v4, v5⟩ := rowf7 R1.out))
  all_goals change Kr _ _
  all_goals with_reducible refine key.out _ _ ?_ ?_
  · exact hid (A1.out.alloc _)
  · exact hid (Blk.new w1 74 #[.bool true, .bool true, .bool false, .bool false, .bool false, .bool true])
  · exact hid (A1.out.alloc _)
  · exact hid (Blk.new w1 74 #[.bool true, .bool true, .bool false, .bool false, .bool false, .bool true])
  · exact hid (A1.out.row (Nat.ne_of_lt hsz.out) (Nat.le_of_lt hsz.out) _ _ _ _ _ _)
  · exact hid (row7_put R1.out)

set_option maxRecDepth 100000 in
set_option maxHeartbeats 8000000 in
theorem ref_4 (u : Int) (f : ByteArray) (q : Int) (s : ByteArray) (m n t : Int) (w : World) (hf : f.size ≤ 900) (hp : s.size ≤ 900) (o1 : 0 ≤ q) (o2 : 0 ≤ n) :
    Calls Tryd.prog 20 #[val ⟨4, u, f, q, s, m, n, t⟩] w fun e w' => e = .returned (.bool (docK ⟨4, u, f, q, s, m, n, t⟩)) ∧ Below w.heap.size w w' := by
  have S0 : Hid (h0 4 = true) := hid rfl
  have S1 : Hid (h1 4 = true) := hid rfl
  have S2 : Hid (h2 4 = true) := hid rfl
  have S3 : Hid (h3 4 = true) := hid rfl
  have S4 : Hid (h4 4 = false) := hid rfl
  have S5 : Hid (h5 4 = false) := hid rfl
  have SK : Hid (isK 4 = true) := hid rfl
  obtain ⟨x0, hx0⟩ : ∃ x, right (L f) = x := ⟨_, rfl⟩
  obtain ⟨x2, hx2⟩ : ∃ x, right (L s) = x := ⟨_, rfl⟩
  have X0 := hid hx0
  have X2 := hid hx2
  clear hx0 hx2
  have A0 : Hid (BoxedC w (w.alloc (.cells (cellsOf ⟨4, u, f, q, s, m, n, t⟩) 42)) w.heap.size ⟨4, u, f, q, s, m, n, t⟩) := hid (BoxedC.start w ⟨4, u, f, q, s, m, n, t⟩)
  go_enter Tryd.func20, Tryd.ntmps20
  obtain ⟨⟨c0, c1, c2, c3, c4, c5, c6, c7⟩, f0, f1, f2, f3, f4, f5, f6, f7⟩ := cells8 A0.out.1
  go_wp2_with fail
  rename_i Kr hKr
  have key0 : ∀ (W : World) (h : Nat), Hid (BoxedC w W w.heap.size ⟨4, u, f, q, s, m, n, t⟩) → Hid (RowAt7 W h true true true true false false) → Kr ⟨#[val ⟨4, u, f, q, s, m, n, t⟩, .pointer (some ⟨w.heap.size, 0, none⟩), .bool false, .pointer (some ⟨h, 0, none⟩), .pointer (some ⟨w.heap.size, 0, none⟩), .int .i64 4, .bool false, .bool false, .pointer (some ⟨w.heap.size, 0, none⟩), .int .i64 4, .bool false, .bool false, .agg hasCells, .pointer (some ⟨w.heap.size, 0, none⟩), .int .i64 4, .agg #[.bool true, .bool true, .bool true, .bool true, .bool false, .bool false], undef, undef, undef, undef, undef, undef, undef, undef, undef, undef, undef, undef, undef, undef, undef, undef, undef, undef, undef, undef, undef, undef, undef, undef, undef, undef, undef, undef, undef, undef, undef, undef, undef, undef, undef, undef, undef, undef, undef, undef, undef, undef, undef, undef, undef, undef, undef, undef, undef, undef, undef, undef, undef, undef, undef, undef, undef, undef, undef, undef, undef, undef, undef, undef, undef, undef, undef, undef, undef, undef, undef, undef, undef, undef, undef, undef, undef, undef, undef, undef, undef, undef, undef, undef, undef, undef, undef, undef, undef, undef, undef, undef, undef, undef, undef, undef, undef, undef, undef, undef, undef, undef, undef, undef, undef, undef, undef, undef, undef, undef, undef, undef, undef, undef, undef, undef, undef, undef, undef, undef, undef, undef, undef, undef, undef, undef, undef, undef, undef, undef, undef, undef, undef, undef, undef, undef, undef, undef, undef, undef, undef, undef], []⟩ W := by
    intro W h A1 R1
    clear A0
    clear c0 c1 c2 c3 c4 c5 c6 c7 f0 f1 f2 f3 f4 f5 f6 f7
    obtain ⟨⟨c0, c1, c2, c3, c4, c5, c6, c7⟩, f0, f1, f2, f3, f4, f5, f6, f7⟩ := cells8 A1.out.1
    obtain ⟨r0, r1, r2, r3, r4, r5⟩ := row7 R1.out
    rcases Decidable.em (n = 0) with z1 | z1
    · have y1 : (n != 0) = false := by rw [z1]; rfl
      have Z1 := hid z1
      clear z1
      rcases Decidable.em (t = 0) with z2 | z2
      · have y2 : (t != 0) = false := by rw [z2]; rfl
        have yt1 : 0 ≤ t := by omega
        have yt2 : t ≤ 1099511627776 := by omega
        have Z2 := hid z2
        clear z2
        cases x0
        · go_wp2_with fail
          with_reducible refine (refright_any f _ hf).mono ?_
          rw [X0.out]
          rintro e w13 ⟨rfl, hb⟩
          have A13 := hid (A1.out.on hb)
          have R13 : Hid (RowAt7 w13 h true true true true false false) := hid (Blk.below R1.out hb (Blk.lt R1.out))
          clear hb A1 R1 r0 r1 r2 r3 r4 r5
          clear c0 c1 c2 c3 c4 c5 c6 c7 f0 f1 f2 f3 f4 f5 f6 f7
          obtain ⟨⟨c0, c1, c2, c3, c4, c5, c6, c7⟩, f0, f1, f2, f3, f4, f5, f6, f7⟩ := cells8 A13.out.1
          obtain ⟨r0, r1, r2, r3, r4, r5⟩ := row7 R13.out
          have E : docK ⟨4, u, f, q, s, m, n, t⟩ = false := by simp [docK, lacks, SK.out, S0.out, S1.out, S2.out, S3.out, S4.out, S5.out, X0.out, X2.out, Z1.out, Z2.out] <;> omega
          have HE := hid E
          clear E
          go_wp2
          go_ret
          exact ⟨ret_bool (by first | exact HE.out.symm | (rw [HE.out]; simp; omega)), A13.out.below⟩
        · go_wp2_with fail
          with_reducible refine (refright_any f _ hf).mono ?_
          rw [X0.out]
          rintro e w13 ⟨rfl, hb⟩
          have A13 := hid (A1.out.on hb)
          have R13 : Hid (RowAt7 w13 h true true true true false false) := hid (Blk.below R1.out hb (Blk.lt R1.out))
          clear hb A1 R1 r0 r1 r2 r3 r4 r5
          clear c0 c1 c2 c3 c4 c5 c6 c7 f0 f1 f2 f3 f4 f5 f6 f7
          obtain ⟨⟨c0, c1, c2, c3, c4, c5, c6, c7⟩, f0, f1, f2, f3, f4, f5, f6, f7⟩ := cells8 A13.out.1
          obtain ⟨r0, r1, r2, r3, r4, r5⟩ := row7 R13.out
          rcases Decidable.em (q = 0) with z4 | z4
          · have y4 : (q == 0) = true := by rw [z4]; rfl
            have E : docK ⟨4, u, f, q, s, m, n, t⟩ = false := by simp [docK, lacks, SK.out, S0.out, S1.out, S2.out, S3.out, S4.out, S5.out, X0.out, X2.out, Z1.out, Z2.out, z4] <;> omega
            have HE := hid E
            clear E
            go_wp2
            go_ret
            exact ⟨ret_bool (by first | exact HE.out.symm | (rw [HE.out]; simp; omega)), A13.out.below⟩
          · have y4 : (q == 0) = false := beq_eq_false_iff_ne.2 z4
            cases x2
            · go_wp2_with fail
              with_reducible refine (refright_any s _ hp).mono ?_
              rw [X2.out]
              rintro e w15 ⟨rfl, hb⟩
              have A15 := hid (A13.out.on hb)
              have R15 : Hid (RowAt7 w15 h true true true true false false) := hid (Blk.below R13.out hb (Blk.lt R13.out))
              clear hb A13 R13 r0 r1 r2 r3 r4 r5
              clear c0 c1 c2 c3 c4 c5 c6 c7 f0 f1 f2 f3 f4 f5 f6 f7
              obtain ⟨⟨c0, c1, c2, c3, c4, c5, c6, c7⟩, f0, f1, f2, f3, f4, f5, f6, f7⟩ := cells8 A15.out.1
              obtain ⟨r0, r1, r2, r3, r4, r5⟩ := row7 R15.out
              have E : docK ⟨4, u, f, q, s, m, n, t⟩ = false := by simp [docK, lacks, SK.out, S0.out, S1.out, S2.out, S3.out, S4.out, S5.out, X0.out, X2.out, Z1.out, Z2.out, z4] <;> omega
              have HE := hid E
              clear E
              go_wp2
              go_ret
              exact ⟨ret_bool (by first | exact HE.out.symm | (rw [HE.out]; simp; omega)), A15.out.below⟩
            · go_wp2_with fail
              with_reducible refine (refright_any s _ hp).mono ?_
              rw [X2.out]
              rintro e w15 ⟨rfl, hb⟩
              have A15 := hid (A13.out.on hb)
              have R15 : Hid (RowAt7 w15 h true true true true false false) := hid (Blk.below R13.out hb (Blk.lt R13.out))
              clear hb A13 R13 r0 r1 r2 r3 r4 r5
              clear c0 c1 c2 c3 c4 c5 c6 c7 f0 f1 f2 f3 f4 f5 f6 f7
              obtain ⟨⟨c0, c1, c2, c3, c4, c5, c6, c7⟩, f0, f1, f2, f3, f4, f5, f6, f7⟩ := cells8 A15.out.1
              obtain ⟨r0, r1, r2, r3, r4, r5⟩ := row7 R15.out
              rcases Decidable.em (m < 1) with z6 | z6
              · have y6 := z6
                have E : docK ⟨4, u, f, q, s, m, n, t⟩ = false := by simp [docK, lacks, SK.out, S0.out, S1.out, S2.out, S3.out, S4.out, S5.out, X0.out, X2.out, Z1.out, Z2.out, z4] <;> omega
                have HE := hid E
                clear E
                go_wp2
                go_ret
                exact ⟨ret_bool (by first | exact HE.out.symm | (rw [HE.out]; simp; omega)), A15.out.below⟩
              · rcases Decidable.em (2 < m) with z6b | z6b
                · have y6 := z6
                  have E : docK ⟨4, u, f, q, s, m, n, t⟩ = false := by simp [docK, lacks, SK.out, S0.out, S1.out, S2.out, S3.out, S4.out, S5.out, X0.out, X2.out, Z1.out, Z2.out, z4] <;> omega
                  have HE := hid E
                  clear E
                  go_wp2
                  go_ret
                  exact ⟨ret_bool (by first | exact HE.out.symm | (rw [HE.out]; simp; omega)), A15.out.below⟩
                · have y6 := z6
                  have E : docK ⟨4, u, f, q, s, m, n, t⟩ = true := by simp [docK, lacks, SK.out, S0.out, S1.out, S2.out, S3.out, S4.out, S5.out, X0.out, X2.out, Z1.out, Z2.out, z4] <;> omega
                  have HE := hid E
                  clear E
                  go_wp2
                  go_ret
                  exact ⟨ret_bool (by first | exact HE.out.symm | (rw [HE.out]; simp; omega)), A15.out.below⟩
      · have y2 : (t != 0) = true := bne_iff_ne.2 z2
        have E : docK ⟨4, u, f, q, s, m, n, t⟩ = false := by simp [docK, lacks, SK.out, S0.out, S1.out, S2.out, S3.out, S4.out, S5.out, X0.out, X2.out, Z1.out, z2] <;> omega
        have HE := hid E
        clear E
        go_wp2
        go_ret
        exact ⟨ret_bool (by first | exact HE.out.symm | (rw [HE.out]; simp; omega)), A1.out.below⟩
    · have y1 : (n != 0) = true := bne_iff_ne.2 z1
      have E : docK ⟨4, u, f, q, s, m, n, t⟩ = false := by simp [docK, lacks, SK.out, S0.out, S1.out, S2.out, S3.out, S4.out, S5.out, X0.out, X2.out, z1] <;> omega
      have HE := hid E
      clear E
      go_wp2
      go_ret
      exact ⟨ret_bool (by first | exact HE.out.symm | (rw [HE.out]; simp; omega)), A1.out.below⟩
  have key := hid key0
  clear key0 hKr
  obtain ⟨W0, hW0⟩ : ∃ W0, w.alloc (.cells #[.int .i64 4, .int .u64 u, .string f, .int .u64 q, .string s, .int .i64 m, .int .u64 n, .int .i64 t] 42) = W0 := ⟨_, rfl⟩
  have B0 : Hid (BoxedC w W0 w.heap.size ⟨4, u, f, q, s, m, n, t⟩) := hid (by rw [← hW0]; exact A0.out)
  rw [hW0] at c0 c1 c2 c3 c4 c5 c6 c7 f0 f1 f2 f3 f4 f5 f6 f7 ⊢
  have hsz : Hid (w.heap.size < W0.heap.size) := hid B0.out.lt
  clear A0 hW0
  have IX := has_ix4
  go_region_held3 (fun w' => w'.cell? ⟨w.heap.size, 0, none⟩ = some (.int .i64 4))
    (first | with_reducible exact BoxedC.kind (BoxedC.drew B0.out) | with_reducible exact BoxedC.kind (BoxedC.drew (BoxedC.alloc B0.out _)) | with_reducible exact BoxedC.kind A1.out | with_reducible exact BoxedC.kind (BoxedC.alloc A1.out _) | with_reducible exact BoxedC.kind (BoxedC.row (BoxedC.alloc A1.out _) (Nat.ne_of_lt (BoxedC.lt A1.out)) (Nat.le_of_lt (BoxedC.lt A1.out)) _ _ _ _ _ _) | with_reducible exact BoxedC.kind (BoxedC.row A1.out (Nat.ne_of_lt hsz.out) (Nat.le_of_lt hsz.out) _ _ _ _ _ _))
    (first
      | (go_at_call 39; (with_reducible refine (has_ref _).mono ?_); rintro e w1 ⟨rfl, hb1⟩; have A1 := hid (BoxedC.on (BoxedC.drew B0.out) hb1))
      | (go_at_call 39; (with_reducible refine (has_ref _).mono ?_); rintro e w1 ⟨rfl, hb1⟩; have A1 := hid (BoxedC.on (BoxedC.drew (BoxedC.alloc B0.out _)) hb1); have R1 := hid (row_first hb1); obtain ⟨q0, q1, q2, q3, q4, q5⟩ := row7 R1.out; obtain ⟨v0, v1, v2, v3, v4, v5⟩ := rowf7 R1.out))
  all_goals change Kr _ _
  all_goals with_reducible refine key.out _ _ ?_ ?_
  · exact hid (A1.out.alloc _)
  · exact hid (Blk.new w1 74 #[.bool true, .bool true, .bool true, .bool true, .bool false, .bool false])
  · exact hid (A1.out.alloc _)
  · exact hid (Blk.new w1 74 #[.bool true, .bool true, .bool true, .bool true, .bool false, .bool false])
  · exact hid (A1.out.row (Nat.ne_of_lt hsz.out) (Nat.le_of_lt hsz.out) _ _ _ _ _ _)
  · exact hid (row7_put R1.out)

set_option maxRecDepth 100000 in
set_option maxHeartbeats 8000000 in
theorem ref_5 (u : Int) (f : ByteArray) (q : Int) (s : ByteArray) (m n t : Int) (w : World) (hf : f.size ≤ 900) (hp : s.size ≤ 900) (o1 : 0 ≤ q) (o2 : 0 ≤ n) :
    Calls Tryd.prog 20 #[val ⟨5, u, f, q, s, m, n, t⟩] w fun e w' => e = .returned (.bool (docK ⟨5, u, f, q, s, m, n, t⟩)) ∧ Below w.heap.size w w' := by
  have S0 : Hid (h0 5 = true) := hid rfl
  have S1 : Hid (h1 5 = true) := hid rfl
  have S2 : Hid (h2 5 = true) := hid rfl
  have S3 : Hid (h3 5 = true) := hid rfl
  have S4 : Hid (h4 5 = false) := hid rfl
  have S5 : Hid (h5 5 = false) := hid rfl
  have SK : Hid (isK 5 = true) := hid rfl
  obtain ⟨x0, hx0⟩ : ∃ x, right (L f) = x := ⟨_, rfl⟩
  obtain ⟨x2, hx2⟩ : ∃ x, right (L s) = x := ⟨_, rfl⟩
  have X0 := hid hx0
  have X2 := hid hx2
  clear hx0 hx2
  have A0 : Hid (BoxedC w (w.alloc (.cells (cellsOf ⟨5, u, f, q, s, m, n, t⟩) 42)) w.heap.size ⟨5, u, f, q, s, m, n, t⟩) := hid (BoxedC.start w ⟨5, u, f, q, s, m, n, t⟩)
  go_enter Tryd.func20, Tryd.ntmps20
  obtain ⟨⟨c0, c1, c2, c3, c4, c5, c6, c7⟩, f0, f1, f2, f3, f4, f5, f6, f7⟩ := cells8 A0.out.1
  go_wp2_with fail
  rename_i Kr hKr
  have key0 : ∀ (W : World) (h : Nat), Hid (BoxedC w W w.heap.size ⟨5, u, f, q, s, m, n, t⟩) → Hid (RowAt7 W h true true true true false false) → Kr ⟨#[val ⟨5, u, f, q, s, m, n, t⟩, .pointer (some ⟨w.heap.size, 0, none⟩), .bool false, .pointer (some ⟨h, 0, none⟩), .pointer (some ⟨w.heap.size, 0, none⟩), .int .i64 5, .bool false, .bool false, .pointer (some ⟨w.heap.size, 0, none⟩), .int .i64 5, .bool false, .bool false, .agg hasCells, .pointer (some ⟨w.heap.size, 0, none⟩), .int .i64 5, .agg #[.bool true, .bool true, .bool true, .bool true, .bool false, .bool false], undef, undef, undef, undef, undef, undef, undef, undef, undef, undef, undef, undef, undef, undef, undef, undef, undef, undef, undef, undef, undef, undef, undef, undef, undef, undef, undef, undef, undef, undef, undef, undef, undef, undef, undef, undef, undef, undef, undef, undef, undef, undef, undef, undef, undef, undef, undef, undef, undef, undef, undef, undef, undef, undef, undef, undef, undef, undef, undef, undef, undef, undef, undef, undef, undef, undef, undef, undef, undef, undef, undef, undef, undef, undef, undef, undef, undef, undef, undef, undef, undef, undef, undef, undef, undef, undef, undef, undef, undef, undef, undef, undef, undef, undef, undef, undef, undef, undef, undef, undef, undef, undef, undef, undef, undef, undef, undef, undef, undef, undef, undef, undef, undef, undef, undef, undef, undef, undef, undef, undef, undef, undef, undef, undef, undef, undef, undef, undef, undef, undef, undef, undef, undef, undef, undef, undef, undef, undef, undef, undef, undef, undef], []⟩ W := by
    intro W h A1 R1
    clear A0
    clear c0 c1 c2 c3 c4 c5 c6 c7 f0 f1 f2 f3 f4 f5 f6 f7
    obtain ⟨⟨c0, c1, c2, c3, c4, c5, c6, c7⟩, f0, f1, f2, f3, f4, f5, f6, f7⟩ := cells8 A1.out.1
    obtain ⟨r0, r1, r2, r3, r4, r5⟩ := row7 R1.out
    rcases Decidable.em (n = 0) with z1 | z1
    · have y1 : (n != 0) = false := by rw [z1]; rfl
      have Z1 := hid z1
      clear z1
      rcases Decidable.em (t = 0) with z2 | z2
      · have y2 : (t != 0) = false := by rw [z2]; rfl
        have yt1 : 0 ≤ t := by omega
        have yt2 : t ≤ 1099511627776 := by omega
        have Z2 := hid z2
        clear z2
        cases x0
        · go_wp2_with fail
          with_reducible refine (refright_any f _ hf).mono ?_
          rw [X0.out]
          rintro e w13 ⟨rfl, hb⟩
          have A13 := hid (A1.out.on hb)
          have R13 : Hid (RowAt7 w13 h true true true true false false) := hid (Blk.below R1.out hb (Blk.lt R1.out))
          clear hb A1 R1 r0 r1 r2 r3 r4 r5
          clear c0 c1 c2 c3 c4 c5 c6 c7 f0 f1 f2 f3 f4 f5 f6 f7
          obtain ⟨⟨c0, c1, c2, c3, c4, c5, c6, c7⟩, f0, f1, f2, f3, f4, f5, f6, f7⟩ := cells8 A13.out.1
          obtain ⟨r0, r1, r2, r3, r4, r5⟩ := row7 R13.out
          have E : docK ⟨5, u, f, q, s, m, n, t⟩ = false := by simp [docK, lacks, SK.out, S0.out, S1.out, S2.out, S3.out, S4.out, S5.out, X0.out, X2.out, Z1.out, Z2.out] <;> omega
          have HE := hid E
          clear E
          go_wp2
          go_ret
          exact ⟨ret_bool (by first | exact HE.out.symm | (rw [HE.out]; simp; omega)), A13.out.below⟩
        · go_wp2_with fail
          with_reducible refine (refright_any f _ hf).mono ?_
          rw [X0.out]
          rintro e w13 ⟨rfl, hb⟩
          have A13 := hid (A1.out.on hb)
          have R13 : Hid (RowAt7 w13 h true true true true false false) := hid (Blk.below R1.out hb (Blk.lt R1.out))
          clear hb A1 R1 r0 r1 r2 r3 r4 r5
          clear c0 c1 c2 c3 c4 c5 c6 c7 f0 f1 f2 f3 f4 f5 f6 f7
          obtain ⟨⟨c0, c1, c2, c3, c4, c5, c6, c7⟩, f0, f1, f2, f3, f4, f5, f6, f7⟩ := cells8 A13.out.1
          obtain ⟨r0, r1, r2, r3, r4, r5⟩ := row7 R13.out
          rcases Decidable.em (q = 0) with z4 | z4
          · have y4 : (q == 0) = true := by rw [z4]; rfl
            have E : docK ⟨5, u, f, q, s, m, n, t⟩ = false := by simp [docK, lacks, SK.out, S0.out, S1.out, S2.out, S3.out, S4.out, S5.out, X0.out, X2.out, Z1.out, Z2.out, z4] <;> omega
            have HE := hid E
            clear E
            go_wp2
            go_ret
            exact ⟨ret_bool (by first | exact HE.out.symm | (rw [HE.out]; simp; omega)), A13.out.below⟩
          · have y4 : (q == 0) = false := beq_eq_false_iff_ne.2 z4
            cases x2
            · go_wp2_with fail
              with_reducible refine (refright_any s _ hp).mono ?_
              rw [X2.out]
              rintro e w15 ⟨rfl, hb⟩
              have A15 := hid (A13.out.on hb)
              have R15 : Hid (RowAt7 w15 h true true true true false false) := hid (Blk.below R13.out hb (Blk.lt R13.out))
              clear hb A13 R13 r0 r1 r2 r3 r4 r5
              clear c0 c1 c2 c3 c4 c5 c6 c7 f0 f1 f2 f3 f4 f5 f6 f7
              obtain ⟨⟨c0, c1, c2, c3, c4, c5, c6, c7⟩, f0, f1, f2, f3, f4, f5, f6, f7⟩ := cells8 A15.out.1
              obtain ⟨r0, r1, r2, r3, r4, r5⟩ := row7 R15.out
              have E : docK ⟨5, u, f, q, s, m, n, t⟩ = false := by simp [docK, lacks, SK.out, S0.out, S1.out, S2.out, S3.out, S4.out, S5.out, X0.out, X2.out, Z1.out, Z2.out, z4] <;> omega
              have HE := hid E
              clear E
              go_wp2
              go_ret
              exact ⟨ret_bool (by first | exact HE.out.symm | (rw [HE.out]; simp; omega)), A15.out.below⟩
            · go_wp2_with fail
              with_reducible refine (refright_any s _ hp).mono ?_
              rw [X2.out]
              rintro e w15 ⟨rfl, hb⟩
              have A15 := hid (A13.out.on hb)
              have R15 : Hid (RowAt7 w15 h true true true true false false) := hid (Blk.below R13.out hb (Blk.lt R13.out))
              clear hb A13 R13 r0 r1 r2 r3 r4 r5
              clear c0 c1 c2 c3 c4 c5 c6 c7 f0 f1 f2 f3 f4 f5 f6 f7
              obtain ⟨⟨c0, c1, c2, c3, c4, c5, c6, c7⟩, f0, f1, f2, f3, f4, f5, f6, f7⟩ := cells8 A15.out.1
              obtain ⟨r0, r1, r2, r3, r4, r5⟩ := row7 R15.out
              rcases Decidable.em (m < 1) with z6 | z6
              · have y6 := z6
                have E : docK ⟨5, u, f, q, s, m, n, t⟩ = false := by simp [docK, lacks, SK.out, S0.out, S1.out, S2.out, S3.out, S4.out, S5.out, X0.out, X2.out, Z1.out, Z2.out, z4] <;> omega
                have HE := hid E
                clear E
                go_wp2
                go_ret
                exact ⟨ret_bool (by first | exact HE.out.symm | (rw [HE.out]; simp; omega)), A15.out.below⟩
              · rcases Decidable.em (2 < m) with z6b | z6b
                · have y6 := z6
                  have E : docK ⟨5, u, f, q, s, m, n, t⟩ = false := by simp [docK, lacks, SK.out, S0.out, S1.out, S2.out, S3.out, S4.out, S5.out, X0.out, X2.out, Z1.out, Z2.out, z4] <;> omega
                  have HE := hid E
                  clear E
                  go_wp2
                  go_ret
                  exact ⟨ret_bool (by first | exact HE.out.symm | (rw [HE.out]; simp; omega)), A15.out.below⟩
                · have y6 := z6
                  have E : docK ⟨5, u, f, q, s, m, n, t⟩ = true := by simp [docK, lacks, SK.out, S0.out, S1.out, S2.out, S3.out, S4.out, S5.out, X0.out, X2.out, Z1.out, Z2.out, z4] <;> omega
                  have HE := hid E
                  clear E
                  go_wp2
                  go_ret
                  exact ⟨ret_bool (by first | exact HE.out.symm | (rw [HE.out]; simp; omega)), A15.out.below⟩
      · have y2 : (t != 0) = true := bne_iff_ne.2 z2
        have E : docK ⟨5, u, f, q, s, m, n, t⟩ = false := by simp [docK, lacks, SK.out, S0.out, S1.out, S2.out, S3.out, S4.out, S5.out, X0.out, X2.out, Z1.out, z2] <;> omega
        have HE := hid E
        clear E
        go_wp2
        go_ret
        exact ⟨ret_bool (by first | exact HE.out.symm | (rw [HE.out]; simp; omega)), A1.out.below⟩
    · have y1 : (n != 0) = true := bne_iff_ne.2 z1
      have E : docK ⟨5, u, f, q, s, m, n, t⟩ = false := by simp [docK, lacks, SK.out, S0.out, S1.out, S2.out, S3.out, S4.out, S5.out, X0.out, X2.out, z1] <;> omega
      have HE := hid E
      clear E
      go_wp2
      go_ret
      exact ⟨ret_bool (by first | exact HE.out.symm | (rw [HE.out]; simp; omega)), A1.out.below⟩
  have key := hid key0
  clear key0 hKr
  obtain ⟨W0, hW0⟩ : ∃ W0, w.alloc (.cells #[.int .i64 5, .int .u64 u, .string f, .int .u64 q, .string s, .int .i64 m, .int .u64 n, .int .i64 t] 42) = W0 := ⟨_, rfl⟩
  have B0 : Hid (BoxedC w W0 w.heap.size ⟨5, u, f, q, s, m, n, t⟩) := hid (by rw [← hW0]; exact A0.out)
  rw [hW0] at c0 c1 c2 c3 c4 c5 c6 c7 f0 f1 f2 f3 f4 f5 f6 f7 ⊢
  have hsz : Hid (w.heap.size < W0.heap.size) := hid B0.out.lt
  clear A0 hW0
  have IX := has_ix5
  go_region_held3 (fun w' => w'.cell? ⟨w.heap.size, 0, none⟩ = some (.int .i64 5))
    (first | with_reducible exact BoxedC.kind (BoxedC.drew B0.out) | with_reducible exact BoxedC.kind (BoxedC.drew (BoxedC.alloc B0.out _)) | with_reducible exact BoxedC.kind A1.out | with_reducible exact BoxedC.kind (BoxedC.alloc A1.out _) | with_reducible exact BoxedC.kind (BoxedC.row (BoxedC.alloc A1.out _) (Nat.ne_of_lt (BoxedC.lt A1.out)) (Nat.le_of_lt (BoxedC.lt A1.out)) _ _ _ _ _ _) | with_reducible exact BoxedC.kind (BoxedC.row A1.out (Nat.ne_of_lt hsz.out) (Nat.le_of_lt hsz.out) _ _ _ _ _ _))
    (first
      | (go_at_call 39; (with_reducible refine (has_ref _).mono ?_); rintro e w1 ⟨rfl, hb1⟩; have A1 := hid (BoxedC.on (BoxedC.drew B0.out) hb1))
      | (go_at_call 39; (with_reducible refine (has_ref _).mono ?_); rintro e w1 ⟨rfl, hb1⟩; have A1 := hid (BoxedC.on (BoxedC.drew (BoxedC.alloc B0.out _)) hb1); have R1 := hid (row_first hb1); obtain ⟨q0, q1, q2, q3, q4, q5⟩ := row7 R1.out; obtain ⟨v0, v1, v2, v3, v4, v5⟩ := rowf7 R1.out))
  all_goals change Kr _ _
  all_goals with_reducible refine key.out _ _ ?_ ?_
  · exact hid (A1.out.alloc _)
  · exact hid (Blk.new w1 74 #[.bool true, .bool true, .bool true, .bool true, .bool false, .bool false])
  · exact hid (A1.out.alloc _)
  · exact hid (Blk.new w1 74 #[.bool true, .bool true, .bool true, .bool true, .bool false, .bool false])
  · exact hid (A1.out.row (Nat.ne_of_lt hsz.out) (Nat.le_of_lt hsz.out) _ _ _ _ _ _)
  · exact hid (row7_put R1.out)

end Go.Proofs.YtapmchkikafpmaaDoor

/-
  The contract of the document's Right (moothillref07), kind by kind.
-/
namespace Go.Proofs.YtapmchkikafpmaaDoor
open Go.ChangeShapes Go.WideShapes Go.ChangeAt Go.RowKit Go.Lib
set_option linter.unusedSimpArgs false
set_option linter.unusedVariables false

set_option maxRecDepth 100000 in
set_option maxHeartbeats 8000000 in
theorem ref_6 (u : Int) (f : ByteArray) (q : Int) (s : ByteArray) (m n t : Int) (w : World) (hf : f.size ≤ 900) (hp : s.size ≤ 900) (o1 : 0 ≤ q) (o2 : 0 ≤ n) :
    Calls Tryd.prog 20 #[val ⟨6, u, f, q, s, m, n, t⟩] w fun e w' => e = .returned (.bool (docK ⟨6, u, f, q, s, m, n, t⟩)) ∧ Below w.heap.size w w' := by
  have S0 : Hid (h0 6 = true) := hid rfl
  have S1 : Hid (h1 6 = true) := hid rfl
  have S2 : Hid (h2 6 = true) := hid rfl
  have S3 : Hid (h3 6 = false) := hid rfl
  have S4 : Hid (h4 6 = false) := hid rfl
  have S5 : Hid (h5 6 = false) := hid rfl
  have SK : Hid (isK 6 = true) := hid rfl
  obtain ⟨x0, hx0⟩ : ∃ x, right (L f) = x := ⟨_, rfl⟩
  obtain ⟨x2, hx2⟩ : ∃ x, right (L s) = x := ⟨_, rfl⟩
  have X0 := hid hx0
  have X2 := hid hx2
  clear hx0 hx2
  have A0 : Hid (BoxedC w (w.alloc (.cells (cellsOf ⟨6, u, f, q, s, m, n, t⟩) 42)) w.heap.size ⟨6, u, f, q, s, m, n, t⟩) := hid (BoxedC.start w ⟨6, u, f, q, s, m, n, t⟩)
  go_enter Tryd.func20, Tryd.ntmps20
  obtain ⟨⟨c0, c1, c2, c3, c4, c5, c6, c7⟩, f0, f1, f2, f3, f4, f5, f6, f7⟩ := cells8 A0.out.1
  go_wp2_with fail
  rename_i Kr hKr
  have key0 : ∀ (W : World) (h : Nat), Hid (BoxedC w W w.heap.size ⟨6, u, f, q, s, m, n, t⟩) → Hid (RowAt7 W h true true true false false false) → Kr ⟨#[val ⟨6, u, f, q, s, m, n, t⟩, .pointer (some ⟨w.heap.size, 0, none⟩), .bool false, .pointer (some ⟨h, 0, none⟩), .pointer (some ⟨w.heap.size, 0, none⟩), .int .i64 6, .bool false, .bool false, .pointer (some ⟨w.heap.size, 0, none⟩), .int .i64 6, .bool false, .bool false, .agg hasCells, .pointer (some ⟨w.heap.size, 0, none⟩), .int .i64 6, .agg #[.bool true, .bool true, .bool true, .bool false, .bool false, .bool false], undef, undef, undef, undef, undef, undef, undef, undef, undef, undef, undef, undef, undef, undef, undef, undef, undef, undef, undef, undef, undef, undef, undef, undef, undef, undef, undef, undef, undef, undef, undef, undef, undef, undef, undef, undef, undef, undef, undef, undef, undef, undef, undef, undef, undef, undef, undef, undef, undef, undef, undef, undef, undef, undef, undef, undef, undef, undef, undef, undef, undef, undef, undef, undef, undef, undef, undef, undef, undef, undef, undef, undef, undef, undef, undef, undef, undef, undef, undef, undef, undef, undef, undef, undef, undef, undef, undef, undef, undef, undef, undef, undef, undef, undef, undef, undef, undef, undef, undef, undef, undef, undef, undef, undef, undef, undef, undef, undef, undef, undef, undef, undef, undef, undef, undef, undef, undef, undef, undef, undef, undef, undef, undef, undef, undef, undef, undef, undef, undef, undef, undef, undef, undef, undef, undef, undef, undef, undef, undef, undef, undef, undef], []⟩ W := by
    intro W h A1 R1
    clear A0
    clear c0 c1 c2 c3 c4 c5 c6 c7 f0 f1 f2 f3 f4 f5 f6 f7
    obtain ⟨⟨c0, c1, c2, c3, c4, c5, c6, c7⟩, f0, f1, f2, f3, f4, f5, f6, f7⟩ := cells8 A1.out.1
    obtain ⟨r0, r1, r2, r3, r4, r5⟩ := row7 R1.out
    rcases Decidable.em (m = 0) with z1 | z1
    · have y1 : (m != 0) = false := by rw [z1]; rfl
      have Z1 := hid z1
      clear z1
      rcases Decidable.em (n = 0) with z2 | z2
      · have y2 : (n != 0) = false := by rw [z2]; rfl
        have Z2 := hid z2
        clear z2
        rcases Decidable.em (t = 0) with z3 | z3
        · have y3 : (t != 0) = false := by rw [z3]; rfl
          have yt1 : 0 ≤ t := by omega
          have yt2 : t ≤ 1099511627776 := by omega
          have Z3 := hid z3
          clear z3
          cases x0
          · go_wp2_with fail
            with_reducible refine (refright_any f _ hf).mono ?_
            rw [X0.out]
            rintro e w14 ⟨rfl, hb⟩
            have A14 := hid (A1.out.on hb)
            have R14 : Hid (RowAt7 w14 h true true true false false false) := hid (Blk.below R1.out hb (Blk.lt R1.out))
            clear hb A1 R1 r0 r1 r2 r3 r4 r5
            clear c0 c1 c2 c3 c4 c5 c6 c7 f0 f1 f2 f3 f4 f5 f6 f7
            obtain ⟨⟨c0, c1, c2, c3, c4, c5, c6, c7⟩, f0, f1, f2, f3, f4, f5, f6, f7⟩ := cells8 A14.out.1
            obtain ⟨r0, r1, r2, r3, r4, r5⟩ := row7 R14.out
            have E : docK ⟨6, u, f, q, s, m, n, t⟩ = false := by simp [docK, lacks, SK.out, S0.out, S1.out, S2.out, S3.out, S4.out, S5.out, X0.out, X2.out, Z1.out, Z2.out, Z3.out] <;> omega
            have HE := hid E
            clear E
            go_wp2
            go_ret
            exact ⟨ret_bool (by first | exact HE.out.symm | (rw [HE.out]; simp; omega)), A14.out.below⟩
          · go_wp2_with fail
            with_reducible refine (refright_any f _ hf).mono ?_
            rw [X0.out]
            rintro e w14 ⟨rfl, hb⟩
            have A14 := hid (A1.out.on hb)
            have R14 : Hid (RowAt7 w14 h true true true false false false) := hid (Blk.below R1.out hb (Blk.lt R1.out))
            clear hb A1 R1 r0 r1 r2 r3 r4 r5
            clear c0 c1 c2 c3 c4 c5 c6 c7 f0 f1 f2 f3 f4 f5 f6 f7
            obtain ⟨⟨c0, c1, c2, c3, c4, c5, c6, c7⟩, f0, f1, f2, f3, f4, f5, f6, f7⟩ := cells8 A14.out.1
            obtain ⟨r0, r1, r2, r3, r4, r5⟩ := row7 R14.out
            rcases Decidable.em (q = 0) with z5 | z5
            · have y5 : (q == 0) = true := by rw [z5]; rfl
              have E : docK ⟨6, u, f, q, s, m, n, t⟩ = false := by simp [docK, lacks, SK.out, S0.out, S1.out, S2.out, S3.out, S4.out, S5.out, X0.out, X2.out, Z1.out, Z2.out, Z3.out, z5] <;> omega
              have HE := hid E
              clear E
              go_wp2
              go_ret
              exact ⟨ret_bool (by first | exact HE.out.symm | (rw [HE.out]; simp; omega)), A14.out.below⟩
            · have y5 : (q == 0) = false := beq_eq_false_iff_ne.2 z5
              cases x2
              · go_wp2_with fail
                with_reducible refine (refright_any s _ hp).mono ?_
                rw [X2.out]
                rintro e w16 ⟨rfl, hb⟩
                have A16 := hid (A14.out.on hb)
                have R16 : Hid (RowAt7 w16 h true true true false false false) := hid (Blk.below R14.out hb (Blk.lt R14.out))
                clear hb A14 R14 r0 r1 r2 r3 r4 r5
                clear c0 c1 c2 c3 c4 c5 c6 c7 f0 f1 f2 f3 f4 f5 f6 f7
                obtain ⟨⟨c0, c1, c2, c3, c4, c5, c6, c7⟩, f0, f1, f2, f3, f4, f5, f6, f7⟩ := cells8 A16.out.1
                obtain ⟨r0, r1, r2, r3, r4, r5⟩ := row7 R16.out
                have E : docK ⟨6, u, f, q, s, m, n, t⟩ = false := by simp [docK, lacks, SK.out, S0.out, S1.out, S2.out, S3.out, S4.out, S5.out, X0.out, X2.out, Z1.out, Z2.out, Z3.out, z5] <;> omega
                have HE := hid E
                clear E
                go_wp2
                go_ret
                exact ⟨ret_bool (by first | exact HE.out.symm | (rw [HE.out]; simp; omega)), A16.out.below⟩
              · go_wp2_with fail
                with_reducible refine (refright_any s _ hp).mono ?_
                rw [X2.out]
                rintro e w16 ⟨rfl, hb⟩
                have A16 := hid (A14.out.on hb)
                have R16 : Hid (RowAt7 w16 h true true true false false false) := hid (Blk.below R14.out hb (Blk.lt R14.out))
                clear hb A14 R14 r0 r1 r2 r3 r4 r5
                clear c0 c1 c2 c3 c4 c5 c6 c7 f0 f1 f2 f3 f4 f5 f6 f7
                obtain ⟨⟨c0, c1, c2, c3, c4, c5, c6, c7⟩, f0, f1, f2, f3, f4, f5, f6, f7⟩ := cells8 A16.out.1
                obtain ⟨r0, r1, r2, r3, r4, r5⟩ := row7 R16.out
                have E : docK ⟨6, u, f, q, s, m, n, t⟩ = true := by simp [docK, lacks, SK.out, S0.out, S1.out, S2.out, S3.out, S4.out, S5.out, X0.out, X2.out, Z1.out, Z2.out, Z3.out, z5] <;> omega
                have HE := hid E
                clear E
                go_wp2
                go_ret
                exact ⟨ret_bool (by first | exact HE.out.symm | (rw [HE.out]; simp; omega)), A16.out.below⟩
        · have y3 : (t != 0) = true := bne_iff_ne.2 z3
          have E : docK ⟨6, u, f, q, s, m, n, t⟩ = false := by simp [docK, lacks, SK.out, S0.out, S1.out, S2.out, S3.out, S4.out, S5.out, X0.out, X2.out, Z1.out, Z2.out, z3] <;> omega
          have HE := hid E
          clear E
          go_wp2
          go_ret
          exact ⟨ret_bool (by first | exact HE.out.symm | (rw [HE.out]; simp; omega)), A1.out.below⟩
      · have y2 : (n != 0) = true := bne_iff_ne.2 z2
        have E : docK ⟨6, u, f, q, s, m, n, t⟩ = false := by simp [docK, lacks, SK.out, S0.out, S1.out, S2.out, S3.out, S4.out, S5.out, X0.out, X2.out, Z1.out, z2] <;> omega
        have HE := hid E
        clear E
        go_wp2
        go_ret
        exact ⟨ret_bool (by first | exact HE.out.symm | (rw [HE.out]; simp; omega)), A1.out.below⟩
    · have y1 : (m != 0) = true := bne_iff_ne.2 z1
      have E : docK ⟨6, u, f, q, s, m, n, t⟩ = false := by simp [docK, lacks, SK.out, S0.out, S1.out, S2.out, S3.out, S4.out, S5.out, X0.out, X2.out, z1] <;> omega
      have HE := hid E
      clear E
      go_wp2
      go_ret
      exact ⟨ret_bool (by first | exact HE.out.symm | (rw [HE.out]; simp; omega)), A1.out.below⟩
  have key := hid key0
  clear key0 hKr
  obtain ⟨W0, hW0⟩ : ∃ W0, w.alloc (.cells #[.int .i64 6, .int .u64 u, .string f, .int .u64 q, .string s, .int .i64 m, .int .u64 n, .int .i64 t] 42) = W0 := ⟨_, rfl⟩
  have B0 : Hid (BoxedC w W0 w.heap.size ⟨6, u, f, q, s, m, n, t⟩) := hid (by rw [← hW0]; exact A0.out)
  rw [hW0] at c0 c1 c2 c3 c4 c5 c6 c7 f0 f1 f2 f3 f4 f5 f6 f7 ⊢
  have hsz : Hid (w.heap.size < W0.heap.size) := hid B0.out.lt
  clear A0 hW0
  have IX := has_ix6
  go_region_held3 (fun w' => w'.cell? ⟨w.heap.size, 0, none⟩ = some (.int .i64 6))
    (first | with_reducible exact BoxedC.kind (BoxedC.drew B0.out) | with_reducible exact BoxedC.kind (BoxedC.drew (BoxedC.alloc B0.out _)) | with_reducible exact BoxedC.kind A1.out | with_reducible exact BoxedC.kind (BoxedC.alloc A1.out _) | with_reducible exact BoxedC.kind (BoxedC.row (BoxedC.alloc A1.out _) (Nat.ne_of_lt (BoxedC.lt A1.out)) (Nat.le_of_lt (BoxedC.lt A1.out)) _ _ _ _ _ _) | with_reducible exact BoxedC.kind (BoxedC.row A1.out (Nat.ne_of_lt hsz.out) (Nat.le_of_lt hsz.out) _ _ _ _ _ _))
    (first
      | (go_at_call 39; (with_reducible refine (has_ref _).mono ?_); rintro e w1 ⟨rfl, hb1⟩; have A1 := hid (BoxedC.on (BoxedC.drew B0.out) hb1))
      | (go_at_call 39; (with_reducible refine (has_ref _).mono ?_); rintro e w1 ⟨rfl, hb1⟩; have A1 := hid (BoxedC.on (BoxedC.drew (BoxedC.alloc B0.out _)) hb1); have R1 := hid (row_first hb1); obtain ⟨q0, q1, q2, q3, q4, q5⟩ := row7 R1.out; obtain ⟨v0, v1, v2, v3, v4, v5⟩ := rowf7 R1.out))
  all_goals change Kr _ _
  all_goals with_reducible refine key.out _ _ ?_ ?_
  · exact hid (A1.out.alloc _)
  · exact hid (Blk.new w1 74 #[.bool true, .bool true, .bool true, .bool false, .bool false, .bool false])
  · exact hid (A1.out.alloc _)
  · exact hid (Blk.new w1 74 #[.bool true, .bool true, .bool true, .bool false, .bool false, .bool false])
  · exact hid (A1.out.row (Nat.ne_of_lt hsz.out) (Nat.le_of_lt hsz.out) _ _ _ _ _ _)
  · exact hid (row7_put R1.out)

set_option maxRecDepth 100000 in
set_option maxHeartbeats 8000000 in
theorem ref_7 (u : Int) (f : ByteArray) (q : Int) (s : ByteArray) (m n t : Int) (w : World) (hf : f.size ≤ 900) (hp : s.size ≤ 900) (o1 : 0 ≤ q) (o2 : 0 ≤ n) :
    Calls Tryd.prog 20 #[val ⟨7, u, f, q, s, m, n, t⟩] w fun e w' => e = .returned (.bool (docK ⟨7, u, f, q, s, m, n, t⟩)) ∧ Below w.heap.size w w' := by
  have S0 : Hid (h0 7 = true) := hid rfl
  have S1 : Hid (h1 7 = true) := hid rfl
  have S2 : Hid (h2 7 = true) := hid rfl
  have S3 : Hid (h3 7 = false) := hid rfl
  have S4 : Hid (h4 7 = true) := hid rfl
  have S5 : Hid (h5 7 = false) := hid rfl
  have SK : Hid (isK 7 = true) := hid rfl
  obtain ⟨x0, hx0⟩ : ∃ x, right (L f) = x := ⟨_, rfl⟩
  obtain ⟨x2, hx2⟩ : ∃ x, right (L s) = x := ⟨_, rfl⟩
  have X0 := hid hx0
  have X2 := hid hx2
  clear hx0 hx2
  have A0 : Hid (BoxedC w (w.alloc (.cells (cellsOf ⟨7, u, f, q, s, m, n, t⟩) 42)) w.heap.size ⟨7, u, f, q, s, m, n, t⟩) := hid (BoxedC.start w ⟨7, u, f, q, s, m, n, t⟩)
  go_enter Tryd.func20, Tryd.ntmps20
  obtain ⟨⟨c0, c1, c2, c3, c4, c5, c6, c7⟩, f0, f1, f2, f3, f4, f5, f6, f7⟩ := cells8 A0.out.1
  go_wp2_with fail
  rename_i Kr hKr
  have key0 : ∀ (W : World) (h : Nat), Hid (BoxedC w W w.heap.size ⟨7, u, f, q, s, m, n, t⟩) → Hid (RowAt7 W h true true true false true false) → Kr ⟨#[val ⟨7, u, f, q, s, m, n, t⟩, .pointer (some ⟨w.heap.size, 0, none⟩), .bool false, .pointer (some ⟨h, 0, none⟩), .pointer (some ⟨w.heap.size, 0, none⟩), .int .i64 7, .bool false, .bool false, .pointer (some ⟨w.heap.size, 0, none⟩), .int .i64 7, .bool false, .bool false, .agg hasCells, .pointer (some ⟨w.heap.size, 0, none⟩), .int .i64 7, .agg #[.bool true, .bool true, .bool true, .bool false, .bool true, .bool false], undef, undef, undef, undef, undef, undef, undef, undef, undef, undef, undef, undef, undef, undef, undef, undef, undef, undef, undef, undef, undef, undef, undef, undef, undef, undef, undef, undef, undef, undef, undef, undef, undef, undef, undef, undef, undef, undef, undef, undef, undef, undef, undef, undef, undef, undef, undef, undef, undef, undef, undef, undef, undef, undef, undef, undef, undef, undef, undef, undef, undef, undef, undef, undef, undef, undef, undef, undef, undef, undef, undef, undef, undef, undef, undef, undef, undef, undef, undef, undef, undef, undef, undef, undef, undef, undef, undef, undef, undef, undef, undef, undef, undef, undef, undef, undef, undef, undef, undef, undef, undef, undef, undef, undef, undef, undef, undef, undef, undef, undef, undef, undef, undef, undef, undef, undef, undef, undef, undef, undef, undef, undef, undef, undef, undef, undef, undef, undef, undef, undef, undef, undef, undef, undef, undef, undef, undef, undef, undef, undef, undef, undef], []⟩ W := by
    intro W h A1 R1
    clear A0
    clear c0 c1 c2 c3 c4 c5 c6 c7 f0 f1 f2 f3 f4 f5 f6 f7
    obtain ⟨⟨c0, c1, c2, c3, c4, c5, c6, c7⟩, f0, f1, f2, f3, f4, f5, f6, f7⟩ := cells8 A1.out.1
    obtain ⟨r0, r1, r2, r3, r4, r5⟩ := row7 R1.out
    rcases Decidable.em (m = 0) with z1 | z1
    · have y1 : (m != 0) = false := by rw [z1]; rfl
      have Z1 := hid z1
      clear z1
      rcases Decidable.em (t = 0) with z2 | z2
      · have y2 : (t != 0) = false := by rw [z2]; rfl
        have yt1 : 0 ≤ t := by omega
        have yt2 : t ≤ 1099511627776 := by omega
        have Z2 := hid z2
        clear z2
        cases x0
        · go_wp2_with fail
          with_reducible refine (refright_any f _ hf).mono ?_
          rw [X0.out]
          rintro e w13 ⟨rfl, hb⟩
          have A13 := hid (A1.out.on hb)
          have R13 : Hid (RowAt7 w13 h true true true false true false) := hid (Blk.below R1.out hb (Blk.lt R1.out))
          clear hb A1 R1 r0 r1 r2 r3 r4 r5
          clear c0 c1 c2 c3 c4 c5 c6 c7 f0 f1 f2 f3 f4 f5 f6 f7
          obtain ⟨⟨c0, c1, c2, c3, c4, c5, c6, c7⟩, f0, f1, f2, f3, f4, f5, f6, f7⟩ := cells8 A13.out.1
          obtain ⟨r0, r1, r2, r3, r4, r5⟩ := row7 R13.out
          have E : docK ⟨7, u, f, q, s, m, n, t⟩ = false := by simp [docK, lacks, SK.out, S0.out, S1.out, S2.out, S3.out, S4.out, S5.out, X0.out, X2.out, Z1.out, Z2.out] <;> omega
          have HE := hid E
          clear E
          go_wp2
          go_ret
          exact ⟨ret_bool (by first | exact HE.out.symm | (rw [HE.out]; simp; omega)), A13.out.below⟩
        · go_wp2_with fail
          with_reducible refine (refright_any f _ hf).mono ?_
          rw [X0.out]
          rintro e w13 ⟨rfl, hb⟩
          have A13 := hid (A1.out.on hb)
          have R13 : Hid (RowAt7 w13 h true true true false true false) := hid (Blk.below R1.out hb (Blk.lt R1.out))
          clear hb A1 R1 r0 r1 r2 r3 r4 r5
          clear c0 c1 c2 c3 c4 c5 c6 c7 f0 f1 f2 f3 f4 f5 f6 f7
          obtain ⟨⟨c0, c1, c2, c3, c4, c5, c6, c7⟩, f0, f1, f2, f3, f4, f5, f6, f7⟩ := cells8 A13.out.1
          obtain ⟨r0, r1, r2, r3, r4, r5⟩ := row7 R13.out
          rcases Decidable.em (q = 0) with z4 | z4
          · have y4 : (q == 0) = true := by rw [z4]; rfl
            have E : docK ⟨7, u, f, q, s, m, n, t⟩ = false := by simp [docK, lacks, SK.out, S0.out, S1.out, S2.out, S3.out, S4.out, S5.out, X0.out, X2.out, Z1.out, Z2.out, z4] <;> omega
            have HE := hid E
            clear E
            go_wp2
            go_ret
            exact ⟨ret_bool (by first | exact HE.out.symm | (rw [HE.out]; simp; omega)), A13.out.below⟩
          · have y4 : (q == 0) = false := beq_eq_false_iff_ne.2 z4
            cases x2
            · go_wp2_with fail
              with_reducible refine (refright_any s _ hp).mono ?_
              rw [X2.out]
              rintro e w15 ⟨rfl, hb⟩
              have A15 := hid (A13.out.on hb)
              have R15 : Hid (RowAt7 w15 h true true true false true false) := hid (Blk.below R13.out hb (Blk.lt R13.out))
              clear hb A13 R13 r0 r1 r2 r3 r4 r5
              clear c0 c1 c2 c3 c4 c5 c6 c7 f0 f1 f2 f3 f4 f5 f6 f7
              obtain ⟨⟨c0, c1, c2, c3, c4, c5, c6, c7⟩, f0, f1, f2, f3, f4, f5, f6, f7⟩ := cells8 A15.out.1
              obtain ⟨r0, r1, r2, r3, r4, r5⟩ := row7 R15.out
              have E : docK ⟨7, u, f, q, s, m, n, t⟩ = false := by simp [docK, lacks, SK.out, S0.out, S1.out, S2.out, S3.out, S4.out, S5.out, X0.out, X2.out, Z1.out, Z2.out, z4] <;> omega
              have HE := hid E
              clear E
              go_wp2
              go_ret
              exact ⟨ret_bool (by first | exact HE.out.symm | (rw [HE.out]; simp; omega)), A15.out.below⟩
            · go_wp2_with fail
              with_reducible refine (refright_any s _ hp).mono ?_
              rw [X2.out]
              rintro e w15 ⟨rfl, hb⟩
              have A15 := hid (A13.out.on hb)
              have R15 : Hid (RowAt7 w15 h true true true false true false) := hid (Blk.below R13.out hb (Blk.lt R13.out))
              clear hb A13 R13 r0 r1 r2 r3 r4 r5
              clear c0 c1 c2 c3 c4 c5 c6 c7 f0 f1 f2 f3 f4 f5 f6 f7
              obtain ⟨⟨c0, c1, c2, c3, c4, c5, c6, c7⟩, f0, f1, f2, f3, f4, f5, f6, f7⟩ := cells8 A15.out.1
              obtain ⟨r0, r1, r2, r3, r4, r5⟩ := row7 R15.out
              rcases Decidable.em (n = 0) with z6 | z6
              · have y6 : (n == 0) = true := by rw [z6]; rfl
                have E : docK ⟨7, u, f, q, s, m, n, t⟩ = false := by simp [docK, lacks, SK.out, S0.out, S1.out, S2.out, S3.out, S4.out, S5.out, X0.out, X2.out, Z1.out, Z2.out, z4, z6] <;> omega
                have HE := hid E
                clear E
                go_wp2
                go_ret
                exact ⟨ret_bool (by first | exact HE.out.symm | (rw [HE.out]; simp; omega)), A15.out.below⟩
              · have y6 : (n == 0) = false := beq_eq_false_iff_ne.2 z6
                rcases Decidable.em (9223372036854775807 < n) with z7 | z7
                · have y7 := z7
                  have E : docK ⟨7, u, f, q, s, m, n, t⟩ = false := by simp [docK, lacks, SK.out, S0.out, S1.out, S2.out, S3.out, S4.out, S5.out, X0.out, X2.out, Z1.out, Z2.out, z4, z6] <;> omega
                  have HE := hid E
                  clear E
                  go_wp2
                  go_ret
                  exact ⟨ret_bool (by first | exact HE.out.symm | (rw [HE.out]; simp; omega)), A15.out.below⟩
                · have y7 := z7
                  have E : docK ⟨7, u, f, q, s, m, n, t⟩ = true := by simp [docK, lacks, SK.out, S0.out, S1.out, S2.out, S3.out, S4.out, S5.out, X0.out, X2.out, Z1.out, Z2.out, z4, z6] <;> omega
                  have HE := hid E
                  clear E
                  go_wp2
                  go_ret
                  exact ⟨ret_bool (by first | exact HE.out.symm | (rw [HE.out]; simp; omega)), A15.out.below⟩
      · have y2 : (t != 0) = true := bne_iff_ne.2 z2
        have E : docK ⟨7, u, f, q, s, m, n, t⟩ = false := by simp [docK, lacks, SK.out, S0.out, S1.out, S2.out, S3.out, S4.out, S5.out, X0.out, X2.out, Z1.out, z2] <;> omega
        have HE := hid E
        clear E
        go_wp2
        go_ret
        exact ⟨ret_bool (by first | exact HE.out.symm | (rw [HE.out]; simp; omega)), A1.out.below⟩
    · have y1 : (m != 0) = true := bne_iff_ne.2 z1
      have E : docK ⟨7, u, f, q, s, m, n, t⟩ = false := by simp [docK, lacks, SK.out, S0.out, S1.out, S2.out, S3.out, S4.out, S5.out, X0.out, X2.out, z1] <;> omega
      have HE := hid E
      clear E
      go_wp2
      go_ret
      exact ⟨ret_bool (by first | exact HE.out.symm | (rw [HE.out]; simp; omega)), A1.out.below⟩
  have key := hid key0
  clear key0 hKr
  obtain ⟨W0, hW0⟩ : ∃ W0, w.alloc (.cells #[.int .i64 7, .int .u64 u, .string f, .int .u64 q, .string s, .int .i64 m, .int .u64 n, .int .i64 t] 42) = W0 := ⟨_, rfl⟩
  have B0 : Hid (BoxedC w W0 w.heap.size ⟨7, u, f, q, s, m, n, t⟩) := hid (by rw [← hW0]; exact A0.out)
  rw [hW0] at c0 c1 c2 c3 c4 c5 c6 c7 f0 f1 f2 f3 f4 f5 f6 f7 ⊢
  have hsz : Hid (w.heap.size < W0.heap.size) := hid B0.out.lt
  clear A0 hW0
  have IX := has_ix7
  go_region_held3 (fun w' => w'.cell? ⟨w.heap.size, 0, none⟩ = some (.int .i64 7))
    (first | with_reducible exact BoxedC.kind (BoxedC.drew B0.out) | with_reducible exact BoxedC.kind (BoxedC.drew (BoxedC.alloc B0.out _)) | with_reducible exact BoxedC.kind A1.out | with_reducible exact BoxedC.kind (BoxedC.alloc A1.out _) | with_reducible exact BoxedC.kind (BoxedC.row (BoxedC.alloc A1.out _) (Nat.ne_of_lt (BoxedC.lt A1.out)) (Nat.le_of_lt (BoxedC.lt A1.out)) _ _ _ _ _ _) | with_reducible exact BoxedC.kind (BoxedC.row A1.out (Nat.ne_of_lt hsz.out) (Nat.le_of_lt hsz.out) _ _ _ _ _ _))
    (first
      | (go_at_call 39; (with_reducible refine (has_ref _).mono ?_); rintro e w1 ⟨rfl, hb1⟩; have A1 := hid (BoxedC.on (BoxedC.drew B0.out) hb1))
      | (go_at_call 39; (with_reducible refine (has_ref _).mono ?_); rintro e w1 ⟨rfl, hb1⟩; have A1 := hid (BoxedC.on (BoxedC.drew (BoxedC.alloc B0.out _)) hb1); have R1 := hid (row_first hb1); obtain ⟨q0, q1, q2, q3, q4, q5⟩ := row7 R1.out; obtain ⟨v0, v1, v2, v3, v4, v5⟩ := rowf7 R1.out))
  all_goals change Kr _ _
  all_goals with_reducible refine key.out _ _ ?_ ?_
  · exact hid (A1.out.alloc _)
  · exact hid (Blk.new w1 74 #[.bool true, .bool true, .bool true, .bool false, .bool true, .bool false])
  · exact hid (A1.out.alloc _)
  · exact hid (Blk.new w1 74 #[.bool true, .bool true, .bool true, .bool false, .bool true, .bool false])
  · exact hid (A1.out.row (Nat.ne_of_lt hsz.out) (Nat.le_of_lt hsz.out) _ _ _ _ _ _)
  · exact hid (row7_put R1.out)

set_option maxRecDepth 100000 in
set_option maxHeartbeats 8000000 in
theorem ref_8 (u : Int) (f : ByteArray) (q : Int) (s : ByteArray) (m n t : Int) (w : World) (hf : f.size ≤ 900) (hp : s.size ≤ 900) (o1 : 0 ≤ q) (o2 : 0 ≤ n) :
    Calls Tryd.prog 20 #[val ⟨8, u, f, q, s, m, n, t⟩] w fun e w' => e = .returned (.bool (docK ⟨8, u, f, q, s, m, n, t⟩)) ∧ Below w.heap.size w w' := by
  have S0 : Hid (h0 8 = true) := hid rfl
  have S1 : Hid (h1 8 = false) := hid rfl
  have S2 : Hid (h2 8 = false) := hid rfl
  have S3 : Hid (h3 8 = false) := hid rfl
  have S4 : Hid (h4 8 = false) := hid rfl
  have S5 : Hid (h5 8 = true) := hid rfl
  have SK : Hid (isK 8 = true) := hid rfl
  obtain ⟨x0, hx0⟩ : ∃ x, right (L f) = x := ⟨_, rfl⟩
  obtain ⟨x2, hx2⟩ : ∃ x, right (L s) = x := ⟨_, rfl⟩
  have X0 := hid hx0
  have X2 := hid hx2
  clear hx0 hx2
  have A0 : Hid (BoxedC w (w.alloc (.cells (cellsOf ⟨8, u, f, q, s, m, n, t⟩) 42)) w.heap.size ⟨8, u, f, q, s, m, n, t⟩) := hid (BoxedC.start w ⟨8, u, f, q, s, m, n, t⟩)
  go_enter Tryd.func20, Tryd.ntmps20
  obtain ⟨⟨c0, c1, c2, c3, c4, c5, c6, c7⟩, f0, f1, f2, f3, f4, f5, f6, f7⟩ := cells8 A0.out.1
  go_wp2_with fail
  rename_i Kr hKr
  have key0 : ∀ (W : World) (h : Nat), Hid (BoxedC w W w.heap.size ⟨8, u, f, q, s, m, n, t⟩) → Hid (RowAt7 W h true false false false false true) → Kr ⟨#[val ⟨8, u, f, q, s, m, n, t⟩, .pointer (some ⟨w.heap.size, 0, none⟩), .bool false, .pointer (some ⟨h, 0, none⟩), .pointer (some ⟨w.heap.size, 0, none⟩), .int .i64 8, .bool false, .bool false, .pointer (some ⟨w.heap.size, 0, none⟩), .int .i64 8, .bool false, .bool false, .agg hasCells, .pointer (some ⟨w.heap.size, 0, none⟩), .int .i64 8, .agg #[.bool true, .bool false, .bool false, .bool false, .bool false, .bool true], undef, undef, undef, undef, undef, undef, undef, undef, undef, undef, undef, undef, undef, undef, undef, undef, undef, undef, undef, undef, undef, undef, undef, undef, undef, undef, undef, undef, undef, undef, undef, undef, undef, undef, undef, undef, undef, undef, undef, undef, undef, undef, undef, undef, undef, undef, undef, undef, undef, undef, undef, undef, undef, undef, undef, undef, undef, undef, undef, undef, undef, undef, undef, undef, undef, undef, undef, undef, undef, undef, undef, undef, undef, undef, undef, undef, undef, undef, undef, undef, undef, undef, undef, undef, undef, undef, undef, undef, undef, undef, undef, undef, undef, undef, undef, undef, undef, undef, undef, undef, undef, undef, undef, undef, undef, undef, undef, undef, undef, undef, undef, undef, undef, undef, undef, undef, undef, undef, undef, undef, undef, undef, undef, undef, undef, undef, undef, undef, undef, undef, undef, undef, undef, undef, undef, undef, undef, undef, undef, undef, undef, undef], []⟩ W := by
    intro W h A1 R1
    clear A0
    clear c0 c1 c2 c3 c4 c5 c6 c7 f0 f1 f2 f3 f4 f5 f6 f7
    obtain ⟨⟨c0, c1, c2, c3, c4, c5, c6, c7⟩, f0, f1, f2, f3, f4, f5, f6, f7⟩ := cells8 A1.out.1
    obtain ⟨r0, r1, r2, r3, r4, r5⟩ := row7 R1.out
    rcases Decidable.em (q = 0) with z1 | z1
    · have y1 : (q != 0) = false := by rw [z1]; rfl
      have Z1 := hid z1
      clear z1
      rcases Decidable.em (L s = []) with z2 | z2
      · have y2 : s.toList.isEmpty = true := by rw [toList_L, z2]; rfl
        have y2b : s.toList = [] := by rw [toList_L, z2]
        have Z2 := hid z2
        clear z2
        rcases Decidable.em (m = 0) with z3 | z3
        · have y3 : (m != 0) = false := by rw [z3]; rfl
          have Z3 := hid z3
          clear z3
          rcases Decidable.em (n = 0) with z4 | z4
          · have y4 : (n != 0) = false := by rw [z4]; rfl
            have Z4 := hid z4
            clear z4
            cases x0
            · go_wp2_with fail
              with_reducible refine (refright_any f _ hf).mono ?_
              rw [X0.out]
              rintro e w15 ⟨rfl, hb⟩
              have A15 := hid (A1.out.on hb)
              have R15 : Hid (RowAt7 w15 h true false false false false true) := hid (Blk.below R1.out hb (Blk.lt R1.out))
              clear hb A1 R1 r0 r1 r2 r3 r4 r5
              clear c0 c1 c2 c3 c4 c5 c6 c7 f0 f1 f2 f3 f4 f5 f6 f7
              obtain ⟨⟨c0, c1, c2, c3, c4, c5, c6, c7⟩, f0, f1, f2, f3, f4, f5, f6, f7⟩ := cells8 A15.out.1
              obtain ⟨r0, r1, r2, r3, r4, r5⟩ := row7 R15.out
              have E : docK ⟨8, u, f, q, s, m, n, t⟩ = false := by simp [docK, lacks, SK.out, S0.out, S1.out, S2.out, S3.out, S4.out, S5.out, X0.out, X2.out, Z1.out, Z2.out, Z3.out, Z4.out] <;> omega
              have HE := hid E
              clear E
              go_wp2
              go_ret
              exact ⟨ret_bool (by first | exact HE.out.symm | (rw [HE.out]; simp; omega)), A15.out.below⟩
            · go_wp2_with fail
              with_reducible refine (refright_any f _ hf).mono ?_
              rw [X0.out]
              rintro e w15 ⟨rfl, hb⟩
              have A15 := hid (A1.out.on hb)
              have R15 : Hid (RowAt7 w15 h true false false false false true) := hid (Blk.below R1.out hb (Blk.lt R1.out))
              clear hb A1 R1 r0 r1 r2 r3 r4 r5
              clear c0 c1 c2 c3 c4 c5 c6 c7 f0 f1 f2 f3 f4 f5 f6 f7
              obtain ⟨⟨c0, c1, c2, c3, c4, c5, c6, c7⟩, f0, f1, f2, f3, f4, f5, f6, f7⟩ := cells8 A15.out.1
              obtain ⟨r0, r1, r2, r3, r4, r5⟩ := row7 R15.out
              rcases Decidable.em (0 ≤ t) with z6 | z6
              · rcases Decidable.em (t ≤ 1099511627776) with z6b | z6b
                · have y6 := z6
                  have E : docK ⟨8, u, f, q, s, m, n, t⟩ = true := by simp [docK, lacks, SK.out, S0.out, S1.out, S2.out, S3.out, S4.out, S5.out, X0.out, X2.out, Z1.out, Z2.out, Z3.out, Z4.out] <;> omega
                  have HE := hid E
                  clear E
                  go_wp2
                  go_ret
                  exact ⟨ret_bool (by first | exact HE.out.symm | (rw [HE.out]; simp; omega)), A15.out.below⟩
                · have y6 := z6
                  have E : docK ⟨8, u, f, q, s, m, n, t⟩ = false := by simp [docK, lacks, SK.out, S0.out, S1.out, S2.out, S3.out, S4.out, S5.out, X0.out, X2.out, Z1.out, Z2.out, Z3.out, Z4.out] <;> omega
                  have HE := hid E
                  clear E
                  go_wp2
                  go_ret
                  exact ⟨ret_bool (by first | exact HE.out.symm | (rw [HE.out]; simp; omega)), A15.out.below⟩
              · have y6 := z6
                have E : docK ⟨8, u, f, q, s, m, n, t⟩ = false := by simp [docK, lacks, SK.out, S0.out, S1.out, S2.out, S3.out, S4.out, S5.out, X0.out, X2.out, Z1.out, Z2.out, Z3.out, Z4.out] <;> omega
                have HE := hid E
                clear E
                go_wp2
                go_ret
                exact ⟨ret_bool (by first | exact HE.out.symm | (rw [HE.out]; simp; omega)), A15.out.below⟩
          · have y4 : (n != 0) = true := bne_iff_ne.2 z4
            have E : docK ⟨8, u, f, q, s, m, n, t⟩ = false := by simp [docK, lacks, SK.out, S0.out, S1.out, S2.out, S3.out, S4.out, S5.out, X0.out, X2.out, Z1.out, Z2.out, Z3.out, z4] <;> omega
            have HE := hid E
            clear E
            go_wp2
            go_ret
            exact ⟨ret_bool (by first | exact HE.out.symm | (rw [HE.out]; simp; omega)), A1.out.below⟩
        · have y3 : (m != 0) = true := bne_iff_ne.2 z3
          have E : docK ⟨8, u, f, q, s, m, n, t⟩ = false := by simp [docK, lacks, SK.out, S0.out, S1.out, S2.out, S3.out, S4.out, S5.out, X0.out, X2.out, Z1.out, Z2.out, z3] <;> omega
          have HE := hid E
          clear E
          go_wp2
          go_ret
          exact ⟨ret_bool (by first | exact HE.out.symm | (rw [HE.out]; simp; omega)), A1.out.below⟩
      · have y2 : s.toList.isEmpty = false := (not_empty (l := L s) rfl z2).1
        have y2b : ¬ s.toList = [] := (not_empty (l := L s) rfl z2).2
        have E : docK ⟨8, u, f, q, s, m, n, t⟩ = false := by simp [docK, lacks, SK.out, S0.out, S1.out, S2.out, S3.out, S4.out, S5.out, X0.out, X2.out, Z1.out, z2] <;> omega
        have HE := hid E
        clear E
        go_wp2
        go_ret
        exact ⟨ret_bool (by first | exact HE.out.symm | (rw [HE.out]; simp; omega)), A1.out.below⟩
    · have y1 : (q != 0) = true := bne_iff_ne.2 z1
      have E : docK ⟨8, u, f, q, s, m, n, t⟩ = false := by simp [docK, lacks, SK.out, S0.out, S1.out, S2.out, S3.out, S4.out, S5.out, X0.out, X2.out, z1] <;> omega
      have HE := hid E
      clear E
      go_wp2
      go_ret
      exact ⟨ret_bool (by first | exact HE.out.symm | (rw [HE.out]; simp; omega)), A1.out.below⟩
  have key := hid key0
  clear key0 hKr
  obtain ⟨W0, hW0⟩ : ∃ W0, w.alloc (.cells #[.int .i64 8, .int .u64 u, .string f, .int .u64 q, .string s, .int .i64 m, .int .u64 n, .int .i64 t] 42) = W0 := ⟨_, rfl⟩
  have B0 : Hid (BoxedC w W0 w.heap.size ⟨8, u, f, q, s, m, n, t⟩) := hid (by rw [← hW0]; exact A0.out)
  rw [hW0] at c0 c1 c2 c3 c4 c5 c6 c7 f0 f1 f2 f3 f4 f5 f6 f7 ⊢
  have hsz : Hid (w.heap.size < W0.heap.size) := hid B0.out.lt
  clear A0 hW0
  have IX := has_ix8
  go_region_held3 (fun w' => w'.cell? ⟨w.heap.size, 0, none⟩ = some (.int .i64 8))
    (first | with_reducible exact BoxedC.kind (BoxedC.drew B0.out) | with_reducible exact BoxedC.kind (BoxedC.drew (BoxedC.alloc B0.out _)) | with_reducible exact BoxedC.kind A1.out | with_reducible exact BoxedC.kind (BoxedC.alloc A1.out _) | with_reducible exact BoxedC.kind (BoxedC.row (BoxedC.alloc A1.out _) (Nat.ne_of_lt (BoxedC.lt A1.out)) (Nat.le_of_lt (BoxedC.lt A1.out)) _ _ _ _ _ _) | with_reducible exact BoxedC.kind (BoxedC.row A1.out (Nat.ne_of_lt hsz.out) (Nat.le_of_lt hsz.out) _ _ _ _ _ _))
    (first
      | (go_at_call 39; (with_reducible refine (has_ref _).mono ?_); rintro e w1 ⟨rfl, hb1⟩; have A1 := hid (BoxedC.on (BoxedC.drew B0.out) hb1))
      | (go_at_call 39; (with_reducible refine (has_ref _).mono ?_); rintro e w1 ⟨rfl, hb1⟩; have A1 := hid (BoxedC.on (BoxedC.drew (BoxedC.alloc B0.out _)) hb1); have R1 := hid (row_first hb1); obtain ⟨q0, q1, q2, q3, q4, q5⟩ := row7 R1.out; obtain ⟨v0, v1, v2, v3, v4, v5⟩ := rowf7 R1.out))
  all_goals change Kr _ _
  all_goals with_reducible refine key.out _ _ ?_ ?_
  · exact hid (A1.out.alloc _)
  · exact hid (Blk.new w1 74 #[.bool true, .bool false, .bool false, .bool false, .bool false, .bool true])
  · exact hid (A1.out.alloc _)
  · exact hid (Blk.new w1 74 #[.bool true, .bool false, .bool false, .bool false, .bool false, .bool true])
  · exact hid (A1.out.row (Nat.ne_of_lt hsz.out) (Nat.le_of_lt hsz.out) _ _ _ _ _ _)
  · exact hid (row7_put R1.out)

end Go.Proofs.YtapmchkikafpmaaDoor

/-
  The contracts of the document's Right and Foot (moothillref07), and of the law's anchor.
-/
namespace Go.Proofs.YtapmchkikafpmaaDoor
open Go.ChangeShapes Go.WideShapes Go.ChangeAt Go.RowKit Go.Lib
set_option linter.unusedSimpArgs false
set_option linter.unusedVariables false

set_option maxRecDepth 100000 in
set_option maxHeartbeats 1000000 in
theorem ref_off (k u : Int) (f : ByteArray) (q : Int) (s : ByteArray) (m n t : Int) (w : World) (hk : k < 0 ∨ 8 < k) :
    Calls Tryd.prog 20 #[val ⟨k, u, f, q, s, m, n, t⟩] w fun e w' => e = .returned (.bool (docK ⟨k, u, f, q, s, m, n, t⟩)) ∧ Below w.heap.size w w' := by
  have HE : Hid (docK ⟨k, u, f, q, s, m, n, t⟩ = false) := hid (by
    have h : isK k = false := by unfold isK; exact decide_eq_false (by omega)
    simp [docK, h])
  rcases Decidable.em (k < 0) with h | h
  · go_enter Tryd.func20, Tryd.ntmps20
    go_wp2
    go_ret
    exact ⟨ret_bool HE.out.symm, (Below.refl _ _).alloc (Nat.le_refl _) _⟩
  · have h8 : 8 < k := by omega
    go_enter Tryd.func20, Tryd.ntmps20
    go_wp2
    go_ret
    exact ⟨ret_bool HE.out.symm, (Below.refl _ _).alloc (Nat.le_refl _) _⟩

theorem refright7 (c : K) (w : World) (ho : okK c) (hf : c.foot.size ≤ 900) (hp : c.path.size ≤ 900) :
    Calls Tryd.prog 20 #[val c] w fun e w' => e = .returned (.bool (rightK c)) ∧ Below w.heap.size w w' := by
  rw [← doc_right c ho]
  obtain ⟨_, ⟨o1, _⟩, ⟨o2, _⟩, _⟩ := ho
  obtain ⟨k, u, f, q, s, m, n, t⟩ := c
  simp only at o1 o2 hf hp
  have : k < 0 ∨ 8 < k ∨ k = 0 ∨ k = 1 ∨ k = 2 ∨ k = 3 ∨ k = 4 ∨ k = 5 ∨ k = 6 ∨ k = 7 ∨ k = 8 := by omega
  rcases this with h | h | rfl | rfl | rfl | rfl | rfl | rfl | rfl | rfl | rfl
  · exact ref_off k u f q s m n t w (.inl h)
  · exact ref_off k u f q s m n t w (.inr h)
  · exact ref_0 u f q s m n t w hf hp o1 o2
  · exact ref_1 u f q s m n t w hf hp o1 o2
  · exact ref_2 u f q s m n t w hf hp o1 o2
  · exact ref_3 u f q s m n t w hf hp o1 o2
  · exact ref_4 u f q s m n t w hf hp o1 o2
  · exact ref_5 u f q s m n t w hf hp o1 o2
  · exact ref_6 u f q s m n t w hf hp o1 o2
  · exact ref_7 u f q s m n t w hf hp o1 o2
  · exact ref_8 u f q s m n t w hf hp o1 o2

theorem right_kind {c : K} (h : rightK c = true) : 0 ≤ c.kind ∧ c.kind ≤ 8 := by
  unfold rightK at h
  simp only [Bool.and_eq_true] at h
  have := h.1.1
  unfold isK at this
  rw [decide_eq_true_eq] at this
  omega

end Go.Proofs.YtapmchkikafpmaaDoor
