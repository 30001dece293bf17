/-
  The document's table of kinds (moothillref07.Has), and a command of its own in a box.
-/
import Derived.Test.YtpdfakjopeldmaaGreatDoorKRight
import Derived.Test.YtpdfakjopeldmaaGreatDoorMgP
import Derived.Laws.Rows
import Derived.Laws.Tables
import Derived.Great.BuildSlice
namespace Go.Proofs.YtpdfakjopeldmaaGreatDoor
open Go.ChangeShapes Go.WideShapes Go.ChangeAt Go.RowKit Go.Lib
set_option linter.unusedSimpArgs false

def hasBits : List Bool := [false, false, false, false, false, false, true, true, false, false, true, true, true, true, false, false, false, false, true, true, false, false, false, true, true, true, true, true, false, false, true, true, true, true, false, false, true, true, true, false, false, false, true, true, true, false, true, false, true, false, false, false, false, true]
def hasCells : Array Value := (hasBits.map Value.bool).toArray

theorem below_setRow {n g : Nat} {a w : World} (h : Below n a w) (hg : n ≤ g) (cs : Array Value) : Below n a (w.setRow g cs) :=
  ⟨h.os, h.tape, h.output, by have := h.size; simpa [World.setRow] using this, fun i hi => (setRow_other w g i cs (by omega)).trans (h.block i hi)⟩

theorem zeros54 (w : World) {zs : Array Value} (hz : #[Value.bool false, Value.bool false, Value.bool false, Value.bool false, Value.bool false, Value.bool false, Value.bool false, Value.bool false, Value.bool false, Value.bool false, Value.bool false, Value.bool false, Value.bool false, Value.bool false, Value.bool false, Value.bool false, Value.bool false, Value.bool false, Value.bool false, Value.bool false, Value.bool false, Value.bool false, Value.bool false, Value.bool false, Value.bool false, Value.bool false, Value.bool false, Value.bool false, Value.bool false, Value.bool false, Value.bool false, Value.bool false, Value.bool false, Value.bool false, Value.bool false, Value.bool false, Value.bool false, Value.bool false, Value.bool false, Value.bool false, Value.bool false, Value.bool false, Value.bool false, Value.bool false, Value.bool false, Value.bool false, Value.bool false, Value.bool false, Value.bool false, Value.bool false, Value.bool false, Value.bool false, Value.bool false, Value.bool false] = zs) : (w.alloc (.cells #[Value.bool false, Value.bool false, Value.bool false, Value.bool false, Value.bool false, Value.bool false, Value.bool false, Value.bool false, Value.bool false, Value.bool false, Value.bool false, Value.bool false, Value.bool false, Value.bool false, Value.bool false, Value.bool false, Value.bool false, Value.bool false, Value.bool false, Value.bool false, Value.bool false, Value.bool false, Value.bool false, Value.bool false, Value.bool false, Value.bool false, Value.bool false, Value.bool false, Value.bool false, Value.bool false, Value.bool false, Value.bool false, Value.bool false, Value.bool false, Value.bool false, Value.bool false, Value.bool false, Value.bool false, Value.bool false, Value.bool false, Value.bool false, Value.bool false, Value.bool false, Value.bool false, Value.bool false, Value.bool false, Value.bool false, Value.bool false, Value.bool false, Value.bool false, Value.bool false, Value.bool false, Value.bool false, Value.bool false] 117)).heap[w.heap.size]? = some (.cells zs 117 (0, 0)) := by
  subst hz
  exact Blk.new w _ _

set_option maxRecDepth 100000 in
set_option maxHeartbeats 1000000 in
theorem has_ref (w : World) : Calls Tryz.prog 67 #[] w fun e w' => e = .returned (.agg hasCells) ∧ Below w.heap.size w w' := by
  obtain ⟨zs, hz⟩ : ∃ zs, #[Value.bool false, Value.bool false, Value.bool false, Value.bool false, Value.bool false, Value.bool false, Value.bool false, Value.bool false, Value.bool false, Value.bool false, Value.bool false, Value.bool false, Value.bool false, Value.bool false, Value.bool false, Value.bool false, Value.bool false, Value.bool false, Value.bool false, Value.bool false, Value.bool false, Value.bool false, Value.bool false, Value.bool false, Value.bool false, Value.bool false, Value.bool false, Value.bool false, Value.bool false, Value.bool false, Value.bool false, Value.bool false, Value.bool false, Value.bool false, Value.bool false, Value.bool false, Value.bool false, Value.bool false, Value.bool false, Value.bool false, Value.bool false, Value.bool false, Value.bool false, Value.bool false, Value.bool false, Value.bool false, Value.bool false, Value.bool false, Value.bool false, Value.bool false, Value.bool false, Value.bool false, Value.bool false, Value.bool false] = zs := ⟨_, rfl⟩
  have N := hid (zeros54 w hz)
  have H4 : Hid ((Tryz.prog.info? 117).map (·.size) = some hasCells.size) := hid (by kernel_rfl)
  have H6 : Hid (zs.size = hasCells.size) := hid (by rw [← hz]; rfl)
  have H5 : Hid (hasCells.all (·.oneCell') = true) := hid (by kernel_rfl)
  have HZ := hid hz
  clear hz
  go_enter Tryz.func67, Tryz.ntmps67
  go_wp2_with (first
    | (with_reducible refine wpList_buildTo (o := ⟨some 10, _, _, _, _, _⟩) rfl 117 _ rfl (some 10) rfl hasCells (by kernel_rfl) ?_)
    | (with_reducible refine wpList_store_row (o := ⟨none, _, _, _, _, _⟩) rfl 117 (.tmp 0) (.tmp 10) rfl w.heap.size hasCells rfl rfl 117 zs N.out H4.out H6.out H5.out ?_))
  obtain ⟨W0, hW0⟩ : ∃ W0, w.alloc (.cells #[Value.bool false, Value.bool false, Value.bool false, Value.bool false, Value.bool false, Value.bool false, Value.bool false, Value.bool false, Value.bool false, Value.bool false, Value.bool false, Value.bool false, Value.bool false, Value.bool false, Value.bool false, Value.bool false, Value.bool false, Value.bool false, Value.bool false, Value.bool false, Value.bool false, Value.bool false, Value.bool false, Value.bool false, Value.bool false, Value.bool false, Value.bool false, Value.bool false, Value.bool false, Value.bool false, Value.bool false, Value.bool false, Value.bool false, Value.bool false, Value.bool false, Value.bool false, Value.bool false, Value.bool false, Value.bool false, Value.bool false, Value.bool false, Value.bool false, Value.bool false, Value.bool false, Value.bool false, Value.bool false, Value.bool false, Value.bool false, Value.bool false, Value.bool false, Value.bool false, Value.bool false, Value.bool false, Value.bool false] 117) = W0 := ⟨_, rfl⟩
  rw [hW0] at N ⊢
  have HB0 : Hid (Below w.heap.size w W0) := hid (by rw [← hW0]; exact (Below.refl _ _).alloc (Nat.le_refl _) _)
  have K : Hid ((W0.setRow w.heap.size hasCells).heap[w.heap.size]? = some (.cells hasCells 117 (0, 0))) := hid (setRow_heap W0 w.heap.size zs hasCells 117 (0, 0) N.out)
  have HB1 : Hid (Below w.heap.size w (W0.setRow w.heap.size hasCells)) := hid (below_setRow HB0.out (Nat.le_refl _) _)
  clear hW0
  exact bodyPost_ret (v := .agg hasCells) (results_cell_row Tryz.results67 _ _ w.heap.size 117 hasCells (0, 0) _ rfl K.out Tryz.underlying117 rfl H4.out) rfl ⟨rfl, HB1.out⟩

theorem has_ix0 (W : World) : (Instr.index 117 (.agg hasCells) (.int .i64 0)).run Tryz.prog W = .ok (.agg #[Value.bool false, Value.bool false, Value.bool false, Value.bool false, Value.bool false, Value.bool false]) W := by kernel_rfl
theorem has_ix1 (W : World) : (Instr.index 117 (.agg hasCells) (.int .i64 1)).run Tryz.prog W = .ok (.agg #[Value.bool true, Value.bool true, Value.bool false, Value.bool false, Value.bool true, Value.bool true]) W := by kernel_rfl
theorem has_ix2 (W : World) : (Instr.index 117 (.agg hasCells) (.int .i64 2)).run Tryz.prog W = .ok (.agg #[Value.bool true, Value.bool true, Value.bool false, Value.bool false, Value.bool false, Value.bool false]) W := by kernel_rfl
theorem has_ix3 (W : World) : (Instr.index 117 (.agg hasCells) (.int .i64 3)).run Tryz.prog W = .ok (.agg #[Value.bool true, Value.bool true, Value.bool false, Value.bool false, Value.bool false, Value.bool true]) W := by kernel_rfl
theorem has_ix4 (W : World) : (Instr.index 117 (.agg hasCells) (.int .i64 4)).run Tryz.prog W = .ok (.agg #[Value.bool true, Value.bool true, Value.bool true, Value.bool true, Value.bool false, Value.bool false]) W := by kernel_rfl
theorem has_ix5 (W : World) : (Instr.index 117 (.agg hasCells) (.int .i64 5)).run Tryz.prog W = .ok (.agg #[Value.bool true, Value.bool true, Value.bool true, Value.bool true, Value.bool false, Value.bool false]) W := by kernel_rfl
theorem has_ix6 (W : World) : (Instr.index 117 (.agg hasCells) (.int .i64 6)).run Tryz.prog W = .ok (.agg #[Value.bool true, Value.bool true, Value.bool true, Value.bool false, Value.bool false, Value.bool false]) W := by kernel_rfl
theorem has_ix7 (W : World) : (Instr.index 117 (.agg hasCells) (.int .i64 7)).run Tryz.prog W = .ok (.agg #[Value.bool true, Value.bool true, Value.bool true, Value.bool false, Value.bool true, Value.bool false]) W := by kernel_rfl
theorem has_ix8 (W : World) : (Instr.index 117 (.agg hasCells) (.int .i64 8)).run Tryz.prog W = .ok (.agg #[Value.bool true, Value.bool false, Value.bool false, Value.bool false, Value.bool false, Value.bool true]) W := by kernel_rfl

/-- A command, as the document has it, in a box of the call's own. -/
def BoxedC (w0 w : World) (g : Nat) (c : K) : Prop := Blk w g 69 (cellsOf c) ∧ w0.heap.size ≤ g ∧ Below w0.heap.size w0 w
theorem BoxedC.lt {w0 w : World} {g : Nat} {c : K} (h : BoxedC w0 w g c) : g < w.heap.size := h.1.lt
theorem BoxedC.below {w0 w : World} {g : Nat} {c : K} (h : BoxedC w0 w g c) : Below w0.heap.size w0 w := h.2.2
theorem BoxedC.on {w0 w w' : World} {g : Nat} {c : K} (h : BoxedC w0 w g c) (hb : Below w.heap.size w w') : BoxedC w0 w' g c :=
  ⟨h.1.below hb h.1.lt, h.2.1, h.2.2.trans (hb.mono h.2.2.size)⟩
theorem BoxedC.drew {w0 w : World} {g : Nat} {c : K} (h : BoxedC w0 w g c) : BoxedC w0 w.drew g c := ⟨h.1.drew, h.2.1, below_drew h.2.2⟩
theorem BoxedC.alloc {w0 w : World} {g : Nat} {c : K} (h : BoxedC w0 w g c) (o : Obj) : BoxedC w0 (w.alloc o) g c := h.on ((Below.refl _ _).alloc (Nat.le_refl _) o)
theorem BoxedC.far {w0 w : World} {g : Nat} {c : K} (h : BoxedC w0 w g c) {p : Addr} (hp : g ≠ p.block) (h0 : w0.heap.size ≤ p.block) (u : Value) : BoxedC w0 (w.setCell p u) g c :=
  ⟨h.1.far hp u, h.2.1, Below.setCell (p := p) h.2.2 h0 u⟩
theorem BoxedC.start (w : World) (c : K) : BoxedC w (w.alloc (.cells (cellsOf c) 69)) w.heap.size c :=
  ⟨Blk.new _ _ _, Nat.le_refl _, (Below.refl _ _).alloc (Nat.le_refl _) _⟩

theorem BoxedC.kind {w0 w : World} {g : Nat} {c : K} (h : BoxedC w0 w g c) : w.cell? ⟨g, 0, none⟩ = some (.int .i64 c.kind) := (cells8 h.1).1.1

/-- The document's row of a kind in a box made last. -/
def RowAt7 (w : World) (h : Nat) (a b c d e f : Bool) : Prop := Blk w h 116 #[.bool a, .bool b, .bool c, .bool d, .bool e, .bool f]
theorem row7 {w : World} {h : Nat} {a b c d e f : Bool} (r : RowAt7 w h a b c d e f) : (w.cell? ⟨h, 0, none⟩ = some (.bool a) ∧ w.cell? ⟨h, 1, none⟩ = some (.bool b) ∧ w.cell? ⟨h, 2, none⟩ = some (.bool c) ∧ w.cell? ⟨h, 3, none⟩ = some (.bool d) ∧ w.cell? ⟨h, 4, none⟩ = some (.bool e) ∧ w.cell? ⟨h, 5, none⟩ = some (.bool f)) :=
  ⟨(Blk.cell r 0).trans rfl, (Blk.cell r 1).trans rfl, (Blk.cell r 2).trans rfl, (Blk.cell r 3).trans rfl, (Blk.cell r 4).trans rfl, (Blk.cell r 5).trans rfl⟩
theorem rowf7 {w : World} {h : Nat} {a b c d e f : Bool} (r : RowAt7 w h a b c d e f) : w.frozen? ⟨h, 0, none⟩ = false ∧ w.frozen? ⟨h, 1, none⟩ = false ∧ w.frozen? ⟨h, 2, none⟩ = false ∧ w.frozen? ⟨h, 3, none⟩ = false ∧ w.frozen? ⟨h, 4, none⟩ = false ∧ w.frozen? ⟨h, 5, none⟩ = false :=
  ⟨Blk.frozen r 0, Blk.frozen r 1, Blk.frozen r 2, Blk.frozen r 3, Blk.frozen r 4, Blk.frozen r 5⟩
theorem row7_put {w : World} {h : Nat} {a b c d e f a' b' c' d' e' f' : Bool} (r : RowAt7 w h a b c d e f) : RowAt7 ((((((w.setCell ⟨h, 0, none⟩ (.bool a')).setCell ⟨h, 1, none⟩ (.bool b')).setCell ⟨h, 2, none⟩ (.bool c')).setCell ⟨h, 3, none⟩ (.bool d')).setCell ⟨h, 4, none⟩ (.bool e')).setCell ⟨h, 5, none⟩ (.bool f')) h a' b' c' d' e' f' :=
  (((((Blk.set_ r 0 (.bool a')).set_ 1 (.bool b')).set_ 2 (.bool c')).set_ 3 (.bool d')).set_ 4 (.bool e')).set_ 5 (.bool f')
theorem BoxedC.row {w0 w : World} {g h : Nat} {c : K} (hk : BoxedC w0 w g c) (hg : g ≠ h) (h0 : w0.heap.size ≤ h) (a b c' d e f : Value) : BoxedC w0 ((((((w.setCell ⟨h, 0, none⟩ a).setCell ⟨h, 1, none⟩ b).setCell ⟨h, 2, none⟩ c').setCell ⟨h, 3, none⟩ d).setCell ⟨h, 4, none⟩ e).setCell ⟨h, 5, none⟩ f) g c :=
  (((((hk.far (p := ⟨h, 0, none⟩) hg h0 a).far (p := ⟨h, 1, none⟩) hg h0 b).far (p := ⟨h, 2, none⟩) hg h0 c').far (p := ⟨h, 3, none⟩) hg h0 d).far (p := ⟨h, 4, none⟩) hg h0 e).far (p := ⟨h, 5, none⟩) hg h0 f
theorem row_first {W w1 : World} (hb : Below (W.alloc (.cells #[.bool false, .bool false, .bool false, .bool false, .bool false, .bool false] 116)).drew.heap.size (W.alloc (.cells #[.bool false, .bool false, .bool false, .bool false, .bool false, .bool false] 116)).drew w1) : RowAt7 w1 W.heap.size false false false false false false := by
  have h := Blk.new W 116 #[.bool false, .bool false, .bool false, .bool false, .bool false, .bool false]
  exact h.drew.below hb h.lt

end Go.Proofs.YtpdfakjopeldmaaGreatDoor
