/-
  The law's step, of whatever kind.
-/
import Derived.Test.YtljnboimadhkoaaNtStepN
import Derived.Test.YtljnboimadhkoaaNtStepR
import Derived.Test.YtljnboimadhkoaaNtOpen
namespace Go.Proofs.Ytljnboimadhkoaa
open Go.ChangeShapes Go.WideShapes Go.ChangeAt Go.RowKit
set_option linter.unusedVariables false
set_option linter.unusedSimpArgs false

/-- What a step among the arguments is. -/
structure MadeO (N : Nat) (w : World) (o : OpN) : Prop where
  frame : MadeF N w o.f o.A o.c
  bit : o.bit ≤ 9223372036854775807
theorem MadeO.below {N : Nat} {w w' : World} {o : OpN} (h : MadeO N w o) (b : Below N w w') : MadeO N w' o := ⟨⟨h.frame.bare, h.frame.room, h.frame.most, h.frame.byte, h.frame.held.below b⟩, h.bit⟩
theorem ntstep_any (N B g : Nat) (lim : Int) (v : Value) (lp : List FrV) (rv : Value) (lr : List FrV) (o : OpN) (w : World) (h : BothN w N B g lim v lp rv lr) (hm : MadeO N w o) :
    Calls Try.prog 7 #[.pointer (some ⟨g, 0, none⟩), rv, .int .i64 lim, .agg (opNC o)] w (StepN N B g lim w) := by
  have hn9 : o.f.d.length ≤ 9223372036854775807 := by have h1 := hm.frame.room; have h2 := hm.frame.most; unfold maxLen at h2; omega
  by_cases k1 : o.kind = 1
  · by_cases hno : sendE lim lr.length o.f o.f.d.length = 0
    · exact ntstep_send_ok N B g lim v lp rv lr o w h k1 ⟨hm.frame.bare, hm.frame.held, hm.frame.byte⟩ hno
    · exact ntstep_send_no N B g lim v lp rv lr o w h k1 hn9 hno
  by_cases hi : hasN lr.length o.i = true
  · obtain ⟨j, hj, hij⟩ := hasN_iff.1 hi
    by_cases k4 : o.kind = 4
    · by_cases hf : lim ≤ (lr.length : Int)
      · exact ntstep_twice_full N B g lim v lp rv lr o w h k4 j hij hj hf
      · exact ntstep_twice_ok N B g lim v lp rv lr o w h k4 j hij hj (by omega)
    by_cases k2 : o.kind = 2
    · exact ntstep_ok2 N B g lim v lp rv lr o w h k2 hm.bit j hij hj
    by_cases k3 : o.kind = 3
    · exact ntstep_ok3 N B g lim v lp rv lr o w h k3 hm.bit j hij hj
    by_cases k5 : o.kind = 5
    · exact ntstep_ok5 N B g lim v lp rv lr o w h k5 hm.bit j hij hj
    exact ntstep_other N B g lim v lp rv lr o w h k1 k2 k3 k4 k5
  · have hi0 : hasN lr.length o.i = false := by simpa using hi
    by_cases k4 : o.kind = 4
    · exact ntstep_twice_none N B g lim v lp rv lr o w h k4 hi0
    by_cases k2 : o.kind = 2
    · exact ntstep_none2 N B g lim v lp rv lr o w h k2 hi0
    by_cases k3 : o.kind = 3
    · exact ntstep_none3 N B g lim v lp rv lr o w h k3 hi0
    by_cases k5 : o.kind = 5
    · exact ntstep_none5 N B g lim v lp rv lr o w h k5 hi0
    exact ntstep_other N B g lim v lp rv lr o w h k1 k2 k3 k4 k5

/-- A slice that reads as a list of steps. -/
def SeesO (N : Nat) (w : World) (A : Option Addr) (os : List OpN) : Prop := ∀ (j : Nat) (o : OpN), os[j]? = some o → ∃ b off, A = some ⟨b, off, none⟩ ∧ b < N ∧
  (w.cell? ⟨b, off + j * 6, none⟩ = some (.int .i64 o.kind) ∧ w.cell? ⟨b, off + j * 6 + 1, none⟩ = some (.int .i64 o.i) ∧ w.cell? ⟨b, off + j * 6 + 2, none⟩ = some (.int .i64 o.bit) ∧ w.cell? ⟨b, off + j * 6 + 3, none⟩ = some (.int .i64 o.f.fr) ∧ w.cell? ⟨b, off + j * 6 + 4, none⟩ = some (.int .i64 o.f.to) ∧ w.cell? ⟨b, off + j * 6 + 5, none⟩ = some (.slice o.A o.f.d.length o.c)) ∧ MadeO N w o
theorem SeesO.below {N : Nat} {w w' : World} {A : Option Addr} {os : List OpN} (h : SeesO N w A os) (k : Below N w w') : SeesO N w' A os := fun j o hj => by
  obtain ⟨b, off, h1, h2, ⟨c0, c1, c2, c3, c4, c5⟩, h3⟩ := h j o hj
  exact ⟨b, off, h1, h2, ⟨(k.cell (by exact h2)).trans c0, (k.cell (by exact h2)).trans c1, (k.cell (by exact h2)).trans c2, (k.cell (by exact h2)).trans c3, (k.cell (by exact h2)).trans c4, (k.cell (by exact h2)).trans c5⟩, h3.below k⟩
theorem list6N {α : Type} {l : List α} (h : l.length = 6) : ∃ a b c d e f, l = [a, b, c, d, e, f] := by
  match l, h with
  | [a, b, c, d, e, f], _ => exact ⟨a, b, c, d, e, f, rfl⟩
set_option maxRecDepth 100000 in
set_option maxHeartbeats 2000000 in
theorem open_op6 {H : Type} {enc : TypeId × Value → H} {w : World} {base : Nat} {held : Bool} {d : DataW H} {p : List MemPlace} {fuel : Nat} {cs : List Value} (hlen : cs.length = 6)
    (hf : DataW.trod enc Try.prog w base (fun _ => true) held fuel 34 cs = some (d, p)) {N : Nat} (hlt : ∀ y ∈ p, y.block < N) : ∃ o : OpN, cs = (opNC o).toList ∧ MadeO N w o := by
  obtain ⟨a0, a1, a2, a3, a4, a5, rfl⟩ := list6N hlen
  obtain ⟨xs, n, _, hp, _, hl, hfs⟩ := DataW.trod_struct Try.underlying34 hf
  have c1 : Try.prog.cellsOf 3 = 1 := by kernel_rfl
  have c2 : Try.prog.cellsOf 32 = 3 := by kernel_rfl
  have e0 := hfs 0 _ rfl
  have e1 := hfs 1 _ rfl
  have e2 := hfs 2 _ rfl
  have e3 := hfs 3 _ rfl
  simp [c1, c2] at e0 e1 e2 e3
  have hx : xs.length = 4 := hl
  have at_ : ∀ i, i < 4 → ∃ y, xs[i]? = some y := fun i hi => ⟨xs[i]'(by omega), List.getElem?_eq_getElem (by omega)⟩
  obtain ⟨y0, z0⟩ := at_ 0 (by omega)
  obtain ⟨y1, z1⟩ := at_ 1 (by omega)
  obtain ⟨y2, z2⟩ := at_ 2 (by omega)
  obtain ⟨y3, z3⟩ := at_ 3 (by omega)
  have hm3 : y3 ∈ xs := List.mem_of_getElem? z3
  rw [z0] at e0
  rw [z1] at e1
  rw [z2] at e2
  rw [z3] at e3
  simp only [Prod.mk.injEq] at hp
  obtain ⟨kd, hkd, _, _⟩ := DataW.trod_int Try.underlying3 e0
  obtain ⟨i, hi, _, _⟩ := DataW.trod_int Try.underlying3 e1
  obtain ⟨bit, hb, _, wb⟩ := DataW.trod_int Try.underlying3 e2
  obtain ⟨f, A, c, hc, hm⟩ := open_fr3 (d := y3.1) (p := y3.2) (by simp) e3 (N := N) (fun y hy => hlt y (by rw [hp.2]; exact List.mem_flatMap.2 ⟨y3, hm3, hy⟩))
  simp only [List.cons.injEq, and_true] at hkd hi hb hc
  obtain ⟨h3, h4, h5⟩ := hc
  subst hkd hi hb h3 h4 h5
  exact ⟨⟨kd, i, bit, f, A, c⟩, rfl, hm, i64_le bit wb⟩
end Go.Proofs.Ytljnboimadhkoaa
