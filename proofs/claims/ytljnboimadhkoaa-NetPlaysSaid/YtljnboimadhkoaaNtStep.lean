/-
  The law's step: both nets take the same step; what leaves the list as it was.
-/
import Derived.Test.YtljnboimadhkoaaNtRefB
import Derived.Test.YtljnboimadhkoaaNtFirst
namespace Go.Proofs.Ytljnboimadhkoaa
open Go.ChangeShapes Go.WideShapes Go.ChangeAt Go.RowKit
set_option linter.unusedVariables false
set_option linter.unusedSimpArgs false

/-- Both nets. -/
structure BothN (w : World) (N B g : Nat) (lim : Int) (v : Value) (lp : List FrV) (rv : Value) (lr : List FrV) : Prop where
  net : NetAt w B g lim v lp
  ref : RefAt w N B rv lr
  low : N ≤ B
  same : lp.map (·.1) = lr.map (·.1)
  byte : ∀ p ∈ lr, ∀ x ∈ p.1.d, x < 256
  known : ∀ p ∈ lr, knownB p.1.fr = true ∧ knownB p.1.to = true
theorem BothN.len {w : World} {N B g : Nat} {lim : Int} {v rv : Value} {lp lr : List FrV} (h : BothN w N B g lim v lp rv lr) : lp.length = lr.length := by
  have := congrArg List.length h.same
  simpa using this
theorem BothN.at_ {w : World} {N B g : Nat} {lim : Int} {v rv : Value} {lp lr : List FrV} (h : BothN w N B g lim v lp rv lr) {j : Nat} {p : FrV} (hj : lr[j]? = some p) : ∃ u, lp[j]? = some (p.1, u) := by
  have h1 : (lp.map (·.1))[j]? = some p.1 := by rw [h.same, List.getElem?_map, hj]; rfl
  rw [List.getElem?_map] at h1
  cases hl : lp[j]? with
  | none => rw [hl] at h1; cases h1
  | some q =>
    rw [hl] at h1
    injection h1 with h1
    exact ⟨q.2, by rw [← h1]⟩
theorem BothN.far {w : World} {N B g : Nat} {lim : Int} {v rv : Value} {lp lr : List FrV} (h : BothN w N B g lim v lp rv lr) : ∀ b, rv.ownBlock = some b → ¬ OwnN g v lp b := by
  intro b hb ho
  rcases ho with (rfl | ho) | ⟨p, hp, ho⟩
  · exact own_neB h.ref.row h.net.blk (by decide) hb
  · exact own_ne h.ref.row h.net.row (by decide) hb ho
  · exact own_ne h.ref.row (h.net.dat p hp) (by decide) hb ho
theorem BothN.size {w : World} {N B g : Nat} {lim : Int} {v rv : Value} {lp lr : List FrV} (h : BothN w N B g lim v lp rv lr) : N ≤ w.heap.size := Nat.le_trans h.low h.net.base_le
theorem BothN.on {w w' : World} {N B g : Nat} {lim : Int} {v rv : Value} {lp lr : List FrV} (h : BothN w N B g lim v lp rv lr) (b : Below w.heap.size w w') : BothN w' N B g lim v lp rv lr :=
  ⟨h.net.on b, h.ref.on h.size b, h.low, h.same, h.byte, h.known⟩
/-- The document's frames stay while the net's are turned. -/
theorem BothN.keeps {S : Nat → Prop} {w w' : World} {N B g : Nat} {lim : Int} {v rv : Value} {lp lr : List FrV} (h : BothN w N B g lim v lp rv lr) (t : TurnsD S w w') (hS : ∀ i, S i → OwnN g v lp i) : RefAt w' N B rv lr ∧ Below B w w' :=
  ⟨h.ref.turns t h.size (fun i hi s => by have := (h.net.own (hS i s)).1; have := h.low; omega) (fun b hb s => h.far b hb (hS b s)),
    t.below h.net.base_le (fun i hi s => by have := (h.net.own (hS i s)).1; omega)⟩
/-- A step. -/
structure OpN where
  kind : Int
  i : Int
  bit : Int
  f : FrL
  A : Option Addr
  c : Nat
abbrev opNC (o : OpN) : Array Value := #[.int .i64 o.kind, .int .i64 o.i, .int .i64 o.bit, .int .i64 o.f.fr, .int .i64 o.f.to, .slice o.A o.f.d.length o.c]
def StepN (N B g : Nat) (lim : Int) (w : World) (e : Ending) (w' : World) : Prop := ∃ rv v lp lr, e = .returned (.tuple #[rv, .bool true]) ∧ BothN w' N B g lim v lp rv lr ∧ Below B w w'
theorem BothN.stepped {w w' : World} {N B g : Nat} {lim : Int} {v rv : Value} {lp lr : List FrV} (h : BothN w N B g lim v lp rv lr) (b : Below w.heap.size w w') : StepN N B g lim w (.returned (.tuple #[rv, .bool true])) w' :=
  ⟨rv, v, lp, lr, rfl, h.on b, b.mono h.net.base_le⟩
theorem lcells6N {w : World} {g : Nat} {t : TypeId} {a b c d e f : Value} (h : Blk w g t #[a, b, c, d, e, f]) :
    w.cell? ⟨g, 0, none⟩ = some a ∧ w.cell? ⟨g, 1, none⟩ = some b ∧ w.cell? ⟨g, 2, none⟩ = some c ∧ w.cell? ⟨g, 3, none⟩ = some d ∧ w.cell? ⟨g, 4, none⟩ = some e ∧ w.cell? ⟨g, 5, none⟩ = some f :=
  ⟨(h.cell 0).trans rfl, (h.cell 1).trans rfl, (h.cell 2).trans rfl, (h.cell 3).trans rfl, (h.cell 4).trans rfl, (h.cell 5).trans rfl⟩
set_option maxRecDepth 100000 in
set_option maxHeartbeats 1000000 in
/-- Another kind: nothing. -/
theorem ntstep_other (N B g : Nat) (lim : Int) (v : Value) (lp : List FrV) (rv : Value) (lr : List FrV) (o : OpN) (w : World) (h : BothN w N B g lim v lp rv lr) (h1 : o.kind ≠ 1) (h2 : o.kind ≠ 2) (h3 : o.kind ≠ 3) (h4 : o.kind ≠ 4) (h5 : o.kind ≠ 5) :
    Calls Try.prog 7 #[.pointer (some ⟨g, 0, none⟩), rv, .int .i64 lim, .agg (opNC o)] w (StepN N B g lim w) := by
  have HB := hid h
  obtain ⟨R, rc, hrv⟩ := own_shapeN h.ref.row
  obtain ⟨m, hm⟩ : ∃ m, lr.length = m := ⟨_, rfl⟩
  rw [hm] at hrv
  subst hrv
  obtain ⟨kd, i, bit, ⟨fr, to, d⟩, A, c⟩ := o
  simp only at h1 h2 h3 h4 h5
  clear h hm
  go_enter Try.func7, Try.ntmps7
  go_upto_region 1 with fail
  obtain ⟨W, hW⟩ : ∃ W, w.alloc (.cells #[.int .i64 kd, .int .i64 i, .int .i64 bit, .int .i64 fr, .int .i64 to, .slice A d.length c] 34) = W := ⟨_, rfl⟩
  rw [hW]
  obtain ⟨K0, KB⟩ := lone_new hW
  obtain ⟨k, hk⟩ : ∃ k, w.heap.size = k := ⟨_, rfl⟩
  rw [hk] at K0 ⊢
  clear hW hk
  obtain ⟨c0, c1, c2, c3, c4, c5⟩ := lcells6N K0.out
  by_cases hi : 0 ≤ i
  · go_wp2
    refine bodyPost_ret (v := .tuple #[.slice R m rc, .bool true]) (by simp [results, Try.results7, go_sem]) rfl (HB.out.stepped KB.out)
  · go_wp2
    refine bodyPost_ret (v := .tuple #[.slice R m rc, .bool true]) (by simp [results, Try.results7, go_sem]) rfl (HB.out.stepped KB.out)
end Go.Proofs.Ytljnboimadhkoaa
