/-
  The law's arguments: a slice of things.
-/
import Derived.Test.YtjefhnhlkhnogaaFrame
import Derived.Deep.Slices
import Derived.Deep.Fields
import Derived.ChangeSame
namespace Go.Proofs.Ytjefhnhlkhnogaa
open Go.ChangeShapes Go.WideShapes Go.ChangeAt Go.RowKit Go.Deep

/-- A thing: its kind, its number, its text. -/
structure OpV where
  kind : Int
  num : Nat
  text : ByteArray

/-- A slice of things that reads as a list. -/
def SeesOps (w : World) (A : Option Addr) (ops : List OpV) : Prop :=
  ∀ (j : Nat) (x : OpV), ops[j]? = some x → ∃ b o, A = some ⟨b, o, none⟩ ∧ b < w.heap.size ∧ w.cell? ⟨b, o + j * 3, none⟩ = some (.int .i64 x.kind) ∧ w.cell? ⟨b, o + j * 3 + 1, none⟩ = some (.int .u64 (x.num : Int)) ∧
    w.cell? ⟨b, o + j * 3 + 2, none⟩ = some (.string x.text) ∧ (x.num : Int) ≤ 18446744073709551615 ∧ x.text.size ≤ 9223372036854775807

theorem SeesOps.below {w w' : World} {A : Option Addr} {ops : List OpV} (h : SeesOps w A ops) (hb : Below w.heap.size w w') : SeesOps w' A ops := by
  intro j x hj
  obtain ⟨b, o, hA, hlt, h0, h1, h2, h3⟩ := h j x hj
  exact ⟨b, o, hA, Nat.lt_of_lt_of_le hlt hb.size, (hb.cell (by exact hlt)).trans h0, (hb.cell (by exact hlt)).trans h1, (hb.cell (by exact hlt)).trans h2, h3⟩

/-- A thing as data. -/
def opData {H : Type} (x : OpV) : DataW H := .agg [.lit (.int .i64 x.kind), .lit (.int .u64 (x.num : Int)), .lit (.string x.text.data.toList)]

theorem three_of {α : Type} {l : List α} (h : l.length = 3) : ∃ a b c, l = [a, b, c] := by
  match l, h with
  | [a, b, c], _ => exact ⟨a, b, c, rfl⟩

section
variable {H : Type} {enc : TypeId × Value → H} {P : Program} {W : World}

/-- One of them. -/
theorem open_op {e : TypeId} {f0 f1 f2 : Field} (he : P.underlying e = some (.struct #[f0, f1, f2])) (hone : oneCellFields P #[f0, f1, f2] = true)
    (h0 : P.underlying f0.type = some (.int .i64)) (h1 : P.underlying f1.type = some (.int .u64)) (h2 : P.underlying f2.type = some .string)
    {a : Addr} {cs : List Value} {fuel : Nat} {d : DataW H} {pl : List MemPlace} (hc : W.cells? 0 a 3 = some cs) (ht : DataW.trod enc P W 0 (fun _ => true) true fuel e cs = some (d, pl)) :
    ∃ x : OpV, d = opData x ∧ W.cell? (a.add 0) = some (.int .i64 x.kind) ∧ W.cell? (a.add 1) = some (.int .u64 (x.num : Int)) ∧ W.cell? (a.add 2) = some (.string x.text) ∧ (x.num : Int) ≤ 18446744073709551615 ∧ x.text.size ≤ 9223372036854775807 := by
  obtain ⟨_, hlen, hat⟩ := World.cells?_some hc
  obtain ⟨c0, c1, c2, rfl⟩ := three_of hlen
  obtain ⟨ys, m, _, hx, _, hyl, hf⟩ := DataW.trod_struct he ht
  obtain ⟨y0, y1, y2, rfl⟩ := three_of (by simpa using hyl)
  obtain ⟨o0, k0⟩ := hone_of hone 0 f0 rfl
  obtain ⟨o1, k1⟩ := hone_of hone 1 f1 rfl
  obtain ⟨o2, k2⟩ := hone_of hone 2 f2 rfl
  have g0 := hf 0 f0 rfl
  have g1 := hf 1 f1 rfl
  have g2 := hf 2 f2 rfl
  rw [o0, k0] at g0
  rw [o1, k1] at g1
  rw [o2, k2] at g2
  obtain ⟨n0, e0, z0, w0⟩ := DataW.trod_int h0 (x := y0) (by simpa using g0)
  obtain ⟨n1, e1, z1, w1⟩ := DataW.trod_int h1 (x := y1) (by simpa using g1)
  obtain ⟨s2, e2, z2, w2⟩ := DataW.trod_string h2 (x := y2) (by simpa using g2)
  simp at e0 e1 e2
  subst e0; subst e1; subst e2
  have hn1 := u64_pos _ w1
  have hn2 := u64_lt _ w1
  have ec : ((n1.toNat : Nat) : Int) = n1 := Int.toNat_of_nonneg hn1
  simp only [Prod.mk.injEq] at hx
  refine ⟨⟨n0, n1.toNat, s2⟩, ?_, (hat 0 (by omega)).trans rfl, ?_, (hat 2 (by omega)).trans rfl, by rw [ec]; exact hn2, by unfold maxLen at w2; omega⟩
  · rw [hx.1, z0, z1, z2]
    simp only [opData, ec, List.map_cons, List.map_nil]
  · rw [ec]
    exact (hat 1 (by omega)).trans rfl

theorem pick_all {α : Type} (d : α) {m : Nat} {p : Nat → α → Prop} (h : ∀ i, i < m → ∃ x, p i x) : ∃ F : Nat → α, ∀ i, i < m → p i (F i) := by
  classical
  exact ⟨fun i => if hi : i < m then Classical.choose (h i hi) else d, fun i hi => by simp only [dif_pos hi]; exact Classical.choose_spec (h i hi)⟩

/-- A slice of them among the arguments. -/
theorem open_ops {base : Nat} {t e : TypeId} {f0 f1 f2 : Field} {v : Value} {d : DataW H} {p : List MemPlace} (hs : P.underlying t = some (.slice e)) (he : P.underlying e = some (.struct #[f0, f1, f2])) (hone : oneCellFields P #[f0, f1, f2] = true) (hC : P.cellsOf e = 3)
    (h0 : P.underlying f0.type = some (.int .i64)) (h1 : P.underlying f1.type = some (.int .u64)) (h2 : P.underlying f2.type = some .string)
    (hval : Value.okWide P W .any base t v) (hd : DataW.Trod enc P W 0 (fun _ => true) true t v d p) (hlt : ∀ x ∈ p, x.block < W.heap.size) :
    ∃ A cap, ∃ ops : List OpV, v = .slice A ops.length cap ∧ SeesOps W A ops ∧ (ops = [] ∨ ∃ sp, d = .slice (ops.map opData) sp) := by
  obtain ⟨a0, len, cap, rfl⟩ := okWide_slice hs hval
  obtain ⟨fuel, hf⟩ := hd
  rcases open_slice hs hf with ⟨hcs, _⟩ | ⟨a, len', cap', m, n', D, Pl, hcs, _, hl, _, hm, hx, hall⟩
  · simp [Value.cells] at hcs
    obtain ⟨rfl, rfl, rfl⟩ := hcs
    exact ⟨none, 0, [], rfl, fun j x h => by simp at h, .inl rfl⟩
  · simp [Value.cells] at hcs
    obtain ⟨rfl, rfl, rfl⟩ := hcs
    simp only [if_true] at hm
    subst hm
    rw [hC] at hall hx
    obtain ⟨F, hF⟩ := pick_all (⟨0, 0, .empty⟩ : OpV) (m := m) (p := fun i (x : OpV) => D i = opData x ∧ W.cell? ((a.add (i * 3)).add 0) = some (.int .i64 x.kind) ∧ W.cell? ((a.add (i * 3)).add 1) = some (.int .u64 (x.num : Int)) ∧ W.cell? ((a.add (i * 3)).add 2) = some (.string x.text) ∧ (x.num : Int) ≤ 18446744073709551615 ∧ x.text.size ≤ 9223372036854775807)
      (fun i hi => by
        obtain ⟨cs', hc, ht⟩ := hall i hi
        exact open_op he hone h0 h1 h2 hc ht)
    simp only [Prod.mk.injEq] at hx
    refine ⟨some a, m, (List.range len).map F, by simp, ?_, .inr ⟨(List.range (m - len)).map fun j => D (len + j), ?_⟩⟩
    · intro j x hj
      rw [List.getElem?_map] at hj
      have hjl : j < len := by
        rcases Nat.lt_or_ge j len with h | h
        · exact h
        · rw [List.getElem?_eq_none (by simpa using h)] at hj; cases hj
      rw [List.getElem?_range hjl] at hj
      simp at hj
      subst hj
      obtain ⟨_, q0, q1, q2, q3, q4⟩ := hF j (by omega)
      obtain ⟨b, off, spot⟩ := a
      have hspot : spot = none := by
        obtain ⟨_, z0, _⟩ := hF 0 (by omega)
        simpa [Addr.add] using World.cell?_spot z0
      subst hspot
      rw [add_plain, add_plain] at q0 q1 q2
      have hb : b < W.heap.size := hlt (.cell b off) (by rw [hx.2]; exact List.mem_append_left _ (MemPlace.mem_row.2 ⟨0, by omega, by simp⟩))
      exact ⟨b, off, rfl, hb, q0, q1, q2, q3, q4⟩
    · rw [hx.1]
      congr 1
      rw [List.map_map]
      apply List.map_congr_left
      intro i hi
      exact (hF i (by have := List.mem_range.1 hi; omega)).1
end

end Go.Proofs.Ytjefhnhlkhnogaa
