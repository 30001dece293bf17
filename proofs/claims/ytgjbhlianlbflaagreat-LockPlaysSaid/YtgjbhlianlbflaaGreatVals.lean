/-
  A slice that reads as a list of values of one cell each, at whatever address; what an append of such a one makes; cuts of it. No program in it.
-/
import Derived.Test.YtgjbhlianlbflaaGreatHeld
import Derived.Laws.IdiomCopy
namespace Go.Proofs.YtgjbhlianlbflaaGreat
open Go.ChangeShapes Go.WideShapes Go.ChangeAt Go.RowKit

def Vals (w : World) (A : Option Addr) (vs : List Value) : Prop :=
  ∀ (j : Nat) (u : Value), vs[j]? = some u → ∃ b o, A = some ⟨b, o, none⟩ ∧ b < w.heap.size ∧ w.cell? ⟨b, o + j, none⟩ = some u

theorem Vals.below {w w' : World} {A : Option Addr} {vs : List Value} (h : Vals w A vs) (hb : Below w.heap.size w w') : Vals w' A vs := by
  intro j x hj
  obtain ⟨b, o, hA, hlt, hc⟩ := h j x hj
  exact ⟨b, o, hA, Nat.lt_of_lt_of_le hlt hb.size, (hb.cell (by exact hlt)).trans hc⟩
theorem Vals.drewN {w : World} {A : Option Addr} {vs : List Value} (h : Vals w A vs) (n : Nat) : Vals (w.drewN n) A vs := h
theorem Vals.drew {w : World} {A : Option Addr} {vs : List Value} (h : Vals w A vs) : Vals w.drew A vs := h
theorem Vals.alloc {w : World} {A : Option Addr} {vs : List Value} (h : Vals w A vs) (o : Obj) : Vals (w.alloc o) A vs := h.below ((Below.refl _ _).alloc (Nat.le_refl _) o)
theorem Vals.nil (w : World) (A : Option Addr) : Vals w A [] := fun j x h => by simp at h
theorem Vals.take {w : World} {A : Option Addr} {vs : List Value} (h : Vals w A vs) (i : Nat) : Vals w A (vs.take i) := by
  intro j x hj
  refine h j x ?_
  rw [List.getElem?_take] at hj
  split at hj
  · exact hj
  · cases hj
theorem Vals.rest {w : World} {vs : List Value} {b o i : Nat} (h : Vals w (some ⟨b, o, none⟩) vs) : Vals w (some ⟨b, o + i, none⟩) (vs.drop i) := by
  intro j x hj
  rw [List.getElem?_drop] at hj
  obtain ⟨b', o', hA', hlt, hc⟩ := h _ x hj
  injection hA' with h1
  injection h1 with h2 h3
  subst h2; subst h3
  exact ⟨b, o + i, rfl, hlt, by rw [Nat.add_assoc]; exact hc⟩
theorem Vals.of_own {w : World} {base n cap : Nat} {A : Option Addr} {vs : List Value} {E : TypeId} (h : w.ownsRow base E 1 (.slice A n cap) n vs) : Vals w A vs := by
  intro j x hj
  have hl : vs.length = n := by have := h.1; simpa using this
  have hjn : j < vs.length := (List.getElem?_eq_some_iff.1 hj).1
  rcases h.2 with ⟨_, h0⟩ | ⟨g, cap', cur, hv, _, hg, _⟩
  · omega
  · injection hv with h1 h2 h3
    subst h1; subst h3
    refine ⟨g, 0, rfl, (Array.getElem?_eq_some_iff.1 hg).1, ?_⟩
    rw [Nat.zero_add, h.cellAt j (by omega)]
    exact hj
/-- A row of the call's own as the slice that it is. -/
theorem own_vals {w : World} {base n : Nat} {e : TypeId} {v : Value} {vs : List Value} (h : w.ownsRow base e 1 v n vs) :
    ∃ A c, v = .slice A n c ∧ vs.length = n ∧ (A = none → c = 0) ∧ n ≤ c ∧ c ≤ maxLen ∧ Vals w A vs := by
  have hn : vs.length = n := by have := h.1; simpa using this
  rcases h.2 with ⟨rfl, h0⟩ | ⟨g, cap, cur, rfl, _, _, hc, hm, _⟩
  · subst h0
    have : vs = [] := List.eq_nil_of_length_eq_zero hn
    subst this
    exact ⟨none, 0, rfl, rfl, fun _ => rfl, Nat.le_refl _, by simp [maxLen], Vals.nil _ _⟩
  · exact ⟨_, cap, rfl, hn, fun h => (by cases h), hc, hm, Vals.of_own h⟩

/-- Its cell at a place. -/
theorem Vals.at_ {w : World} {A : Option Addr} {vs : List Value} (h : Vals w A vs) {j : Nat} (hj : j < vs.length) : ∃ b o, A = some ⟨b, o, none⟩ ∧ b < w.heap.size ∧ w.cell? ⟨b, o + j, none⟩ = some vs[j] :=
  h j _ (List.getElem?_eq_getElem hj)

/-- Behind an append a row of the call's own: what was there, and what the source reads as, whatever its address. -/
theorem wpList_append_vals {P : Program} {w : World} {ops : Array Oper} {rest : List Oper} {o : Oper} {a : Act} {Q : Exit → Act → World → Prop} (hgd : o.guard = none) (s x : Operand) (t : TypeId)
    (ho : o.op = .call { callee := .builtin .append, args := #[s, x], argTypes := #[t, t] })
    (base : Nat) (e : TypeId) (i : TypeInfo) (z : Value) (bytes : Nat) (ht : P.underlying t = some (.slice e)) (hi : P.info? e = some i) (hz : i.zero = some z) (hsize : i.size = 1) (hby : i.bytes = bytes) (hzs : z.cells.size = 1)
    (v : Value) (n : Nat) (xs : List Value) (hs : a.eval s = v) (hown : w.ownsRow base e 1 v n xs) (A : Option Addr) (c : Nat) (vs : List Value) (m : Nat) (hm : vs.length = m) (hx : a.eval x = .slice A m c) (hnone : A = none → c = 0) (hS : Vals w A vs) (hone : ∀ u ∈ vs, u.oneCell' = true)
    (h63 : n + m ≤ maxLen) (hbytes : (n + m) * bytes ≤ 140737488355328) (hbase : base ≤ w.heap.size)
    (h : ∀ v' w', w'.ownsRow base e 1 v' (n + m) (xs ++ vs) → w.grownBy w' v.ownBlock → wpList P ops Q rest (a.put o.dst v') w') : wpList P ops Q (o :: rest) a w := by
  subst hm
  cases A with
  | none =>
    have hl : vs = [] := by
      cases vs with
      | nil => rfl
      | cons y l => obtain ⟨b, o, he, _⟩ := hS 0 y rfl; cases he
    subst hl
    rw [hnone rfl] at hx
    exact wpList_append_own_none hgd s x t ho base e i 1 ht hi v n xs hs hown hx (h v w (by simpa using hown) (World.grownBy.refl w _))
  | some ad =>
    refine wpList_append_own w hgd s x t ho base e i z 1 bytes ht hi hz hsize hby hzs (by decide) v n xs hs hown ad vs.length c vs hx (by simp) ?_ hone h63 hbytes hbase (fun v' w' h1 h2 _ => h v' w' h1 h2)
    intro j u hu
    obtain ⟨b, off, he, _, hc⟩ := hS j u hu
    injection he with he
    subst he
    rw [add_plain, hc]

/-- The first k, with whatever room. -/
theorem vals_front {P : Program} (t e : TypeId) (i : TypeInfo) (ht : P.underlying t = some (.slice e)) (hi : P.info? e = some i) {w0 : World} {A : Option Addr} {vs : List Value} {n c k : Nat} (hk : k ≤ n) (hc : n ≤ c) (h : Vals w0 A vs) (hA : A = none → c = 0) :
    ∃ A1, (∀ w, (Instr.slice t (.slice A n c) none (some (.int .i64 (k : Int))) none).run P w = .ok (.slice A1 k c) w) ∧ (A1 = none → c = 0) ∧ Vals w0 A1 (vs.take k) := by
  have he : P.elem t = e := by simp [Program.elem, ht]
  have hsz : ∀ w, (sizeOf (P.elem t)).run P w = .ok i.size w := fun w => by rw [he]; simp [sizeOf, typeInfo, hi]
  refine ⟨if c = 0 then A else A.map (·.add (0 * i.size)), fun w => ?_, fun hn' => ?_, ?_⟩
  · rw [run_slice_h (P := P) w t A n c (by rw [ht, he]) .i64 (k : Int) (by omega) (by omega), hsz]
    simp [Result.andThen, sliced]
  · by_cases h0 : c = 0
    · exact h0
    · rw [if_neg h0] at hn'
      cases A with
      | none => exact hA rfl
      | some a => cases hn'
  · have e : (if c = 0 then A else A.map (·.add (0 * i.size))) = A := by
      split
      · rfl
      · rw [Nat.zero_mul]; cases A <;> simp [Addr.add]
    rw [e]
    exact h.take k

/-- From place k on, with whatever room. -/
theorem vals_rest {P : Program} (t e : TypeId) (i : TypeInfo) (ht : P.underlying t = some (.slice e)) (hi : P.info? e = some i) (hs : i.size = 1) {w0 : World} {A : Option Addr} {vs : List Value} {n c k : Nat} (hn : vs.length = n) (hk : k ≤ n) (hc : n ≤ c) (h : Vals w0 A vs) (hA : A = none → c = 0) :
    ∃ A1, (∀ w, (Instr.slice t (.slice A n c) (some (.int .i64 (k : Int))) none none).run P w = .ok (.slice A1 (n - k) (c - k)) w) ∧ (A1 = none → c - k = 0) ∧ Vals w0 A1 (vs.drop k) := by
  have he : P.elem t = e := by simp [Program.elem, ht]
  have hsz : ∀ w, (sizeOf (P.elem t)).run P w = .ok i.size w := fun w => by rw [he]; simp [sizeOf, typeInfo, hi]
  refine ⟨if c = k then A else A.map (·.add (k * i.size)), fun w => ?_, fun hn' => ?_, ?_⟩
  · rw [run_slice_l (P := P) w t A n c (by rw [ht, he]) .i64 (k : Int) (by omega) (by omega), hsz]
    simp [Result.andThen, sliced]
  · by_cases h0 : c = k
    · omega
    · rw [if_neg h0] at hn'
      cases A with
      | none => have := hA rfl; omega
      | some a => cases hn'
  · by_cases h0 : k < n
    · rw [if_neg (by omega), hs, Nat.mul_one]
      obtain ⟨b, o, rfl, _, _⟩ := h.at_ (j := 0) (by omega)
      rw [show (some (⟨b, o, none⟩ : Addr)).map (·.add k) = some ⟨b, o + k, none⟩ by simp [add_plain]]
      exact h.rest
    · rw [List.drop_of_length_le (by omega)]
      exact Vals.nil _ _

/-- Strings, one behind the other. -/
def strs (xs : List ByteArray) : List Value := xs.map Value.string
theorem strs_length (xs : List ByteArray) : (strs xs).length = xs.length := by simp [strs]
theorem strs_one (xs : List ByteArray) : ∀ u ∈ strs xs, u.oneCell' = true := by
  intro u hu
  obtain ⟨x, _, rfl⟩ := List.mem_map.1 hu
  rfl
theorem strs_at {w : World} {A : Option Addr} {xs : List ByteArray} (h : Vals w A (strs xs)) {j : Nat} (hj : j < xs.length) : ∃ b o, A = some ⟨b, o, none⟩ ∧ b < w.heap.size ∧ w.cell? ⟨b, o + j, none⟩ = some (.string xs[j]) := by
  have := h j (.string xs[j]) (by simp [strs, hj])
  exact this
theorem strs_take (xs : List ByteArray) (k : Nat) : (strs xs).take k = strs (xs.take k) := by simp [strs, List.map_take]
theorem strs_drop (xs : List ByteArray) (k : Nat) : (strs xs).drop k = strs (xs.drop k) := by simp [strs, List.map_drop]
theorem strs_append (xs ys : List ByteArray) : strs xs ++ strs ys = strs (xs ++ ys) := by simp [strs]

/-- A slice of strings, as it is handed on. -/
def Holds (w : World) (v : Value) (xs : List ByteArray) : Prop := ∃ A c, v = .slice A xs.length c ∧ (A = none → c = 0) ∧ xs.length ≤ c ∧ c ≤ maxLen ∧ Vals w A (strs xs)
theorem Holds.below {w w' : World} {v : Value} {xs : List ByteArray} (h : Holds w v xs) (hb : Below w.heap.size w w') : Holds w' v xs := by
  obtain ⟨A, c, h1, h2, h3, h4, h5⟩ := h
  exact ⟨A, c, h1, h2, h3, h4, h5.below hb⟩
theorem Holds.nil (w : World) : Holds w (.slice none 0 0) [] := ⟨none, 0, rfl, fun _ => rfl, Nat.le_refl _, by simp [maxLen], Vals.nil _ _⟩
theorem holds_own {w : World} {base n : Nat} {e : TypeId} {v : Value} {xs : List ByteArray} (h : w.ownsRow base e 1 v n (strs xs)) : Holds w v xs := by
  obtain ⟨A, c, h1, h2, h3, h4, h5, h6⟩ := own_vals h
  rw [strs_length] at h2
  subst h2
  exact ⟨A, c, h1, h3, h4, h5, h6⟩

/-- A store into a row of the call's own. -/
theorem own_set {w : World} {base g cap n k : Nat} {e : TypeId} {xs : List Value} (h : w.ownsRow base e 1 (.slice (some ⟨g, 0, none⟩) n cap) n xs) (u : Value) :
    (w.setCell ⟨g, k, none⟩ u).ownsRow base e 1 (.slice (some ⟨g, 0, none⟩) n cap) n (xs.set k u) := by
  obtain ⟨h1, h2⟩ := h
  refine ⟨by rw [List.length_set]; exact h1, ?_⟩
  rcases h2 with ⟨h2, _⟩ | ⟨g', cap', cur, he, hb, hg, hc, hm, hs, ht⟩
  · cases h2
  · injection he with he1 he2 he3
    injection he1 with he1
    injection he1 with he1
    subst he1; subst he3
    refine .inr ⟨g, cap, cur.setIfInBounds k u, rfl, hb, Blk.set_ (t := e) hg k u, hc, hm, by simpa using hs, ?_⟩
    rw [Array.toList_setIfInBounds, List.take_set, ht]

theorem own_cell {w : World} {base g cap n k : Nat} {e : TypeId} {xs : List Value} (h : w.ownsRow base e 1 (.slice (some ⟨g, 0, none⟩) n cap) n xs) (hk : k < xs.length) : w.cell? ⟨g, k, none⟩ = some xs[k] ∧ w.frozen? ⟨g, k, none⟩ = false ∧ base ≤ g ∧ g < w.heap.size ∧ cap ≤ maxLen := by
  have hl := h.1
  rcases h.2 with ⟨h2, _⟩ | ⟨g', cap', cur, he, hb, hg, hc, hm, hs, ht⟩
  · cases h2
  · injection he with he1 he2 he3
    injection he1 with he1
    injection he1 with he1
    subst he1; subst he3
    have hB : Blk w g e cur := hg
    refine ⟨?_, hB.frozen k, hb, hB.lt, hm⟩
    rw [hB.cell k, ← Array.getElem?_toList]
    have : (cur.toList.take (n * 1))[k]? = some xs[k] := by rw [ht]; exact List.getElem?_eq_getElem hk
    rw [List.getElem?_take] at this
    split at this
    · exact this
    · cases this

theorem own_far {w : World} {base g cap n k : Nat} {e : TypeId} {xs : List Value} (h : w.ownsRow base e 1 (.slice (some ⟨g, 0, none⟩) n cap) n xs) (hk : n ≤ k) (u : Value) :
    (w.setCell ⟨g, k, none⟩ u).ownsRow base e 1 (.slice (some ⟨g, 0, none⟩) n cap) n xs := by
  have := own_set (k := k) h u
  rwa [List.set_eq_of_length_le (by have := h.1; omega)] at this
/-- Its first m. -/
theorem own_cut {w : World} {base g cap n m : Nat} {e : TypeId} {xs : List Value} (h : w.ownsRow base e 1 (.slice (some ⟨g, 0, none⟩) n cap) n xs) (hm : m ≤ n) :
    w.ownsRow base e 1 (.slice (some ⟨g, 0, none⟩) m cap) m (xs.take m) := by
  obtain ⟨h1, h2⟩ := h
  refine ⟨by rw [List.length_take]; omega, ?_⟩
  rcases h2 with ⟨h2, _⟩ | ⟨g', cap', cur, he, hb, hg, hc, hx, hs, ht⟩
  · cases h2
  · injection he with he1 he2 he3
    injection he1 with he1
    injection he1 with he1
    subst he1; subst he3
    refine .inr ⟨g, cap, cur, rfl, hb, hg, by omega, hx, hs, ?_⟩
    rw [← ht, List.take_take]
    congr 1
    omega
theorem own_setCells {base g cap n : Nat} {e : TypeId} {xs : List Value} : ∀ (vs : List Value) (o : Nat) (w : World), n ≤ o → w.ownsRow base e 1 (.slice (some ⟨g, 0, none⟩) n cap) n xs →
    (w.setCells g o vs).ownsRow base e 1 (.slice (some ⟨g, 0, none⟩) n cap) n xs
  | [], _, _, _, h => h
  | v :: vs, o, _, ho, h => own_setCells vs (o + 1) _ (by omega) (own_far h ho v)
theorem below_setCells_ {B g : Nat} {a : World} (hB : B ≤ g) : ∀ (vs : List Value) (o : Nat) (w : World), Below B a w → Below B a (w.setCells g o vs)
  | [], _, _, h => h
  | v :: vs, o, _, h => below_setCells_ hB vs (o + 1) _ (h.setCell (p := ⟨g, o, none⟩) hB v)

/-- A slice of signed numbers among the arguments. -/
theorem open_ints_vals {H : Type} {enc : TypeId × Value → H} {P : Program} {W : World} {base : Nat} {t e : TypeId} {k : IntKind} {v : Value} {d : DataW H} {p : List MemPlace} (ht : P.underlying t = some (.slice e)) (he : P.underlying e = some (.int k)) (hc : P.cellsOf e = 1)
    (hval : Value.okWide P W .any base t v) (hd : DataW.Trod enc P W 0 (fun _ => true) true t v d p) (hlt : ∀ x ∈ p, x.block < W.heap.size) :
    ∃ A cap, ∃ l : List Int, v = .slice A l.length cap ∧ (A = none → cap = 0) ∧ l.length ≤ cap ∧ cap ≤ maxLen ∧ Vals W A (l.map (Value.int k)) ∧ (∀ x ∈ l, (Lit.int k x).wf = true) ∧ (l = [] ∨ ∃ es sp, d = .slice es sp ∧ es.length + sp.length = cap) := by
  obtain ⟨a0, len, cap, rfl⟩ := okWide_slice ht hval
  obtain ⟨fuel, hf⟩ := hd
  rcases open_ints ht he hc hf with ⟨hcs, _⟩ | ⟨a, len', cap', zs, hcs, _, hl, hm, hz, hx, hcell, hwz⟩
  · simp [Value.cells] at hcs
    obtain ⟨rfl, rfl, rfl⟩ := hcs
    exact ⟨none, 0, [], rfl, fun _ => rfl, Nat.le_refl _, by simp [maxLen], Vals.nil _ _, by simp, .inl rfl⟩
  · simp [Value.cells] at hcs
    obtain ⟨rfl, rfl, rfl⟩ := hcs
    simp only [Prod.mk.injEq] at hx
    obtain ⟨rfl, rfl⟩ := hx
    simp only [if_true] at hz
    have hll : (zs.take len).length = len := by simp; omega
    refine ⟨some a, cap, zs.take len, by rw [hll], fun h => (by cases h), by omega, hm, ?_, fun x hx => hwz x (List.mem_of_mem_take hx), .inr ⟨_, _, rfl, by simp [lits]; omega⟩⟩
    intro j x hj
    have hjl : j < len := by have := (List.getElem?_eq_some_iff.1 hj).1; simp at this; omega
    have hjz : j < zs.length := by omega
    have hx : x = .int k zs[j] := by
      rw [List.getElem?_map, List.getElem?_take, if_pos hjl, List.getElem?_eq_getElem hjz] at hj
      simp at hj
      exact hj.symm
    obtain ⟨b, off, spot⟩ := a
    have hspot : spot = none := by simpa [Addr.add] using World.cell?_spot (hcell 0 (by omega))
    subst hspot
    have hbW : b < W.heap.size := hlt (.cell b off) (MemPlace.mem_row.2 ⟨0, by omega, by simp⟩)
    refine ⟨b, off, rfl, hbW, ?_⟩
    rw [← add_plain, hcell j hjz, hx]
    rw [List.getD_eq_getElem?_getD, List.getElem?_eq_getElem hjz]
    rfl

end Go.Proofs.YtgjbhlianlbflaaGreat
