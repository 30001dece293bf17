/-
  A slice that reads as a list of values of one cell each, at whatever address; what an append of such a one makes; cuts of it. No program in it.
-/
import Derived.Test.YtgjbhlianlbflaaGreatBHeld
import Derived.Laws.IdiomCopy
namespace Go.Proofs.YtgjbhlianlbflaaGreat
open Go.ChangeShapes Go.WideShapes Go.ChangeAt Go.RowKit
def Vals (w : World) (A : Option Addr) (vs : List Value) : Prop :=
  ∀ (j : Nat) (u : Value), vs[j]? = some u → ∃ b o, A = some ⟨b, o, none⟩ ∧ b < w.heap.size ∧ w.cell? ⟨b, o + j, none⟩ = some u
theorem Vals.below {w w' : World} {A : Option Addr} {vs : List Value} (h : Vals w A vs) (hb : Below w.heap.size w w') : Vals w' A vs := by
  intro j x hj
  obtain ⟨b, o, hA, hlt, hc⟩ := h j x hj
  exact ⟨b, o, hA, Nat.lt_of_lt_of_le hlt hb.size, (hb.cell (by exact hlt)).trans hc⟩
theorem Vals.drewN {w : World} {A : Option Addr} {vs : List Value} (h : Vals w A vs) (n : Nat) : Vals (w.drewN n) A vs := h
theorem Vals.drew {w : World} {A : Option Addr} {vs : List Value} (h : Vals w A vs) : Vals w.drew A vs := h
theorem Vals.alloc {w : World} {A : Option Addr} {vs : List Value} (h : Vals w A vs) (o : Obj) : Vals (w.alloc o) A vs := h.below ((Below.refl _ _).alloc (Nat.le_refl _) o)
theorem Vals.nil (w : World) (A : Option Addr) : Vals w A [] := fun j x h => by simp at h
theorem Vals.take {w : World} {A : Option Addr} {vs : List Value} (h : Vals w A vs) (i : Nat) : Vals w A (vs.take i) := by
  intro j x hj
  refine h j x ?_
  rw [List.getElem?_take] at hj
  split at hj
  · exact hj
  · cases hj
theorem Vals.rest {w : World} {vs : List Value} {b o i : Nat} (h : Vals w (some ⟨b, o, none⟩) vs) : Vals w (some ⟨b, o + i, none⟩) (vs.drop i) := by
  intro j x hj
  rw [List.getElem?_drop] at hj
  obtain ⟨b', o', hA', hlt, hc⟩ := h _ x hj
  injection hA' with h1
  injection h1 with h2 h3
  subst h2; subst h3
  exact ⟨b, o + i, rfl, hlt, by rw [Nat.add_assoc]; exact hc⟩
theorem Vals.of_own {w : World} {base n cap : Nat} {A : Option Addr} {vs : List Value} {E : TypeId} (h : w.ownsRow base E 1 (.slice A n cap) n vs) : Vals w A vs := by
  intro j x hj
  have hl : vs.length = n := by have := h.1; simpa using this
  have hjn : j < vs.length := (List.getElem?_eq_some_iff.1 hj).1
  rcases h.2 with ⟨_, h0⟩ | ⟨g, cap', cur, hv, _, hg, _⟩
  · omega
  · injection hv with h1 h2 h3
    subst h1; subst h3
    refine ⟨g, 0, rfl, (Array.getElem?_eq_some_iff.1 hg).1, ?_⟩
    rw [Nat.zero_add, h.cellAt j (by omega)]
    exact hj
theorem own_vals {w : World} {base n : Nat} {e : TypeId} {v : Value} {vs : List Value} (h : w.ownsRow base e 1 v n vs) :
    ∃ A c, v = .slice A n c ∧ vs.length = n ∧ (A = none → c = 0) ∧ n ≤ c ∧ c ≤ maxLen ∧ Vals w A vs := by
  have hn : vs.length = n := by have := h.1; simpa using this
  rcases h.2 with ⟨rfl, h0⟩ | ⟨g, cap, cur, rfl, _, _, hc, hm, _⟩
  · subst h0
    have : vs = [] := List.eq_nil_of_length_eq_zero hn
    subst this
    exact ⟨none, 0, rfl, rfl, fun _ => rfl, Nat.le_refl _, by simp [maxLen], Vals.nil _ _⟩
  · exact ⟨_, cap, rfl, hn, fun h => (by cases h), hc, hm, Vals.of_own h⟩
theorem Vals.at_ {w : World} {A : Option Addr} {vs : List Value} (h : Vals w A vs) {j : Nat} (hj : j < vs.length) : ∃ b o, A = some ⟨b, o, none⟩ ∧ b < w.heap.size ∧ w.cell? ⟨b, o + j, none⟩ = some vs[j] :=
  h j _ (List.getElem?_eq_getElem hj)
theorem wpList_append_vals {P : Program} {w : World} {ops : Array Oper} {rest : List Oper} {o : Oper} {a : Act} {Q : Exit → Act → World → Prop} (hgd : o.guard = none) (s x : Operand) (t : TypeId)
    (ho : o.op = .call { callee := .builtin .append, args := #[s, x], argTypes := #[t, t] })
    (base : Nat) (e : TypeId) (i : TypeInfo) (z : Value) (bytes : Nat) (ht : P.underlying t = some (.slice e)) (hi : P.info? e = some i) (hz : i.zero = some z) (hsize : i.size = 1) (hby : i.bytes = bytes) (hzs : z.cells.size = 1)
    (v : Value) (n : Nat) (xs : List Value) (hs : a.eval s = v) (hown : w.ownsRow base e 1 v n xs) (A : Option Addr) (c : Nat) (vs : List Value) (m : Nat) (hm : vs.length = m) (hx : a.eval x = .slice A m c) (hnone : A = none → c = 0) (hS : Vals w A vs) (hone : ∀ u ∈ vs, u.oneCell' = true)
    (h63 : n + m ≤ maxLen) (hbytes : (n + m) * bytes ≤ 140737488355328) (hbase : base ≤ w.heap.size)
    (h : ∀ v' w', w'.ownsRow base e 1 v' (n + m) (xs ++ vs) → w.grownBy w' v.ownBlock → wpList P ops Q rest (a.put o.dst v') w') : wpList P ops Q (o :: rest) a w := by
  subst hm
  cases A with
  | none =>
    have hl : vs = [] := by
      cases vs with
      | nil => rfl
      | cons y l => obtain ⟨b, o, he, _⟩ := hS 0 y rfl; cases he
    subst hl
    rw [hnone rfl] at hx
    exact wpList_append_own_none hgd s x t ho base e i 1 ht hi v n xs hs hown hx (h v w (by simpa using hown) (World.grownBy.refl w _))
  | some ad =>
    refine wpList_append_own w hgd s x t ho base e i z 1 bytes ht hi hz hsize hby hzs (by decide) v n xs hs hown ad vs.length c vs hx (by simp) ?_ hone h63 hbytes hbase (fun v' w' h1 h2 _ => h v' w' h1 h2)
    intro j u hu
    obtain ⟨b, off, he, _, hc⟩ := hS j u hu
    injection he with he
    subst he
    rw [add_plain, hc]
theorem vals_front {P : Program} (t e : TypeId) (i : TypeInfo) (ht : P.underlying t = some (.slice e)) (hi : P.info? e = some i) {w0 : World} {A : Option Addr} {vs : List Value} {n c k : Nat} (hk : k ≤ n) (hc : n ≤ c) (h : Vals w0 A vs) (hA : A = none → c = 0) :
    ∃ A1, (∀ w, (Instr.slice t (.slice A n c) none (some (.int .i64 (k : Int))) none).run P w = .ok (.slice A1 k c) w) ∧ (A1 = none → c = 0) ∧ Vals w0 A1 (vs.take k) := by
  have he : P.elem t = e := by simp [Program.elem, ht]
  have hsz : ∀ w, (sizeOf (P.elem t)).run P w = .ok i.size w := fun w => by rw [he]; simp [sizeOf, typeInfo, hi]
  refine ⟨if c = 0 then A else A.map (·.add (0 * i.size)), fun w => ?_, fun hn' => ?_, ?_⟩
  · rw [run_slice_h (P := P) w t A n c (by rw [ht, he]) .i64 (k : Int) (by omega) (by omega), hsz]
    simp [Result.andThen, sliced]
  · by_cases h0 : c = 0
    · exact h0
    · rw [if_neg h0] at hn'
      cases A with
      | none => exact hA rfl
      | some a => cases hn'
  · have e : (if c = 0 then A else A.map (·.add (0 * i.size))) = A := by
      split
      · rfl
      · rw [Nat.zero_mul]; cases A <;> simp [Addr.add]
    rw [e]
    exact h.take k
def strs (xs : List ByteArray) : List Value := xs.map Value.string
theorem strs_length (xs : List ByteArray) : (strs xs).length = xs.length := by simp [strs]
theorem strs_one (xs : List ByteArray) : ∀ u ∈ strs xs, u.oneCell' = true := by
  intro u hu
  obtain ⟨x, _, rfl⟩ := List.mem_map.1 hu
  rfl
theorem strs_at {w : World} {A : Option Addr} {xs : List ByteArray} (h : Vals w A (strs xs)) {j : Nat} (hj : j < xs.length) : ∃ b o, A = some ⟨b, o, none⟩ ∧ b < w.heap.size ∧ w.cell? ⟨b, o + j, none⟩ = some (.string xs[j]) := by
  have := h j (.string xs[j]) (by simp [strs, hj])
  exact this
theorem strs_take (xs : List ByteArray) (k : Nat) : (strs xs).take k = strs (xs.take k) := by simp [strs, List.map_take]
theorem strs_append (xs ys : List ByteArray) : strs xs ++ strs ys = strs (xs ++ ys) := by simp [strs]
def Holds (w : World) (v : Value) (xs : List ByteArray) : Prop := ∃ A c, v = .slice A xs.length c ∧ (A = none → c = 0) ∧ xs.length ≤ c ∧ c ≤ maxLen ∧ Vals w A (strs xs)
theorem Holds.below {w w' : World} {v : Value} {xs : List ByteArray} (h : Holds w v xs) (hb : Below w.heap.size w w') : Holds w' v xs := by
  obtain ⟨A, c, h1, h2, h3, h4, h5⟩ := h
  exact ⟨A, c, h1, h2, h3, h4, h5.below hb⟩
theorem Holds.nil (w : World) : Holds w (.slice none 0 0) [] := ⟨none, 0, rfl, fun _ => rfl, Nat.le_refl _, by simp [maxLen], Vals.nil _ _⟩
theorem holds_own {w : World} {base n : Nat} {e : TypeId} {v : Value} {xs : List ByteArray} (h : w.ownsRow base e 1 v n (strs xs)) : Holds w v xs := by
  obtain ⟨A, c, h1, h2, h3, h4, h5, h6⟩ := own_vals h
  rw [strs_length] at h2
  subst h2
  exact ⟨A, c, h1, h3, h4, h5, h6⟩
end Go.Proofs.YtgjbhlianlbflaaGreat
