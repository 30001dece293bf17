/-
  IndexShuffles: in whatever order things are noted, and however often, what comes ahead of any command is the same; and it never shrinks. The table of kinds is listed.
-/
import Derived.Test.YtpdfakjopeldmaaDoorMgF
import Derived.Orders
namespace Go.Proofs.YtpdfakjopeldmaaDoor.indexShuffles
open Go.ChangeShapes Go.WideShapes Go.ChangeAt Go.RowKit Go.Maps Go.WideMaps
set_option linter.unusedVariables false
set_option linter.unusedSimpArgs false

/-- A slice of numbers, below a block. -/
def SeesI (n0 : Nat) (w : World) (B : Option Addr) (ks : List Int) : Prop := ∀ (j : Nat) (h : j < ks.length), ∃ b o, B = some ⟨b, o, none⟩ ∧ b < n0 ∧ w.cell? ⟨b, o + j, none⟩ = some (.int .i64 ks[j])
theorem SeesI.grown {n0 : Nat} {w w' : World} {A : Option Addr} {l : List Int} (h : SeesI n0 w A l) (hn : n0 ≤ w.heap.size) {row : Option Nat} (hg : w.grownBy w' row) (hne : ∀ k, row = some k → n0 ≤ k) : SeesI n0 w' A l := fun j hj => by
  obtain ⟨b, o, hA, hlt, h0⟩ := h j hj
  refine ⟨b, o, hA, hlt, ?_⟩
  rw [← h0]
  exact World.cell?_of_block (w := w) (hg.block b (by omega) (fun e => by have := hne b e.symm; omega))
/-- Steps of the call's own, in a row. -/
def flatO (l : List OpV) : List Value := l.flatMap fun o => (opC o).toList
theorem flatO_len : ∀ l : List OpV, (flatO l).length = l.length * 22
  | [] => rfl
  | n :: l => by
    have := flatO_len l
    simp only [flatO, List.flatMap_cons, List.length_append, List.length_cons] at *
    rw [this]
    simp [opC]
    omega
theorem flatO_one (l : List OpV) : ∀ y ∈ flatO l, y.oneCell' = true := by
  intro y hy
  obtain ⟨n, _, hn⟩ := List.mem_flatMap.1 hy
  exact (Array.all_eq_true_iff_forall_mem.1 (opC_one n)) y (by simpa using hn)
theorem flatO_get : ∀ {l : List OpV} {j i : Nat} (hj : j < l.length), i < 22 → (flatO l)[j * 22 + i]? = (opC l[j]).toList[i]?
  | n :: l, 0, i, _, hi => by
    simp only [flatO, List.flatMap_cons, Nat.zero_mul, Nat.zero_add, List.getElem_cons_zero]
    rw [List.getElem?_append_left (by simpa [opC] using hi)]
  | n :: l, j + 1, i, hj, hi => by
    have ih := flatO_get (l := l) (j := j) (i := i) (by simpa using hj) hi
    simp only [flatO, List.flatMap_cons, List.getElem_cons_succ] at *
    rw [List.getElem?_append_right (by simp [opC]; omega), ← ih]
    congr 1
    simp [opC]
    omega
theorem flatO_ext {l : List OpV} {xs : List Value} (hl : xs.length = l.length * 22) (h : ∀ j i (hj : j < l.length), i < 22 → xs[j * 22 + i]? = (opC l[j]).toList[i]?) : xs = flatO l := by
  apply List.ext_getElem?
  intro p
  by_cases hp : p < l.length * 22
  · have hj : p / 22 < l.length := by omega
    have e : p / 22 * 22 + p % 22 = p := by omega
    rw [← e, h _ _ hj (by omega), flatO_get hj (by omega)]
  · rw [List.getElem?_eq_none (by omega), List.getElem?_eq_none (by rw [flatO_len]; omega)]
theorem seen_flat {n0 : Nat} {w : World} {a : Addr} {l : List OpV} (h : SeesO n0 w (some a) l) : ∀ j u, (flatO l)[j]? = some u → w.cell? (a.add j) = some u := by
  intro p u hu
  have hp : p < l.length * 22 := by have := (List.getElem?_eq_some_iff.1 hu).1; rwa [flatO_len] at this
  have hj : p / 22 < l.length := by omega
  obtain ⟨b, o, hA, _, hr⟩ := h _ hj
  injection hA with hA
  subst hA
  have e : p / 22 * 22 + p % 22 = p := by omega
  rw [← e, flatO_get hj (by omega)] at hu
  have := hr _ _ hu
  rw [Addr.add_mid, ← this]
  congr 2
  omega
theorem own_range {w : World} {base b cap : Nat} {l : List OpV} {nn : Nat} (hn : nn = l.length) (h : w.ownsRow base 44 22 (.slice (some ⟨b, 0, none⟩) nn cap) nn (flatO l)) {j : Nat} (hj : j < l.length) : w.rangeAt b (j * 22) (opC l[j]).toList := fun i v hv => by
  subst hn
  have hi : i < 22 := by have := (List.getElem?_eq_some_iff.1 hv).1; simpa [opC] using this
  rw [h.cellAt (j * 22 + i) (by omega), flatO_get hj hi]
  exact hv
theorem own_there {w : World} {base b cap : Nat} {l : List OpV} {nn : Nat} (hn : nn = l.length) (h : w.ownsRow base 44 22 (.slice (some ⟨b, 0, none⟩) nn cap) nn (flatO l)) {j : Nat} (hj : j < l.length) : w.there b (j * 22) 22 := fun i hi => by
  subst hn
  refine ⟨?_, h.frozenAt _⟩
  rw [h.cellAt (j * 22 + i) (by omega), flatO_get hj hi]
  simp [opC]
  omega
theorem own_len {w : World} {base b cap nn : Nat} {l : List OpV} (h : w.ownsRow base 44 22 (.slice (some ⟨b, 0, none⟩) nn cap) nn (flatO l)) : nn = l.length := by
  have := h.1
  rw [flatO_len] at this
  omega
/-- A step of the row is written anew. -/
theorem own_put {base b cap nn : Nat} {l : List OpV} {w : World} (h : w.ownsRow base 44 22 (.slice (some ⟨b, 0, none⟩) nn cap) nn (flatO l)) {j : Nat} (hj : j < l.length) (o : OpV) :
    (w.setCells b (j * 22) (opC o).toList).ownsRow base 44 22 (.slice (some ⟨b, 0, none⟩) nn cap) nn (flatO (l.set j o)) := by
  have hn := own_len h
  have key : ∀ (vs : List Value) (p : Nat) (w : World) (xs : List Value), w.ownsRow base 44 22 (.slice (some ⟨b, 0, none⟩) nn cap) nn xs → (w.setCells b p vs).ownsRow base 44 22 (.slice (some ⟨b, 0, none⟩) nn cap) nn (vs.foldl (fun (a : List Value × Nat) v => (a.1.set a.2 v, a.2 + 1)) (xs, p)).1 := by
    intro vs
    induction vs with
    | nil => intro p w xs h; exact h
    | cons v vs ih => intro p w xs h; exact ih (p + 1) _ _ (h.stored p v).1
  have fold : ∀ (vs : List Value) (p : Nat) (xs : List Value), (vs.foldl (fun (a : List Value × Nat) v => (a.1.set a.2 v, a.2 + 1)) (xs, p)).1.length = xs.length ∧ ∀ q, (vs.foldl (fun (a : List Value × Nat) v => (a.1.set a.2 v, a.2 + 1)) (xs, p)).1[q]? = if p ≤ q ∧ q < p + vs.length ∧ q < xs.length then vs[q - p]? else xs[q]? := by
    intro vs
    induction vs with
    | nil => intro p xs; exact ⟨rfl, fun q => by rw [if_neg (by simp; omega)]; rfl⟩
    | cons v vs ih =>
      intro p xs
      obtain ⟨h1, h2⟩ := ih (p + 1) (xs.set p v)
      refine ⟨by simpa using h1, fun q => ?_⟩
      have h3 := h2 q
      simp only [List.foldl_cons]
      rw [h3]
      simp only [List.length_set, List.length_cons]
      by_cases hq : q = p
      · subst hq
        rw [if_neg (by omega)]
        by_cases hl : q < xs.length
        · rw [if_pos (by omega), List.getElem?_set_self hl]; simp
        · rw [if_neg (by omega), List.getElem?_eq_none (by simp; omega), List.getElem?_eq_none (by omega)]
      · by_cases hc : p + 1 ≤ q ∧ q < p + 1 + vs.length ∧ q < xs.length
        · rw [if_pos hc, if_pos (by omega), show q - p = (q - (p + 1)) + 1 by omega, List.getElem?_cons_succ]
        · rw [if_neg hc, if_neg (by omega), List.getElem?_set_ne (by omega)]
  have h1 := key (opC o).toList (j * 22) w _ h
  have h2 := fold (opC o).toList (j * 22) (flatO l)
  have e : ((opC o).toList.foldl (fun (a : List Value × Nat) v => (a.1.set a.2 v, a.2 + 1)) (flatO l, j * 22)).1 = flatO (l.set j o) := by
    refine flatO_ext (by rw [h2.1, flatO_len]; simp) fun p i hp hi => ?_
    rw [List.length_set] at hp
    rw [h2.2, flatO_len]
    have ho : (opC o).toList.length = 22 := rfl
    rw [ho]
    by_cases hpj : p = j
    · subst hpj
      rw [if_pos (by omega), show p * 22 + i - p * 22 = i by omega]
      simp
    · rw [if_neg (by omega), flatO_get hp hi]
      simp [List.getElem_set_ne (Ne.symm hpj)]
  rw [e] at h1
  exact h1
theorem own_put_grown {base b cap nn : Nat} : ∀ (vs : List Value) (p : Nat) (w : World) (xs : List Value), w.ownsRow base 44 22 (.slice (some ⟨b, 0, none⟩) nn cap) nn xs → w.grownBy (w.setCells b p vs) (some b)
  | [], _, w, _, _ => World.grownBy.refl _ _
  | v :: vs, p, w, xs, h => (h.stored p v).2.trans (own_put_grown vs (p + 1) _ _ (h.stored p v).1)
theorem swap_mem {α : Type} {l : List α} {p : Nat} (hp : p + 1 < l.length) (o : α) : o ∈ (l.set p l[p + 1]).set (p + 1) l[p] ↔ o ∈ l := by
  simp only [List.mem_iff_getElem?]
  have key : ∀ i, ((l.set p l[p + 1]).set (p + 1) l[p])[i]? = if i = p + 1 then l[p]? else if i = p then l[p + 1]? else l[i]? := by
    intro i
    by_cases h1 : i = p + 1
    · subst h1
      rw [if_pos rfl, List.getElem?_set_self (by simpa using hp), List.getElem?_eq_getElem (by omega)]
    · rw [if_neg h1, List.getElem?_set_ne (by omega)]
      by_cases h2 : i = p
      · subst h2
        rw [if_pos rfl, List.getElem?_set_self (by omega), List.getElem?_eq_getElem hp]
      · rw [if_neg h2, List.getElem?_set_ne (by omega)]
  constructor
  · rintro ⟨i, hi⟩
    rw [key] at hi
    split at hi
    · exact ⟨p, hi⟩
    · split at hi
      · exact ⟨p + 1, hi⟩
      · exact ⟨i, hi⟩
  · rintro ⟨i, hi⟩
    by_cases h1 : i = p + 1
    · exact ⟨p, by rw [key, if_neg (by omega), if_pos rfl, ← h1]; exact hi⟩
    · by_cases h2 : i = p
      · exact ⟨p + 1, by rw [key, if_pos rfl, ← h2]; exact hi⟩
      · exact ⟨i, by rw [key, if_neg h1, if_neg h2]; exact hi⟩
theorem info_op : ∃ z, (Tryd.prog.info? 44).map (fun i => (i.zero, i.size, i.bytes)) = some (some z, 22, 200) ∧ z.cells.size = 22 := ⟨.agg #[.int .i64 0, .int .i64 0, .int .u64 0, .string ⟨#[]⟩, .int .u64 0, .string ⟨#[]⟩, .int .i64 0, .int .u64 0, .int .i64 0, .int .i64 0, .int .i64 0, .int .i64 0, .string ⟨#[]⟩, .int .u64 0, .int .i64 0, .int .i64 0, .int .i64 0, .int .i64 0, .int .i64 0, .int .i64 0, .int .i64 0, .int .i64 0], by kernel_rfl, rfl⟩

end Go.Proofs.YtpdfakjopeldmaaDoor.indexShuffles
