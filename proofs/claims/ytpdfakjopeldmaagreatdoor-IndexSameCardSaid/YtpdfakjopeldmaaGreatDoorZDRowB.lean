/-
  A row of the call's own: cells in its midst are written; a slice that reads so is appended, from nil, too. No program in it.
-/
import Derived.Test.YtpdfakjopeldmaaGreatDoorMgE
import Derived.Test.YtpdfakjopeldmaaGreatDoorZDOrd
import Derived.Deep.MidRow
namespace Go.Proofs.YtpdfakjopeldmaaGreatDoor
open Go.ChangeShapes Go.WideShapes Go.ChangeAt Go.RowKit
set_option linter.unusedVariables false

/-- A list with others laid over it from p on. -/
def layAt (xs : List Value) (p : Nat) (vs : List Value) : List Value := (vs.foldl (fun (a : List Value × Nat) v => (a.1.set a.2 v, a.2 + 1)) (xs, p)).1
theorem layAt_len : ∀ (vs : List Value) (p : Nat) (xs : List Value), (layAt xs p vs).length = xs.length
  | [], _, _ => rfl
  | v :: vs, p, xs => by
    have h := layAt_len vs (p + 1) (xs.set p v)
    rw [List.length_set] at h
    exact h
theorem layAt_get : ∀ (vs : List Value) (p : Nat) (xs : List Value) (q : Nat), (layAt xs p vs)[q]? = if p ≤ q ∧ q < p + vs.length ∧ q < xs.length then vs[q - p]? else xs[q]?
  | [], p, xs, q => by rw [if_neg (by simp; omega)]; rfl
  | v :: vs, p, xs, q => by
    have h3 := layAt_get vs (p + 1) (xs.set p v) q
    have e : layAt xs p (v :: vs) = layAt (xs.set p v) (p + 1) vs := rfl
    rw [e, h3]
    simp only [List.length_set, List.length_cons]
    by_cases hq : q = p
    · subst hq
      rw [if_neg (by omega)]
      by_cases hl : q < xs.length
      · rw [if_pos (by omega), List.getElem?_set_self hl]; simp
      · rw [if_neg (by omega), List.getElem?_eq_none (by simp; omega), List.getElem?_eq_none (by omega)]
    · by_cases hc : p + 1 ≤ q ∧ q < p + 1 + vs.length ∧ q < xs.length
      · rw [if_pos hc, if_pos (by omega), show q - p = (q - (p + 1)) + 1 by omega, List.getElem?_cons_succ]
      · rw [if_neg hc, if_neg (by omega), List.getElem?_set_ne (by omega)]
theorem own_lay {base b cap nn : Nat} {T : TypeId} {size : Nat} : ∀ (vs : List Value) (p : Nat) (w : World) (xs : List Value), w.ownsRow base T size (.slice (some ⟨b, 0, none⟩) nn cap) nn xs →
    (w.setCells b p vs).ownsRow base T size (.slice (some ⟨b, 0, none⟩) nn cap) nn (layAt xs p vs) ∧ w.grownBy (w.setCells b p vs) (some b)
  | [], _, w, _, h => ⟨h, World.grownBy.refl _ _⟩
  | v :: vs, p, w, xs, h => ⟨(own_lay vs (p + 1) _ _ (h.stored p v).1).1, (h.stored p v).2.trans (own_lay vs (p + 1) _ _ (h.stored p v).1).2⟩

theorem flatN_ext {l : List Nt} {xs : List Value} (hl : xs.length = l.length * 10) (h : ∀ j i (hj : j < l.length), i < 10 → xs[j * 10 + i]? = (ntC l[j])[i]?) : xs = flatN l := by
  apply List.ext_getElem?
  intro p
  by_cases hp : p < l.length * 10
  · have hj : p / 10 < l.length := by omega
    have e : p / 10 * 10 + p % 10 = p := by omega
    rw [← e, h _ _ hj (by omega), flatN_get hj (by omega)]
  · rw [List.getElem?_eq_none (by omega), List.getElem?_eq_none (by rw [flatN_len]; omega)]
/-- What is told of a key is written anew. -/
theorem lay_att (l : List Nt) (j : Nat) (hj : j < l.length) (a : Nat → Int) : layAt (flatN l) (j * 10 + 2) (rowA a).toList = flatN (l.set j ⟨l[j].foot, l[j].num, a⟩) := by
  have h8 : (rowA a).toList.length = 8 := rfl
  refine flatN_ext (by rw [layAt_len, flatN_len, List.length_set]) fun p i hp hi => ?_
  have hp2 : p < l.length := by simpa using hp
  rw [layAt_get, flatN_len, h8]
  by_cases hpj : p = j
  · subst hpj
    rw [List.getElem_set_self]
    by_cases h2 : 2 ≤ i
    · rw [if_pos (by omega), show p * 10 + i - (p * 10 + 2) = i - 2 by omega]
      rcases (show i = 2 ∨ i = 3 ∨ i = 4 ∨ i = 5 ∨ i = 6 ∨ i = 7 ∨ i = 8 ∨ i = 9 by omega) with rfl | rfl | rfl | rfl | rfl | rfl | rfl | rfl <;> rfl
    · rw [if_neg (by omega), flatN_get hj hi]
      rcases (show i = 0 ∨ i = 1 by omega) with rfl | rfl <;> rfl
  · rw [if_neg (by omega), flatN_get hp2 hi, List.getElem_set_ne (Ne.symm hpj)]
theorem flatN_take (l : List Nt) : ∀ k, k ≤ l.length → flatN (l.take k) = (flatN l).take (k * 10) := by
  induction l with
  | nil => intro k hk; simp at hk; subst hk; rfl
  | cons n l ih =>
    intro k hk
    cases k with
    | zero => rfl
    | succ k =>
      have h := ih k (by simpa using hk)
      have e : (k + 1) * 10 = (ntC n).length + k * 10 := by show (k + 1) * 10 = 10 + k * 10; omega
      show ntC n ++ flatN (l.take k) = (ntC n ++ flatN l).take ((k + 1) * 10)
      rw [e, List.take_length_add_append, h]
theorem flatN_drop (l : List Nt) (k : Nat) (hk : k ≤ l.length) : flatN (l.drop k) = (flatN l).drop (k * 10) := by
  have h1 := flatN_app (l.take k) (l.drop k)
  rw [List.take_append_drop, flatN_take l k hk] at h1
  have h2 : (flatN l).take (k * 10) ++ (flatN l).drop (k * 10) = (flatN l).take (k * 10) ++ flatN (l.drop k) := by rw [List.take_append_drop]; exact h1
  exact (List.append_cancel_left h2).symm

section
variable {P : Program} {w : World} {ops : Array Oper} {rest : List Oper} {o : Oper} {a : Act} {Q : Exit → Act → World → Prop}

/-- A slice that reads as a list of cells is appended to a row of the call's own. -/
theorem wpList_append_saw (hgd : o.guard = none) (s x : Operand) (t : TypeId) (ho : o.op = .call { callee := .builtin .append, args := #[s, x], argTypes := #[t, t] })
    (base : Nat) (e : TypeId) (i : TypeInfo) (z : Value) (size bytes : Nat) (ht : P.underlying t = some (.slice e)) (hi : P.info? e = some i) (hz : i.zero = some z)
    (hsize : i.size = size) (hby : i.bytes = bytes) (hzs : z.cells.size = size) (hsz : 0 < size) (v : Value) (n : Nat) (xs : List Value) (hs : a.eval s = v) (hown : w.ownsRow base e size v n xs)
    (A : Option Addr) (m c : Nat) (ys : List Value) (hx : a.eval x = .slice A m c) (hN : A = none → c = 0 ∧ m = 0) (hl : ys.length = m * size) (hy : ∀ ad, A = some ad → ∀ j u, ys[j]? = some u → w.cell? (ad.add j) = some u)
    (h1 : ∀ y ∈ ys, y.oneCell' = true) (h63 : n + m ≤ maxLen) (hbytes : (n + m) * bytes ≤ 140737488355328) (hbase : base ≤ w.heap.size)
    (h : ∀ v' w', w'.ownsRow base e size v' (n + m) (xs ++ ys) → w.grownBy w' v.ownBlock → wpList P ops Q rest (a.put o.dst v') w') : wpList P ops Q (o :: rest) a w := by
  cases A with
  | none =>
    obtain ⟨rfl, rfl⟩ := hN rfl
    have hy : ys = [] := List.eq_nil_of_length_eq_zero (by rw [hl]; simp)
    subst hy
    exact wpList_append_own_none hgd s x t ho base e i size ht hi v n xs hs hown hx (h v w (by simpa using hown) (World.grownBy.refl _ _))
  | some ad =>
    exact wpList_append_own w hgd s x t ho base e i z size bytes ht hi hz hsize hby hzs hsz v n xs hs hown ad m c ys hx hl (hy ad rfl) h1 h63 hbytes hbase fun v' w' a1 a2 _ => h v' w' a1 a2

end

end Go.Proofs.YtpdfakjopeldmaaGreatDoor
