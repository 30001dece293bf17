/-
  Records in a row of slices of the call's own: each reads as its bytes, apart from the row itself; how the row grows.
-/
import Derived.Test.YtilocedppkmikaaGFirst
namespace Go.Proofs.Ytilocedppkmikaa
open Go.ChangeShapes Go.WideShapes Go.ChangeAt Go.RowKit

/-- Values that are slices, each of which reads as a record, and lies below a block or in a block of bytes. -/
def Recs (w : World) (base : Nat) (xs : List Value) (rs : List (List Nat)) : Prop :=
  xs.length = rs.length ∧ ∀ (j : Nat) (r : List Nat), rs[j]? = some r → ∃ B c, xs[j]? = some (.slice B r.length c) ∧ (B = none → c = 0) ∧ Sees .u8 w B r ∧
    ∀ b o, B = some ⟨b, o, none⟩ → 0 < r.length → b < base ∨ ∃ cs fz, w.heap[b]? = some (.cells cs 5 fz)

theorem Recs.nil (w : World) (base : Nat) : Recs w base [] [] := ⟨rfl, fun j r h => by simp at h⟩

theorem Recs.below {w w' : World} {base : Nat} {xs : List Value} {rs : List (List Nat)} (h : Recs w base xs rs) (hb : Below w.heap.size w w') : Recs w' base xs rs := by
  refine ⟨h.1, fun j r hj => ?_⟩
  obtain ⟨B, c, h1, h2, h3, h4⟩ := h.2 j r hj
  refine ⟨B, c, h1, h2, h3.below hb, fun b o he h0 => ?_⟩
  rcases h4 b o he h0 with h5 | ⟨cs, fz, h5⟩
  · exact .inl h5
  · refine .inr ⟨cs, fz, ?_⟩
    have hlt : b < w.heap.size := by
      obtain ⟨b', o', e1, e2, _⟩ := h3 0 _ (List.getElem?_eq_getElem h0)
      rw [he] at e1
      injection e1 with e1
      injection e1 with e1 e3
      rw [e1]; exact e2
    rw [hb.block b hlt]
    exact h5

theorem Recs.grown {w w' : World} {base n : Nat} {E : TypeId} {v : Value} {ys xs : List Value} {rs : List (List Nat)} (h : Recs w base xs rs) (hown : w.ownsRow base E 1 v n ys) (hE : E ≠ 5) (hg : w.grownBy w' v.ownBlock) : Recs w' base xs rs := by
  refine ⟨h.1, fun j r hj => ?_⟩
  obtain ⟨B, c, h1, h2, h3, h4⟩ := h.2 j r hj
  have far : ∀ b o, B = some ⟨b, o, none⟩ → 0 < r.length → some b ≠ v.ownBlock := by
    intro b o he h0 hv
    rcases hown.2 with ⟨rfl, _⟩ | ⟨g, cap, cur, rfl, hgb, hc, _⟩
    · cases hv
    · have hbg : b = g := by injection hv
      subst hbg
      rcases h4 b o he h0 with h5 | ⟨cs, fz, h5⟩
      · omega
      · rw [hc] at h5
        injection h5 with h5
        injection h5 with _ h6
        exact hE h6
  have hlt : ∀ b o, B = some ⟨b, o, none⟩ → 0 < r.length → b < w.heap.size := by
    intro b o he h0
    obtain ⟨b', o', e1, e2, _⟩ := h3 0 _ (List.getElem?_eq_getElem h0)
    rw [he] at e1
    injection e1 with e1
    injection e1 with e1 e3
    rw [e1]; exact e2
  refine ⟨B, c, h1, h2, ?_, fun b o he h0 => ?_⟩
  · intro i x hi
    have h0 : 0 < r.length := by have := (List.getElem?_eq_some_iff.1 hi).1; omega
    obtain ⟨b, o, he, hb, hc⟩ := h3 i x hi
    exact ⟨b, o, he, Nat.lt_of_lt_of_le hb hg.size, (hg.cell_far _ hb (far b o he h0)).trans hc⟩
  · rcases h4 b o he h0 with h5 | ⟨cs, fz, h5⟩
    · exact .inl h5
    · exact .inr ⟨cs, fz, (hg.block b (hlt b o he h0) (far b o he h0)).trans h5⟩

theorem Recs.snoc {w : World} {base : Nat} {xs : List Value} {rs : List (List Nat)} {B : Option Addr} {r : List Nat} {c : Nat} (h : Recs w base xs rs) (h1 : B = none → c = 0) (h2 : Sees .u8 w B r)
    (h3 : ∀ b o, B = some ⟨b, o, none⟩ → 0 < r.length → b < base ∨ ∃ cs fz, w.heap[b]? = some (.cells cs 5 fz)) : Recs w base (xs ++ [.slice B r.length c]) (rs ++ [r]) := by
  refine ⟨by simp [h.1], fun j r' hj => ?_⟩
  by_cases hlt : j < rs.length
  · rw [List.getElem?_append_left hlt] at hj
    rw [List.getElem?_append_left (by rw [h.1]; exact hlt)]
    exact h.2 j r' hj
  · rw [List.getElem?_append_right (by omega)] at hj
    have hj0 : j - rs.length = 0 := by
      have := (List.getElem?_eq_some_iff.1 hj).1
      simp at this
      omega
    rw [hj0] at hj
    simp at hj
    subst hj
    rw [List.getElem?_append_right (by rw [h.1]; omega), h.1, hj0]
    exact ⟨B, c, rfl, h1, h2, h3⟩

/-- A row of bytes of the call's own, as a record. -/
theorem own_rec {w : World} {base : Nat} {s : Value} {r : List Nat} {n : Nat} (hn : r.length = n) (h : w.ownsRow base 5 1 s n (r.map bv)) :
    ∃ B c, s = .slice B n c ∧ (B = none → c = 0) ∧ n ≤ c ∧ Sees .u8 w B r ∧ ∀ b o, B = some ⟨b, o, none⟩ → 0 < r.length → ∃ cs fz, w.heap[b]? = some (.cells cs 5 fz) := by
  subst hn
  rcases h.2 with ⟨rfl, h0⟩ | ⟨g, cap, cur, rfl, hg, hc, hcap, _⟩
  · have : r = [] := List.eq_nil_of_length_eq_zero h0
    subst this
    exact ⟨none, 0, rfl, fun _ => rfl, Nat.le_refl _, Sees.nil _ _ _, fun b o he => by cases he⟩
  · refine ⟨_, cap, rfl, fun he => by (cases he), hcap, Sees.of_own h, fun b o he _ => ?_⟩
    injection he with he
    injection he with he
    subst he
    exact ⟨cur, (0, 0), hc⟩

/-- A row of slices of the call's own is still that, where nothing old has changed. -/
theorem row_below {w w' : World} {base n : Nat} {E : TypeId} {v : Value} {xs : List Value} (h : w.ownsRow base E 1 v n xs) (hb : Below w.heap.size w w') : w'.ownsRow base E 1 v n xs := by
  refine h.kept (only_of_below hb none) ?_
  cases v.ownBlock with
  | none => exact .inl rfl
  | some g => exact .inr (by simp)

/-- What a scan's row reads as, for its caller. -/
theorem recs_rows {w : World} {base n : Nat} {E : TypeId} {v : Value} {xs : List Value} {rs : List (List Nat)} (hown : w.ownsRow base E 1 v n xs) (h : Recs w base xs rs) (h8 : ∀ r ∈ rs, ∀ x ∈ r, x < 256) (hl : ∀ r ∈ rs, r.length ≤ 9223372036854775807) :
    ∃ A c, v = .slice A rs.length c ∧ (A = none → c = 0) ∧ rs.length ≤ c ∧ SeesRows w A rs ∧ NilBare w A rs.length := by
  have hxn : xs.length = n := by have := hown.1; simpa using this
  have hn : rs.length = n := by rw [← h.1]; exact hxn
  rcases hown.2 with ⟨rfl, h0⟩ | ⟨g, cap, cur, rfl, hg, hc, hcap, _⟩
  · have : rs = [] := List.eq_nil_of_length_eq_zero (by omega)
    subst this
    exact ⟨none, 0, rfl, fun _ => rfl, Nat.le_refl _, SeesRows.nil _ _, fun j b o B n c hj => by simp at hj⟩
  · refine ⟨_, cap, by rw [hn], fun he => by (cases he), by omega, ?_, ?_⟩
    · intro j l hj
      obtain ⟨B, c, h1, _, h3, _⟩ := h.2 j l hj
      have hjn : j < n := by have := (List.getElem?_eq_some_iff.1 hj).1; omega
      refine ⟨g, 0, B, c, rfl, (Array.getElem?_eq_some_iff.1 hc).1, ?_, hl l (List.mem_of_getElem? hj), h8 l (List.mem_of_getElem? hj), h3⟩
      rw [Nat.zero_add, hown.cellAt j (by omega)]
      exact h1
    · intro j b o B m c hj he hcell hB
      injection he with he
      injection he with e1 e2
      subst e1; subst e2
      rw [Nat.zero_add, hown.cellAt j (by omega)] at hcell
      obtain ⟨B', c', h1, h2, _⟩ := h.2 j rs[j] (List.getElem?_eq_getElem hj)
      rw [h1] at hcell
      injection hcell with hcell
      injection hcell with e3 e4 e5
      subst e3; subst e5
      exact h2 hB

/-- What a loop that gathers records holds. -/
def ScanRel (rs : List (List Nat)) (base : Nat) (w : World) (v g : Value) (wr : World) : Prop :=
  ∃ (k : Nat) (xs : List Value), k ≤ rs.length ∧ g = .int .i64 ((framesN (rs.take k)).length : Int) ∧ wr.ownsRow base 22 1 v k xs ∧ Recs wr base xs (rs.take k) ∧ Below base w wr

theorem scan_step {rs : List (List Nat)} {base k : Nat} {w w2 w3 : World} {v v' : Value} {xs : List Value} {B : Option Addr} {c : Nat} {r : List Nat} {g : Int} {o : Obj} (hk : k < rs.length) (hr : r = rs[k]) (hb : base ≤ w2.heap.size)
    (hown : w2.ownsRow base 22 1 v k xs) (hrec : Recs w2 base xs (rs.take k)) (hbel : Below base w w2)
    (h1 : B = none → c = 0) (h2 : Sees .u8 w2 B r) (h3 : ∀ b o, B = some ⟨b, o, none⟩ → 0 < r.length → b < base ∨ ∃ cs fz, w2.heap[b]? = some (.cells cs 5 fz))
    (hown' : w3.ownsRow base 22 1 v' (k + 1) (xs ++ [.slice B r.length c])) (hg : (w2.alloc o).grownBy w3 v.ownBlock) (hgg : g = ((framesN (rs.take k)).length : Int) + ((frameN r).length : Int)) : ScanRel rs base w v' (.int .i64 g) w3 := by
  subst hr
  have hal : Below w2.heap.size w2 (w2.alloc o) := (Below.refl _ _).alloc (Nat.le_refl _) _
  refine ⟨k + 1, _, hk, ?_, hown', ?_, below_append hbel hb hown hg⟩
  · rw [framesN_take_len hk, hgg]; go_num
  · rw [List.take_succ_eq_append_getElem hk]
    exact ((hrec.snoc h1 h2 h3).below hal).grown (hown.alloc o) (by decide) hg

/-- The same, behind a call that changed nothing old. -/
theorem scan_step2 {rs : List (List Nat)} {base k : Nat} {w wr w2 w3 : World} {v v' : Value} {xs : List Value} {B : Option Addr} {c : Nat} {r : List Nat} {g : Int} {o : Obj} (hk : k < rs.length) (hr : r = rs[k])
    (hown : wr.ownsRow base 22 1 v k xs) (hrec : Recs wr base xs (rs.take k)) (hbel : Below base w wr) (hsz : base ≤ wr.heap.size) (hb2 : Below wr.heap.size wr w2)
    (h1 : B = none → c = 0) (h2 : Sees .u8 w2 B r) (h3 : ∀ b o, B = some ⟨b, o, none⟩ → 0 < r.length → b < base ∨ ∃ cs fz, w2.heap[b]? = some (.cells cs 5 fz))
    (hown' : w3.ownsRow base 22 1 v' (k + 1) (xs ++ [.slice B r.length c])) (hg : (w2.alloc o).grownBy w3 v.ownBlock) (hgg : g = ((framesN (rs.take k)).length : Int) + ((frameN r).length : Int)) : ScanRel rs base w v' (.int .i64 g) w3 :=
  scan_step hk hr (Nat.le_trans hsz hb2.size) (row_below hown hb2) (hrec.below hb2) (hbel.trans (hb2.mono hsz)) h1 h2 h3 hown' hg hgg

end Go.Proofs.Ytilocedppkmikaa
