/-
  The document's disk (moothillref13), by value: New, may, unit, Sync with and without a trim.
-/
import Derived.Test.YtmedfcpohmhbbaaENew
namespace Go.Proofs.Ytmedfcpohmhbbaa
open Go.ChangeShapes Go.WideShapes Go.ChangeAt Go.RowKit
set_option linter.unusedVariables false
set_option linter.unusedSimpArgs false

def unR (d : Dk) : Int := if d.arm = true then d.un else -1
def rC (d : Dk) (x : Nat → Value) : Array Value := #[.int .i64 d.sz, x 0, x 1, .int .i64 (d.s 0 : Int), .int .i64 (d.s 1 : Int), .int .i64 (unR d), .bool d.dn]
/-- A disk by value. -/
abbrev rV (d : Dk) (x : Nat → Value) : Value := .agg (rC d x)
/-- Its files' bytes are seen, in blocks that aren't of S. -/
def RefAt (S : Nat → Prop) (w : World) (d : Dk) (x : Nat → Value) : Prop := ∀ k, k < 2 → ∃ A c, x k = .slice A (d.l k).length c ∧ (A = none → c = 0) ∧ (d.l k).length ≤ c ∧ Apart S w A (d.l k)
theorem RefAt.turns {S T : Nat → Prop} {w w' : World} {d : Dk} {x : Nat → Value} (h : RefAt S w d x) (k : Turns S w w') (hT : ∀ i, i < w.heap.size → T i → S i) : RefAt T w' d x := fun i hi => by
  obtain ⟨A, c, h1, h2, h3, h4⟩ := h i hi
  exact ⟨A, c, h1, h2, h3, h4.turns k hT⟩
theorem RefAt.on {S : Nat → Prop} {w w' : World} {d : Dk} {x : Nat → Value} (h : RefAt S w d x) (k : Below w.heap.size w w') : RefAt S w' d x := h.turns (T := S) (Turns.of_below k) (fun _ _ h => h)
theorem RefAt.of {S : Nat → Prop} {w : World} {d d' : Dk} {x : Nat → Value} (h : RefAt S w d x) (hl : d'.l = d.l) : RefAt S w d' x := fun i hi => by rw [hl]; exact h i hi
/-- One file is turned. -/
theorem RefAt.turn {S : Nat → Prop} {w : World} {d : Dk} {x : Nat → Value} (h : RefAt S w d x) (k : Nat) {A : Option Addr} {c : Nat} {l : List Nat} (hA : A = none → c = 0) (hc : l.length ≤ c) (hS : Apart S w A l) :
    RefAt S w { d with l := updD d.l k l } (updD x k (.slice A l.length c)) := fun i hi => by
  show ∃ A' c', updD x k _ i = .slice A' (updD d.l k l i).length c' ∧ (A' = none → c' = 0) ∧ (updD d.l k l i).length ≤ c' ∧ Apart S w A' (updD d.l k l i)
  by_cases he : i = k
  · subst he
    rw [updD_at, updD_at]
    exact ⟨A, c, rfl, hA, hc, hS⟩
  · rw [updD_far _ _ he, updD_far _ _ he]
    exact h i hi
theorem RefAt.open {S : Nat → Prop} {w : World} {d : Dk} {x : Nat → Value} (h : RefAt S w d x) : ∃ A0 c0 A1 c1, x 0 = .slice A0 (d.l 0).length c0 ∧ x 1 = .slice A1 (d.l 1).length c1 := by
  obtain ⟨A0, c0, h0, _⟩ := h 0 (by decide)
  obtain ⟨A1, c1, h1, _⟩ := h 1 (by decide)
  exact ⟨A0, c0, A1, c1, h0, h1⟩

theorem rC_get (d : Dk) (x : Nat → Value) : ∀ k, k < 2 → (rC d x)[1 + k]? = some (x k)
  | 0, _ => rfl
  | 1, _ => rfl
theorem rC_gets (d : Dk) (x : Nat → Value) : ∀ k, k < 2 → (rC d x)[3 + k]? = some (.int .i64 (d.s k : Int))
  | 0, _ => rfl
  | 1, _ => rfl
theorem rC_set (d : Dk) (x : Nat → Value) (u : Value) (l : List Nat) : ∀ k, k < 2 → (rC d x).setIfInBounds (1 + k) u = rC { d with l := updD d.l k l } (updD x k u)
  | 0, _ => rfl
  | 1, _ => rfl
theorem rC_sets (d : Dk) (x : Nat → Value) (n : Nat) : ∀ k, k < 2 → (rC d x).setIfInBounds (3 + k) (.int .i64 (n : Int)) = rC { d with s := updD d.s k n } x
  | 0, _ => rfl
  | 1, _ => rfl
theorem rcells {w : World} {p : Nat} {t : TypeId} {d : Dk} {x : Nat → Value} (h : Blk w p t (rC d x)) :
    w.cell? ⟨p, 0, none⟩ = some (.int .i64 d.sz) ∧ w.cell? ⟨p, 1, none⟩ = some (x 0) ∧ w.cell? ⟨p, 2, none⟩ = some (x 1) ∧ w.cell? ⟨p, 3, none⟩ = some (.int .i64 (d.s 0 : Int)) ∧ w.cell? ⟨p, 4, none⟩ = some (.int .i64 (d.s 1 : Int)) ∧
      w.cell? ⟨p, 5, none⟩ = some (.int .i64 (unR d)) ∧ w.cell? ⟨p, 6, none⟩ = some (.bool d.dn) :=
  ⟨(h.cell 0).trans rfl, (h.cell 1).trans rfl, (h.cell 2).trans rfl, (h.cell 3).trans rfl, (h.cell 4).trans rfl, (h.cell 5).trans rfl, (h.cell 6).trans rfl⟩

set_option maxRecDepth 100000 in
set_option maxHeartbeats 400000 in
theorem refnew_any (size : Int) (w : World) :
    Calls Try.prog 7 #[.int .i64 size] w fun e w' => e = .returned (rV (newD size) noV) ∧ Below w.heap.size w w' := by
  go_enter Try.func7, Try.ntmps7
  go_wp2
  refine bodyPost_ret (v := rV (newD size) noV) (by simp [results, Try.results7, go_sem, rV, rC, newD, noV, unR]) rfl ⟨rfl, (Below.refl _ _).alloc (Nat.le_refl _) _⟩

/-- A disk by value, its cells letters but for the last two. -/
abbrev rA (sz : Int) (a b : Value) (s t : Int) (u : Int) (n : Bool) : Array Value := #[.int .i64 sz, a, b, .int .i64 s, .int .i64 t, .int .i64 u, .bool n]

set_option maxRecDepth 100000 in
set_option maxHeartbeats 400000 in
theorem may_raw (sz : Int) (a b : Value) (s t u : Int) (n : Bool) (f m : Int) (w : World) (hm : m = if hasD f then (if n then 40 else 0) else 12) :
    Calls Try.prog 31 #[.agg (rA sz a b s t u n), .int .i64 f] w fun e w' => e = .returned (.int .i64 m) ∧ w.alloc (.cells (rA sz a b s t u n) 34) = w' := by
  have HM := hid hm
  clear hm
  rcases (show f < 0 ∨ (0 ≤ f ∧ f < 2) ∨ 2 ≤ f by omega) with h | h | h
  · have HE : Hid (hasD f = false) := hid (by unfold hasD; simp; omega)
    have HR : Hid (12 = m) := hid (by rw [HM.out, HE.out]; rfl)
    go_enter Try.func31, Try.ntmps31
    go_wp2
    go_ret
    exact ⟨ret_num HR.out, rfl⟩
  · obtain ⟨h1, h2⟩ := h
    have HE : Hid (hasD f = true) := hid (by unfold hasD; simp; omega)
    cases n
    · have HR : Hid (0 = m) := hid (by rw [HM.out, HE.out]; rfl)
      go_enter Try.func31, Try.ntmps31
      go_wp2
      go_ret
      exact ⟨ret_num HR.out, rfl⟩
    · have HR : Hid (40 = m) := hid (by rw [HM.out, HE.out]; rfl)
      go_enter Try.func31, Try.ntmps31
      go_wp2
      go_ret
      exact ⟨ret_num HR.out, rfl⟩
  · have HE : Hid (hasD f = false) := hid (by unfold hasD; simp; omega)
    have HR : Hid (12 = m) := hid (by rw [HM.out, HE.out]; rfl)
    have h3 : 0 ≤ f := by omega
    go_enter Try.func31, Try.ntmps31
    go_wp2
    go_ret
    exact ⟨ret_num HR.out, rfl⟩

theorem may_any (d : Dk) (x : Nat → Value) (f : Int) (w : World) :
    Calls Try.prog 31 #[rV d x, .int .i64 f] w fun e w' => e = .returned (.int .i64 (mayD d f)) ∧ Below w.heap.size w w' :=
  (may_raw d.sz (x 0) (x 1) (d.s 0) (d.s 1) (unR d) d.dn f (mayD d f) w rfl).mono fun e w' ⟨h1, h2⟩ => ⟨h1, h2 ▸ (Below.refl _ _).alloc (Nat.le_refl _) _⟩

/-- What a unit leaves, in its numbers. -/
theorem unit_spent (d : Dk) (h : d.Ok) : (unR d = 0 ∧ unR (spentD d 1) = 0 ∧ (spentD d 1).dn = true ∧ shortD d 1 = true) ∨ (0 < unR d ∧ unR (spentD d 1) = unR d - 1 ∧ (spentD d 1).dn = d.dn ∧ shortD d 1 = false) ∨
    (unR d < 0 ∧ unR (spentD d 1) = unR d ∧ (spentD d 1).dn = d.dn ∧ shortD d 1 = false) := by
  have h0 := h.un0
  cases hA : d.arm with
  | false =>
    obtain ⟨q1, _, _, q4⟩ := spent_off hA 1
    rw [q1]
    exact .inr (.inr ⟨by unfold unR; simp [hA], rfl, rfl, q4⟩)
  | true =>
    have e : unR d = d.un := by unfold unR; rw [if_pos hA]
    rcases (show d.un = 0 ∨ 0 < d.un by omega) with hu | hu
    · obtain ⟨q1, _, _, q4⟩ := spent_no hA h0 (n := 1) (by omega)
      rw [q1]
      exact .inl ⟨by rw [e, hu], by unfold unR; simp [hA], rfl, q4⟩
    · obtain ⟨q1, _, _, q4⟩ := spent_yes hA (n := 1) (by omega)
      rw [q1]
      exact .inr (.inl ⟨by rw [e]; exact hu, by unfold unR; simp [hA], rfl, q4⟩)

/-- .. its slices written out. -/
abbrev rS (sz : Int) (A : Option Addr) (n c : Nat) (B : Option Addr) (m e : Nat) (s t u : Int) (y : Bool) : Array Value := #[.int .i64 sz, .slice A n c, .slice B m e, .int .i64 s, .int .i64 t, .int .i64 u, .bool y]
theorem rC_raw {S : Nat → Prop} {w : World} {d : Dk} {x : Nat → Value} (h : RefAt S w d x) : ∃ A c B e, ∀ d' : Dk, d'.l = d.l → rC d' x = rS d'.sz A (d.l 0).length c B (d.l 1).length e (d'.s 0) (d'.s 1) (unR d') d'.dn := by
  obtain ⟨A, c, B, e, h0, h1⟩ := h.open
  exact ⟨A, c, B, e, fun d' _ => by unfold rC rS; rw [h0, h1]⟩

set_option maxRecDepth 100000 in
set_option maxHeartbeats 400000 in
theorem unit_raw (sz : Int) (A : Option Addr) (l c : Nat) (B : Option Addr) (m e : Nat) (s t u u2 : Int) (n n2 y : Bool) (w : World) (hu : -9223372036854775808 < u) (h : (u = 0 ∧ u2 = 0 ∧ n2 = true ∧ y = true) ∨ (0 < u ∧ u2 = u - 1 ∧ n2 = n ∧ y = false) ∨ (u < 0 ∧ u2 = u ∧ n2 = n ∧ y = false)) (hu1 : u ≤ 9223372036854775807) :
    Calls Try.prog 32 #[.agg (rS sz A l c B m e s t u n)] w fun e' w' => e' = .returned (.tuple #[.agg (rS sz A l c B m e s t u2 n2), .bool (!y)]) ∧ (w.alloc (.cells (rS sz A l c B m e s t u2 n2) 34)).alloc (.cells (rS sz A l c B m e s t u2 n2) 34) = w' := by
  rcases h with ⟨rfl, rfl, rfl, rfl⟩ | ⟨h, rfl, rfl, rfl⟩ | ⟨h, rfl, rfl, rfl⟩
  · go_enter Try.func32, Try.ntmps32
    go_wp2
    refine bodyPost_ret (v := .tuple #[.agg (rS sz A l c B m e s t 0 true), .bool false]) (by simp [results, Try.results32, go_sem]) rfl ⟨rfl, rfl⟩
  · have h2 : (u == 0) = false := by rw [beq_eq_false_iff_ne]; omega
    go_enter Try.func32, Try.ntmps32
    go_wp2
    refine bodyPost_ret (v := .tuple #[.agg (rS sz A l c B m e s t (u - 1) n2), .bool true]) (by simp [results, Try.results32, go_sem]) rfl ⟨rfl, rfl⟩
  · have h2 : (u2 == 0) = false := by rw [beq_eq_false_iff_ne]; omega
    have h3 : ¬ 0 < u2 := by omega
    go_enter Try.func32, Try.ntmps32
    go_wp2
    refine bodyPost_ret (v := .tuple #[.agg (rS sz A l c B m e s t u2 n2), .bool true]) (by simp [results, Try.results32, go_sem]) rfl ⟨rfl, rfl⟩

theorem unR_in {d : Dk} (h : d.Ok) : -9223372036854775808 < unR d ∧ unR d ≤ 9223372036854775807 := by
  have h0 := h.un0; have h1 := h.un1
  unfold unR; split <;> omega

theorem unit_any {S : Nat → Prop} (d : Dk) (x : Nat → Value) (w w0 : World) (h : RefAt S w0 d x) (ho : d.Ok) :
    Calls Try.prog 32 #[rV d x] w fun e w' => e = .returned (.tuple #[rV (spentD d 1) x, .bool (!shortD d 1)]) ∧ Below w.heap.size w w' := by
  obtain ⟨A, c, B, e, hr⟩ := rC_raw h
  have h1 := hr d rfl
  have h2 := hr (spentD d 1) (spentD_l d 1)
  rw [spentD_s, spentD_sz] at h2
  show Calls Try.prog _ #[.agg (rC d x)] w fun e w' => e = .returned (.tuple #[.agg (rC (spentD d 1) x), .bool (!shortD d 1)]) ∧ Below w.heap.size w w'
  rw [h1, h2]
  have h3 := unR_in ho
  have h4 := unit_spent d ho
  exact (unit_raw _ _ _ _ _ _ _ _ _ _ _ _ _ _ w h3.1 h4 h3.2).mono fun e w' ⟨h1, h2⟩ => ⟨h1, h2 ▸ ((Below.refl _ _).alloc (Nat.le_refl _) _).alloc (by simp) _⟩

/-- What the document's call leaves, and tells. -/
def RefDoesD (S : Nat → Prop) (d' : Dk) (r : Int) (w : World) (en : Ending) (w' : World) : Prop :=
  ∃ x', en = .returned (.tuple #[rV d' x', .int .i64 r]) ∧ RefAt S w' d' x' ∧ Below w.heap.size w w'

end Go.Proofs.Ytmedfcpohmhbbaa
