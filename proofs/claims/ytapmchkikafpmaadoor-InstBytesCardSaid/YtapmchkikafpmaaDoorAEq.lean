/-
  Attributes, compared: run equations of '==' at both kinds, and at the seven numbers alone.
-/
import Derived.Test.YtapmchkikafpmaaDoorARefM
import Derived.Laws.StructEq
namespace Go.Proofs.YtapmchkikafpmaaDoor
open Go.ChangeShapes Go.WideShapes Go.ChangeAt Go.RowKit
set_option linter.unusedVariables false
set_option linter.unusedSimpArgs false

/-- Attributes by value, cell by cell; and the seven of them. -/
abbrev cs8 (f : Nat → Int) : Array Value := #[.int .i64 (f 0), .int .i64 (f 1), .int .i64 (f 2), .int .i64 (f 3), .int .i64 (f 4), .int .i64 (f 5), .int .i64 (f 6), .int .i64 (f 7)]
abbrev cs7 (f : Nat → Int) : Array Value := #[.int .i64 (f 1), .int .i64 (f 2), .int .i64 (f 3), .int .i64 (f 4), .int .i64 (f 5), .int .i64 (f 6), .int .i64 (f 7)]
abbrev va (f : Nat → Int) : Value := .agg (cs8 f)
theorem rowA_cs (f : Nat → Int) : rowA f = cs8 f := rfl
theorem cs7_get (f : Nat → Int) {i : Nat} (h : i < 7) : (cs7 f)[i]? = some (.int .i64 (f (i + 1))) := by
  have e : cs7 f = (lsD f).toArray := rfl
  rw [e, List.getElem?_toArray]; exact lsD_get f h

/-- Are they the same? The seven alone; all eight. -/
def eqD (f g : Nat → Int) : Bool := (List.range 7).all fun i => f (i + 1) == g (i + 1)
def eqA (f g : Nat → Int) : Bool := f 0 == g 0 && eqD f g
theorem eqD_iff {f g : Nat → Int} : eqD f g = true ↔ ∀ i, i < 7 → f (i + 1) = g (i + 1) := by simp [eqD, List.all_eq_true]
theorem eqA_iff {f g : Nat → Int} : eqA f g = true ↔ ∀ i, i < 8 → f i = g i := by
  unfold eqA
  rw [Bool.and_eq_true, beq_iff_eq, eqD_iff]
  constructor
  · rintro ⟨h0, h⟩ i hi
    cases i with
    | zero => exact h0
    | succ i => exact h i (by omega)
  · intro h
    exact ⟨h 0 (by decide), fun i hi => h (i + 1) (by omega)⟩
theorem eqA_self (f : Nat → Int) : eqA f f = true := eqA_iff.2 fun _ _ => rfl

theorem items_seven (f g : Nat → Int) (d : Nat) (w : World) : ∀ is : List Nat, (∀ i ∈ is, i < 7) → (Op.eqItems (d + 1) 3 1 (cs7 f) (cs7 g) is).run Tryd.prog w = .ok (is.all fun i => f (i + 1) == g (i + 1)) w
  | [], _ => by simp [Op.eqItems]
  | i :: is, h => by
    have hi : (cs7 f)[i * 1]? = some (.int .i64 (f (i + 1))) := by rw [Nat.mul_one]; exact cs7_get f (h i (by simp))
    have hj : (cs7 g)[i * 1]? = some (.int .i64 (g (i + 1))) := by rw [Nat.mul_one]; exact cs7_get g (h i (by simp))
    have hp := run_part_plain (P := Tryd.prog) (w := w) (e := 3) (by kernel_rfl) hi
    have hq := run_part_plain (P := Tryd.prog) (w := w) (e := 3) (by kernel_rfl) hj
    have he := run_equalIn_int (P := Tryd.prog) w d 3 .i64 .i64 (f (i + 1)) (g (i + 1)) Tryd.underlying3
    have ih := items_seven f g d w is (fun j hj => h j (by simp [hj]))
    obtain ⟨x, hx⟩ : ∃ x, (f (i + 1) == g (i + 1)) = x := ⟨_, rfl⟩
    rw [hx] at he
    simp only [Op.eqItems, Sem.run_bind, hp, hq, Result.andThen_ok, he, List.all_cons, hx]
    cases x
    · simp
    · simpa using ih
theorem eq_seven (f g : Nat → Int) (d : Nat) (w : World) : (Op.equalIn (d + 2) 31 (.agg (cs7 f)) (.agg (cs7 g))).run Tryd.prog w = .ok (eqD f g) w := by
  obtain ⟨i, hi⟩ : ∃ i, Tryd.prog.info? 3 = some i := Option.isSome_iff_exists.1 (show (Tryd.prog.info? 3).isSome = true by kernel_rfl)
  rw [run_equalIn_array w (d + 1) _ _ Tryd.underlying31 hi]
  have hc : Tryd.prog.cellsOf 3 = 1 := by kernel_rfl
  rw [hc]
  exact items_seven f g d w _ (fun i hi => List.mem_range.1 hi)
theorem eq_dep (f g : Nat → Int) (b : Bool) (hb : eqD f g = b) (w : World) : (Op.equalIn 10000 31 (.agg #[.int .i64 (f 1), .int .i64 (f 2), .int .i64 (f 3), .int .i64 (f 4), .int .i64 (f 5), .int .i64 (f 6), .int .i64 (f 7)]) (.agg #[.int .i64 (g 1), .int .i64 (g 2), .int .i64 (g 3), .int .i64 (g 4), .int .i64 (g 5), .int .i64 (g 6), .int .i64 (g 7)])).run Tryd.prog w = .ok b w := by
  subst hb
  exact eq_seven f g 9998 w

theorem part_deps (f : Nat → Int) (w : World) : (part 31 (cs8 f) 1).run Tryd.prog w = .ok (.agg (cs7 f)) w := by
  simp [go_sem, part]

theorem eq_attr (f g : Nat → Int) (b : Bool) (hb : eqA f g = b) (w : World) : (Op.equalIn 10000 33 (.agg #[.int .i64 (f 0), .int .i64 (f 1), .int .i64 (f 2), .int .i64 (f 3), .int .i64 (f 4), .int .i64 (f 5), .int .i64 (f 6), .int .i64 (f 7)]) (.agg #[.int .i64 (g 0), .int .i64 (g 1), .int .i64 (g 2), .int .i64 (g 3), .int .i64 (g 4), .int .i64 (g 5), .int .i64 (g 6), .int .i64 (g 7)])).run Tryd.prog w = .ok b w := by
  have ht : Tryd.prog.underlying 33 = some (.struct (Tryd.prog.fieldsOf 33)) := by kernel_rfl
  have hp : Tryd.prog.stoodInHeld 33 = false := by kernel_rfl
  rw [run_equalIn_struct w 9999 _ _ _ ht hp]
  have p0 := run_part_plain (P := Tryd.prog) (w := w) (e := 3) (by kernel_rfl) (xs := cs8 f) (off := 0) rfl
  have q0 := run_part_plain (P := Tryd.prog) (w := w) (e := 3) (by kernel_rfl) (xs := cs8 g) (off := 0) rfl
  have p1 := part_deps f w
  have q1 := part_deps g w
  have e0 := run_equalIn_int (P := Tryd.prog) w 9998 3 .i64 .i64 (f 0) (g 0) Tryd.underlying3
  have e1 := eq_seven f g 9997 w
  subst hb
  unfold eqA
  obtain ⟨x, hx⟩ : ∃ x, (f 0 == g 0) = x := ⟨_, rfl⟩
  rw [hx] at e0 ⊢
  obtain ⟨y, hy⟩ : ∃ y, eqD f g = y := ⟨_, rfl⟩
  rw [hy] at e1 ⊢
  cases x <;> cases y <;> simp [Program.fieldsOf, Tryd.underlying33, Op.eqFields, p0, p1, q0, q1, e0, e1, Sem.run_bind, Sem.run_ite, Result.andThen_ok]
theorem eq_refa (f g : Nat → Int) (b : Bool) (hb : eqA f g = b) (w : World) : (Op.equalIn 10000 43 (.agg #[.int .i64 (f 0), .int .i64 (f 1), .int .i64 (f 2), .int .i64 (f 3), .int .i64 (f 4), .int .i64 (f 5), .int .i64 (f 6), .int .i64 (f 7)]) (.agg #[.int .i64 (g 0), .int .i64 (g 1), .int .i64 (g 2), .int .i64 (g 3), .int .i64 (g 4), .int .i64 (g 5), .int .i64 (g 6), .int .i64 (g 7)])).run Tryd.prog w = .ok b w := by
  have ht : Tryd.prog.underlying 43 = some (.struct (Tryd.prog.fieldsOf 43)) := by kernel_rfl
  have hp : Tryd.prog.stoodInHeld 43 = false := by kernel_rfl
  rw [run_equalIn_struct w 9999 _ _ _ ht hp]
  have p0 := run_part_plain (P := Tryd.prog) (w := w) (e := 3) (by kernel_rfl) (xs := cs8 f) (off := 0) rfl
  have q0 := run_part_plain (P := Tryd.prog) (w := w) (e := 3) (by kernel_rfl) (xs := cs8 g) (off := 0) rfl
  have p1 := part_deps f w
  have q1 := part_deps g w
  have e0 := run_equalIn_int (P := Tryd.prog) w 9998 3 .i64 .i64 (f 0) (g 0) Tryd.underlying3
  have e1 := eq_seven f g 9997 w
  subst hb
  unfold eqA
  obtain ⟨x, hx⟩ : ∃ x, (f 0 == g 0) = x := ⟨_, rfl⟩
  rw [hx] at e0 ⊢
  obtain ⟨y, hy⟩ : ∃ y, eqD f g = y := ⟨_, rfl⟩
  rw [hy] at e1 ⊢
  cases x <;> cases y <;> simp [Program.fieldsOf, Tryd.underlying43, Op.eqFields, p0, p1, q0, q1, e0, e1, Sem.run_bind, Sem.run_ite, Result.andThen_ok]
theorem attr_guard : Tryd.prog.eqGuardType Tryd.prog.depth 33 = false := by kernel_rfl
theorem refa_guard : Tryd.prog.eqGuardType Tryd.prog.depth 43 = false := by kernel_rfl
theorem dep_guard : Tryd.prog.eqGuardType Tryd.prog.depth 31 = false := by kernel_rfl

theorem field_deps (f : Nat → Int) (w : World) : (Instr.field 33 (.agg #[.int .i64 (f 0), .int .i64 (f 1), .int .i64 (f 2), .int .i64 (f 3), .int .i64 (f 4), .int .i64 (f 5), .int .i64 (f 6), .int .i64 (f 7)]) 1).run Tryd.prog w = .ok (.agg #[.int .i64 (f 1), .int .i64 (f 2), .int .i64 (f 3), .int .i64 (f 4), .int .i64 (f 5), .int .i64 (f 6), .int .i64 (f 7)]) w := by kernel_rfl

theorem aright8 (f : Nat → Int) (w : World) : Calls Tryd.prog 64 #[.agg #[.int .i64 (f 0), .int .i64 (f 1), .int .i64 (f 2), .int .i64 (f 3), .int .i64 (f 4), .int .i64 (f 5), .int .i64 (f 6), .int .i64 (f 7)]] w fun e w' => e = .returned (.bool (okB f)) ∧ Below w.heap.size w w' := aright_any f w
theorem refaright8 (f : Nat → Int) (w : World) : Calls Tryd.prog 21 #[.agg #[.int .i64 (f 0), .int .i64 (f 1), .int .i64 (f 2), .int .i64 (f 3), .int .i64 (f 4), .int .i64 (f 5), .int .i64 (f 6), .int .i64 (f 7)]] w fun e w' => e = .returned (.bool (okB f)) ∧ Below w.heap.size w w' := refaright_any f w

/-- The eight cells of a box. -/
def Eight (w : World) (g : Nat) (f : Nat → Int) : Prop :=
  w.cell? ⟨g, 0, none⟩ = some (.int .i64 (f 0)) ∧ w.cell? ⟨g, 1, none⟩ = some (.int .i64 (f 1)) ∧ w.cell? ⟨g, 2, none⟩ = some (.int .i64 (f 2)) ∧ w.cell? ⟨g, 3, none⟩ = some (.int .i64 (f 3)) ∧
    w.cell? ⟨g, 4, none⟩ = some (.int .i64 (f 4)) ∧ w.cell? ⟨g, 5, none⟩ = some (.int .i64 (f 5)) ∧ w.cell? ⟨g, 6, none⟩ = some (.int .i64 (f 6)) ∧ w.cell? ⟨g, 7, none⟩ = some (.int .i64 (f 7))
theorem Blk.eight {w : World} {g : Nat} {T : TypeId} {f : Nat → Int} (h : Blk w g T (rowA f)) : Eight w g f :=
  ⟨h.att (by decide), h.att (by decide), h.att (by decide), h.att (by decide), h.att (by decide), h.att (by decide), h.att (by decide), h.att (by decide)⟩

end Go.Proofs.YtapmchkikafpmaaDoor
