/-
  What stands throughout a law of a list of steps, a command and an instance; a box of an entry; keys are compared.
-/
import Derived.Test.YtpdfakjopeldmaaGreatDoorMgF
import Derived.Test.YtpdfakjopeldmaaGreatDoorZDEntM
import Derived.Test.YtpdfakjopeldmaaGreatDoorZDRowB
import Derived.Test.YtpdfakjopeldmaaGreatDoorZQRef
namespace Go.Proofs.YtpdfakjopeldmaaGreatDoor
open Go.ChangeShapes Go.WideShapes Go.ChangeAt Go.RowKit Go.Maps Go.WideMaps Go.Lib
set_option linter.unusedVariables false
set_option linter.unusedSimpArgs false

theorem parts_at {w w' : World} {p : Nat} (h : PartsIs w) (hb : Below p w w') (hg : 1 < p) : PartsIs w' := by
  unfold PartsIs World.var? at *
  rw [gParts] at *
  simp only [Option.bind_some] at *
  rw [hb.block _ hg]
  exact h
/-- What stands throughout. -/
def Pl (w W : World) (g : Nat) (c : K) (r e : Int) (A : Option Addr) (os : List OpV) : Prop :=
  Blk W g 27 (cellsOf c) ∧ Blk W (g + 1) 29 #[.int .i64 r, .int .i64 e] ∧ Below g w W ∧ SeesO g W A os ∧ PartsIs W ∧ 1 < g
theorem Pl.lt {w W : World} {g : Nat} {c : K} {r e : Int} {A : Option Addr} {os : List OpV} (h : Pl w W g c r e A os) : g + 1 < W.heap.size := h.2.1.lt
theorem Pl.grown {w W W' : World} {g : Nat} {c : K} {r e : Int} {A : Option Addr} {os : List OpV} (h : Pl w W g c r e A os) {row : Option Nat} (hg : W.grownBy W' row) (hr : ∀ k, row = some k → g + 1 < k) : Pl w W' g c r e A os := by
  obtain ⟨h1, h2, h5, h6, h8, h9⟩ := h
  have hlt := h2.lt
  have ne : ∀ i, i ≤ g + 1 → some i ≠ row := fun i hi e => by have := hr i e.symm; omega
  refine ⟨h1.grown hg (ne _ (by omega)), h2.grown hg (ne _ (by omega)), h5.grown hg (by omega) (fun k hk => by have := hr k hk; omega), h6.grown (by omega) hg (fun k hk => by have := hr k hk; omega), ?_, h9⟩
  exact ix_var_grown (g := 1) (by kernel_rfl) h8 (by omega) (ne _ (by omega)) hg
theorem Pl.on {w W W' : World} {g : Nat} {c : K} {r e : Int} {A : Option Addr} {os : List OpV} (h : Pl w W g c r e A os) (hb : Below W.heap.size W W') : Pl w W' g c r e A os := h.grown (only_of_below hb none) (fun _ h => by cases h)
theorem Pl.onb {w W W' : World} {g : Nat} {c : K} {r e : Int} {A : Option Addr} {os : List OpV} (h : Pl w W g c r e A os) {p : Nat} (hb : Below p W W') (hp : g + 1 < p) : Pl w W' g c r e A os := by
  obtain ⟨h1, h2, h5, h6, h8, h9⟩ := h
  exact ⟨h1.below hb (by omega), h2.below hb (by omega), h5.trans (hb.mono (by omega)), h6.below (hb.mono (by omega)), parts_at h8 hb (by omega), h9⟩
theorem Pl.drew {w W : World} {g : Nat} {c : K} {r e : Int} {A : Option Addr} {os : List OpV} (h : Pl w W g c r e A os) : Pl w W.drew g c r e A os := h.on (below_drew (Below.refl _ _))
theorem Pl.parts {w W : World} {g : Nat} {c : K} {r e : Int} {A : Option Addr} {os : List OpV} (h : Pl w W g c r e A os) : PartsIs W := h.2.2.2.2.1
theorem Pl.big {w W : World} {g : Nat} {c : K} {r e : Int} {A : Option Addr} {os : List OpV} (h : Pl w W g c r e A os) : 1 < W.heap.size := by
  have h1 := h.lt
  have h2 := h.2.2.2.2.2
  omega
theorem Pl.cmd {w W : World} {g : Nat} {c : K} {r e : Int} {A : Option Addr} {os : List OpV} (h : Pl w W g c r e A os) : Blk W g 27 (cellsOf c) := h.1
theorem Pl.id {w W : World} {g : Nat} {c : K} {r e : Int} {A : Option Addr} {os : List OpV} (h : Pl w W g c r e A os) : Blk W (g + 1) 29 #[.int .i64 r, .int .i64 e] := h.2.1
theorem Pl.open {w W : World} {g : Nat} {k u : Int} {f : ByteArray} {q : Int} {s : ByteArray} {m' n t : Int} {r e : Int} {A : Option Addr} {os : List OpV} (h : Pl w W g ⟨k, u, f, q, s, m', n, t⟩ r e A os) :
    (W.cell? ⟨g, 0, none⟩ = some (.int .i64 k) ∧ W.cell? ⟨g, 1, none⟩ = some (.int .u64 u) ∧ W.cell? ⟨g, 2, none⟩ = some (.string f) ∧ W.cell? ⟨g, 3, none⟩ = some (.int .u64 q) ∧ W.cell? ⟨g, 4, none⟩ = some (.string s) ∧ W.cell? ⟨g, 5, none⟩ = some (.int .i64 m') ∧ W.cell? ⟨g, 6, none⟩ = some (.int .u64 n) ∧ W.cell? ⟨g, 7, none⟩ = some (.int .i64 t)) ∧ W.cell? ⟨g + 1, 0, none⟩ = some (.int .i64 r) ∧ W.cell? ⟨g + 1, 1, none⟩ = some (.int .i64 e) :=
  ⟨(cells8 h.cmd).1, (blkn h.id).1⟩

/-- An index stands where another block is turned. -/
theorem ixg_grown {w w' : World} {x m : Nat} {l : List Nt} {row : Option Nat} (h : Ix w x m l) (hg : w.grownBy w' row) (hx : some x ≠ row) (hm : some m ≠ row) : Ix w' x m l :=
  ⟨h.1.grown hg hx, h.2.1.same (hg.block m h.2.1.lt hm), h.2.2⟩
theorem ixg_below {w w' : World} {x m : Nat} {l : List Nt} (h : Ix w x m l) {p : Nat} (hb : Below p w w') (hx : x < p) (hm : m < p) : Ix w' x m l :=
  ⟨h.1.below hb hx, h.2.1.same (hb.block m hm), h.2.2⟩
theorem ixg_apart {w : World} {x m y my : Nat} {l l' : List Nt} (h : Ix w x m l) (h' : Ix w y my l') : y ≠ m := by
  rintro rfl
  obtain ⟨_, ⟨D, ⟨es, clock, hb, _⟩, _⟩, _⟩ := h
  have h1 := h'.1
  unfold Blk at h1
  rw [h1] at hb
  cases hb

theorem key_eq12 (f : ByteArray) (u : Int) (f2 : ByteArray) (u2 : Int) (w : World) :
    (Op.equalIn 10000 36 (.agg #[.string f, .int .u64 u]) (.agg #[.string f2, .int .u64 u2])).run Tryz.prog w = .ok (decide (f = f2) && u == u2) w := by
  have ht : Tryz.prog.underlying 36 = some (.struct (Tryz.prog.fieldsOf 36)) := by kernel_rfl
  have hp : Tryz.prog.stoodInHeld 36 = false := by kernel_rfl
  rw [run_equalIn_struct w 9999 _ _ _ ht hp]
  have p1 := run_part_plain (P := Tryz.prog) (w := w) (e := 9) (by kernel_rfl) (xs := #[.string f, .int .u64 u]) (off := 0) rfl
  have p2 := run_part_plain (P := Tryz.prog) (w := w) (e := 23) (by kernel_rfl) (xs := #[.string f, .int .u64 u]) (off := 1) rfl
  have p3 := run_part_plain (P := Tryz.prog) (w := w) (e := 9) (by kernel_rfl) (xs := #[.string f2, .int .u64 u2]) (off := 0) rfl
  have p4 := run_part_plain (P := Tryz.prog) (w := w) (e := 23) (by kernel_rfl) (xs := #[.string f2, .int .u64 u2]) (off := 1) rfl
  have q1 := run_equalIn_string (P := Tryz.prog) w 9998 9 f f2 Tryz.underlying9
  have q2 := run_equalIn_int (P := Tryz.prog) w 9998 23 .u64 .u64 u u2 Tryz.underlying23
  rw [toList_L, toList_L] at q1
  have hb : (L f == L f2) = decide (f = f2) := by
    by_cases h : f = f2
    · subst h; simp
    · rw [decide_eq_false h, beq_eq_false_iff_ne]; exact fun e => h (L_inj.1 e)
  rw [hb] at q1
  obtain ⟨x, hx⟩ : ∃ x, decide (f = f2) = x := ⟨_, rfl⟩
  rw [hx] at q1 ⊢
  obtain ⟨y, hy⟩ : ∃ y, (u == u2) = y := ⟨_, rfl⟩
  rw [hy] at q2 ⊢
  cases x <;> cases y <;> simp [Program.fieldsOf, Tryz.underlying36, Op.eqFields, p1, p2, p3, p4, q1, q2, Sem.run_bind, Sem.run_ite, Result.andThen_ok]
theorem key_guard12 : Tryz.prog.eqGuardType Tryz.prog.depth 36 = false := by kernel_rfl
theorem key_same12 (f : ByteArray) (u : Int) (w : World) : (Op.equalIn 10000 36 (.agg #[.string f, .int .u64 u]) (.agg #[.string f, .int .u64 u])).run Tryz.prog w = .ok true w := by
  rw [key_eq12]
  simp

/-- What steps note is fair. -/
theorem stepL_fair {l : List Nt} (hl : AllFair l) {o : OpV} (hm : Made o) (hf : fitsO o = true) : AllFair (stepL l o) := by
  obtain ⟨h1, h2, h3, h4⟩ := hm
  unfold fitsO smallK at hf
  simp only [Bool.and_eq_true, decide_eq_true_eq] at hf
  unfold stepL
  split
  · exact noteL_fair hl hf.1.2 hf.1.1 h1.1
  · split
    · unfold addL
      split
      · next ho => exact hl.snoc (Came.fair ⟨h2, h3, h4, hf.2⟩ ho)
      · exact hl
    · exact hl
theorem playL_fair : ∀ (os : List OpV) {l : List Nt}, AllFair l → (∀ o ∈ os, Made o) → (∀ o ∈ os, fitsO o = true) → AllFair (playL l os)
  | [], _, hl, _, _ => hl
  | o :: os, l, hl, h1, h2 => playL_fair os (l := stepL l o) (stepL_fair hl (h1 o (by simp)) (h2 o (by simp))) (fun x hx => h1 x (by simp [hx])) (fun x hx => h2 x (by simp [hx]))

theorem len_entry (n : Nt) : (Tryz.prog.info? 41).map (·.size) = some (ntC n).length := by
  show _ = some 10
  kernel_rfl
theorem ntC_all (n : Nt) : (ntC n).toArray.all (·.oneCell') = true := Array.all_eq_true_iff_forall_mem.2 (fun v hv => ntC_one n v (by simpa using hv))
theorem entry_store (n : Nt) (w : World) : (storeCells ⟨w.heap.size, 0, none⟩ (ntC n)).run Tryz.prog (w.alloc (.cells #[.string ⟨#[]⟩, .int .u64 0, .int .i64 0, .int .i64 0, .int .i64 0, .int .i64 0, .int .i64 0, .int .i64 0, .int .i64 0, .int .i64 0] 41)) = .ok () ((w.alloc (.cells #[.string ⟨#[]⟩, .int .u64 0, .int .i64 0, .int .i64 0, .int .i64 0, .int .i64 0, .int .i64 0, .int .i64 0, .int .i64 0, .int .i64 0] 41)).setRow w.heap.size (ntC n).toArray) :=
  store_cells (Blk.new w _ _) (ntC n).toArray rfl (ntC_all n)
theorem entry_box {w W : World} {z : Array Value} {n : Nt} (h : (w.alloc (.cells z 41)).setRow w.heap.size (ntC n).toArray = W) : Hid (Blk W w.heap.size 41 (ntC n).toArray) ∧ Hid (Below w.heap.size w W) := by
  subst h
  exact ⟨hid (Blk.rowAt (Blk.new w _ z)), hid (below_setRow_ ((Below.refl _ w).alloc (Nat.le_refl _) _) (Nat.le_refl _))⟩

end Go.Proofs.YtpdfakjopeldmaaGreatDoor
