/-
  A new disk, and a copy of one (package disk).
-/
import Derived.Test.YtmedfcpohmhbbaaECrash
namespace Go.Proofs.Ytmedfcpohmhbbaa
open Go.ChangeShapes Go.WideShapes Go.ChangeAt Go.RowKit
set_option linter.unusedVariables false
set_option linter.unusedSimpArgs false

def newD (size : Int) : Dk := ⟨size, fun _ => [], fun _ => 0, false, 0, false⟩
theorem newD_ok {size : Int} (h0 : 1024 ≤ size) (h1 : size ≤ 4194304) : (newD size).Ok :=
  ⟨by show 0 ≤ size; omega, h1, by show ((0 : Nat) : Int) + ((0 : Nat) : Int) ≤ size; omega, fun _ _ => Nat.zero_le _, by show (0 : Int) ≤ 0; decide, by show (0 : Int) ≤ 9223372036854775807; decide⟩
def noV : Nat → Value := fun _ => .slice none 0 0
theorem noV_own {g b : Nat} (h : OwnD g noV b) : b = g := by
  rcases h with h | h | h
  · exact h
  · cases h
  · cases h

set_option maxRecDepth 100000 in
set_option maxHeartbeats 400000 in
theorem new_not (size : Int) (w : World) (h : size < 1024 ∨ 4194304 < size) :
    Calls Try.prog 6 #[.int .i64 size] w fun e w' => e = .returned (.tuple #[.pointer none, .int .i64 11]) ∧ w = w' := by
  rcases h with h | h
  · go_enter Try.func6, Try.ntmps6
    go_wp2
    refine bodyPost_ret (v := .tuple #[.pointer none, .int .i64 11]) (by simp [results, Try.results6, go_sem]) rfl ⟨rfl, rfl⟩
  · have h2 : 1024 ≤ size := by omega
    go_enter Try.func6, Try.ntmps6
    go_wp2
    refine bodyPost_ret (v := .tuple #[.pointer none, .int .i64 11]) (by simp [results, Try.results6, go_sem]) rfl ⟨rfl, rfl⟩

set_option maxRecDepth 100000 in
set_option maxHeartbeats 400000 in
theorem new_any (size : Int) (w : World) (h0 : 1024 ≤ size) (h1 : size ≤ 4194304) :
    Calls Try.prog 6 #[.int .i64 size] w fun e w' => e = .returned (.tuple #[.pointer (some ⟨w.heap.size, 0, none⟩), .int .i64 0]) ∧ DiskAt w' w.heap.size w.heap.size (newD size) noV ∧ Below w.heap.size w w' := by
  have HR : Hid (DiskAt (w.alloc (.cells #[.int .i64 size, .slice none 0 0, .int .i64 0, .slice none 0 0, .int .i64 0, .bool false, .int .i64 0, .bool false] 54)) w.heap.size w.heap.size (newD size) noV) := hid
    ⟨Blk.new w _ _, Nat.le_refl _, fun _ _ => World.ownsRow_nil _ _ _ _, fun b hb => by cases hb⟩
  go_enter Try.func6, Try.ntmps6
  go_wp2
  refine bodyPost_ret (v := .tuple #[.pointer (some ⟨w.heap.size, 0, none⟩), .int .i64 0]) (by simp [results, Try.results6, go_sem]) rfl ⟨rfl, HR.out, (Below.refl _ _).alloc (Nat.le_refl _) _⟩

/-- While a copy's files are cloned. -/
def CopyAt (w wr : World) (d : Dk) (v : Nat → Value) (j : Nat) : Prop :=
  ∃ v', Blk wr w.heap.size 54 (dkC d v') ∧ (∀ i, i < j → wr.ownsRow w.heap.size 5 1 (v' i) (d.l i).length ((d.l i).map fun y : Nat => Value.int .u8 (y : Int))) ∧ (∀ i, j ≤ i → v' i = v i) ∧
    (∀ b, (v' 0).ownBlock = some b → 2 ≤ j → (v' 1).ownBlock ≠ some b) ∧ Below w.heap.size w wr

theorem copy_step {w wr w1 : World} {d : Dk} {v v' : Nat → Value} {j : Nat} (hj : j < 2) {u : Value} (hB : Blk wr w.heap.size 54 (dkC d v')) (hR : ∀ i, i < j → wr.ownsRow w.heap.size 5 1 (v' i) (d.l i).length ((d.l i).map fun y : Nat => Value.int .u8 (y : Int))) (hV : ∀ i, j ≤ i → v' i = v i)
    (hb : Below w.heap.size w wr) (hown : w1.ownsRow wr.heap.size 5 1 u (d.l j).length ((d.l j).map fun y : Nat => Value.int .u8 (y : Int))) (h1 : Below wr.heap.size wr w1) :
    CopyAt w (w1.setCell ⟨w.heap.size, 1 + j * 2, none⟩ u) d v (j + 1) := by
  have hB1 := hB.below h1 hB.lt
  have g2 : w1.grownBy (w1.setCell ⟨w.heap.size, 1 + j * 2, none⟩ u) (some w.heap.size) := only_setCell (World.grownBy.refl _ _) (.inl rfl) _
  have hw : w.heap.size < wr.heap.size := hB.lt
  refine ⟨updD v' j u, ?_, fun i hi => ?_, fun i hi => ?_, fun b hb0 hj2 hb1 => ?_, ?_⟩
  · have h2 := hB1.set_ (1 + j * 2) u
    rw [dkC_set d v' u (d.l j) j hj, updD_same] at h2
    exact h2
  · by_cases he : i = j
    · subst he
      rw [updD_at]
      have h3 := own_low hown (Nat.le_of_lt hw)
      exact h3.kept g2 (.inr (row_neD h3 hB1 (by decide)))
    · rw [updD_far _ _ he]
      have h3 : w1.ownsRow w.heap.size 5 1 (v' i) (d.l i).length ((d.l i).map fun y : Nat => Value.int .u8 (y : Int)) := row_turns (S := fun _ => False) (hR i (by omega)) (Turns.of_below h1) (fun _ _ h => h)
      exact h3.kept g2 (.inr (row_neD h3 hB1 (by decide)))
  · rw [updD_far _ _ (by omega)]
    exact hV i (by omega)
  · have he : j = 1 := by omega
    subst he
    rw [updD_far _ _ (by decide)] at hb0
    rw [updD_at] at hb1
    have h4 := (hown.lt b hb1).1
    have h5 := ((hR 0 (by decide)).lt b hb0).2
    omega
  · exact (hb.trans (h1.mono (by omega))).setCell (p := ⟨w.heap.size, 1 + j * 2, none⟩) (Nat.le_refl _) _

set_option maxRecDepth 100000 in
set_option maxHeartbeats 2000000 in
theorem copy_any (base g : Nat) (d : Dk) (v : Nat → Value) (w : World) (h : DiskAt w base g d v) (ho : d.Ok) :
    Calls Try.prog 8 #[.pointer (some ⟨g, 0, none⟩)] w fun e w' => ∃ v', e = .returned (.pointer (some ⟨w.heap.size, 0, none⟩)) ∧ DiskAt w' w.heap.size w.heap.size d v' ∧ Below w.heap.size w w' := by
  have HD := hid h
  have HO := hid ho
  obtain ⟨c0, c1, c2, c3, c4, c5, c6, c7⟩ := h.cells
  obtain ⟨A0, k0, e0, _⟩ := h.slice (k := 0) (by decide)
  obtain ⟨A1, k1, e1, _⟩ := h.slice (k := 1) (by decide)
  have E0 := hid e0
  have E1 := hid e1
  rw [e0] at c1
  rw [e1] at c3
  clear h ho e0 e1
  go_enter Try.func8, Try.ntmps8
  go_upto_region 2 with fail
  obtain ⟨W, hW⟩ : ∃ W, w.alloc (.cells #[.int .i64 d.sz, .slice A0 (d.l 0).length k0, .int .i64 (d.s 0 : Int), .slice A1 (d.l 1).length k1, .int .i64 (d.s 1 : Int), .bool d.arm, .int .i64 d.un, .bool d.dn] 54) = W := ⟨_, rfl⟩
  rw [hW]
  obtain ⟨K0, KB⟩ := one_box hW
  have C0 : Hid (CopyAt w W d v 0) := hid ⟨v, by unfold dkC; rw [E0.out, E1.out]; exact K0.out, fun i hi => absurd hi (by omega), fun _ _ => rfl, fun _ _ h => absurd h (by omega), KB.out⟩
  clear hW K0 KB c0 c1 c2 c3 c4 c5 c6 c7 E0 E1
  go_wp2_with fail
  go_loopw [8] (fun iv wr => ∃ j : Nat, j ≤ 2 ∧ iv = .int .i64 j ∧ Hid (CopyAt w wr d v j)) (fun iv _ => 2 - (intOf iv).toNat)
  case atStart => exact ⟨0, by decide, rfl, C0⟩
  case round =>
    clear C0
    obtain ⟨j, hj, rfl, HC⟩ := hrel
    by_cases hlt : j < 2
    · obtain ⟨v1, B, R, V, P, Bl⟩ := HC.out
      have BB := hid B
      have RR := hid R
      have VV := hid V
      have HB := hid Bl
      have D1 : DiskAt wr base g d v := HD.out.on Bl
      obtain ⟨A, c, e1, hA, _, hS⟩ := D1.slice hlt
      have HL := HO.out.len hlt
      have c1 : wr.cell? ⟨w.heap.size, 1 + j * 2, none⟩ = some (v1 j) := (B.cell _).trans (dkC_get d v1 j hlt)
      have f1 := B.frozen (1 + j * 2)
      rw [V j (Nat.le_refl _), e1] at c1
      have HCl := hid (clone_any A (d.l j) _ c wr rfl (by omega) hA hS)
      have hj2 : (j : Int) < 2 := by omega
      clear B R V P Bl D1 e1 hA hS HC
      go_wp2_with fail
      with_reducible refine HCl.out.mono ?_
      rintro e w1 ⟨s, rfl, hown, hb⟩
      have C1 := hid (copy_step hlt BB.out RR.out VV.out HB.out hown hb)
      have c2 : w1.cell? ⟨w.heap.size, 1 + j * 2, none⟩ = some (v1 j) := ((BB.out.below hb BB.out.lt).cell _).trans (dkC_get d v1 j hlt)
      have f2 := (BB.out.below hb BB.out.lt).frozen (1 + j * 2)
      obtain ⟨As, cs, rfl⟩ := own_shape hown
      clear hown hb BB RR VV HB HCl c1 f1
      go_wp2
      go_roundw
      case rel => exact ⟨j + 1, by omega, by go_num, C1⟩
      case measure => simp only [intOf]; omega
    · obtain rfl : j = 2 := by omega
      obtain ⟨v1, B, R, V, P, Bl⟩ := HC.out
      have HW : Hid (DiskAt wr w.heap.size w.heap.size d v1 ∧ Below w.heap.size w wr) := hid ⟨⟨B, Nat.le_refl _, R, fun b hb => P b hb (Nat.le_refl _)⟩, Bl⟩
      clear B R V P Bl HC
      go_wp2
      go_ret
      exact ⟨v1, rfl, HW.out.1, HW.out.2⟩

end Go.Proofs.Ytmedfcpohmhbbaa
