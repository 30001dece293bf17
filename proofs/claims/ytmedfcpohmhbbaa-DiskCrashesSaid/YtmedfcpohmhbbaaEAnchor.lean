/-
  The law's anchor: the document's example.
-/
import Derived.Test.YtmedfcpohmhbbaaESame
namespace Go.Proofs.Ytmedfcpohmhbbaa
open Go.ChangeShapes Go.WideShapes Go.ChangeAt Go.RowKit
set_option linter.unusedVariables false
set_option linter.unusedSimpArgs false

def exA : Dk := armD (newD 1024) 2
def exB : Dk := (appD exA 0 [1, 2, 3]).1
def exC : Dk := crashD exB 1 0
theorem exA_ok : exA.Ok := armD_ok (newD_ok (by decide) (by decide)) (by decide)
theorem exB_ok : exB.Ok := appD_ok exA_ok _ _
theorem exC_ok : exC.Ok := crashD_ok exB_ok _ _
theorem exB_err : (appD exA 0 [1, 2, 3]).2 = 40 := by decide
theorem exB_len : (exB.l 0).length = 2 := by decide
theorem exC_len : (exC.l 0).length = 1 := by decide
theorem exC_up : exC.dn = false := by decide

theorem sees_three (w : World) (T : TypeId) : Sees .u8 (w.alloc (.cells #[.int .u8 1, .int .u8 2, .int .u8 3] T)) (some ⟨w.heap.size, 0, none⟩) [1, 2, 3] := by
  have h := heap_alloc_new w (.cells #[.int .u8 1, .int .u8 2, .int .u8 3] T)
  have hc := fun i => cell_of_row _ w.heap.size i #[.int .u8 1, .int .u8 2, .int .u8 3] T (0, 0) h
  intro j x hj
  match j, hj with
  | 0, hj => simp at hj; subst hj; exact ⟨w.heap.size, 0, rfl, by simp, (hc 0).trans rfl⟩
  | 1, hj => simp at hj; subst hj; exact ⟨w.heap.size, 0, rfl, by simp, (hc 1).trans rfl⟩
  | 2, hj => simp at hj; subst hj; exact ⟨w.heap.size, 0, rfl, by simp, (hc 2).trans rfl⟩

/-- A disk that the call made, and nothing older is turned. -/
structure Mine (w W : World) (g : Nat) (d : Dk) (v : Nat → Value) : Prop where
  disk : DiskAt W w.heap.size g d v
  below : Below w.heap.size w W
theorem Mine.on {w W W' : World} {g : Nat} {d : Dk} {v : Nat → Value} (h : Mine w W g d v) (k : Below W.heap.size W W') : Mine w W' g d v := ⟨h.disk.on k, h.below.trans (k.mono h.below.size)⟩
theorem Mine.did {w W W' : World} {g : Nat} {d d' : Dk} {v : Nat → Value} {r : Value} {e : Ending} (h : Mine w W g d v) (k : DoesD w.heap.size g v d' r W e W') : ∃ v', e = .returned r ∧ Mine w W' g d' v' := by
  obtain ⟨v', he, D, T, _⟩ := k
  exact ⟨v', he, D, h.below.trans (T.below h.below.size (fun i hi o => by have := (h.disk.own o).1; omega))⟩

set_option maxRecDepth 100000 in
set_option maxHeartbeats 4000000 in
theorem anchor13 (w : World) : Calls Try.prog 5 #[] w fun e w' => e = .returned (.bool true) ∧ Below w.heap.size w w' := by
  have HN := hid (fun w => new_any 1024 w (by decide) (by decide))
  have HNot := hid (fun w => new_not 1 w (.inl (by decide)))
  have HArm := hid (fun W g v (h : Mine w W g (newD 1024) v) => arm_any w.heap.size g (newD 1024) v 2 W h.disk)
  have HApp := hid (fun W g v (bb : Nat) (h : Mine w W g exA v) hb => append_any w.heap.size g exA v 0 (some ⟨bb, 0, none⟩) [1, 2, 3] 3 3 W h.disk exA_ok rfl (fun h => by cases h) (by decide) (by decide) hb)
  have HRB := hid (fun W g v (h : Mine w W g exB v) => read_at w.heap.size g exB v 0 0 W h.disk exB_ok rfl (by decide))
  have HCr := hid (fun W g v (h : Mine w W g exB v) => crash_any w.heap.size g exB v 1 0 W h.disk exB_ok)
  have HRC := hid (fun W g v (h : Mine w W g exC v) => read_at w.heap.size g exC v 0 0 W h.disk exC_ok rfl (by decide))
  have HDn := hid (fun W g v (h : Mine w W g exC v) => down_any g exC W h.disk.cells.2.2.2.2.2.2.2)
  rw [exB_err] at HApp
  rw [exC_up] at HDn
  go_enter Try.func5, Try.ntmps5
  go_wp2_with fail
  with_reducible refine (HN.out _).mono ?_
  rintro e w1 ⟨rfl, D, B⟩
  have M1 : Hid (Mine w w1 w.heap.size (newD 1024) noV) := hid ⟨D, B⟩
  clear D B
  go_wp2_with fail
  with_reducible refine (HArm.out _ _ _ M1.out).mono ?_
  intro e w2 hd
  obtain ⟨v2, rfl, m⟩ := M1.out.did hd
  have M2 : Hid (Mine w w2 w.heap.size exA v2) := hid m
  clear m hd M1
  go_wp2_with fail
  have M3 : Hid (Mine w (w2.alloc (.cells #[.int .u8 1, .int .u8 2, .int .u8 3] 5)) w.heap.size exA v2) := hid (M2.out.on ((Below.refl _ _).alloc (Nat.le_refl _) _))
  have HAp : Hid (Apart (OwnD w.heap.size v2) (w2.alloc (.cells #[.int .u8 1, .int .u8 2, .int .u8 3] 5)) (some ⟨w2.heap.size, 0, none⟩) [1, 2, 3]) := hid (Apart.of_sees (sees_three _ _) (fun b o e _ hb => by
    injection e with e
    injection e with e1 e2
    have := (M2.out.disk.own hb).2
    omega))
  with_reducible refine (HApp.out _ _ _ _ M3.out HAp.out).mono ?_
  intro e w3 hd
  obtain ⟨v3, rfl, m⟩ := M3.out.did hd
  have M4 : Hid (Mine w w3 w.heap.size exB v3) := hid m
  clear m hd M3 M2 HAp
  go_wp2_with fail
  with_reducible refine (HRB.out _ _ _ M4.out).mono ?_
  intro e w4 hm
  obtain ⟨A4, c4, rfl, _, _, _, hb⟩ := hm.hands
  have M5 := hid (M4.out.on hb)
  rw [exB_len]
  clear hm hb M4
  go_wp2_with fail
  with_reducible refine (HCr.out _ _ _ M5.out).mono ?_
  intro e w5 hd
  obtain ⟨v5, rfl, m⟩ := M5.out.did hd
  have M6 : Hid (Mine w w5 w.heap.size exC v5) := hid m
  clear m hd M5
  go_wp2_with fail
  with_reducible refine (HNot.out _).mono ?_
  rintro e w6 ⟨rfl, rfl⟩
  go_wp2_with fail
  with_reducible refine (HRC.out _ _ _ M6.out).mono ?_
  intro e w7 hm
  obtain ⟨A7, c7, rfl, _, _, _, hb⟩ := hm.hands
  have M7 := hid (M6.out.on hb)
  rw [exC_len]
  clear hm hb M6
  go_wp2_with fail
  with_reducible refine (HDn.out _ _ _ M7.out).mono ?_
  rintro e w8 ⟨rfl, rfl⟩
  go_wp2
  go_ret
  exact ⟨rfl, M7.out.below⟩

end Go.Proofs.Ytmedfcpohmhbbaa
