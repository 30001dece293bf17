/-
  What is done to a disk (package disk): its units; Arm, Sync, Trim, Crash, Append.
-/
import Derived.Test.YtmedfcpohmhbbaaEDisk
import Derived.Deep.Cut
import Derived.Deep.MidRow
import Derived.Laws.Rows
import Derived.Laws.Tables
import Derived.BigRegion
import Derived.Deep.RegionLaw
import Derived.Deep.RegionWith
import Derived.Deep.RegionHeld3
namespace Go.Proofs.Ytmedfcpohmhbbaa
open Go.ChangeShapes Go.WideShapes Go.ChangeAt Go.RowKit
set_option linter.unusedVariables false
set_option linter.unusedSimpArgs false

theorem spent_off {d : Dk} (h : d.arm = false) (n : Nat) : spentD d n = d ∧ doneD d n = n ∧ errD d n = 0 ∧ shortD d n = false := by
  unfold spentD doneD errD shortD; simp [h]
theorem spent_yes {d : Dk} (h : d.arm = true) {n : Nat} (hn : (n : Int) ≤ d.un) : spentD d n = { d with un := d.un - (n : Int) } ∧ doneD d n = n ∧ errD d n = 0 ∧ shortD d n = false := by
  have h1 : shortD d n = false := by unfold shortD; rw [h]; simp; omega
  have h2 : min n d.un.toNat = n := by omega
  refine ⟨?_, ?_, ?_, h1⟩
  · unfold spentD; rw [if_pos h, h1, h2, Bool.or_false]
  · unfold doneD; rw [if_pos h, h2]
  · unfold errD; rw [h1]; rfl
theorem spent_no {d : Dk} (h : d.arm = true) (h0 : 0 ≤ d.un) {n : Nat} (hn : d.un < (n : Int)) : spentD d n = { d with un := 0, dn := true } ∧ (doneD d n : Int) = d.un ∧ errD d n = 40 ∧ shortD d n = true := by
  have h1 : shortD d n = true := by unfold shortD; rw [h]; simp; omega
  have h2 : ((min n d.un.toNat : Nat) : Int) = d.un := by omega
  refine ⟨?_, ?_, ?_, h1⟩
  · unfold spentD; rw [if_pos h, h1, h2, Bool.or_true, Int.sub_self]
  · unfold doneD; rw [if_pos h]; exact h2
  · unfold errD; rw [h1]; rfl

theorem DoesD.same {w w' : World} {base g : Nat} {d d' : Dk} {v : Nat → Value} {r : Value} (h : DiskAt w' base g d v) (hd : d' = d) (t : Turns (OwnD g v) w w') : DoesD base g v d' r w (.returned r) w' := by
  subst hd; exact ⟨v, rfl, h, t, fun b hb => .inl hb⟩
theorem DoesD.on {w w1 w2 : World} {base g : Nat} {d : Dk} {v : Nat → Value} {r : Value} {e : Ending} (h : DoesD base g v d r w1 e w2) (k : Turns (OwnD g v) w w1) : DoesD base g v d r w e w2 := by
  obtain ⟨v', h1, h2, h3, h4⟩ := h
  exact ⟨v', h1, h2, k.trans h3 (fun _ _ h => h), fun b hb => (h4 b hb).imp id (fun h => Nat.le_trans k.size h)⟩

set_option maxRecDepth 100000 in
set_option maxHeartbeats 400000 in
theorem do_any (base g : Nat) (d : Dk) (v : Nat → Value) (n : Nat) (a : Int) (w : World) (h : DiskAt w base g d v) (ho : d.Ok) (ha : a = n) (hn : (n : Int) ≤ 9223372036854775807) :
    Calls Try.prog 24 #[.pointer (some ⟨g, 0, none⟩), .int .i64 a] w (DoesD base g v (spentD d n) (.tuple #[.int .i64 (doneD d n : Int), .int .i64 (errD d n)]) w) := by
  subst ha
  obtain ⟨_, _, _, _, _, c5, c6, c7⟩ := h.cells
  have f6 := h.blk.frozen 6
  have f7 := h.blk.frozen 7
  have u0 := ho.un0
  have u1 := ho.un1
  cases hA : d.arm with
  | false =>
    obtain ⟨q1, q2, q3, _⟩ := spent_off hA n
    have HR : Hid (DoesD base g v (spentD d n) (.tuple #[.int .i64 (doneD d n : Int), .int .i64 (errD d n)]) w (.returned (.tuple #[.int .i64 (n : Int), .int .i64 0])) w) := hid (by rw [q2, q3]; exact .same h q1 (.refl _ _))
    rw [hA] at c5
    clear h ho q1 q2 q3 hA
    go_enter Try.func24, Try.ntmps24
    go_wp2
    refine bodyPost_ret (v := .tuple #[.int .i64 (n : Int), .int .i64 0]) (by simp [results, Try.results24, go_sem]) rfl HR.out
  | true =>
    rcases (show (n : Int) ≤ d.un ∨ d.un < (n : Int) by omega) with hlt | hlt
    · obtain ⟨q1, q2, q3, _⟩ := spent_yes hA hlt
      have hm := fun (w : World) (ts : Array TypeId) (t : TypeId) => run_minE Try.prog (n : Int) d.un n (by omega) w ts t
      have HR : Hid (DoesD base g v (spentD d n) (.tuple #[.int .i64 (doneD d n : Int), .int .i64 (errD d n)]) w (.returned (.tuple #[.int .i64 (n : Int), .int .i64 0])) (w.setCell ⟨g, 6, none⟩ (.int .i64 (d.un - (n : Int))))) := hid (by
        rw [q2, q3]
        exact .same (h.put 6 _ (d' := { d with un := d.un - (n : Int) }) rfl rfl) q1 ((Turns.refl _ _).at_ _ _))
      rw [hA] at c5
      obtain ⟨u, hu⟩ : ∃ u, d.un = u := ⟨_, rfl⟩
      rw [hu] at c6 hm u0 u1 hlt HR
      clear h ho q1 q2 q3 hA hu
      go_enter Try.func24, Try.ntmps24
      go_wp2
      refine bodyPost_ret (v := .tuple #[.int .i64 (n : Int), .int .i64 0]) (by simp [results, Try.results24, go_sem]) rfl HR.out
    · obtain ⟨q1, q2, q3, _⟩ := spent_no hA u0 hlt
      have hm := fun (w : World) (ts : Array TypeId) (t : TypeId) => run_minE Try.prog (n : Int) d.un d.un (by omega) w ts t
      have HR : Hid (DoesD base g v (spentD d n) (.tuple #[.int .i64 (doneD d n : Int), .int .i64 (errD d n)]) w (.returned (.tuple #[.int .i64 d.un, .int .i64 40])) ((w.setCell ⟨g, 6, none⟩ (.int .i64 0)).setCell ⟨g, 7, none⟩ (.bool true))) := hid (by
        rw [q2, q3]
        exact .same ((h.put 6 _ (d' := { d with un := 0 }) rfl rfl).put 7 _ (d' := { d with un := 0, dn := true }) rfl rfl) q1 (((Turns.refl _ _).at_ _ _).at_ _ _))
      rw [hA] at c5
      obtain ⟨u, hu⟩ : ∃ u, d.un = u := ⟨_, rfl⟩
      rw [hu] at c6 hm u0 u1 hlt HR
      have hz : u - u = 0 := by omega
      clear h ho q1 q2 q3 hA hu
      go_enter Try.func24, Try.ntmps24
      go_wp2
      refine bodyPost_ret (v := .tuple #[.int .i64 u, .int .i64 40]) (by simp [results, Try.results24, go_sem]) rfl HR.out

set_option maxRecDepth 100000 in
set_option maxHeartbeats 400000 in
theorem arm_any (base g : Nat) (d : Dk) (v : Nat → Value) (n : Int) (w : World) (h : DiskAt w base g d v) :
    Calls Try.prog 11 #[.pointer (some ⟨g, 0, none⟩), .int .i64 n] w (DoesD base g v (armD d n) (.tuple #[]) w) := by
  obtain ⟨_, _, _, _, _, c5, c6, c7⟩ := h.cells
  have f5 := h.blk.frozen 5
  have f6 := h.blk.frozen 6
  obtain ⟨m, hm0⟩ : ∃ m, (if n < 0 then 0 else n) = m := ⟨_, rfl⟩
  have hm := fun (w : World) (ts : Array TypeId) (t : TypeId) => run_maxE Try.prog n 0 m hm0 w ts t
  have HR : Hid (DoesD base g v (armD d n) (.tuple #[]) w (.returned (.tuple #[])) ((w.setCell ⟨g, 5, none⟩ (.bool true)).setCell ⟨g, 6, none⟩ (.int .i64 m))) := hid
    (.same ((h.put 5 _ (d' := { d with arm := true }) rfl rfl).put 6 _ (d' := { d with arm := true, un := m }) rfl rfl) (by unfold armD; rw [hm0]) (((Turns.refl _ _).at_ _ _).at_ _ _))
  clear h hm0
  go_enter Try.func11, Try.ntmps11
  go_wp2
  refine bodyPost_ret (v := .tuple #[]) (results_none (by kernel_rfl) _ _ _) rfl HR.out

end Go.Proofs.Ytmedfcpohmhbbaa
