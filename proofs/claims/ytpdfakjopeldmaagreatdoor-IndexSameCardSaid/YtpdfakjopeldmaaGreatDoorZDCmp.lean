/-
  The order of entries: package index's compare, and what it calls.
-/
import Derived.Test.YtpdfakjopeldmaaGreatDoorMgD
import Derived.Sort.Grow
namespace Go.Proofs.YtpdfakjopeldmaaGreatDoor
open Go.ChangeShapes Go.WideShapes Go.ChangeAt Go.RowKit Go.Maps Go.WideMaps Go.Shelf Go.Sort
set_option linter.unusedVariables false
set_option linter.unusedSimpArgs false

theorem isnanu_any (u : Int) (w : World) : Calls Tryz.prog 81 #[.int .u64 u] w fun e w' => e = .returned (.bool false) ∧ w = w' := by
  go_enter Tryz.func81, Tryz.ntmps81
  go_wp2
  go_ret
  exact ⟨rfl, rfl⟩

set_option maxRecDepth 100000 in
theorem cmpu_any (u v : Int) (w : World) : Calls Tryz.prog 52 #[.int .u64 u, .int .u64 v] w fun e w' => e = .returned (.int .i64 (Lib.compareInt u v)) ∧ w = w' := by
  rcases (show u < v ∨ v < u ∨ u = v by omega) with h | h | h
  · have hr : Hid (Lib.compareInt u v = -1) := hid (by unfold Lib.compareInt; rw [if_pos h])
    go_enter Tryz.func52, Tryz.ntmps52
    go_wp2_with (go_at_call 81; refine (isnanu_any _ _).mono ?_; rintro e w' ⟨rfl, rfl⟩)
    go_ret
    exact ⟨ret_num hr.out.symm, rfl⟩
  · have hr : Hid (Lib.compareInt u v = 1) := hid (by unfold Lib.compareInt; rw [if_neg (by omega), if_pos h])
    have h2 : ¬ u < v := by omega
    go_enter Tryz.func52, Tryz.ntmps52
    go_wp2_with (go_at_call 81; refine (isnanu_any _ _).mono ?_; rintro e w' ⟨rfl, rfl⟩)
    go_ret
    exact ⟨ret_num hr.out.symm, rfl⟩
  · subst h
    have hr : Hid (Lib.compareInt u u = 0) := hid (by unfold Lib.compareInt; rw [if_neg (by omega), if_neg (by omega)])
    go_enter Tryz.func52, Tryz.ntmps52
    go_wp2_with (go_at_call 81; refine (isnanu_any _ _).mono ?_; rintro e w' ⟨rfl, rfl⟩)
    go_ret
    exact ⟨ret_num hr.out.symm, rfl⟩

def orK (p q : Int) : Int := if p = 0 then q else p

set_option maxRecDepth 100000 in
theorem or_any (b cap : Nat) (p q : Int) (w : World) (h0 : w.cell? ⟨b, 0, none⟩ = some (.int .i64 p)) (h1 : w.cell? ⟨b, 1, none⟩ = some (.int .i64 q)) :
    Calls Tryz.prog 50 #[.slice (some ⟨b, 0, none⟩) 2 cap] w fun e w' => e = .returned (.int .i64 (orK p q)) ∧ w = w' := by
  have HK : Hid (∀ x, orK p q = x ↔ (p = 0 ∧ q = x) ∨ (p ≠ 0 ∧ p = x)) := hid (fun x => by unfold orK; split <;> simp_all)
  go_enter Tryz.func50, Tryz.ntmps50
  go_wp2_with fail
  go_loop [8] (fun iv => ∃ j : Nat, j ≤ 2 ∧ iv = .int .i64 j ∧ (0 < j → p = 0) ∧ (1 < j → q = 0)) (fun iv => 2 - (intOf iv).toNat)
  case atStart => exact ⟨0, by omega, rfl, by omega, by omega⟩
  case round =>
    obtain ⟨j, hj, rfl, hp, hq⟩ := hrel
    rcases (show j = 0 ∨ j = 1 ∨ j = 2 by omega) with rfl | rfl | rfl
    · by_cases hp0 : p = 0
      · subst hp0
        go_wp2
        go_round
        case rel => exact ⟨1, by omega, rfl, by simp, by omega⟩
        case measure => simp [intOf]
      · have H : Hid (orK p q = p) := hid (by unfold orK; rw [if_neg hp0])
        go_wp2
        go_ret
        exact ⟨ret_num H.out.symm, rfl⟩
    · have hp0 := hp (by omega)
      subst hp0
      by_cases hq0 : q = 0
      · subst hq0
        go_wp2
        go_round
        case rel => exact ⟨2, by omega, rfl, by simp, by simp⟩
        case measure => simp [intOf]
      · have H : Hid (orK 0 q = q) := hid (by unfold orK; rw [if_pos rfl])
        go_wp2
        go_ret
        exact ⟨ret_num H.out.symm, rfl⟩
    · have hp0 := hp (by omega)
      have hq0 := hq (by omega)
      subst hp0 hq0
      have H : Hid (orK 0 0 = 0) := hid (by unfold orK; rw [if_pos rfl])
      go_wp2
      go_ret
      exact ⟨ret_num H.out.symm, rfl⟩

/-- The order of two keys: by footprint, byte by byte, then by number. -/
def cmpK (f : ByteArray) (u : Int) (g : ByteArray) (v : Int) : Int := orK (Lib.compareBytes f.data.toList g.data.toList) (Lib.compareInt u v)

theorem three_grow (w : World) (A B C : Obj) : (((w.alloc A).alloc B).alloc C).drew = grow (w.drewN 1) #[A, B, C] := by rw [alloc_eq_grow, alloc_eq_grow, alloc_eq_grow, grow_grow, grow_grow]; rfl
set_option maxRecDepth 100000 in
set_option maxHeartbeats 4000000 in
theorem ixcompare_any (f : ByteArray) (u : Int) (a : Nat → Int) (g : ByteArray) (v : Int) (b : Nat → Int) (w : World) :
    Calls Tryz.prog 25 #[.agg #[.string f, .int .u64 u, .int .i64 (a 0), .int .i64 (a 1), .int .i64 (a 2), .int .i64 (a 3), .int .i64 (a 4), .int .i64 (a 5), .int .i64 (a 6), .int .i64 (a 7)], .agg #[.string g, .int .u64 v, .int .i64 (b 0), .int .i64 (b 1), .int .i64 (b 2), .int .i64 (b 3), .int .i64 (b 4), .int .i64 (b 5), .int .i64 (b 6), .int .i64 (b 7)]] w fun e w' => e = .returned (.int .i64 (cmpK f u g v)) ∧ ∃ q os', w' = grow (w.drewN q) os' := by
  have HC := hid (fun w => Tryz.strings_Compare f g w)
  have HU := hid (fun w => cmpu_any u v w)
  obtain ⟨p, hp⟩ : ∃ p, Lib.compareBytes f.data.toList g.data.toList = p := ⟨_, rfl⟩
  obtain ⟨q, hq⟩ : ∃ q, Lib.compareInt u v = q := ⟨_, rfl⟩
  have HR : Hid (cmpK f u g v = orK p q) := hid (by unfold cmpK; rw [hp, hq])
  rw [hp] at HC
  rw [hq] at HU
  clear hp hq
  go_enter Tryz.func25, Tryz.ntmps25
  go_upto_region 1 with fail
  obtain ⟨W, hW⟩ : ∃ W, (w.alloc (.cells (#[.string f, .int .u64 u, .int .i64 (a 0), .int .i64 (a 1), .int .i64 (a 2), .int .i64 (a 3), .int .i64 (a 4), .int .i64 (a 5), .int .i64 (a 6), .int .i64 (a 7)]) 41)).alloc (.cells (#[.string g, .int .u64 v, .int .i64 (b 0), .int .i64 (b 1), .int .i64 (b 2), .int .i64 (b 3), .int .i64 (b 4), .int .i64 (b 5), .int .i64 (b 6), .int .i64 (b 7)]) 41) = W := ⟨_, rfl⟩
  rw [hW]
  obtain ⟨K0, K1, KB⟩ := two_new hW
  have HW := hid hW
  clear hW
  obtain ⟨k, hk⟩ : ∃ k, w.heap.size = k := ⟨_, rfl⟩
  rw [hk] at K0 K1 KB
  rw [hk]
  clear hk
  have L0 := hid (fun o => K0.out.below ((Below.refl _ W).alloc (Nat.le_refl _) o) K0.out.lt)
  have L1 := hid (fun o => K1.out.below ((Below.refl _ W).alloc (Nat.le_refl _) o) K1.out.lt)
  go_region_held3 (fun w' => (w'.cell? ⟨k, 0, none⟩ = some (.string f) ∧ w'.cell? ⟨k, 1, none⟩ = some (.int .u64 u)) ∧ w'.cell? ⟨k + 1, 0, none⟩ = some (.string g) ∧ w'.cell? ⟨k + 1, 1, none⟩ = some (.int .u64 v))
    (first | exact ⟨⟨((K0.out).cell 0).trans rfl, ((K0.out).cell 1).trans rfl⟩, ((K1.out).cell 0).trans rfl, ((K1.out).cell 1).trans rfl⟩ | exact ⟨⟨((K0.out.drew).cell 0).trans rfl, ((K0.out.drew).cell 1).trans rfl⟩, ((K1.out.drew).cell 0).trans rfl, ((K1.out.drew).cell 1).trans rfl⟩ | exact ⟨⟨(((L0.out _).drew).cell 0).trans rfl, (((L0.out _).drew).cell 1).trans rfl⟩, (((L1.out _).drew).cell 0).trans rfl, (((L1.out _).drew).cell 1).trans rfl⟩)
    (first
      | (go_at_call 51; (with_reducible refine (HC.out _).mono ?_); rintro e1 w1 ⟨rfl, rfl⟩)
      | (go_at_call 52; (with_reducible refine (HU.out _).mono ?_); rintro e1 w2 ⟨rfl, rfl⟩)
      | (go_at_call 50; (with_reducible refine (or_any _ _ p q _ (by simp) (by simp)).mono ?_); rintro e1 w3 ⟨rfl, rfl⟩))
  rename_i hHeld
  clear hHeld
  go_wp2
  go_ret
  exact ⟨ret_num HR.out.symm, 1, #[.cells (#[.string f, .int .u64 u, .int .i64 (a 0), .int .i64 (a 1), .int .i64 (a 2), .int .i64 (a 3), .int .i64 (a 4), .int .i64 (a 5), .int .i64 (a 6), .int .i64 (a 7)]) 41, .cells (#[.string g, .int .u64 v, .int .i64 (b 0), .int .i64 (b 1), .int .i64 (b 2), .int .i64 (b 3), .int .i64 (b 4), .int .i64 (b 5), .int .i64 (b 6), .int .i64 (b 7)]) 41, .cells #[.int .i64 p, .int .i64 q] 3], by rw [← HW.out]; exact three_grow _ _ _ _⟩

end Go.Proofs.YtpdfakjopeldmaaGreatDoor
