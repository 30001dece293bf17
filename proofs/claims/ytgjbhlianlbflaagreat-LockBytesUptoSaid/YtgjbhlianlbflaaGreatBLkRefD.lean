/-
  The document's way, Granted; the law's entry, as the document has it.
-/
import Derived.Test.YtgjbhlianlbflaaGreatBLkRefC
import Derived.StillTailTactics
namespace Go.Proofs.YtgjbhlianlbflaaGreat
open Go.ChangeShapes Go.WideShapes Go.ChangeAt Go.RowKit Go.Maps Go.WideMaps
set_option linter.unusedVariables false
set_option linter.unusedSimpArgs false
set_option maxRecDepth 100000 in
theorem lkof_any (e : EnL) (w : World) : Calls Tryz.prog 18 #[entV e] w (Asks (entV e) w) := by
  obtain ⟨p, u, f, mo, n, st⟩ := e
  go_enter Tryz.func18, Tryz.ntmps18
  go_upto_region 1 with fail
  obtain ⟨W, hW⟩ : ∃ W, (w.alloc (.cells #[.string p, .int .u64 u, .string f, .int .i64 mo, .int .u64 n, .int .i64 st] 44)).alloc (.cells zeroEC 47) = W := ⟨_, rfl⟩
  rw [hW]
  obtain ⟨K0, K1, KB⟩ := ltwo_new hW
  clear hW
  obtain ⟨k, hk⟩ : ∃ k, w.heap.size = k := ⟨_, rfl⟩
  rw [hk] at K0 K1 KB ⊢
  have HK := hid hk
  clear hk
  obtain ⟨y0, y1, y2, y3, y4, y5⟩ := lcells6 K0.out
  obtain ⟨x0, x1, x2, x3, x4, x5⟩ := lcells6 K1.out
  obtain ⟨g0, g1, g2, g3, g4, g5⟩ := lkfrozen6 K1.out
  go_wp2_with fail
  have Q := put6_blk K1.out (.string p) (.int .u64 u) (.string f) (.int .i64 mo) (.int .u64 n) (.int .i64 st)
  have QB := put6_below KB.out (Nat.le_succ k) (.string p) (.int .u64 u) (.string f) (.int .i64 mo) (.int .u64 n) (.int .i64 st)
  unfold put6 at Q QB
  obtain ⟨w9, hw9⟩ : ∃ w9, ((((((W.setCell ⟨k + 1, 0, none⟩ (.string p)).setCell ⟨k + 1, 1, none⟩ (.int .u64 u)).setCell ⟨k + 1, 2, none⟩ (.string f)).setCell ⟨k + 1, 3, none⟩ (.int .i64 mo)).setCell ⟨k + 1, 4, none⟩ (.int .u64 n)).setCell ⟨k + 1, 5, none⟩ (.int .i64 st)) = w9 := ⟨_, rfl⟩
  rw [hw9] at Q QB ⊢
  clear hw9 x0 x1 x2 x3 x4 x5 y0 y1 y2 y3 y4 y5
  obtain ⟨c0, c1, c2, c3, c4, c5⟩ := lcells6 Q
  exact bodyPost_ret (v := entV ⟨p, u, f, mo, n, st⟩) (by simp [results, Tryz.results18, go_sem, c0, c1, c2, c3, c4, c5]) rfl ⟨rfl, by rw [HK.out]; exact QB⟩
end Go.Proofs.YtgjbhlianlbflaaGreat
