/-
  Contracts of strings.Join with a slash, strings.Clone and path.Normal.
-/
import Derived.Test.YtgjbhlianlbflaaGreatBPRefA
import Derived.Lib.Join
namespace Go.Proofs.YtgjbhlianlbflaaGreat
open Go.ChangeShapes Go.WideShapes Go.ChangeAt Go.RowKit Go.Shelf
attribute [local go_sem] Oper.semAt_some
theorem pclone_any (s : ByteArray) (w : World) (hs : s.size ≤ 281474976710656) : Calls Tryz.prog 69 #[.string s] w (Asks (.string s) w) := by
  go_enter Tryz.func69, Tryz.ntmps69
  go_wp2_with fail
  refine (Tryz.stringslite_Clone s _ hs).mono ?_
  rintro e w1 ⟨rfl, hb⟩
  have HB := hid hb
  clear hb
  go_wp2
  go_ret
  exact ⟨rfl, HB.out⟩
def NormEnd (h : Nat) (w : World) (c : Code) (pre : List ByteArray) (W : World) : Prop :=
  c = .ret ∧ takes [] (pre.map L) = none ∧ Blk W h 9 #[.string ⟨#[]⟩] ∧ Blk W (h + 1) 71 #[.int .i64 30] ∧ Below h w W
theorem NormEnd.own (h : Nat) (w : World) (c : Code) (B : Nat) (hw : h ≤ w.heap.size) (hB : h ≤ B) : OwnFrom B (NormEnd h w c) := fun _ _ _ _ hs hg hr =>
  ⟨hs.1, hs.2.1, hs.2.2.1.own hg hr, hs.2.2.2.1.own hg hr, below_own hs.2.2.2.2 hw hB hg hr⟩
end Go.Proofs.YtgjbhlianlbflaaGreat
