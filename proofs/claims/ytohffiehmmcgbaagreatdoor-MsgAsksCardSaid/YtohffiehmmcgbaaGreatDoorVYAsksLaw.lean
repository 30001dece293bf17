/-
  The law MsgAsks, walked.
-/
import Derived.Test.YtohffiehmmcgbaaGreatDoorVYAsksA
import Derived.Test.YtohffiehmmcgbaaGreatDoorVYAsksB
import Derived.Test.YtohffiehmmcgbaaGreatDoorVYAsksC
namespace Go.Proofs.YtohffiehmmcgbaaGreatDoor.msgAsks
open Go.ChangeShapes Go.WideShapes Go.ChangeAt Go.RowKit Go.Lib
set_option linter.unusedVariables false
set_option linter.unusedSimpArgs false

theorem walk (k a b bal : Int) (x y : J) (ok : Bool) (w0 : (Lit.int .i64 k).wf = true) (w1 : (Lit.int .i64 a).wf = true) (w2 : (Lit.int .i64 b).wf = true) (w3 : (Lit.int .u32 bal).wf = true) (hox : okJ x) (hkx : okK x.c) (_ : ∀ i, i < 8 → (Lit.int .i64 (x.f i)).wf = true) (_ : -9223372036854775808 ≤ x.st ∧ x.st ≤ 9223372036854775807) (hoy : okJ y) (hky : okK y.c) (_ : ∀ i, i < 8 → (Lit.int .i64 (y.f i)).wf = true) (_ : -9223372036854775808 ≤ y.st ∧ y.st ≤ 9223372036854775807) (w : World) (hP : PartsIs w) :
    Calls Tryz.prog 8 #[.int .i64 k, .int .i64 a, .int .i64 b, .int .u32 bal, .agg (rowJ x), .agg (rowJ y), .bool ok] w fun e w' => e = .returned (.bool true) ∧ Below w.heap.size w w' := by
  have hB := u32_of w3
  by_cases h1 : k = 1
  · subst h1; exact walk_1 a b bal x y ok hB hox hkx hoy hky w hP
  by_cases h3 : k = 3
  · subst h3; exact walk_3 a b bal x y ok hB hox hkx hoy hky w hP
  by_cases h5 : k = 5
  · subst h5; exact walk_5 a b bal x y ok hB hox hkx hoy hky w hP
  by_cases h6 : k = 6
  · subst h6; exact walk_6 a b bal x y ok hB hox hkx hoy hky w hP
  exact walk_other k a b bal x y ok w hP h1 h3 h5 h6

end Go.Proofs.YtohffiehmmcgbaaGreatDoor.msgAsks
