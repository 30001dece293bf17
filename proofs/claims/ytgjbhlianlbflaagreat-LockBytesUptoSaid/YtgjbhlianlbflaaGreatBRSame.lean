/-
  The contract of the document's Same, of bytes that are the same.
-/
import Derived.Test.YtgjbhlianlbflaaGreatBBase
import Derived.WalkKit
import Derived.WalkSpells
import Derived.WalkLawsBesides
import Derived.Deep.QuietTactic
import Derived.BigQuiet
namespace Go.Proofs.YtgjbhlianlbflaaGreat
open Go.RowKit
set_option maxRecDepth 100000 in
set_option maxHeartbeats 400000 in
theorem same_true (A B : Option Addr) (l : List Nat) (ca cb : Nat) (w : World) (hl : l.length ≤ 9223372036854775807) (hA : Sees .u8 w A l) (hB : Sees .u8 w B l) :
    Calls Tryz.prog 24 #[.slice A l.length ca, .slice B l.length cb] w fun e w' => e = .returned (.bool true) ∧ Below w.heap.size w w' := by
  have HA := hid hA
  have HB := hid hB
  clear hA hB
  go_enter Tryz.func24, Tryz.ntmps24
  go_wp2
  go_loopw [5] (fun i wr => ∃ k : Nat, k ≤ l.length ∧ i = .int .i64 k ∧ Below w.heap.size w wr) (fun i _ => l.length - (intOf i).toNat)
  case atStart => exact ⟨0, Nat.zero_le _, rfl, Below.refl _ _⟩
  case round =>
    obtain ⟨k, hk, rfl, hb⟩ := hrel
    by_cases hlt : k < l.length
    · obtain ⟨b, o, rfl, _, hc⟩ := (HA.out.below hb) k l[k] (List.getElem?_eq_getElem hlt)
      obtain ⟨b', o', rfl, _, hc'⟩ := (HB.out.below hb) k l[k] (List.getElem?_eq_getElem hlt)
      go_wp2
      go_quiet (fail)
      go_wp2
      go_roundw
      case rel => exact ⟨k + 1, by omega, by go_num, below_drewN hb _⟩
      case measure => simp [intOf]; omega
    · go_wp2
      go_ret
      exact ⟨rfl, hb⟩
theorem same_as (A B : Option Addr) (l : List Nat) (n ca cb : Nat) (w : World) (hl : n ≤ 9223372036854775807) (hn : l.length = n) (hA : Sees .u8 w A l) (hB : Sees .u8 w B l) :
    Calls Tryz.prog 24 #[.slice A n ca, .slice B n cb] w fun e w' => e = .returned (.bool true) ∧ Below w.heap.size w w' := by
  subst hn; exact same_true A B l ca cb w hl hA hB
end Go.Proofs.YtgjbhlianlbflaaGreat
