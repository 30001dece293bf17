/-
  Contract of the laws' anchor.
-/
import Derived.Test.YtbnhkpceihfalaaPNorm
namespace Go.Proofs.Ytbnhkpceihfalaa
open Go.ChangeShapes Go.WideShapes Go.ChangeAt Go.RowKit

set_option maxRecDepth 100000 in
set_option maxHeartbeats 1000000 in
theorem anchor_any (w : World) : Calls Try.prog 10 #[] w (Asks (.bool true) w) := by
  go_enter Try.func10, Try.ntmps10
  go_wp2_with fail
  refine (normal_any ⟨#[47, 97, 47, 47, 98, 47, 46, 46, 47, 99]⟩ _ (by decide)).mono ?_
  rintro e w1 ⟨r, rfl, hr, hb⟩
  obtain rfl : r = ⟨#[97, 47, 99]⟩ := eq_of_L (hr.trans (by decide))
  rw [show (normal (L ⟨#[47, 97, 47, 47, 98, 47, 46, 46, 47, 99]⟩)).2 = 0 by decide]
  have HB := hid hb
  clear hr hb
  go_wp2_with fail
  refine (overlap_any ⟨#[97]⟩ ⟨#[97, 47, 98]⟩ _ (by decide) (by decide)).mono ?_
  rintro e w2 ⟨rfl, hb⟩
  rw [show overlap (L ⟨#[97]⟩) (L ⟨#[97, 47, 98]⟩) = true by decide]
  have HB2 := hid (below_on HB.out hb)
  clear hb
  go_wp2_with fail
  refine (overlap_any ⟨#[97, 47, 98]⟩ ⟨#[97, 47, 99]⟩ _ (by decide) (by decide)).mono ?_
  rintro e w3 ⟨rfl, hb⟩
  rw [show overlap (L ⟨#[97, 47, 98]⟩) (L ⟨#[97, 47, 99]⟩) = false by decide]
  have HB3 := hid (below_on HB2.out hb)
  clear hb
  go_wp2_with fail
  refine (overlap_any ⟨#[97]⟩ ⟨#[97, 98]⟩ _ (by decide) (by decide)).mono ?_
  rintro e w4 ⟨rfl, hb⟩
  rw [show overlap (L ⟨#[97]⟩) (L ⟨#[97, 98]⟩) = false by decide]
  have HB4 := hid (below_on HB3.out hb)
  clear hb
  go_wp2
  go_ret
  exact ⟨rfl, HB4.out⟩

end Go.Proofs.Ytbnhkpceihfalaa
