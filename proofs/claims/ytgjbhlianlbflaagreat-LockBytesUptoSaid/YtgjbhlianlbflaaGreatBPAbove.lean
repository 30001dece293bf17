/-
  Contracts of path.Above and Overlap.
-/
import Derived.Test.YtgjbhlianlbflaaGreatBPRow
namespace Go.Proofs.YtgjbhlianlbflaaGreat
open Go.ChangeShapes Go.WideShapes Go.ChangeAt Go.RowKit
theorem L_mk (l : List UInt8) : L ⟨l.toArray⟩ = l := by simp [L]
def Fronts (s p : ByteArray) (w : World) (e : Ending) (w' : World) : Prop :=
  ∃ (r : ByteArray) (f : Bool), e = .returned (.tuple #[.string r, .bool f]) ∧ w = w' ∧ f = (L p).isPrefixOf (L s) ∧ (f = true → L r = (L s).drop (L p).length)
theorem cutfront_any (s p : ByteArray) (w : World) : Calls Tryz.prog 114 #[.string s, .string p] w (Fronts s p w) := by
  refine (Tryz.strings_CutPrefix s p w).mono ?_
  rintro e w' ⟨rfl, rfl⟩
  refine ⟨_, _, rfl, rfl, rfl, fun h => ?_⟩
  rw [L_mk]
  have h' : Lib.hasPrefix s.data.toList p.data.toList = true := h
  unfold Lib.trimPrefix
  rw [if_pos h']
  rfl
theorem front_any (s : ByteArray) (w : World) : Calls Tryz.prog 115 #[.string s, .string ⟨#[47]⟩] w fun e w' => e = .returned (.bool ([47].isPrefixOf (L s))) ∧ w = w' := by
  refine (Tryz.strings_HasPrefix s ⟨#[47]⟩ w).mono ?_
  rintro e w' ⟨rfl, rfl⟩
  exact ⟨rfl, rfl⟩
theorem toList_nil {r : ByteArray} : r.toList = [] ↔ L r = [] := by rw [toList_L]
set_option maxRecDepth 100000 in
set_option maxHeartbeats 400000 in
theorem above_any (p q : ByteArray) (w : World) (hs : q.size ≤ 4611686018427387903) : Calls Tryz.prog 90 #[.string p, .string q] w (Asks (.bool (above (L p) (L q))) w) := by
  rw [← aboveB_eq]
  go_enter Tryz.func90, Tryz.ntmps90
  go_wp2_with fail
  refine (cutfront_any q p _).mono ?_
  rintro e w1 ⟨r, f, rfl, rfl, hf, hr⟩
  cases f with
  | false =>
    have H : Hid (aboveB (L p) (L q) = false) := hid (by unfold aboveB; rw [← hf]; rfl)
    clear hf hr
    go_wp2
    go_ret
    exact ⟨ret_bool H.out.symm, Below.refl _ _⟩
  | true =>
    have hr := hr rfl
    cases hn : decide (L r = []) with
    | true =>
      have hn : L r = [] := of_decide_eq_true hn
      have H : Hid (aboveB (L p) (L q) = right (L q)) := hid (by unfold aboveB; rw [← hf, ← hr, hn]; rfl)
      have e1 : r.toList = [] := toList_nil.2 hn
      have e2 : r.toList.isEmpty = true := by rw [e1]; rfl
      clear hf hr hn
      go_wp2_with fail
      refine (right_any q _ hs).mono ?_
      rintro e w2 ⟨rfl, hb⟩
      have HB := hid hb
      clear hb
      go_wp2
      go_ret
      exact ⟨ret_bool H.out.symm, HB.out⟩
    | false =>
      have hn : ¬ L r = [] := of_decide_eq_false hn
      have e2 : r.toList.isEmpty = false := by rw [toList_L]; simpa using hn
      have e1 : ¬ r.toList = [] := fun h => hn (toList_nil.1 h)
      cases hv : [47].isPrefixOf (L r) with
      | true =>
        have H : Hid (aboveB (L p) (L q) = right (L q)) := hid (by unfold aboveB; rw [← hf, ← hr, hv, decide_eq_false hn]; rfl)
        have HV := hid hv
        clear hf hr hn hv
        go_wp2_with fail
        refine (front_any r _).mono ?_
        rintro e w2 ⟨rfl, rfl⟩
        rw [HV.out]
        go_wp2_with fail
        refine (right_any q _ hs).mono ?_
        rintro e w2 ⟨rfl, hb⟩
        have HB := hid hb
        clear hb
        go_wp2
        go_ret
        exact ⟨ret_bool H.out.symm, HB.out⟩
      | false =>
        have H : Hid (aboveB (L p) (L q) = false) := hid (by unfold aboveB; rw [← hf, ← hr, hv, decide_eq_false hn]; rfl)
        have HV := hid hv
        clear hf hr hn hv
        go_wp2_with fail
        refine (front_any r _).mono ?_
        rintro e w2 ⟨rfl, rfl⟩
        rw [HV.out]
        go_wp2
        go_ret
        exact ⟨ret_bool H.out.symm, Below.refl _ _⟩
set_option maxRecDepth 100000 in
theorem overlap_any (p q : ByteArray) (w : World) (hp : p.size ≤ 4611686018427387903) (hq : q.size ≤ 4611686018427387903) : Calls Tryz.prog 65 #[.string p, .string q] w (Asks (.bool (overlap (L p) (L q))) w) := by
  cases h : above (L p) (L q) with
  | true =>
    have H : Hid (overlap (L p) (L q) = true) := hid (by unfold overlap; rw [h]; rfl)
    have H1 := hid h
    clear h
    go_enter Tryz.func65, Tryz.ntmps65
    go_wp2_with fail
    refine (above_any p q _ hq).mono ?_
    rintro e w2 ⟨rfl, hb⟩
    rw [H1.out]
    have HB := hid hb
    clear hb
    go_wp2
    go_ret
    exact ⟨ret_bool H.out.symm, HB.out⟩
  | false =>
    have H : Hid (overlap (L p) (L q) = above (L q) (L p)) := hid (by unfold overlap; rw [h]; rfl)
    have H1 := hid h
    clear h
    go_enter Tryz.func65, Tryz.ntmps65
    go_wp2_with fail
    refine (above_any p q _ hq).mono ?_
    rintro e w2 ⟨rfl, hb⟩
    rw [H1.out]
    have HB := hid hb
    clear hb
    go_wp2_with fail
    refine (above_any q p _ hp).mono ?_
    rintro e w3 ⟨rfl, hb⟩
    have HB2 := hid (below_on HB.out hb)
    clear hb
    go_wp2
    go_ret
    exact ⟨ret_bool H.out.symm, HB2.out⟩
end Go.Proofs.YtgjbhlianlbflaaGreat
