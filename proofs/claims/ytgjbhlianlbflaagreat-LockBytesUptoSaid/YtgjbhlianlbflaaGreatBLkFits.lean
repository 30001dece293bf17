/-
  May the law's steps be gone through?
-/
import Derived.Test.YtgjbhlianlbflaaGreatBLkStep
namespace Go.Proofs.YtgjbhlianlbflaaGreat
open Go.ChangeShapes Go.WideShapes Go.ChangeAt Go.RowKit Go.Maps Go.WideMaps
set_option linter.unusedVariables false
set_option linter.unusedSimpArgs false
def fitsK (l : List OpK) (most : Int) : Bool := l.all (fun o => decide (o.path.size ≤ 100)) && decide ((l.length : Int) ≤ most)
theorem fits_iff {l : List OpK} {most : Int} (h : fitsK l most = true) : (∀ o ∈ l, o.path.size ≤ 100) ∧ (l.length : Int) ≤ most := by
  unfold fitsK at h
  simp only [Bool.and_eq_true, List.all_eq_true, decide_eq_true_eq] at h
  exact h
theorem SeesOp.at_ {w : World} {A : Option Addr} {l : List OpK} (h : SeesOp w A l) {j : Nat} {e : OpK} (he : l[j]? = some e) : ∃ b o, A = some ⟨b, o, none⟩ ∧ b < w.heap.size ∧ w.cell? ⟨b, o + j * 5, none⟩ = some (.int .i64 e.kd) ∧ w.cell? ⟨b, o + j * 5 + 1, none⟩ = some (.int .i64 e.mo) ∧ w.cell? ⟨b, o + j * 5 + 2, none⟩ = some (.string e.path) ∧ w.cell? ⟨b, o + j * 5 + 3, none⟩ = some (.int .u64 e.u) ∧ w.cell? ⟨b, o + j * 5 + 4, none⟩ = some (.string e.foot) := by
  obtain ⟨b, o, h1, h2, h3⟩ := h j e he
  exact ⟨b, o, h1, h2, h3 0 _ rfl, h3 1 _ rfl, h3 2 _ rfl, h3 3 _ rfl, h3 4 _ rfl⟩
set_option maxRecDepth 100000 in
set_option maxHeartbeats 4000000 in
theorem lkfits_any (A : Option Addr) (l : List OpK) (c : Nat) (most : Int) (w : World) (h : SeesOp w A l) (hl : l.length ≤ 9223372036854775807) :
    Calls Tryz.prog 7 #[.slice A l.length c, .int .i64 most] w (Asks (.bool (fitsK l most)) w) := by
  have HS := hid h
  obtain ⟨ln, hln⟩ : ∃ x, l.length = x := ⟨_, rfl⟩
  have HLN := hid hln
  have HFt : Hid (fitsK l most = (l.all (fun o => decide (o.path.size ≤ 100)) && decide ((ln : Int) ≤ most))) := hid (by unfold fitsK; rw [hln])
  rw [hln] at hl ⊢
  clear h hln
  obtain ⟨k, hk⟩ : ∃ k, w.heap.size = k := ⟨_, rfl⟩
  have HK := hid hk
  clear hk
  go_enter Tryz.func7, Tryz.ntmps7
  go_upto_region 2 with fail
  go_loopw [9] (fun iv wr => ∃ j : Nat, iv = .int .i64 (j : Int) ∧ j ≤ ln ∧ Hid (Below w.heap.size w wr ∧ ∀ i, i < j → ∀ o : OpK, l[i]? = some o → o.path.size ≤ 100)) (fun iv _ => ln - (intOf iv).toNat)
  case atStart => exact ⟨0, rfl, by omega, hid ⟨Below.refl _ _, fun i hi => absurd hi (Nat.not_lt_zero i)⟩⟩
  case round =>
    obtain ⟨j, rfl, hj, HJ⟩ := hrel
    by_cases hlt : j < ln
    · have hlt' : (j : Int) < (ln : Int) := by omega
      obtain ⟨e, he⟩ : ∃ e, l[j]? = some e := ⟨_, List.getElem?_eq_getElem (by rw [HLN.out]; exact hlt)⟩
      have HE := hid he
      obtain ⟨b, o, hA, hb, y0, y1, y2, y3, y4⟩ := (HS.out.below HJ.out.1).at_ he
      subst hA
      clear he hb
      have qi : IntKind.i64.wrap ((j : Int) + 1) = ((j + 1 : Nat) : Int) := by rw [IntWalk.i64_in _ (by omega)]; omega
      obtain ⟨sz, hsz⟩ : ∃ x, e.path.size = x := ⟨_, rfl⟩
      have HSz := hid hsz
      by_cases hs : 100 < sz
      · have hs' : (100 : Int) < (e.path.size : Int) := by omega
        have HX : Hid (fitsK l most = false) := hid (by
          rw [HFt.out]
          have : (l.all fun o => decide (o.path.size ≤ 100)) = false := by
            rw [List.all_eq_false]
            exact ⟨e, List.mem_of_getElem? HE.out, by simp; omega⟩
          rw [this]; rfl)
        clear hsz
        go_wp2_with fail
        go_ret
        exact ⟨by rw [HX.out]; rfl, HJ.out.1.trans ((Below.refl wr.heap.size wr).alloc (Nat.le_refl _) _ |>.mono HJ.out.1.size)⟩
      · have hs' : ¬ (100 : Int) < (e.path.size : Int) := by omega
        have HN2 : Hid (∀ i, i < j + 1 → ∀ o : OpK, l[i]? = some o → o.path.size ≤ 100) := hid (fun i hi x hx => by
          rcases (show i < j ∨ i = j by omega) with h | h
          · exact HJ.out.2 i h x hx
          · subst h
            rw [HE.out] at hx
            injection hx with hx
            subst hx
            omega)
        clear hsz
        go_wp2_with fail
        go_roundw
        case rel => exact ⟨j + 1, by push_cast; rfl, by omega, hid ⟨HJ.out.1.trans ((Below.refl wr.heap.size wr).alloc (Nat.le_refl _) _ |>.mono HJ.out.1.size), HN2.out⟩⟩
        case measure => simp only [intOf]; omega
    · have hlt' : ¬ (j : Int) < (ln : Int) := by omega
      have HX : Hid (fitsK l most = decide ((ln : Int) ≤ most)) := hid (by
        rw [HFt.out]
        have : (l.all fun o => decide (o.path.size ≤ 100)) = true := by
          rw [List.all_eq_true]
          intro o ho
          obtain ⟨i, hi⟩ := List.mem_iff_getElem?.1 ho
          have := HJ.out.2 i (by have := (List.getElem?_eq_some_iff.1 hi).1; have := HLN.out; omega) o hi
          simpa using this
        rw [this]; rfl)
      go_wp2_with fail
      go_ret
      exact ⟨by rw [HX.out]; rfl, HJ.out.1⟩
end Go.Proofs.YtgjbhlianlbflaaGreat
