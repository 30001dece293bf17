/-
  NumReads: whatever bytes are given, ReadShort answers as the document's own reader, by its number, its length and its error; what was read is written as it was. No condition.
-/
import Derived.Test.YtklehahedjbkjaaSame
import Derived.RegionTactic
import Derived.Deep.RegionHeld3
namespace Go.Proofs.Ytklehahedjbkjaa.numReads
open Go.ChangeShapes Go.WideShapes Go.ChangeAt Go.RowKit
set_option linter.unusedVariables false

theorem own : ownKnob Try.prog.godebug = none := by kernel_rfl
theorem laidOut : laidOutB Try.prog = true := by kernel_rfl
theorem cells_u8 : Try.prog.cellsOf 5 = 1 := by kernel_rfl

set_option maxRecDepth 100000 in
set_option maxHeartbeats 400000 in
theorem walk_err (A : Option Addr) (l : List Nat) (ca : Nat) (v r z : Nat) (w : World) (hl : l.length ≤ 9223372036854775807) (h8 : ∀ x ∈ l, x < 256) (hA : Sees .u8 w A l) (hr : readN l = (v, r, z)) (hz : 0 < z) (hz2 : z ≤ 20) :
    Calls Try.prog 5 #[.slice A l.length ca] w fun e w' => e = .returned (.bool true) ∧ Below w.heap.size w w' := by
  have HA := hid hA
  have H8 := hid h8
  have HR := hid hr
  have hzb : ((z : Int) != 0) = true := by simp; omega
  clear hA h8 hr
  go_enter Try.func5, Try.ntmps5
  go_wp2_with (first
    | (go_at_call 10; refine (anchor_any _).mono ?_; rintro e w1 ⟨rfl, hw1⟩)
    | (go_at_call 18; ((with_reducible refine (readshort_any A l ca _ hl H8.out (HA.out.below hw1)).mono ?_); rintro e w' ⟨rfl, rfl⟩; rw [HR.out]))
    | (go_at_call 19; ((with_reducible refine (refreadshort_any A l ca _ hl H8.out (HA.out.below hw1)).mono ?_); rintro e w' ⟨rfl, rfl⟩; rw [HR.out])))
  go_quiet (fail)
  go_wp2
  go_ret
  exact ⟨rfl, below_drewN hw1 _⟩

set_option maxRecDepth 100000 in
set_option maxHeartbeats 400000 in
theorem walk_ok (b o : Nat) (l : List Nat) (ca : Nat) (v : Nat) (w : World) (hl : l.length ≤ 9223372036854775807) (h8 : ∀ x ∈ l, x < 256) (hA : Sees .u8 w (some ⟨b, o, none⟩) l) (hca : l.length ≤ ca)
    (hr : readN l = (v, (shortN v).length, 0)) (hle : (shortN v).length ≤ l.length) (htake : l.take (shortN v).length = shortN v) (hv : v < 18446744073709551616) :
    Calls Try.prog 5 #[.slice (some ⟨b, o, none⟩) l.length ca] w fun e w' => e = .returned (.bool true) ∧ Below w.heap.size w w' := by
  have HA := hid hA
  have H8 := hid h8
  have HR := hid hr
  have HS : Hid (Sees .u8 w (some ⟨b, o, none⟩) (shortN v)) := hid (by rw [← htake]; exact hA.take _)
  have hpos := shortN_pos v
  have HV := hid hv
  have hcap : ¬ ca = 0 := by omega
  have hleI : ((shortN v).length : Int) ≤ (l.length : Int) := by omega
  have hleC : ((shortN v).length : Int) ≤ (ca : Int) := by omega
  clear hA h8 hr htake hv
  go_enter Try.func5, Try.ntmps5
  go_wp2_with (first
    | (go_at_call 10; refine (anchor_any _).mono ?_; rintro e w1 ⟨rfl, hw1⟩)
    | (go_at_call 18; ((with_reducible refine (readshort_any _ l ca _ hl H8.out (HA.out.below hw1)).mono ?_); rintro e w' ⟨rfl, rfl⟩; rw [HR.out]))
    | (go_at_call 19; ((with_reducible refine (refreadshort_any _ l ca _ hl H8.out (HA.out.below hw1)).mono ?_); rintro e w' ⟨rfl, rfl⟩; rw [HR.out])))
  go_region_held3 (fun _ => True) (exact trivial) (first
    | (go_at_call 16; refine (short_hands v _ HV.out).mono ?_; rintro e w2 ⟨A', cap', rfl, _, _, hs, hb2⟩)
    | (go_at_call 12; refine (same_true A' (some ⟨b, o, none⟩) (shortN v) cap' ca _ (by omega) hs (HS.out.below (below_on (below_drew hw1) hb2))).mono ?_; rintro e w3 ⟨rfl, hb3⟩))
  go_wp2
  go_ret
  exact ⟨rfl, below_on (below_on (below_drew hw1) hb2) hb3⟩

/-- The Go text returns true. -/
theorem walk (A : Option Addr) (l : List Nat) (ca : Nat) (w : World) (hl : l.length ≤ ca) (hca : ca ≤ 9223372036854775807) (h8 : ∀ x ∈ l, x < 256) (hA : Sees .u8 w A l) :
    Calls Try.prog 5 #[.slice A l.length ca] w fun e w' => e = .returned (.bool true) ∧ Below w.heap.size w w' := by
  obtain ⟨v, r, z, ht⟩ : ∃ v r z, readN l = (v, r, z) := ⟨_, _, _, rfl⟩
  have hz := readAt_err l 0 0
  rw [show readAt 0 0 l = readN l from rfl, ht] at hz
  by_cases h0 : z = 0
  · subst h0
    obtain ⟨rfl, hle, htake, hv⟩ := readN_inv h8 ht
    have hpos := shortN_pos v
    obtain ⟨b, o, rfl, _, _⟩ := hA 0 l[0] (List.getElem?_eq_getElem (by omega))
    exact walk_ok b o l ca v w (by omega) h8 hA hl ht hle htake hv
  · exact walk_err A l ca v r z w (by omega) h8 hA ht (by omega) (by simp at hz; omega)

set_option maxRecDepth 100000 in
theorem lifted (os : Os) (started : os.Started) (H : Type) (enc : TypeId × Value → H) :
    ReturnsInHanded {} Try.checked os 5 .any (Rows.numReadsSpec.pre6 enc Try.prog Try.f5 Rows.numReadsRow.domain false) (Rows.numReadsSpec.post enc Try.prog Try.f5 false true false false) := by
  refine returnsInHanded_of_change (C := Try.checked) own started (by kernel_rfl) Try.func5
    (ChangeSpec.witness6 (enc := enc) (C := Try.checked) false ⟨#[], #[.slice none 0 0], []⟩ 8 (by kernel_rfl) (by kernel_rfl) (by kernel_rfl) (by kernel_rfl)) ?_
  intro W base args ds gs before hval0 hW hcnd _
  have hval : ∀ (j : Nat) t v, Try.f5.params[j]? = some t → args[j]? = some v → Value.okWide Try.prog W .any base t v := hval0
  have hW' := hW
  obtain ⟨p, q, hA0, hV, rfl, hfz, hnd⟩ := hW
  have hA : DataW.TrodAll enc Try.prog W 0 (fun _ => true) true Try.f5.params.toList args.toList ds p := hA0
  rw [Try.params5] at hA hval
  obtain ⟨v0, d0, rfl, rfl, g0⟩ := trodAll_one hA
  obtain ⟨rfl, rfl⟩ := trodVars_none hV
  have hlt : ∀ x ∈ p, x.block < W.heap.size := fun x hx => by simpa using hW'.lt x (List.mem_append_left _ hx)
  obtain ⟨A, cap, l, rfl, _, hl, hm, hs, hwf, _⟩ := open_nums Try.underlying23 Try.underlying5 cells_u8 u8_pos (hval 0 23 v0 rfl rfl) g0 hlt
  refine (walk A l cap W hl (by unfold maxLen at hm; omega) (fun x hx => by have := u8_lt _ (hwf x hx); omega) hs).mono fun e W' ⟨he, hg⟩ => ?_
  subst he
  exact ⟨_, rfl, law_post laidOut hW' (by kernel_rfl) rfl rfl Try.underlying4 rfl hg⟩

theorem proved : Rows.NumReadsSaid :=
  OpenClaim.holds_of_wide 5 Try.f5 rfl rfl rfl rfl rfl rfl rfl ⟨rfl, rfl, rfl, rfl, rfl⟩ rfl rfl rfl rfl rfl (by kernel_rfl) Try.func5 (by kernel_rfl)
    (of_decide_eq_true (by kernel_rfl)) (by unfold Func.isWrapper; first | (rw [if_pos (by decide +kernel)]; kernel_rfl) | (rw [if_neg (by decide +kernel)]; exact ⟨rfl, rfl⟩))
    (fun os started H enc _ => lifted os started H enc)
#print axioms proved
end Go.Proofs.Ytklehahedjbkjaa.numReads
