/-
  PathNormal: any text is normalised by the program as by the document, with its error; Right tells just the texts that are their own path; what is normalised is a path, and its own. No condition.
-/
import Derived.Test.YtbnhkpceihfalaaPAnchor
import Derived.Test.YtbnhkpceihfalaaPParts
import Derived.ProofKit
import Derived.OpenShut
import Derived.ChangeMaps5
namespace Go.Proofs.Ytbnhkpceihfalaa.pathNormal
open Go.ChangeShapes Go.WideShapes Go.ChangeAt Go.RowKit Go.ChangeMaps
set_option linter.unusedVariables false

theorem own : ownKnob Try.prog.godebug = none := by kernel_rfl
theorem laidOut : laidOutB Try.prog = true := by kernel_rfl

/-- The law's answer. -/
def Yes (w : World) (e : Ending) (w' : World) : Prop := e = .returned (.bool true) ∧ Below w.heap.size w w'

set_option maxRecDepth 100000 in
set_option maxHeartbeats 1000000 in
theorem walk_long (s : ByteArray) (w : World) (hs : s.size ≤ maxLen) (h : 400 < s.size) : Calls Try.prog 3 #[.string s] w (Yes w) := by
  unfold maxLen at hs
  go_enter Try.func3, Try.ntmps3
  go_wp2_with (go_at_call 10; refine (anchor_any _).mono ?_; rintro e w1 ⟨rfl, hw1⟩; have HB := hid hw1; clear hw1)
  go_ret
  exact ⟨rfl, HB.out⟩

set_option maxRecDepth 100000 in
set_option maxHeartbeats 4000000 in
theorem walk_at (s : ByteArray) (w : World) (hs : s.size ≤ 400) (n : List UInt8) (k : Nat) (b : Bool) (hn : normal (L s) = (n, k)) (hb : right (L s) = b) (hbk : k ≠ 0 → b = false) (hk : k = 0 → right n = true) :
    Calls Try.prog 3 #[.string s] w (Yes w) := by
  have HN := hid hn
  have HB := hid hb
  have HR : Hid (k = 0 → right n = true) := hid hk
  have HNN : Hid (k = 0 → normal n = (n, 0)) := hid (fun h => normal_right (hk h))
  have HP : Hid (k ≠ 0 → parts (L s) = []) := hid (fun h => (parts_nil_iff _).2 (by rw [hb]; exact hbk h))
  have HNS : Hid (k = 0 → n.length ≤ 64) := hid (fun h => (right_iff.1 (hk h)).1)
  clear hn hb hbk hk
  go_enter Try.func3, Try.ntmps3
  go_wp2_with (go_at_call 10; refine (anchor_any _).mono ?_; rintro e w1 ⟨rfl, hw1⟩; have HW := hid hw1; clear hw1)
  refine (normal_any s _ (by omega)).mono ?_
  rintro e w2 ⟨r, rfl, hr, hw2⟩
  rw [HN.out] at hr
  rw [HN.out]
  have HRN := hid hr
  replace HW := hid (below_on HW.out hw2)
  clear hr hw2
  go_wp2_with fail
  refine (refnormal_any s _ (by omega)).mono ?_
  rintro e w3 ⟨r2, rfl, hr, hw2⟩
  rw [HN.out] at hr
  rw [HN.out]
  obtain rfl : r2 = r := L_inj.1 (hr.trans HRN.out.symm)
  replace HW := hid (below_on HW.out hw2)
  clear hr hw2
  have hk0 : (k : Int) ≤ 0 ∨ ((k : Int) == 0) = false := by
    by_cases h : k = 0
    · exact .inl (by omega)
    · exact .inr (by simpa using h)
  go_wp2_with fail
  refine (right_any s _ (by omega)).mono ?_
  rintro e w4 ⟨rfl, hw2⟩
  rw [HB.out]
  replace HW := hid (below_on HW.out hw2)
  clear hw2
  go_wp2_with fail
  refine (refright_any s _ (by omega)).mono ?_
  rintro e w5 ⟨rfl, hw2⟩
  rw [HB.out]
  replace HW := hid (below_on HW.out hw2)
  clear hw2
  by_cases h0 : k = 0
  · subst h0
    have hrs : r2.size ≤ 64 := by
      have := HNS.out rfl
      rw [← HRN.out, L_length] at this
      exact this
    have HR1 : Hid (right (L r2) = true) := hid (by rw [HRN.out]; exact HR.out rfl)
    have HN1 : Hid (normal (L r2) = (L r2, 0)) := hid (by rw [HRN.out]; exact HNN.out rfl)
    cases b
    all_goals
      go_wp2_with fail
      refine (normal_any r2 _ (by omega)).mono ?_
      rintro e w6 ⟨r3, rfl, hr, hw2⟩
      rw [HN1.out] at hr
      rw [HN1.out]
      obtain rfl : r3 = r2 := L_inj.1 hr
      replace HW := hid (below_on HW.out hw2)
      clear hr hw2
      go_wp2_with fail
      refine (right_any r3 _ (by omega)).mono ?_
      rintro e w7 ⟨rfl, hw2⟩
      rw [HR1.out]
      replace HW := hid (below_on HW.out hw2)
      clear hw2
      go_wp2
      go_ret
      exact ⟨rfl, HW.out⟩
  · have e0 : ((k : Int) == 0) = false := by simpa using h0
    have e1 : ((k : Int) != 0) = true := by simpa using h0
    have HP1 := hid (HP.out h0)
    clear h0 hk0
    cases b
    all_goals
      go_wp2_with fail
      refine (parts_any s _ (by omega)).mono ?_
      rintro e w6 ⟨v, ys, rfl, hh, hy, hw2⟩
      rw [HP1.out] at hy
      obtain rfl : ys = [] := by simpa using hy
      obtain ⟨A, c, rfl, -⟩ := hh
      replace HW := hid (below_on HW.out hw2)
      clear hy hw2
      go_wp2
      go_ret
      exact ⟨rfl, HW.out⟩

/-- The Go text returns true. -/
theorem walk (s : ByteArray) (hs : s.size ≤ maxLen) (w : World) :
    Calls Try.prog 3 #[.string s] w fun e w' => e = .returned (.bool true) ∧ Below w.heap.size w w' := by
  by_cases h : 400 < s.size
  · exact walk_long s w hs h
  · refine walk_at s w (by omega) (normal (L s)).1 (normal (L s)).2 (right (L s)) rfl rfl (fun h => ?_) (fun h => right_normal h)
    cases hr : right (L s) with
    | false => rfl
    | true => rw [normal_right hr] at h; exact absurd rfl h

set_option maxRecDepth 100000 in
theorem lifted (os : Os) (started : os.Started) (H : Type) (enc : TypeId × Value → H) :
    ReturnsInHanded {} Try.checked os 3 .any (Rows.pathNormalSpec.pre6 enc Try.prog Try.f3 Rows.pathNormalRow.domain false) (Rows.pathNormalSpec.post enc Try.prog Try.f3 false true false false) := by
  refine returnsInHanded_of_change (C := Try.checked) own started (by kernel_rfl) Try.func3
    (ChangeSpec.witness6 (enc := enc) (C := Try.checked) false ⟨#[], #[.string ⟨#[]⟩], []⟩ 8 (by kernel_rfl) (by kernel_rfl) (by kernel_rfl) (by kernel_rfl)) ?_
  intro W base args ds gs before hval0 hW _ _
  have hval : ∀ (j : Nat) t v, Try.f3.params[j]? = some t → args[j]? = some v → Value.okWide Try.prog W .any base t v := hval0
  have hW' := hW
  obtain ⟨p, q, hA0, hV, rfl, _, _⟩ := hW
  have hA : DataW.TrodAll enc Try.prog W 0 (fun _ => true) true Try.f3.params.toList args.toList ds p := hA0
  rw [Try.params3] at hA hval
  have hlt : ∀ x ∈ p, x.block < W.heap.size := fun x hx => by simpa using hW'.lt x (List.mem_append_left _ hx)
  obtain ⟨v0, vs0, d0, ds0, p0, q0, hargs, rfl, rfl, g0, r0⟩ := trodAll_cons hA
  obtain ⟨rfl, rfl, rfl⟩ := trodAll_nil r0
  obtain rfl : args = #[v0] := by cases args; simp_all
  obtain ⟨rfl, rfl⟩ := trodVars_none hV
  obtain ⟨a0, rfl, rfl, rfl, w0⟩ := open_string Try.underlying9 (hval 0 9 v0 rfl rfl) g0
  refine (walk a0 w0 W).mono fun e W' ⟨he, hg⟩ => ?_
  subst he
  exact ⟨_, rfl, law_post laidOut hW' (by kernel_rfl) rfl rfl Try.underlying4 rfl hg⟩

theorem proved : Rows.PathNormalSaid :=
  OpenClaim.holds_of_wide 3 Try.f3 rfl rfl rfl rfl rfl rfl rfl ⟨rfl, rfl, rfl, rfl, rfl⟩ rfl rfl rfl rfl rfl (by kernel_rfl) Try.func3 (by kernel_rfl)
    (of_decide_eq_true (by kernel_rfl)) (by unfold Func.isWrapper; first | (rw [if_pos (by decide +kernel)]; kernel_rfl) | (rw [if_neg (by decide +kernel)]; exact ⟨rfl, rfl⟩))
    (fun os started H enc _ => lifted os started H enc)
#print axioms proved
end Go.Proofs.Ytbnhkpceihfalaa.pathNormal
