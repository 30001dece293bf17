/-
  PathAbove: for any three texts, what lies above what lies above lies above, and two that lie above one overlap. No condition.
-/
import Derived.Test.YtbnhkpceihfalaaPAnchor
import Derived.ProofKit
import Derived.OpenShut
import Derived.ChangeMaps5
namespace Go.Proofs.Ytbnhkpceihfalaa.pathAbove
open Go.ChangeShapes Go.WideShapes Go.ChangeAt Go.RowKit Go.ChangeMaps
set_option linter.unusedVariables false

theorem own : ownKnob Try.prog.godebug = none := by kernel_rfl
theorem laidOut : laidOutB Try.prog = true := by kernel_rfl

/-- The law's answer. -/
def Yes (w : World) (e : Ending) (w' : World) : Prop := e = .returned (.bool true) ∧ Below w.heap.size w w'

set_option maxRecDepth 100000 in
set_option maxHeartbeats 1000000 in
theorem walk_long (p q r : ByteArray) (w : World) (hp : p.size ≤ maxLen) (hq : q.size ≤ maxLen) (hr : r.size ≤ maxLen) (h : 100 < p.size ∨ 100 < q.size ∨ 100 < r.size) : Calls Try.prog 5 #[.string p, .string q, .string r] w (Yes w) := by
  unfold maxLen at hp hq hr
  by_cases h1 : 100 < p.size
  · clear h
    go_enter Try.func5, Try.ntmps5
    go_wp2_with (go_at_call 10; refine (anchor_any _).mono ?_; rintro e w1 ⟨rfl, hw1⟩; have HB := hid hw1; clear hw1)
    go_ret
    exact ⟨rfl, HB.out⟩
  · by_cases h2 : 100 < q.size
    · clear h
      go_enter Try.func5, Try.ntmps5
      go_wp2_with (go_at_call 10; refine (anchor_any _).mono ?_; rintro e w1 ⟨rfl, hw1⟩; have HB := hid hw1; clear hw1)
      go_ret
      exact ⟨rfl, HB.out⟩
    · have h3 : 100 < r.size := by omega
      clear h
      go_enter Try.func5, Try.ntmps5
      go_wp2_with (go_at_call 10; refine (anchor_any _).mono ?_; rintro e w1 ⟨rfl, hw1⟩; have HB := hid hw1; clear hw1)
      go_ret
      exact ⟨rfl, HB.out⟩

set_option maxRecDepth 100000 in
set_option maxHeartbeats 4000000 in
theorem walk_at (p q r : ByteArray) (w : World) (hp : p.size ≤ 100) (hq : q.size ≤ 100) (hr : r.size ≤ 100) (a b c o : Bool) (ha : above (L p) (L q) = a) (hb : above (L q) (L r) = b) (hc : above (L p) (L r) = c) (ho : overlap (L p) (L q) = o) (h1 : (a && b && !c) = false) (h2 : (!c || !b || o) = true) :
    Calls Try.prog 5 #[.string p, .string q, .string r] w (Yes w) := by
  have HA := hid ha
  have HB := hid hb
  have HC := hid hc
  have HO := hid ho
  clear ha hb hc ho
  cases a <;> cases b <;> cases c <;> cases o <;> first | exact absurd h1 (by decide) | exact absurd h2 (by decide) | skip
  all_goals
    clear h1 h2
    go_enter Try.func5, Try.ntmps5
    go_wp2_with (first
      | (go_at_call 10; refine (anchor_any _).mono ?_; rintro e w1 ⟨rfl, hw1⟩; have HW := hid hw1; clear hw1)
      | (go_at_call 17; refine (above_any _ _ _ (by omega)).mono ?_; rintro e w1 ⟨rfl, hw1⟩; (first | rw [HA.out] | rw [HB.out] | rw [HC.out]); replace HW := hid (below_on HW.out hw1); clear hw1)
      | (go_at_call 18; refine (overlap_any _ _ _ (by omega) (by omega)).mono ?_; rintro e w1 ⟨rfl, hw1⟩; rw [HO.out]; replace HW := hid (below_on HW.out hw1); clear hw1))
    go_ret
    exact ⟨rfl, HW.out⟩

/-- The Go text returns true. -/
theorem walk (p q r : ByteArray) (hp : p.size ≤ maxLen) (hq : q.size ≤ maxLen) (hr : r.size ≤ maxLen) (w : World) :
    Calls Try.prog 5 #[.string p, .string q, .string r] w fun e w' => e = .returned (.bool true) ∧ Below w.heap.size w w' := by
  by_cases h : 100 < p.size ∨ 100 < q.size ∨ 100 < r.size
  · exact walk_long p q r w hp hq hr h
  · refine walk_at p q r w (by omega) (by omega) (by omega) _ _ _ _ rfl rfl rfl rfl ?_ ?_
    · cases h1 : above (L p) (L q) <;> cases h2 : above (L q) (L r) <;> try rfl
      rw [above_trans h1 h2]; rfl
    · cases h1 : above (L p) (L r) <;> cases h2 : above (L q) (L r) <;> try rfl
      rw [above_meet h1 h2]; rfl

set_option maxRecDepth 100000 in
theorem lifted (os : Os) (started : os.Started) (H : Type) (enc : TypeId × Value → H) :
    ReturnsInHanded {} Try.checked os 5 .any (Rows.pathAboveSpec.pre6 enc Try.prog Try.f5 Rows.pathAboveRow.domain false) (Rows.pathAboveSpec.post enc Try.prog Try.f5 false true false false) := by
  refine returnsInHanded_of_change (C := Try.checked) own started (by kernel_rfl) Try.func5
    (ChangeSpec.witness6 (enc := enc) (C := Try.checked) false ⟨#[], #[.string ⟨#[]⟩, .string ⟨#[]⟩, .string ⟨#[]⟩], []⟩ 8 (by kernel_rfl) (by kernel_rfl) (by kernel_rfl) (by kernel_rfl)) ?_
  intro W base args ds gs before hval0 hW _ _
  have hval : ∀ (j : Nat) t v, Try.f5.params[j]? = some t → args[j]? = some v → Value.okWide Try.prog W .any base t v := hval0
  have hW' := hW
  obtain ⟨p, q, hA0, hV, rfl, _, _⟩ := hW
  have hA : DataW.TrodAll enc Try.prog W 0 (fun _ => true) true Try.f5.params.toList args.toList ds p := hA0
  rw [Try.params5] at hA hval
  have hlt : ∀ x ∈ p, x.block < W.heap.size := fun x hx => by simpa using hW'.lt x (List.mem_append_left _ hx)
  obtain ⟨v0, vs0, d0, ds0, p0, q0, hargs, rfl, rfl, g0, r0⟩ := trodAll_cons hA
  obtain ⟨v1, vs1, d1, ds1, p1, q1, rfl, rfl, rfl, g1, r1⟩ := trodAll_cons r0
  obtain ⟨v2, vs2, d2, ds2, p2, q2, rfl, rfl, rfl, g2, r2⟩ := trodAll_cons r1
  obtain ⟨rfl, rfl, rfl⟩ := trodAll_nil r2
  obtain rfl : args = #[v0, v1, v2] := by cases args; simp_all
  obtain ⟨rfl, rfl⟩ := trodVars_none hV
  obtain ⟨a0, rfl, rfl, rfl, w0⟩ := open_string Try.underlying9 (hval 0 9 v0 rfl rfl) g0
  obtain ⟨a1, rfl, rfl, rfl, w1⟩ := open_string Try.underlying9 (hval 1 9 v1 rfl rfl) g1
  obtain ⟨a2, rfl, rfl, rfl, w2⟩ := open_string Try.underlying9 (hval 2 9 v2 rfl rfl) g2
  refine (walk a0 a1 a2 w0 w1 w2 W).mono fun e W' ⟨he, hg⟩ => ?_
  subst he
  exact ⟨_, rfl, law_post laidOut hW' (by kernel_rfl) rfl rfl Try.underlying4 rfl hg⟩

theorem proved : Rows.PathAboveSaid :=
  OpenClaim.holds_of_wide 5 Try.f5 rfl rfl rfl rfl rfl rfl rfl ⟨rfl, rfl, rfl, rfl, rfl⟩ rfl rfl rfl rfl rfl (by kernel_rfl) Try.func5 (by kernel_rfl)
    (of_decide_eq_true (by kernel_rfl)) (by unfold Func.isWrapper; first | (rw [if_pos (by decide +kernel)]; kernel_rfl) | (rw [if_neg (by decide +kernel)]; exact ⟨rfl, rfl⟩))
    (fun os started H enc _ => lifted os started H enc)
#print axioms proved
end Go.Proofs.Ytbnhkpceihfalaa.pathAbove
