/-
  PathOverlaps: for any two texts, the program says that one path lies above the other just where the document does, and that two overlap just where one lies above the other; two that lie above each other are the same. No condition.
-/
import Derived.Test.YtbnhkpceihfalaaPAnchor
import Derived.ProofKit
import Derived.OpenShut
import Derived.ChangeMaps5
namespace Go.Proofs.Ytbnhkpceihfalaa.pathOverlaps
open Go.ChangeShapes Go.WideShapes Go.ChangeAt Go.RowKit Go.ChangeMaps
set_option linter.unusedVariables false

theorem own : ownKnob Try.prog.godebug = none := by kernel_rfl
theorem laidOut : laidOutB Try.prog = true := by kernel_rfl

/-- The law's answer. -/
def Yes (w : World) (e : Ending) (w' : World) : Prop := e = .returned (.bool true) ∧ Below w.heap.size w w'

set_option maxRecDepth 100000 in
set_option maxHeartbeats 1000000 in
theorem walk_long (p q : ByteArray) (w : World) (hp : p.size ≤ maxLen) (hq : q.size ≤ maxLen) (h : 100 < p.size ∨ 100 < q.size) : Calls Try.prog 4 #[.string p, .string q] w (Yes w) := by
  unfold maxLen at hp hq
  by_cases h1 : 100 < p.size
  · clear h
    go_enter Try.func4, Try.ntmps4
    go_wp2_with (go_at_call 10; refine (anchor_any _).mono ?_; rintro e w1 ⟨rfl, hw1⟩; have HB := hid hw1; clear hw1)
    go_ret
    exact ⟨rfl, HB.out⟩
  · have h2 : 100 < q.size := by omega
    clear h
    go_enter Try.func4, Try.ntmps4
    go_wp2_with (go_at_call 10; refine (anchor_any _).mono ?_; rintro e w1 ⟨rfl, hw1⟩; have HB := hid hw1; clear hw1)
    go_ret
    exact ⟨rfl, HB.out⟩

theorem overlap_swap (p q : List UInt8) : overlap q p = overlap p q := by unfold overlap; exact Bool.or_comm _ _

set_option maxRecDepth 100000 in
set_option maxHeartbeats 2000000 in
theorem walk_at (p q : ByteArray) (w : World) (hp : p.size ≤ 100) (hq : q.size ≤ 100) (a b o : Bool) (ha : above (L p) (L q) = a) (hb : above (L q) (L p) = b) (ho : o = (a || b)) (hab : a = true → b = true → p = q) :
    Calls Try.prog 4 #[.string p, .string q] w (Yes w) := by
  have HO : Hid (overlap (L p) (L q) = o) := hid (by unfold overlap; rw [ha, hb, ho])
  have HO2 : Hid (overlap (L q) (L p) = o) := hid (by rw [overlap_swap]; exact HO.out)
  have HA := hid ha
  have HB := hid hb
  have HQ := hid hab
  clear ha hb hab
  cases a <;> cases b <;> (subst ho)
  all_goals
    first
      | (obtain rfl : p = q := HQ.out rfl rfl)
      | skip
    go_enter Try.func4, Try.ntmps4
    go_wp2_with (first
      | (go_at_call 10; refine (anchor_any _).mono ?_; rintro e w1 ⟨rfl, hw1⟩; have HW := hid hw1; clear hw1)
      | (go_at_call 16; refine (refabove_any _ _ _ (by omega) (by omega)).mono ?_; rintro e w1 ⟨rfl, hw1⟩; (first | rw [HA.out] | rw [HB.out]); replace HW := hid (below_on HW.out hw1); clear hw1)
      | (go_at_call 17; refine (above_any _ _ _ (by omega)).mono ?_; rintro e w1 ⟨rfl, hw1⟩; (first | rw [HA.out] | rw [HB.out]); replace HW := hid (below_on HW.out hw1); clear hw1)
      | (go_at_call 18; refine (overlap_any _ _ _ (by omega) (by omega)).mono ?_; rintro e w1 ⟨rfl, hw1⟩; (first | rw [HO.out] | rw [HO2.out]); replace HW := hid (below_on HW.out hw1); clear hw1))
    go_ret
    exact ⟨rfl, HW.out⟩

/-- The Go text returns true. -/
theorem walk (p q : ByteArray) (hp : p.size ≤ maxLen) (hq : q.size ≤ maxLen) (w : World) :
    Calls Try.prog 4 #[.string p, .string q] w fun e w' => e = .returned (.bool true) ∧ Below w.heap.size w w' := by
  by_cases h : 100 < p.size ∨ 100 < q.size
  · exact walk_long p q w hp hq h
  · exact walk_at p q w (by omega) (by omega) _ _ _ rfl rfl rfl (fun h1 h2 => L_inj.1 (above_both h1 h2))

set_option maxRecDepth 100000 in
theorem lifted (os : Os) (started : os.Started) (H : Type) (enc : TypeId × Value → H) :
    ReturnsInHanded {} Try.checked os 4 .any (Rows.pathOverlapsSpec.pre6 enc Try.prog Try.f4 Rows.pathOverlapsRow.domain false) (Rows.pathOverlapsSpec.post enc Try.prog Try.f4 false true false false) := by
  refine returnsInHanded_of_change (C := Try.checked) own started (by kernel_rfl) Try.func4
    (ChangeSpec.witness6 (enc := enc) (C := Try.checked) false ⟨#[], #[.string ⟨#[]⟩, .string ⟨#[]⟩], []⟩ 8 (by kernel_rfl) (by kernel_rfl) (by kernel_rfl) (by kernel_rfl)) ?_
  intro W base args ds gs before hval0 hW _ _
  have hval : ∀ (j : Nat) t v, Try.f4.params[j]? = some t → args[j]? = some v → Value.okWide Try.prog W .any base t v := hval0
  have hW' := hW
  obtain ⟨p, q, hA0, hV, rfl, _, _⟩ := hW
  have hA : DataW.TrodAll enc Try.prog W 0 (fun _ => true) true Try.f4.params.toList args.toList ds p := hA0
  rw [Try.params4] at hA hval
  have hlt : ∀ x ∈ p, x.block < W.heap.size := fun x hx => by simpa using hW'.lt x (List.mem_append_left _ hx)
  obtain ⟨v0, vs0, d0, ds0, p0, q0, hargs, rfl, rfl, g0, r0⟩ := trodAll_cons hA
  obtain ⟨v1, vs1, d1, ds1, p1, q1, rfl, rfl, rfl, g1, r1⟩ := trodAll_cons r0
  obtain ⟨rfl, rfl, rfl⟩ := trodAll_nil r1
  obtain rfl : args = #[v0, v1] := by cases args; simp_all
  obtain ⟨rfl, rfl⟩ := trodVars_none hV
  obtain ⟨a0, rfl, rfl, rfl, w0⟩ := open_string Try.underlying9 (hval 0 9 v0 rfl rfl) g0
  obtain ⟨a1, rfl, rfl, rfl, w1⟩ := open_string Try.underlying9 (hval 1 9 v1 rfl rfl) g1
  refine (walk a0 a1 w0 w1 W).mono fun e W' ⟨he, hg⟩ => ?_
  subst he
  exact ⟨_, rfl, law_post laidOut hW' (by kernel_rfl) rfl rfl Try.underlying4 rfl hg⟩

theorem proved : Rows.PathOverlapsSaid :=
  OpenClaim.holds_of_wide 4 Try.f4 rfl rfl rfl rfl rfl rfl rfl ⟨rfl, rfl, rfl, rfl, rfl⟩ rfl rfl rfl rfl rfl (by kernel_rfl) Try.func4 (by kernel_rfl)
    (of_decide_eq_true (by kernel_rfl)) (by unfold Func.isWrapper; first | (rw [if_pos (by decide +kernel)]; kernel_rfl) | (rw [if_neg (by decide +kernel)]; exact ⟨rfl, rfl⟩))
    (fun os started H enc _ => lifted os started H enc)
#print axioms proved
end Go.Proofs.Ytbnhkpceihfalaa.pathOverlaps
