/-
  PathJoins: of two paths, one put behind the other with a slash between is a path that the first one lies above, whose parent is it without its last part, and as deep as both together; where it is too long or too deep it is refused. For any two texts. No condition.
-/
import Derived.Test.YtbnhkpceihfalaaPAnchor
import Derived.Test.YtbnhkpceihfalaaPParent
import Derived.Test.YtbnhkpceihfalaaPMathD
import Derived.ProofKit
import Derived.OpenShut
import Derived.ChangeMaps5
namespace Go.Proofs.Ytbnhkpceihfalaa.pathJoins
open Go.ChangeShapes Go.WideShapes Go.ChangeAt Go.RowKit Go.ChangeMaps
set_option linter.unusedVariables false

theorem own : ownKnob Try.prog.godebug = none := by kernel_rfl
theorem laidOut : laidOutB Try.prog = true := by kernel_rfl

/-- The law's answer. -/
def Yes (w : World) (e : Ending) (w' : World) : Prop := e = .returned (.bool true) ∧ Below w.heap.size w w'

set_option maxRecDepth 100000 in
set_option maxHeartbeats 1000000 in
theorem walk_long (p q : ByteArray) (w : World) (hp : p.size ≤ maxLen) (hq : q.size ≤ maxLen) (h : 100 < p.size ∨ 100 < q.size) : Calls Try.prog 8 #[.string p, .string q] w (Yes w) := by
  unfold maxLen at hp hq
  by_cases h1 : 100 < p.size
  · clear h
    go_enter Try.func8, Try.ntmps8
    go_wp2_with (go_at_call 10; refine (anchor_any _).mono ?_; rintro e w1 ⟨rfl, hw1⟩; have HB := hid hw1; clear hw1)
    go_ret
    exact ⟨rfl, HB.out⟩
  · have h2 : 100 < q.size := by omega
    clear h
    go_enter Try.func8, Try.ntmps8
    go_wp2_with (go_at_call 10; refine (anchor_any _).mono ?_; rintro e w1 ⟨rfl, hw1⟩; have HB := hid hw1; clear hw1)
    go_ret
    exact ⟨rfl, HB.out⟩

set_option maxRecDepth 100000 in
set_option maxHeartbeats 1000000 in
theorem walk_wrong (p q : ByteArray) (w : World) (hp : p.size ≤ 100) (hq : q.size ≤ 100) (a b : Bool) (h1 : right (L p) = a) (h2 : right (L q) = b) (h : (a && b) = false) : Calls Try.prog 8 #[.string p, .string q] w (Yes w) := by
  have H1 := hid h1
  have H2 := hid h2
  clear h1 h2
  cases a <;> cases b <;> first | exact absurd h (by decide) | skip
  all_goals
    clear h
    go_enter Try.func8, Try.ntmps8
    go_wp2_with (first
      | (go_at_call 10; refine (anchor_any _).mono ?_; rintro e w1 ⟨rfl, hw1⟩; have HW := hid hw1; clear hw1)
      | (go_at_call 14; refine (refright_any _ _ (by omega)).mono ?_; rintro e w1 ⟨rfl, hw1⟩; (first | rw [H1.out] | rw [H2.out]); replace HW := hid (below_on HW.out hw1); clear hw1))
    go_ret
    exact ⟨rfl, HW.out⟩

theorem L_two (p q : ByteArray) : L (p ++ ⟨#[47]⟩ ++ q) = L p ++ 47 :: L q := by
  rw [L_append, L_append]; show (L p ++ [47]) ++ L q = _; simp
theorem L_long (p q : ByteArray) : L (p ++ ⟨#[47, 47, 46, 47]⟩ ++ q ++ ⟨#[47]⟩) = L p ++ [47, 47, 46, 47] ++ L q ++ [47] := by
  rw [L_append, L_append, L_append]; rfl
theorem L_up (s : ByteArray) : L (s ++ ⟨#[47, 46, 46]⟩) = L s ++ [47, 46, 46] := by rw [L_append]; rfl

theorem size_two (p q : ByteArray) : (p ++ ⟨#[47]⟩ ++ q).size = p.size + 1 + q.size := by rw [ByteArray.size_append, ByteArray.size_append]; rfl
theorem size_long (p q : ByteArray) : (p ++ ⟨#[47, 47, 46, 47]⟩ ++ q ++ ⟨#[47]⟩).size = p.size + 4 + q.size + 1 := by rw [ByteArray.size_append, ByteArray.size_append, ByteArray.size_append]; rfl
theorem size_up (s : ByteArray) : (s ++ ⟨#[47, 46, 46]⟩).size = s.size + 3 := by rw [ByteArray.size_append]; rfl

set_option maxRecDepth 100000 in
set_option maxHeartbeats 2000000 in
theorem walk_no (p q : ByteArray) (w : World) (hp : p.size ≤ 100) (hq : q.size ≤ 100) (h1 : right (L p) = true) (h2 : right (L q) = true) (h3 : right (L p ++ 47 :: L q) = false) : Calls Try.prog 8 #[.string p, .string q] w (Yes w) := by
  obtain ⟨k, hk, hn⟩ := (finish_two h1 h2).2 h3
  have HN : Hid (normal (L (p ++ ⟨#[47, 47, 46, 47]⟩ ++ q ++ ⟨#[47]⟩)) = ([], k)) := hid (by rw [L_long, normal_two h1 h2, hn])
  have HZ : Hid ((p ++ ⟨#[47, 47, 46, 47]⟩ ++ q ++ ⟨#[47]⟩).size ≤ 900) := hid (by rw [size_long]; omega)
  have H3 : Hid (right (L (p ++ ⟨#[47]⟩ ++ q)) = false) := hid (by rw [L_two]; exact h3)
  have HZ3 : Hid ((p ++ ⟨#[47]⟩ ++ q).size ≤ 900) := hid (by rw [size_two]; omega)
  have H1 := hid h1
  have H2 := hid h2
  have e0 : ((k : Int) == 0) = false := by simpa using hk
  have e1 : ((k : Int) != 0) = true := by simpa using hk
  clear h1 h2 h3 hn hk
  go_enter Try.func8, Try.ntmps8
  go_wp2_with (first
    | (go_at_call 10; refine (anchor_any _).mono ?_; rintro e w1 ⟨rfl, hw1⟩; have HW := hid hw1; clear hw1)
    | (go_at_call 14; refine (refright_any _ _ (by first | omega | exact HZ3.out)).mono ?_; rintro e w1 ⟨rfl, hw1⟩; (first | rw [H1.out] | rw [H2.out] | rw [H3.out]); replace HW := hid (below_on HW.out hw1); clear hw1)
    | (go_at_call 11; refine (normal_any _ _ (by exact HZ.out)).mono ?_; rintro e w1 ⟨r, rfl, hr, hw1⟩; rw [HN.out] at hr; rw [HN.out]; obtain rfl : r = ⟨#[]⟩ := eq_of_L hr; replace HW := hid (below_on HW.out hw1); clear hw1 hr))
  go_ret
  exact ⟨rfl, HW.out⟩

set_option maxRecDepth 100000 in
set_option maxHeartbeats 4000000 in
theorem walk_yes (p q : ByteArray) (w : World) (hp : p.size ≤ 100) (hq : q.size ≤ 100) (h1 : right (L p) = true) (h2 : right (L q) = true) (h3 : right (L p ++ 47 :: L q) = true) : Calls Try.prog 8 #[.string p, .string q] w (Yes w) := by
  have hn := (finish_two h1 h2).1 h3
  obtain ⟨hdep, hone⟩ := two_parts h1 h2 h3
  obtain ⟨s, hs⟩ : ∃ s, p ++ ⟨#[47]⟩ ++ q = s := ⟨_, rfl⟩
  have hLs : L s = L p ++ 47 :: L q := by rw [← hs, L_two]
  have hsz : s.size ≤ 201 := by rw [← hs, size_two]; omega
  have HN : Hid (normal (L (p ++ ⟨#[47, 47, 46, 47]⟩ ++ q ++ ⟨#[47]⟩)) = (L s, 0)) := hid (by rw [L_long, normal_two h1 h2, hn, hLs])
  have HZ : Hid ((p ++ ⟨#[47, 47, 46, 47]⟩ ++ q ++ ⟨#[47]⟩).size ≤ 900) := hid (by rw [size_long]; omega)
  obtain ⟨u, hu⟩ : ∃ u, join (pieces (L s)).dropLast = u := ⟨_, rfl⟩
  rw [← hLs] at hdep hone h3
  have HU : Hid (normal (L (s ++ ⟨#[47, 46, 46]⟩)) = (u, 0)) := hid (by rw [L_up, normal_up h3 hone, hu])
  have HUZ : Hid ((s ++ ⟨#[47, 46, 46]⟩).size ≤ 900) := hid (by rw [size_up]; omega)
  have HP : Hid (parent (L s) = (u, true)) := hid (by rw [parent_two h3 hone, hu])
  have HA : Hid (above (L p) (L s) = true) := hid (by rw [hLs] at h3 ⊢; exact above_two h3)
  have HD := hid hdep
  have H3 : Hid (right (L (p ++ ⟨#[47]⟩ ++ q)) = true) := hid (by rw [hs]; exact h3)
  have HZ3 : Hid ((p ++ ⟨#[47]⟩ ++ q).size ≤ 900) := hid (by rw [hs]; omega)
  have HS := hid hs
  have H1 := hid h1
  have H2 := hid h2
  have hpl : ∀ t, (parts t).length ≤ 8 := fun t => parts_le
  obtain ⟨np, hnp⟩ : ∃ n, (parts (L p)).length = n := ⟨_, rfl⟩
  obtain ⟨nq, hnq⟩ : ∃ n, (parts (L q)).length = n := ⟨_, rfl⟩
  have hp8 : np ≤ 8 := by rw [← hnp]; exact parts_le
  have hq8 : nq ≤ 8 := by rw [← hnq]; exact parts_le
  have HNP := hid hnp
  have HNQ := hid hnq
  have HNS : Hid (((parts (L s)).length : Int) = (np : Int) + (nq : Int)) := hid (by rw [hdep, hnp, hnq]; omega)
  clear h1 h2 h3 hn hs hLs hu hdep hone hpl hnp hnq
  go_enter Try.func8, Try.ntmps8
  go_wp2_with fail
  refine (anchor_any _).mono ?_
  rintro e w1 ⟨rfl, hw1⟩
  have HW := hid hw1
  clear hw1
  go_wp2_with fail
  refine (refright_any p _ (by omega)).mono ?_
  rintro e w2 ⟨rfl, hw1⟩
  rw [H1.out]
  replace HW := hid (below_on HW.out hw1)
  clear hw1
  go_wp2_with fail
  refine (refright_any q _ (by omega)).mono ?_
  rintro e w3 ⟨rfl, hw1⟩
  rw [H2.out]
  replace HW := hid (below_on HW.out hw1)
  clear hw1
  go_wp2_with fail
  with_reducible refine (normal_any (p ++ ⟨#[47, 47, 46, 47]⟩ ++ q ++ ⟨#[47]⟩) _ HZ.out).mono ?_
  rintro e w4 ⟨r, rfl, hr, hw1⟩
  rw [HN.out] at hr
  rw [HN.out]
  obtain rfl : r = s := L_inj.1 hr
  replace HW := hid (below_on HW.out hw1)
  clear hw1 hr
  go_wp2_with fail
  with_reducible refine (refright_any (p ++ ⟨#[47]⟩ ++ q) _ HZ3.out).mono ?_
  rintro e w5 ⟨rfl, hw1⟩
  rw [H3.out]
  replace HW := hid (below_on HW.out hw1)
  clear hw1
  go_wp2_with fail
  with_reducible refine (normal_any (r ++ ⟨#[47, 46, 46]⟩) _ HUZ.out).mono ?_
  rintro e w6 ⟨r2, rfl, hr, hw1⟩
  rw [HU.out] at hr
  rw [HU.out]
  have HR2 := hid hr
  replace HW := hid (below_on HW.out hw1)
  clear hw1 hr
  go_wp2_with fail
  with_reducible refine (parent_any r _ (by omega)).mono ?_
  rintro e w7 ⟨r3, rfl, hr, hw1⟩
  rw [HP.out] at hr
  rw [HP.out]
  obtain rfl : r3 = r2 := L_inj.1 (hr.trans HR2.out.symm)
  replace HW := hid (below_on HW.out hw1)
  clear hw1 hr
  have e9 : (r.toList == (p ++ ⟨#[47]⟩ ++ q).toList) = true := by rw [HS.out]; exact beq_self_eq_true _
  have e10 : r.toList = (p ++ ⟨#[47]⟩ ++ q).toList := by rw [HS.out]
  go_wp2_with fail
  with_reducible refine (above_any p r _ (by omega)).mono ?_
  rintro e w8 ⟨rfl, hw1⟩
  rw [HA.out]
  replace HW := hid (below_on HW.out hw1)
  clear hw1 e9 e10
  go_wp2_with fail
  with_reducible refine (depth_any r _ (by omega)).mono ?_
  rintro e w9 ⟨rfl, hw1⟩
  rw [HNS.out]
  replace HW := hid (below_on HW.out hw1)
  clear hw1
  go_wp2_with fail
  with_reducible refine (depth_any p _ (by omega)).mono ?_
  rintro e w10 ⟨rfl, hw1⟩
  rw [HNP.out]
  replace HW := hid (below_on HW.out hw1)
  clear hw1
  go_wp2_with fail
  with_reducible refine (depth_any q _ (by omega)).mono ?_
  rintro e w11 ⟨rfl, hw1⟩
  rw [HNQ.out]
  replace HW := hid (below_on HW.out hw1)
  clear hw1
  go_wp2
  go_ret
  exact ⟨rfl, HW.out⟩

/-- The Go text returns true. -/
theorem walk (p q : ByteArray) (hp : p.size ≤ maxLen) (hq : q.size ≤ maxLen) (w : World) :
    Calls Try.prog 8 #[.string p, .string q] w fun e w' => e = .returned (.bool true) ∧ Below w.heap.size w w' := by
  by_cases h : 100 < p.size ∨ 100 < q.size
  · exact walk_long p q w hp hq h
  · by_cases h12 : right (L p) = true ∧ right (L q) = true
    · cases h3 : right (L p ++ 47 :: L q) with
      | true => exact walk_yes p q w (by omega) (by omega) h12.1 h12.2 h3
      | false => exact walk_no p q w (by omega) (by omega) h12.1 h12.2 h3
    · refine walk_wrong p q w (by omega) (by omega) _ _ rfl rfl ?_
      cases h1 : right (L p) <;> cases h2 : right (L q) <;> try rfl
      exact absurd ⟨h1, h2⟩ h12

set_option maxRecDepth 100000 in
theorem lifted (os : Os) (started : os.Started) (H : Type) (enc : TypeId × Value → H) :
    ReturnsInHanded {} Try.checked os 8 .any (Rows.pathJoinsSpec.pre6 enc Try.prog Try.f8 Rows.pathJoinsRow.domain false) (Rows.pathJoinsSpec.post enc Try.prog Try.f8 false true false false) := by
  refine returnsInHanded_of_change (C := Try.checked) own started (by kernel_rfl) Try.func8
    (ChangeSpec.witness6 (enc := enc) (C := Try.checked) false ⟨#[], #[.string ⟨#[]⟩, .string ⟨#[]⟩], []⟩ 8 (by kernel_rfl) (by kernel_rfl) (by kernel_rfl) (by kernel_rfl)) ?_
  intro W base args ds gs before hval0 hW _ _
  have hval : ∀ (j : Nat) t v, Try.f8.params[j]? = some t → args[j]? = some v → Value.okWide Try.prog W .any base t v := hval0
  have hW' := hW
  obtain ⟨p, q, hA0, hV, rfl, _, _⟩ := hW
  have hA : DataW.TrodAll enc Try.prog W 0 (fun _ => true) true Try.f8.params.toList args.toList ds p := hA0
  rw [Try.params8] at hA hval
  have hlt : ∀ x ∈ p, x.block < W.heap.size := fun x hx => by simpa using hW'.lt x (List.mem_append_left _ hx)
  obtain ⟨v0, vs0, d0, ds0, p0, q0, hargs, rfl, rfl, g0, r0⟩ := trodAll_cons hA
  obtain ⟨v1, vs1, d1, ds1, p1, q1, rfl, rfl, rfl, g1, r1⟩ := trodAll_cons r0
  obtain ⟨rfl, rfl, rfl⟩ := trodAll_nil r1
  obtain rfl : args = #[v0, v1] := by cases args; simp_all
  obtain ⟨rfl, rfl⟩ := trodVars_none hV
  obtain ⟨a0, rfl, rfl, rfl, w0⟩ := open_string Try.underlying9 (hval 0 9 v0 rfl rfl) g0
  obtain ⟨a1, rfl, rfl, rfl, w1⟩ := open_string Try.underlying9 (hval 1 9 v1 rfl rfl) g1
  refine (walk a0 a1 w0 w1 W).mono fun e W' ⟨he, hg⟩ => ?_
  subst he
  exact ⟨_, rfl, law_post laidOut hW' (by kernel_rfl) rfl rfl Try.underlying4 rfl hg⟩

theorem proved : Rows.PathJoinsSaid :=
  OpenClaim.holds_of_wide 8 Try.f8 rfl rfl rfl rfl rfl rfl rfl ⟨rfl, rfl, rfl, rfl, rfl⟩ rfl rfl rfl rfl rfl (by kernel_rfl) Try.func8 (by kernel_rfl)
    (of_decide_eq_true (by kernel_rfl)) (by unfold Func.isWrapper; first | (rw [if_pos (by decide +kernel)]; kernel_rfl) | (rw [if_neg (by decide +kernel)]; exact ⟨rfl, rfl⟩))
    (fun os started H enc _ => lifted os started H enc)
#print axioms proved
end Go.Proofs.Ytbnhkpceihfalaa.pathJoins
