/-
  PathOrder: for any three texts, the order of paths has three answers and is turned by turning its arguments, tells just the same texts as the same, puts what lies above first, is an order among paths, and all that lies below a path stands together. No condition.
-/
import Derived.Test.YtbnhkpceihfalaaPAnchor
import Derived.Test.YtbnhkpceihfalaaPCmp
import Derived.ProofKit
import Derived.OpenShut
import Derived.ChangeMaps5
namespace Go.Proofs.Ytbnhkpceihfalaa.pathOrder
open Go.ChangeShapes Go.WideShapes Go.ChangeAt Go.RowKit Go.ChangeMaps
set_option linter.unusedVariables false

theorem own : ownKnob Try.prog.godebug = none := by kernel_rfl
theorem laidOut : laidOutB Try.prog = true := by kernel_rfl

/-- The law's answer. -/
def Yes (w : World) (e : Ending) (w' : World) : Prop := e = .returned (.bool true) ∧ Below w.heap.size w w'

set_option maxRecDepth 100000 in
set_option maxHeartbeats 1000000 in
theorem walk_long (p q r : ByteArray) (w : World) (hp : p.size ≤ maxLen) (hq : q.size ≤ maxLen) (hr : r.size ≤ maxLen) (h : 100 < p.size ∨ 100 < q.size ∨ 100 < r.size) : Calls Try.prog 7 #[.string p, .string q, .string r] w (Yes w) := by
  unfold maxLen at hp hq hr
  by_cases h1 : 100 < p.size
  · clear h
    go_enter Try.func7, Try.ntmps7
    go_wp2_with (go_at_call 10; refine (anchor_any _).mono ?_; rintro e w1 ⟨rfl, hw1⟩; have HB := hid hw1; clear hw1)
    go_ret
    exact ⟨rfl, HB.out⟩
  · by_cases h2 : 100 < q.size
    · clear h
      go_enter Try.func7, Try.ntmps7
      go_wp2_with (go_at_call 10; refine (anchor_any _).mono ?_; rintro e w1 ⟨rfl, hw1⟩; have HB := hid hw1; clear hw1)
      go_ret
      exact ⟨rfl, HB.out⟩
    · have h3 : 100 < r.size := by omega
      clear h
      go_enter Try.func7, Try.ntmps7
      go_wp2_with (go_at_call 10; refine (anchor_any _).mono ?_; rintro e w1 ⟨rfl, hw1⟩; have HB := hid hw1; clear hw1)
      go_ret
      exact ⟨rfl, HB.out⟩


/-- The same text, or spelled otherwise. -/
def Spelled (p q : ByteArray) (c : Int) : Prop := (c = 0 ∧ p = q) ∨ (c = -1 ∧ p ≠ q) ∨ (c = 1 ∧ p ≠ q)

set_option maxRecDepth 100000 in
set_option maxHeartbeats 8000000 in
/-- Where not all three are paths. -/
theorem walk_some (p q r : ByteArray) (w : World) (hp : p.size ≤ 100) (hq : q.size ≤ 100) (hr : r.size ≤ 100) (x y z a b rp rq rr : Bool) (cv dv ev : Int)
    (hc : cmpOf (L p) (L q) = cv) (hd : cmpOf (L q) (L r) = dv) (he : cmpOf (L p) (L r) = ev) (ha : above (L p) (L q) = a) (hb : above (L p) (L r) = b)
    (h1 : right (L p) = rp) (h2 : right (L q) = rq) (h3 : right (L r) = rr) (hs : Spelled p q cv) (hac : a = true → cv ≤ 0) (hall : (rp && rq && rr) = false) :
    Calls Try.prog 7 #[.string p, .string q, .string r] w (Yes w) := by
  have HA := hid ha
  have HB := hid hb
  have HD := hid hd
  have HE := hid he
  have HRP := hid h1
  have HRQ := hid h2
  have HRR := hid h3
  have hc2 := cmpOf_swap (L p) (L q)
  rw [hc] at hc2
  have HAC : Hid (a = true → cv ≤ 0) := hid hac
  rcases hs with ⟨rfl, rfl⟩ | ⟨rfl, hne⟩ | ⟨rfl, hne⟩
  · have HC := hid hc
    have HC2 := hid hc2
    obtain rfl : rp = rq := h1.symm.trans h2
    clear ha hb hd he h1 h2 h3 hc2 hac hc
    cases a <;> cases rp <;> cases rr <;> first | exact absurd hall (by decide) | skip
    all_goals
      clear hall
      go_enter Try.func7, Try.ntmps7
      go_wp2_with (first
        | (go_at_call 10; refine (anchor_any _).mono ?_; rintro e w1 ⟨rfl, hw1⟩; have HW := hid hw1; clear hw1)
        | (go_at_call 22; refine (compare_any _ _ _ (by omega) (by omega)).mono ?_; rintro e w1 ⟨rfl, hw1⟩; (first | rw [HC.out] | rw [HC2.out] | rw [HD.out] | rw [HE.out]); replace HW := hid (below_on HW.out hw1); clear hw1)
        | (go_at_call 17; refine (above_any _ _ _ (by omega)).mono ?_; rintro e w1 ⟨rfl, hw1⟩; (first | rw [HA.out] | rw [HB.out]); replace HW := hid (below_on HW.out hw1); clear hw1)
        | (go_at_call 13; refine (right_any _ _ (by omega)).mono ?_; rintro e w1 ⟨rfl, hw1⟩; (first | rw [HRP.out] | rw [HRQ.out] | rw [HRR.out]); replace HW := hid (below_on HW.out hw1); clear hw1))
      go_ret
      exact ⟨rfl, HW.out⟩
  · have HC := hid hc
    have HC2 := hid hc2
    obtain ⟨e1, e2, e3⟩ := spell_ne hne
    clear ha hb hd he h1 h2 h3 hc2 hac hc hne
    cases a <;> cases rp <;> cases rq <;> cases rr <;> first | exact absurd hall (by decide) | skip
    all_goals
      clear hall
      go_enter Try.func7, Try.ntmps7
      go_wp2_with (first
        | (go_at_call 10; refine (anchor_any _).mono ?_; rintro e w1 ⟨rfl, hw1⟩; have HW := hid hw1; clear hw1)
        | (go_at_call 22; refine (compare_any _ _ _ (by omega) (by omega)).mono ?_; rintro e w1 ⟨rfl, hw1⟩; (first | rw [HC.out] | rw [HC2.out] | rw [HD.out] | rw [HE.out]); replace HW := hid (below_on HW.out hw1); clear hw1)
        | (go_at_call 17; refine (above_any _ _ _ (by omega)).mono ?_; rintro e w1 ⟨rfl, hw1⟩; (first | rw [HA.out] | rw [HB.out]); replace HW := hid (below_on HW.out hw1); clear hw1)
        | (go_at_call 13; refine (right_any _ _ (by omega)).mono ?_; rintro e w1 ⟨rfl, hw1⟩; (first | rw [HRP.out] | rw [HRQ.out] | rw [HRR.out]); replace HW := hid (below_on HW.out hw1); clear hw1))
      go_ret
      exact ⟨rfl, HW.out⟩
  · have HC := hid hc
    have HC2 := hid hc2
    obtain ⟨e1, e2, e3⟩ := spell_ne hne
    obtain rfl : a = false := by cases a with | false => rfl | true => exact absurd (HAC.out rfl) (by decide)
    clear ha hb hd he h1 h2 h3 hc2 hac hc hne
    cases rp <;> cases rq <;> cases rr <;> first | exact absurd hall (by decide) | skip
    all_goals
      clear hall
      go_enter Try.func7, Try.ntmps7
      go_wp2_with (first
        | (go_at_call 10; refine (anchor_any _).mono ?_; rintro e w1 ⟨rfl, hw1⟩; have HW := hid hw1; clear hw1)
        | (go_at_call 22; refine (compare_any _ _ _ (by omega) (by omega)).mono ?_; rintro e w1 ⟨rfl, hw1⟩; (first | rw [HC.out] | rw [HC2.out] | rw [HD.out] | rw [HE.out]); replace HW := hid (below_on HW.out hw1); clear hw1)
        | (go_at_call 17; refine (above_any _ _ _ (by omega)).mono ?_; rintro e w1 ⟨rfl, hw1⟩; (first | rw [HA.out] | rw [HB.out]); replace HW := hid (below_on HW.out hw1); clear hw1)
        | (go_at_call 13; refine (right_any _ _ (by omega)).mono ?_; rintro e w1 ⟨rfl, hw1⟩; (first | rw [HRP.out] | rw [HRQ.out] | rw [HRR.out]); replace HW := hid (below_on HW.out hw1); clear hw1))
      go_ret
      exact ⟨rfl, HW.out⟩

set_option maxRecDepth 100000 in
set_option maxHeartbeats 8000000 in
/-- Where all three are paths. -/
theorem walk_all (p q r : ByteArray) (w : World) (hp : p.size ≤ 100) (hq : q.size ≤ 100) (hr : r.size ≤ 100) (a b : Bool) (cv dv ev : Int)
    (hc : cmpOf (L p) (L q) = cv) (hd : cmpOf (L q) (L r) = dv) (he : cmpOf (L p) (L r) = ev) (ha : above (L p) (L q) = a) (hb : above (L p) (L r) = b)
    (h1 : right (L p) = true) (h2 : right (L q) = true) (h3 : right (L r) = true) (hs : Spelled p q cv) (hac : a = true → cv ≤ 0) (htr : cv ≤ 0 → dv ≤ 0 → ev ≤ 0) (hbt : b = true → cv ≤ 0 → dv ≤ 0 → a = true) :
    Calls Try.prog 7 #[.string p, .string q, .string r] w (Yes w) := by
  have HA := hid ha
  have HB := hid hb
  have HD := hid hd
  have HE := hid he
  have HRP := hid h1
  have HRQ := hid h2
  have HRR := hid h3
  have hc2 := cmpOf_swap (L p) (L q)
  rw [hc] at hc2
  have HAC : Hid (a = true → cv ≤ 0) := hid hac
  have HTR : Hid (cv ≤ 0 → dv ≤ 0 → ev ≤ 0) := hid htr
  have HBT : Hid (b = true → cv ≤ 0 → dv ≤ 0 → a = true) := hid hbt
  rcases hs with ⟨rfl, rfl⟩ | ⟨rfl, hne⟩ | ⟨rfl, hne⟩
  · have HC := hid hc
    have HC2 := hid hc2
    clear ha hb hd he h1 h2 h3 hc2 hac hc htr hbt
    by_cases hd0 : dv ≤ 0
    · have he0 := HTR.out (by decide) hd0
      cases a <;> cases b <;> first | exact absurd (HBT.out rfl (by decide) hd0) (by decide) | skip
      all_goals
        go_enter Try.func7, Try.ntmps7
        go_wp2_with (first
          | (go_at_call 10; refine (anchor_any _).mono ?_; rintro e w1 ⟨rfl, hw1⟩; have HW := hid hw1; clear hw1)
          | (go_at_call 22; refine (compare_any _ _ _ (by omega) (by omega)).mono ?_; rintro e w1 ⟨rfl, hw1⟩; (first | rw [HC.out] | rw [HC2.out] | rw [HD.out] | rw [HE.out]); replace HW := hid (below_on HW.out hw1); clear hw1)
          | (go_at_call 17; refine (above_any _ _ _ (by omega)).mono ?_; rintro e w1 ⟨rfl, hw1⟩; (first | rw [HA.out] | rw [HB.out]); replace HW := hid (below_on HW.out hw1); clear hw1)
          | (go_at_call 13; refine (right_any _ _ (by omega)).mono ?_; rintro e w1 ⟨rfl, hw1⟩; (first | rw [HRP.out] | rw [HRQ.out] | rw [HRR.out]); replace HW := hid (below_on HW.out hw1); clear hw1))
        go_ret
        exact ⟨rfl, HW.out⟩
    · have hd1 : 0 < dv := by omega
      cases a <;> cases b
      all_goals
        go_enter Try.func7, Try.ntmps7
        go_wp2_with (first
          | (go_at_call 10; refine (anchor_any _).mono ?_; rintro e w1 ⟨rfl, hw1⟩; have HW := hid hw1; clear hw1)
          | (go_at_call 22; refine (compare_any _ _ _ (by omega) (by omega)).mono ?_; rintro e w1 ⟨rfl, hw1⟩; (first | rw [HC.out] | rw [HC2.out] | rw [HD.out] | rw [HE.out]); replace HW := hid (below_on HW.out hw1); clear hw1)
          | (go_at_call 17; refine (above_any _ _ _ (by omega)).mono ?_; rintro e w1 ⟨rfl, hw1⟩; (first | rw [HA.out] | rw [HB.out]); replace HW := hid (below_on HW.out hw1); clear hw1)
          | (go_at_call 13; refine (right_any _ _ (by omega)).mono ?_; rintro e w1 ⟨rfl, hw1⟩; (first | rw [HRP.out] | rw [HRQ.out] | rw [HRR.out]); replace HW := hid (below_on HW.out hw1); clear hw1))
        go_ret
        exact ⟨rfl, HW.out⟩
  · have HC := hid hc
    have HC2 := hid hc2
    obtain ⟨e1, e2, e3⟩ := spell_ne hne
    clear ha hb hd he h1 h2 h3 hc2 hac hc hne htr hbt
    by_cases hd0 : dv ≤ 0
    · have he0 := HTR.out (by decide) hd0
      cases a <;> cases b <;> first | exact absurd (HBT.out rfl (by decide) hd0) (by decide) | skip
      all_goals
        go_enter Try.func7, Try.ntmps7
        go_wp2_with (first
          | (go_at_call 10; refine (anchor_any _).mono ?_; rintro e w1 ⟨rfl, hw1⟩; have HW := hid hw1; clear hw1)
          | (go_at_call 22; refine (compare_any _ _ _ (by omega) (by omega)).mono ?_; rintro e w1 ⟨rfl, hw1⟩; (first | rw [HC.out] | rw [HC2.out] | rw [HD.out] | rw [HE.out]); replace HW := hid (below_on HW.out hw1); clear hw1)
          | (go_at_call 17; refine (above_any _ _ _ (by omega)).mono ?_; rintro e w1 ⟨rfl, hw1⟩; (first | rw [HA.out] | rw [HB.out]); replace HW := hid (below_on HW.out hw1); clear hw1)
          | (go_at_call 13; refine (right_any _ _ (by omega)).mono ?_; rintro e w1 ⟨rfl, hw1⟩; (first | rw [HRP.out] | rw [HRQ.out] | rw [HRR.out]); replace HW := hid (below_on HW.out hw1); clear hw1))
        go_ret
        exact ⟨rfl, HW.out⟩
    · have hd1 : 0 < dv := by omega
      cases a <;> cases b
      all_goals
        go_enter Try.func7, Try.ntmps7
        go_wp2_with (first
          | (go_at_call 10; refine (anchor_any _).mono ?_; rintro e w1 ⟨rfl, hw1⟩; have HW := hid hw1; clear hw1)
          | (go_at_call 22; refine (compare_any _ _ _ (by omega) (by omega)).mono ?_; rintro e w1 ⟨rfl, hw1⟩; (first | rw [HC.out] | rw [HC2.out] | rw [HD.out] | rw [HE.out]); replace HW := hid (below_on HW.out hw1); clear hw1)
          | (go_at_call 17; refine (above_any _ _ _ (by omega)).mono ?_; rintro e w1 ⟨rfl, hw1⟩; (first | rw [HA.out] | rw [HB.out]); replace HW := hid (below_on HW.out hw1); clear hw1)
          | (go_at_call 13; refine (right_any _ _ (by omega)).mono ?_; rintro e w1 ⟨rfl, hw1⟩; (first | rw [HRP.out] | rw [HRQ.out] | rw [HRR.out]); replace HW := hid (below_on HW.out hw1); clear hw1))
        go_ret
        exact ⟨rfl, HW.out⟩
  · have HC := hid hc
    have HC2 := hid hc2
    obtain ⟨e1, e2, e3⟩ := spell_ne hne
    obtain rfl : a = false := by cases a with | false => rfl | true => exact absurd (HAC.out rfl) (by decide)
    clear ha hb hd he h1 h2 h3 hc2 hac hc hne htr hbt
    cases b
    all_goals
      go_enter Try.func7, Try.ntmps7
      go_wp2_with (first
        | (go_at_call 10; refine (anchor_any _).mono ?_; rintro e w1 ⟨rfl, hw1⟩; have HW := hid hw1; clear hw1)
        | (go_at_call 22; refine (compare_any _ _ _ (by omega) (by omega)).mono ?_; rintro e w1 ⟨rfl, hw1⟩; (first | rw [HC.out] | rw [HC2.out] | rw [HD.out] | rw [HE.out]); replace HW := hid (below_on HW.out hw1); clear hw1)
        | (go_at_call 17; refine (above_any _ _ _ (by omega)).mono ?_; rintro e w1 ⟨rfl, hw1⟩; (first | rw [HA.out] | rw [HB.out]); replace HW := hid (below_on HW.out hw1); clear hw1)
        | (go_at_call 13; refine (right_any _ _ (by omega)).mono ?_; rintro e w1 ⟨rfl, hw1⟩; (first | rw [HRP.out] | rw [HRQ.out] | rw [HRR.out]); replace HW := hid (below_on HW.out hw1); clear hw1))
      go_ret
      exact ⟨rfl, HW.out⟩

/-- The Go text returns true. -/
theorem walk (p q r : ByteArray) (hp : p.size ≤ maxLen) (hq : q.size ≤ maxLen) (hr : r.size ≤ maxLen) (w : World) :
    Calls Try.prog 7 #[.string p, .string q, .string r] w fun e w' => e = .returned (.bool true) ∧ Below w.heap.size w w' := by
  by_cases h : 100 < p.size ∨ 100 < q.size ∨ 100 < r.size
  · exact walk_long p q r w hp hq hr h
  · have hs : Spelled p q (cmpOf (L p) (L q)) := by
      have hsame := cmpOf_same (L p) (L q)
      rcases cmpOf_three (L p) (L q) with h | h | h
      · exact .inr (.inl ⟨h, fun e => by rw [hsame.2 (by rw [e])] at h; exact absurd h (by decide)⟩)
      · exact .inl ⟨h, L_inj.1 (hsame.1 h)⟩
      · exact .inr (.inr ⟨h, fun e => by rw [hsame.2 (by rw [e])] at h; exact absurd h (by decide)⟩)
    by_cases hall : right (L p) = true ∧ right (L q) = true ∧ right (L r) = true
    · obtain ⟨h1, h2, h3⟩ := hall
      exact walk_all p q r w (by omega) (by omega) (by omega) _ _ _ _ _ rfl rfl rfl rfl rfl h1 h2 h3 hs cmpOf_above (fun a b => cmpOf_trans h1 h2 h3 a b) (fun a b c => cmpOf_between h2 a b c)
    · refine walk_some p q r w (by omega) (by omega) (by omega) true true true _ _ _ _ _ _ _ _ rfl rfl rfl rfl rfl rfl rfl rfl hs cmpOf_above ?_
      cases h1 : right (L p) <;> cases h2 : right (L q) <;> cases h3 : right (L r) <;> try rfl
      exact absurd ⟨h1, h2, h3⟩ hall

set_option maxRecDepth 100000 in
theorem lifted (os : Os) (started : os.Started) (H : Type) (enc : TypeId × Value → H) :
    ReturnsInHanded {} Try.checked os 7 .any (Rows.pathOrderSpec.pre6 enc Try.prog Try.f7 Rows.pathOrderRow.domain false) (Rows.pathOrderSpec.post enc Try.prog Try.f7 false true false false) := by
  refine returnsInHanded_of_change (C := Try.checked) own started (by kernel_rfl) Try.func7
    (ChangeSpec.witness6 (enc := enc) (C := Try.checked) false ⟨#[], #[.string ⟨#[]⟩, .string ⟨#[]⟩, .string ⟨#[]⟩], []⟩ 8 (by kernel_rfl) (by kernel_rfl) (by kernel_rfl) (by kernel_rfl)) ?_
  intro W base args ds gs before hval0 hW _ _
  have hval : ∀ (j : Nat) t v, Try.f7.params[j]? = some t → args[j]? = some v → Value.okWide Try.prog W .any base t v := hval0
  have hW' := hW
  obtain ⟨p, q, hA0, hV, rfl, _, _⟩ := hW
  have hA : DataW.TrodAll enc Try.prog W 0 (fun _ => true) true Try.f7.params.toList args.toList ds p := hA0
  rw [Try.params7] at hA hval
  have hlt : ∀ x ∈ p, x.block < W.heap.size := fun x hx => by simpa using hW'.lt x (List.mem_append_left _ hx)
  obtain ⟨v0, vs0, d0, ds0, p0, q0, hargs, rfl, rfl, g0, r0⟩ := trodAll_cons hA
  obtain ⟨v1, vs1, d1, ds1, p1, q1, rfl, rfl, rfl, g1, r1⟩ := trodAll_cons r0
  obtain ⟨v2, vs2, d2, ds2, p2, q2, rfl, rfl, rfl, g2, r2⟩ := trodAll_cons r1
  obtain ⟨rfl, rfl, rfl⟩ := trodAll_nil r2
  obtain rfl : args = #[v0, v1, v2] := by cases args; simp_all
  obtain ⟨rfl, rfl⟩ := trodVars_none hV
  obtain ⟨a0, rfl, rfl, rfl, w0⟩ := open_string Try.underlying9 (hval 0 9 v0 rfl rfl) g0
  obtain ⟨a1, rfl, rfl, rfl, w1⟩ := open_string Try.underlying9 (hval 1 9 v1 rfl rfl) g1
  obtain ⟨a2, rfl, rfl, rfl, w2⟩ := open_string Try.underlying9 (hval 2 9 v2 rfl rfl) g2
  refine (walk a0 a1 a2 w0 w1 w2 W).mono fun e W' ⟨he, hg⟩ => ?_
  subst he
  exact ⟨_, rfl, law_post laidOut hW' (by kernel_rfl) rfl rfl Try.underlying4 rfl hg⟩

theorem proved : Rows.PathOrderSaid :=
  OpenClaim.holds_of_wide 7 Try.f7 rfl rfl rfl rfl rfl rfl rfl ⟨rfl, rfl, rfl, rfl, rfl⟩ rfl rfl rfl rfl rfl (by kernel_rfl) Try.func7 (by kernel_rfl)
    (of_decide_eq_true (by kernel_rfl)) (by unfold Func.isWrapper; first | (rw [if_pos (by decide +kernel)]; kernel_rfl) | (rw [if_neg (by decide +kernel)]; exact ⟨rfl, rfl⟩))
    (fun os started H enc _ => lifted os started H enc)
#print axioms proved
end Go.Proofs.Ytbnhkpceihfalaa.pathOrder
