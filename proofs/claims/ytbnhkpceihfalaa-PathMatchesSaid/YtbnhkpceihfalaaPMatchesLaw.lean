/-
  PathMatches: any text is a pattern for the program just where the document says so, and means a path just where its parts can be told apart so; a path's depth is the count of its parts. For any two texts. No condition.
-/
import Derived.Test.YtbnhkpceihfalaaPAnchor
import Derived.Test.YtbnhkpceihfalaaPMatch
import Derived.ProofKit
import Derived.OpenShut
import Derived.ChangeMaps5
namespace Go.Proofs.Ytbnhkpceihfalaa.pathMatches
open Go.ChangeShapes Go.WideShapes Go.ChangeAt Go.RowKit Go.ChangeMaps
set_option linter.unusedVariables false

theorem own : ownKnob Try.prog.godebug = none := by kernel_rfl
theorem laidOut : laidOutB Try.prog = true := by kernel_rfl

/-- The law's answer. -/
def Yes (w : World) (e : Ending) (w' : World) : Prop := e = .returned (.bool true) ∧ Below w.heap.size w w'

set_option maxRecDepth 100000 in
set_option maxHeartbeats 1000000 in
theorem walk_long (p q : ByteArray) (w : World) (hp : p.size ≤ maxLen) (hq : q.size ≤ maxLen) (h : 100 < p.size ∨ 100 < q.size) : Calls Try.prog 9 #[.string p, .string q] w (Yes w) := by
  unfold maxLen at hp hq
  by_cases h1 : 100 < p.size
  · clear h
    go_enter Try.func9, Try.ntmps9
    go_wp2_with (go_at_call 10; refine (anchor_any _).mono ?_; rintro e w1 ⟨rfl, hw1⟩; have HB := hid hw1; clear hw1)
    go_ret
    exact ⟨rfl, HB.out⟩
  · have h2 : 100 < q.size := by omega
    clear h
    go_enter Try.func9, Try.ntmps9
    go_wp2_with (go_at_call 10; refine (anchor_any _).mono ?_; rintro e w1 ⟨rfl, hw1⟩; have HB := hid hw1; clear hw1)
    go_ret
    exact ⟨rfl, HB.out⟩


theorem right_pattern {p : List UInt8} (h : right p = true) : pattern p = true := by
  obtain ⟨h1, h2, h3⟩ := right_iff.1 h
  unfold pattern rowOf
  rw [decide_eq_true h1, decide_eq_true h3, List.all_eq_true.2 (fun x hx => by unfold isPat; rw [h2 x hx]; simp)]
  rfl
theorem matches_self {p : List UInt8} (h : right p = true) : matches_ p p = true := by
  unfold matches_
  rw [right_pattern h, h, means_self (right_iff.1 h).2.1]
  rfl
theorem matches_star {p : List UInt8} (h : right p = true) : matches_ (L ⟨#[42, 42]⟩) p = true := by
  unfold matches_
  rw [h, show pattern (L ⟨#[42, 42]⟩) = true by decide, show pieces (L ⟨#[42, 42]⟩) = [[42, 42]] by decide, means_one_star]
  rfl
theorem depth_right {p : List UInt8} : right p = decide ((0 : Int) < ((parts p).length : Int)) := by
  cases h : right p with
  | true =>
    rw [parts_right h]
    have := List.length_pos_iff.2 (pieces_ne p)
    rw [decide_eq_true (by omega)]
  | false => rw [parts_wrong h]; rfl

set_option maxRecDepth 100000 in
set_option maxHeartbeats 4000000 in
/-- Where the one is no pattern, or the other one is no path. -/
theorem walk_no (s p : ByteArray) (w : World) (hs : s.size ≤ 100) (hp : p.size ≤ 100) (a b : Bool) (h1 : pattern (L s) = a) (h2 : right (L p) = b) (h : (a && b) = false) : Calls Try.prog 9 #[.string s, .string p] w (Yes w) := by
  have HM : Hid (matches_ (L s) (L p) = false) := hid (by unfold matches_; rw [h1, h2, h]; rfl)
  obtain ⟨nd, hnd⟩ : ∃ nd, (parts (L p)).length = nd := ⟨_, rfl⟩
  have hb : b = decide ((0 : Int) < (nd : Int)) := by rw [← h2, depth_right, hnd]
  have HND := hid hnd
  have H1 := hid h1
  have H2 := hid h2
  have hd : (b = true ∧ (0 : Int) < (nd : Int)) ∨ (b = false ∧ (nd : Int) ≤ 0) := by
    by_cases h0 : (0 : Int) < (nd : Int)
    · exact .inl ⟨by rw [hb]; exact decide_eq_true h0, h0⟩
    · exact .inr ⟨by rw [hb]; exact decide_eq_false h0, by omega⟩
  clear h1 h2 hb hnd
  rcases hd with ⟨rfl, hd⟩ | ⟨rfl, hd⟩
  all_goals
    cases a <;> first | exact absurd h (by decide) | skip
    all_goals
      clear h
      go_enter Try.func9, Try.ntmps9
      go_wp2_with (first
        | (go_at_call 10; refine (anchor_any _).mono ?_; rintro e w1 ⟨rfl, hw1⟩; have HW := hid hw1; clear hw1)
        | (go_at_call 24; refine (lawpattern_any _ _ (by omega)).mono ?_; rintro e w1 ⟨rfl, hw1⟩; rw [H1.out]; replace HW := hid (below_on HW.out hw1); clear hw1)
        | (go_at_call 25; refine (pattern_any _ _ (by omega)).mono ?_; rintro e w1 ⟨rfl, hw1⟩; rw [H1.out]; replace HW := hid (below_on HW.out hw1); clear hw1)
        | (go_at_call 14; refine (refright_any _ _ (by omega)).mono ?_; rintro e w1 ⟨rfl, hw1⟩; rw [H2.out]; replace HW := hid (below_on HW.out hw1); clear hw1)
        | (go_at_call 26; refine (match_any _ _ _ (by omega) (by omega)).mono ?_; rintro e w1 ⟨rfl, hw1⟩; rw [HM.out]; replace HW := hid (below_on HW.out hw1); clear hw1)
        | (go_at_call 23; refine (depth_any _ _ (by omega)).mono ?_; rintro e w1 ⟨rfl, hw1⟩; rw [HND.out]; replace HW := hid (below_on HW.out hw1); clear hw1))
      go_ret
      exact ⟨ret_bool (by simp; omega), HW.out⟩

set_option maxRecDepth 100000 in
set_option maxHeartbeats 4000000 in
theorem walk_yes (s p : ByteArray) (w : World) (hs : s.size ≤ 100) (hp : p.size ≤ 100) (h1 : pattern (L s) = true) (h2 : right (L p) = true) : Calls Try.prog 9 #[.string s, .string p] w (Yes w) := by
  obtain ⟨mb, hmb⟩ : ∃ mb, means (pieces (L s)) (pieces (L p)) = mb := ⟨_, rfl⟩
  obtain ⟨nd, hnd⟩ : ∃ nd, (parts (L p)).length = nd := ⟨_, rfl⟩
  have HM : Hid (matches_ (L s) (L p) = mb) := hid (by unfold matches_; rw [h1, h2, hmb]; rfl)
  have HMB := hid hmb
  have HND := hid hnd
  have HPP : Hid (parts (L p) = pieces (L p)) := hid (parts_right h2)
  have HMS := hid (matches_self h2)
  have HMX := hid (matches_star h2)
  have H1 := hid h1
  have H2 := hid h2
  clear h1 h2 hmb hnd
  go_enter Try.func9, Try.ntmps9
  go_wp2_with fail
  refine (anchor_any _).mono ?_
  rintro e w1 ⟨rfl, hw1⟩
  have HW := hid hw1
  clear hw1
  go_wp2_with fail
  with_reducible refine (lawpattern_any s _ (by omega)).mono ?_
  rintro e w2 ⟨rfl, hw1⟩
  rw [H1.out]
  replace HW := hid (below_on HW.out hw1)
  clear hw1
  go_wp2_with fail
  with_reducible refine (pattern_any s _ (by omega)).mono ?_
  rintro e w3 ⟨rfl, hw1⟩
  rw [H1.out]
  replace HW := hid (below_on HW.out hw1)
  clear hw1
  go_wp2_with fail
  with_reducible refine (refright_any p _ (by omega)).mono ?_
  rintro e w4 ⟨rfl, hw1⟩
  rw [H2.out]
  replace HW := hid (below_on HW.out hw1)
  clear hw1
  go_wp2_with fail
  with_reducible refine (match_any s p _ (by omega) (by omega)).mono ?_
  rintro e w5 ⟨rfl, hw1⟩
  rw [HM.out]
  replace HW := hid (below_on HW.out hw1)
  clear hw1
  go_wp2_with fail
  with_reducible refine (lawparts_any s _ (by omega)).mono ?_
  rintro e w6 ⟨v, xs, rfl, hh, hy, hw1⟩
  have HX := hid hy
  have HV := hid hh
  replace HW := hid (below_on HW.out hw1)
  clear hw1 hh hy
  go_wp2_with fail
  with_reducible refine (lawparts_any p _ (by omega)).mono ?_
  rintro e w7 ⟨u, ys, rfl, hh, hy, hw1⟩
  have HY := hid hy
  have HU := hid hh
  replace HV := hid (HV.out.below hw1)
  replace HW := hid (below_on HW.out hw1)
  clear hw1 hh hy
  go_wp2_with fail
  with_reducible refine (lawmeans_any v u xs ys _ HV.out HU.out).mono ?_
  rintro e w8 ⟨rfl, hw1⟩
  rw [HX.out, HY.out, HMB.out]
  replace HW := hid (below_on HW.out hw1)
  clear hw1
  cases mb
  all_goals
    go_wp2_with fail
    with_reducible refine (match_any ⟨#[42, 42]⟩ p _ (by decide) (by omega)).mono ?_
    rintro e w9 ⟨rfl, hw1⟩
    rw [HMX.out]
    replace HW := hid (below_on HW.out hw1)
    clear hw1
    go_wp2_with fail
    with_reducible refine (match_any p p _ (by omega) (by omega)).mono ?_
    rintro e w10 ⟨rfl, hw1⟩
    rw [HMS.out]
    replace HW := hid (below_on HW.out hw1)
    clear hw1
    go_wp2_with fail
    with_reducible refine (depth_any p _ (by omega)).mono ?_
    rintro e w11 ⟨rfl, hw1⟩
    rw [HND.out]
    replace HW := hid (below_on HW.out hw1)
    clear hw1
    go_wp2_with fail
    with_reducible refine (lawparts_any p _ (by omega)).mono ?_
    rintro e w12 ⟨v3, zs, rfl, hh, hz, hw1⟩
    have hzl : zs.length = nd := by rw [← HND.out, HPP.out, ← hz, List.length_map]
    obtain ⟨A, c, rfl, -⟩ := hh
    rw [hzl]
    replace HW := hid (below_on HW.out hw1)
    clear hw1 hz hzl
    go_wp2
    go_ret
    exact ⟨rfl, HW.out⟩

/-- The Go text returns true. -/
theorem walk (s p : ByteArray) (hs : s.size ≤ maxLen) (hp : p.size ≤ maxLen) (w : World) :
    Calls Try.prog 9 #[.string s, .string p] w fun e w' => e = .returned (.bool true) ∧ Below w.heap.size w w' := by
  by_cases h : 100 < s.size ∨ 100 < p.size
  · exact walk_long s p w hs hp h
  · by_cases h12 : pattern (L s) = true ∧ right (L p) = true
    · exact walk_yes s p w (by omega) (by omega) h12.1 h12.2
    · refine walk_no s p w (by omega) (by omega) _ _ rfl rfl ?_
      cases h1 : pattern (L s) <;> cases h2 : right (L p) <;> try rfl
      exact absurd ⟨h1, h2⟩ h12

set_option maxRecDepth 100000 in
theorem lifted (os : Os) (started : os.Started) (H : Type) (enc : TypeId × Value → H) :
    ReturnsInHanded {} Try.checked os 9 .any (Rows.pathMatchesSpec.pre6 enc Try.prog Try.f9 Rows.pathMatchesRow.domain false) (Rows.pathMatchesSpec.post enc Try.prog Try.f9 false true false false) := by
  refine returnsInHanded_of_change (C := Try.checked) own started (by kernel_rfl) Try.func9
    (ChangeSpec.witness6 (enc := enc) (C := Try.checked) false ⟨#[], #[.string ⟨#[]⟩, .string ⟨#[]⟩], []⟩ 8 (by kernel_rfl) (by kernel_rfl) (by kernel_rfl) (by kernel_rfl)) ?_
  intro W base args ds gs before hval0 hW _ _
  have hval : ∀ (j : Nat) t v, Try.f9.params[j]? = some t → args[j]? = some v → Value.okWide Try.prog W .any base t v := hval0
  have hW' := hW
  obtain ⟨p, q, hA0, hV, rfl, _, _⟩ := hW
  have hA : DataW.TrodAll enc Try.prog W 0 (fun _ => true) true Try.f9.params.toList args.toList ds p := hA0
  rw [Try.params9] at hA hval
  have hlt : ∀ x ∈ p, x.block < W.heap.size := fun x hx => by simpa using hW'.lt x (List.mem_append_left _ hx)
  obtain ⟨v0, vs0, d0, ds0, p0, q0, hargs, rfl, rfl, g0, r0⟩ := trodAll_cons hA
  obtain ⟨v1, vs1, d1, ds1, p1, q1, rfl, rfl, rfl, g1, r1⟩ := trodAll_cons r0
  obtain ⟨rfl, rfl, rfl⟩ := trodAll_nil r1
  obtain rfl : args = #[v0, v1] := by cases args; simp_all
  obtain ⟨rfl, rfl⟩ := trodVars_none hV
  obtain ⟨a0, rfl, rfl, rfl, w0⟩ := open_string Try.underlying9 (hval 0 9 v0 rfl rfl) g0
  obtain ⟨a1, rfl, rfl, rfl, w1⟩ := open_string Try.underlying9 (hval 1 9 v1 rfl rfl) g1
  refine (walk a0 a1 w0 w1 W).mono fun e W' ⟨he, hg⟩ => ?_
  subst he
  exact ⟨_, rfl, law_post laidOut hW' (by kernel_rfl) rfl rfl Try.underlying4 rfl hg⟩

theorem proved : Rows.PathMatchesSaid :=
  OpenClaim.holds_of_wide 9 Try.f9 rfl rfl rfl rfl rfl rfl rfl ⟨rfl, rfl, rfl, rfl, rfl⟩ rfl rfl rfl rfl rfl (by kernel_rfl) Try.func9 (by kernel_rfl)
    (of_decide_eq_true (by kernel_rfl)) (by unfold Func.isWrapper; first | (rw [if_pos (by decide +kernel)]; kernel_rfl) | (rw [if_neg (by decide +kernel)]; exact ⟨rfl, rfl⟩))
    (fun os started H enc _ => lifted os started H enc)
#print axioms proved
end Go.Proofs.Ytbnhkpceihfalaa.pathMatches
