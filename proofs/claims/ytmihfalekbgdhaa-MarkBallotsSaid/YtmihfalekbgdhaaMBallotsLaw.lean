/-
  MarkBallots: for every number of 32 bits and any two numbers the law's call returns true: a ballot's parts and the next one are the document's. No condition.
-/
import Derived.Test.YtmihfalekbgdhaaMBallot
import Derived.ProofKit
import Derived.OpenShut
namespace Go.Proofs.Ytmihfalekbgdhaa.markBallots
open Go.ChangeShapes Go.WideShapes Go.ChangeAt Go.RowKit

theorem own : ownKnob Try.prog.godebug = none := by kernel_rfl
theorem laidOut : laidOutB Try.prog = true := by kernel_rfl

set_option maxRecDepth 100000 in
set_option maxHeartbeats 1000000 in
theorem walk_b (b : Nat) (r q : Int) (hb : b < 4294967296) (w : World) :
    Calls Try.prog 4 #[.int .u32 (b : Int), .int .i64 r, .int .i64 q] w fun e w' => e = .returned (.bool true) ∧ Below w.heap.size w w' := by
  obtain ⟨x, hx⟩ : ∃ x : Int, (b : Int) / 8 = x := ⟨_, rfl⟩
  obtain ⟨y, hy⟩ : ∃ y : Int, (b : Int) % 8 = y := ⟨_, rfl⟩
  have hx0 : 0 ≤ x := by omega
  have hx1 : x < 4294967296 := by omega
  have hy0 : 0 ≤ y := by omega
  have hy1 : y < 8 := by omega
  have HX : Hid (((b / 8 : Nat) : Int) = x) := hid (by omega)
  have HY : Hid (((b % 8 : Nat) : Int) = y) := hid (by omega)
  go_enter Try.func4, Try.ntmps4
  go_wp2_with (first
    | (go_at_call 6; refine (anchor_any _).mono ?_; rintro e w' ⟨rfl, rfl⟩)
    | (go_at_call 12; refine (ballotright_any _ _ (by omega)).mono ?_; rintro e w' ⟨rfl, rfl⟩)
    | (go_at_call 13; refine (refballot_any _ _ (by omega)).mono ?_; rintro e w' ⟨rfl, rfl⟩)
    | (go_at_call 14; refine (round_any _ _ (by omega)).mono ?_; rintro e w' ⟨rfl, rfl⟩; rw [HX.out])
    | (go_at_call 15; refine (replica_any _ _ (by omega)).mono ?_; rintro e w' ⟨rfl, rfl⟩; rw [HY.out]))
  obtain ⟨n, e, he⟩ : ∃ n e, nextN b r = (n, e) := ⟨_, _, rfl⟩
  have HE1 : Hid ((nextN b r).1 = n) := hid (by rw [he])
  have HE2 : Hid ((nextN b r).2 = e) := hid (by rw [he])
  with_reducible refine (next_any b r _ hb).mono ?_
  rintro en w' ⟨rfl, rfl⟩
  rw [HE1.out, HE2.out]
  have HE := hid he
  clear he
  by_cases h0 : e = 0
  · subst h0
    obtain ⟨h1, h2, h3, h4⟩ := next_ok HE.out
    have hlt : (b : Int) < (n : Int) := by omega
    have H2 := hid h2
    have H3 := hid h3
    clear h2 h3
    go_wp2_with fail
    with_reducible refine (refnext_any b r _ hb).mono ?_
    rintro en w' ⟨rfl, rfl⟩
    rw [HE1.out, HE2.out]
    go_wp2_with fail
    obtain ⟨m, g, hg⟩ : ∃ m g, nextN b q = (m, g) := ⟨_, _, rfl⟩
    have HG1 : Hid ((nextN b q).1 = m) := hid (by rw [hg])
    have HG2 : Hid ((nextN b q).2 = g) := hid (by rw [hg])
    with_reducible refine (next_any b q _ hb).mono ?_
    rintro en w' ⟨rfl, rfl⟩
    rw [HG1.out, HG2.out]
    have HG := hid hg
    clear hg
    by_cases h0 : g = 0
    · subst h0
      have HI := hid (next_inj HE.out HG.out)
      go_wp2_with (first
        | (go_at_call 12; refine (ballotright_any _ _ (by omega)).mono ?_; rintro e w' ⟨rfl, rfl⟩; rw [H2.out])
        | (go_at_call 15; refine (replica_any _ _ (by omega)).mono ?_; rintro e w' ⟨rfl, rfl⟩; rw [H3.out]))
      go_ret
      refine ⟨ret_bool ?_, Below.refl _ _⟩
      have h := HI.out
      rw [decide_eq_decide] at h
      rw [beq_iff_eq, Bool.eq_iff_iff, beq_iff_eq, beq_iff_eq]
      omega
    · have hg0 : ((g : Int) != 0) = true := by rw [bne_iff_ne]; omega
      go_wp2_with (first
        | (go_at_call 12; refine (ballotright_any _ _ (by omega)).mono ?_; rintro e w' ⟨rfl, rfl⟩; rw [H2.out])
        | (go_at_call 15; refine (replica_any _ _ (by omega)).mono ?_; rintro e w' ⟨rfl, rfl⟩; rw [H3.out]))
      go_ret
      exact ⟨rfl, Below.refl _ _⟩
  · have he0 : ((e : Int) != 0) = true := by rw [bne_iff_ne]; omega
    go_wp2_with fail
    with_reducible refine (refnext_any b r _ hb).mono ?_
    rintro en w' ⟨rfl, rfl⟩
    rw [HE1.out, HE2.out]
    go_wp2
    go_ret
    exact ⟨rfl, Below.refl _ _⟩

theorem walk (b r q : Int) (hb : (Lit.int .u32 b).wf = true) (_hr : (Lit.int .i64 r).wf = true) (_hq : (Lit.int .i64 q).wf = true) (w : World) :
    Calls Try.prog 4 #[.int .u32 b, .int .i64 r, .int .i64 q] w fun e w' => e = .returned (.bool true) ∧ Below w.heap.size w w' := by
  obtain ⟨k, rfl, hk⟩ := u32_in hb
  exact walk_b k r q hk w

set_option maxRecDepth 100000 in
theorem lifted (os : Os) (started : os.Started) (H : Type) (enc : TypeId × Value → H) :
    ReturnsInHanded {} Try.checked os 4 .any (Rows.markBallotsSpec.pre6 enc Try.prog Try.f4 Rows.markBallotsRow.domain false) (Rows.markBallotsSpec.post enc Try.prog Try.f4 false true false false) := by
  refine returnsInHanded_of_change (C := Try.checked) own started (by kernel_rfl) Try.func4
    (ChangeSpec.witness6 (enc := enc) (C := Try.checked) false ⟨#[], #[.int .u32 0, .int .i64 0, .int .i64 0], []⟩ 8 (by kernel_rfl) (by kernel_rfl) (by kernel_rfl) (by kernel_rfl)) ?_
  intro W base args ds gs before hval0 hW _ _
  have hval : ∀ (j : Nat) t v, Try.f4.params[j]? = some t → args[j]? = some v → Value.okWide Try.prog W .any base t v := hval0
  have hW' := hW
  obtain ⟨p, q, hA0, hV, rfl, _, _⟩ := hW
  have hA : DataW.TrodAll enc Try.prog W 0 (fun _ => true) true Try.f4.params.toList args.toList ds p := hA0
  rw [Try.params4] at hA hval
  have hlt : ∀ x ∈ p, x.block < W.heap.size := fun x hx => by simpa using hW'.lt x (List.mem_append_left _ hx)
  obtain ⟨v0, vs0, d0, ds0, p0, q0, hargs, rfl, rfl, g0, r0⟩ := trodAll_cons hA
  obtain ⟨v1, vs1, d1, ds1, p1, q1, rfl, rfl, rfl, g1, r1⟩ := trodAll_cons r0
  obtain ⟨v2, vs2, d2, ds2, p2, q2, rfl, rfl, rfl, g2, r2⟩ := trodAll_cons r1
  obtain ⟨rfl, rfl, rfl⟩ := trodAll_nil r2
  obtain rfl : args = #[v0, v1, v2] := by cases args; simp_all
  obtain ⟨rfl, rfl⟩ := trodVars_none hV
  obtain ⟨a0, rfl, rfl, rfl, w0⟩ := open_int Try.underlying34 (hval 0 34 v0 rfl rfl) g0
  obtain ⟨a1, rfl, rfl, rfl, w1⟩ := open_int Try.underlying3 (hval 1 3 v1 rfl rfl) g1
  obtain ⟨a2, rfl, rfl, rfl, w2⟩ := open_int Try.underlying3 (hval 2 3 v2 rfl rfl) g2
  refine (walk a0 a1 a2 w0 w1 w2 W).mono fun e W' ⟨he, hg⟩ => ?_
  subst he
  exact ⟨_, rfl, law_post laidOut hW' (by kernel_rfl) rfl rfl Try.underlying4 rfl hg⟩

theorem proved : Rows.MarkBallotsSaid :=
  OpenClaim.holds_of_wide 4 Try.f4 rfl rfl rfl rfl rfl rfl rfl ⟨rfl, rfl, rfl, rfl, rfl⟩ rfl rfl rfl rfl rfl (by kernel_rfl) Try.func4 (by kernel_rfl)
    (of_decide_eq_true (by kernel_rfl)) (by unfold Func.isWrapper; first | (rw [if_pos (by decide +kernel)]; kernel_rfl) | (rw [if_neg (by decide +kernel)]; exact ⟨rfl, rfl⟩))
    (fun os started H enc _ => lifted os started H enc)
#print axioms proved
end Go.Proofs.Ytmihfalekbgdhaa.markBallots
