/-
  LeaseTimes: for any session, times and numbers the law's call returns true: a session is never ended by an expiry whose time is below each time at which it was opened or kept and how long it lasts; once dead it stays so. No condition.
-/
import Derived.Test.YtbeeklpfbnhdnaaLsTimesLaw
import Derived.ProofKit
import Derived.ChangeMaps5
import Derived.OpenShut
import Derived.Lib.SmallJoins
namespace Go.Proofs.Ytbeeklpfbnhdnaa.leaseTimes
open Go.ChangeShapes Go.WideShapes Go.ChangeAt Go.RowKit Go.Joins Go.ChangeMaps
set_option linter.unusedVariables false

theorem own : ownKnob Try.prog.godebug = none := by kernel_rfl
theorem laidOut : laidOutB Try.prog = true := by kernel_rfl
theorem walk (u : Int) (f : ByteArray) (ttl opened : Int) (A : Option Addr) (kl : List Int) (ca : Nat) (time again : Int) (hu : (Lit.int .u64 u).wf = true) (hf : f.size ≤ 140737488351232) (w1 : (Lit.int .i64 ttl).wf = true) (w2 : (Lit.int .i64 opened).wf = true)
    (hl : kl.length ≤ 9223372036854775807) (w4 : (Lit.int .i64 time).wf = true) (w5 : (Lit.int .i64 again).wf = true) (w : World) (hV : Vals w A (kl.map (Value.int .i64))) :
    Calls Try.prog 4 #[.agg #[.int .u64 u, .string f], .int .i64 ttl, .int .i64 opened, .slice A kl.length ca, .int .i64 time, .int .i64 again] w fun e w' => e = .returned (.bool true) ∧ Below w.heap.size w w' :=
  ltimes_walk u f ttl opened A kl ca time again (by simp [Lit.wf, IntKind.min, IntKind.max, IntKind.bits, IntKind.signed] at hu; unfold IsU; omega) (by unfold OkF; omega) hl w hV

set_option maxRecDepth 100000 in
theorem lifted (os : Os) (started : os.Started) (H : Type) (enc : TypeId × Value → H) :
    ReturnsInHanded {} Try.checked os 4 .any (Rows.leaseTimesSpec.pre6 enc Try.prog Try.f4 Rows.leaseTimesRow.domain false) (Rows.leaseTimesSpec.post enc Try.prog Try.f4 false true false false) := by
  refine returnsInHanded_of_change_sized (C := Try.checked) own started (by kernel_rfl) Try.func4
    (ChangeSpec.witness6 (enc := enc) (C := Try.checked) false ⟨#[], #[.agg #[.int .u64 0, .string ⟨#[]⟩], .int .i64 0, .int .i64 0, .slice none 0 0, .int .i64 0, .int .i64 0], []⟩ 8 (by kernel_rfl) (by kernel_rfl) (by kernel_rfl) (by kernel_rfl)) ?_
  intro W base args ds gs before hval0 hW _ hsz0 _
  have hsz : (DataW.weightsEach Try.prog (Try.f4.params.toList ++ Rows.leaseTimesSpec.plain.varTypes Try.prog) (ds ++ gs)).all (· ≤ reachBytes) = true := hsz0
  have hval : ∀ (j : Nat) t v, Try.f4.params[j]? = some t → args[j]? = some v → Value.okWide Try.prog W .any base t v := hval0
  have hW' := hW
  obtain ⟨p, q, hA0, hV, rfl, _, _⟩ := hW
  have hA : DataW.TrodAll enc Try.prog W 0 (fun _ => true) true Try.f4.params.toList args.toList ds p := hA0
  rw [Try.params4] at hA hval hsz
  have hlt : ∀ x ∈ p, x.block < W.heap.size := fun x hx => by simpa using hW'.lt x (List.mem_append_left _ hx)
  obtain ⟨v0, vs0, d0, ds0, p0, q0, hargs, rfl, rfl, g0, r0⟩ := trodAll_cons hA
  obtain ⟨v1, vs1, d1, ds1, p1, q1, rfl, rfl, rfl, g1, r1⟩ := trodAll_cons r0
  obtain ⟨v2, vs2, d2, ds2, p2, q2, rfl, rfl, rfl, g2, r2⟩ := trodAll_cons r1
  obtain ⟨v3, vs3, d3, ds3, p3, q3, rfl, rfl, rfl, g3, r3⟩ := trodAll_cons r2
  obtain ⟨v4, vs4, d4, ds4, p4, q4, rfl, rfl, rfl, g4, r4⟩ := trodAll_cons r3
  obtain ⟨v5, vs5, d5, ds5, p5, q5, rfl, rfl, rfl, g5, r5⟩ := trodAll_cons r4
  obtain ⟨rfl, rfl, rfl⟩ := trodAll_nil r5
  obtain rfl : args = #[v0, v1, v2, v3, v4, v5] := by cases args; simp_all
  obtain ⟨rfl, rfl⟩ := trodVars_none hV
  obtain ⟨x0, z0, y0, u0, m0, rfl, rfl, rfl, hy0, hu0⟩ := Go.Joins.open_agg2 Try.underlying25 (by kernel_rfl) (show Try.prog.cellsOf 25 = 2 by kernel_rfl) (hval 0 25 v0 rfl rfl) g0
  obtain ⟨a0, ha0, rfl, wa0⟩ := DataW.trod_int Try.underlying23 hy0
  obtain ⟨b0, hb0, rfl, wb0⟩ := DataW.trod_string Try.underlying9 hu0
  simp at ha0 hb0
  subst ha0 hb0
  have hr0 : b0.size ≤ 140737488351232 := by
    have := List.all_eq_true.1 hsz _ (DataW.weights_mem_each (j := 0) (t := 25) rfl rfl b0.data.toList.length (by simp [DataW.weights, DataW.weightsEach, Try.underlying25]))
    have h2 := of_decide_eq_true this
    simpa [reachBytes] using h2
  obtain ⟨a1, rfl, rfl, rfl, w1⟩ := open_int Try.underlying3 (hval 1 3 v1 rfl rfl) g1
  obtain ⟨a2, rfl, rfl, rfl, w2⟩ := open_int Try.underlying3 (hval 2 3 v2 rfl rfl) g2
  obtain ⟨A3, c3, l3, rfl, _, hl3, hm3, hs3, _, _⟩ := open_ints_vals Try.underlying54 Try.underlying3 (by kernel_rfl) (hval 3 54 v3 rfl rfl) g3 (fun x hx => hlt x <| List.mem_append_right _ <| List.mem_append_right _ <| List.mem_append_right _ <| List.mem_append_left _ hx)
  obtain ⟨a4, rfl, rfl, rfl, w4⟩ := open_int Try.underlying3 (hval 4 3 v4 rfl rfl) g4
  obtain ⟨a5, rfl, rfl, rfl, w5⟩ := open_int Try.underlying3 (hval 5 3 v5 rfl rfl) g5
  refine (walk a0 b0 a1 a2 A3 l3 c3 a4 a5 wa0 hr0 w1 w2 (by unfold maxLen at hm3; omega) w4 w5 W hs3).mono fun e W' ⟨he, hg⟩ => ?_
  subst he
  exact ⟨_, rfl, law_post laidOut hW' (by kernel_rfl) rfl rfl Try.underlying4 rfl hg⟩

theorem proved : Rows.LeaseTimesSaid :=
  OpenClaim.holds_of_wide 4 Try.f4 rfl rfl rfl rfl rfl rfl rfl ⟨rfl, rfl, rfl, rfl, rfl⟩ rfl rfl rfl rfl rfl (by kernel_rfl) Try.func4 (by kernel_rfl)
    (of_decide_eq_true (by kernel_rfl)) (by unfold Func.isWrapper; first | (rw [if_pos (by decide +kernel)]; kernel_rfl) | (rw [if_neg (by decide +kernel)]; exact ⟨rfl, rfl⟩))
    (fun os started H enc _ => lifted os started H enc)
#print axioms proved

end Go.Proofs.Ytbeeklpfbnhdnaa.leaseTimes
