/-
  IndexSame, its tied card: an index that is given the entries of another one is the same, and any entry that was put is taken again. The condition: the table of kinds holds what its text lays, which the card ties to the program.
-/
import Derived.Test.YtpdfakjopeldmaaGreatDoorZDZSameLaw
import Derived.Test.YtpdfakjopeldmaaGreatDoorMgF
import Derived.Test.YtpdfakjopeldmaaGreatDoorCards
import Derived.Test.YtpdfakjopeldmaaGreatDoorTie
import Derived.SevenTiedAt
import Derived.Lib.SmallJoins
namespace Go.Proofs.YtpdfakjopeldmaaGreatDoor.indexSame
open Go.ChangeShapes Go.WideShapes Go.ChangeAt Go.RowKit Go.Lib Go.Joins
set_option linter.unusedVariables false

theorem walk2 (A : Option Addr) (os : List OpV) (ca : Nat) (c : K) (r e : Int) (hos : ∀ o ∈ os, Made o) (hl1 : os.length ≤ 9223372036854775807) (hc : okK c) (w : World) (hA : SeesO w.heap.size w A os) (hP : PartsIs w) :
    Calls Tryz.prog 3 #[.slice A os.length ca, val c, nm r e] w fun e w' => e = .returned (.bool true) ∧ Below w.heap.size w w' :=
  walk A os ca c r e w hA hos hl1 hc hP (parts_lt hP)

set_option maxRecDepth 100000 in
theorem lifted (os : Os) (started : os.Started) (H : Type) (enc : TypeId × Value → H) :
    ReturnsInHanded {} Tryz.checked os 3 .any (fun w args => (Rows.indexSameSpec.pre enc Tryz.prog Tryz.f3 [] false w args ∧ laidMetH Tryz.prog laid1 w) ∧ sizedMet enc Tryz.prog Tryz.f3 (OpenSpec.ofChange Rows.indexSameSpec) false w args) (Rows.indexSameSpec.post enc Tryz.prog Tryz.f3 false true false false) := by
  refine returnsInHanded_of_change_and (C := Tryz.checked) (X := fun w _ => laidMetH Tryz.prog laid1 w) (fun _ _ _ hh h => h.of_heap hh) own7 started (by kernel_rfl) Tryz.func3
    (ChangeSpec.witness_shaped (enc := enc) (C := Tryz.checked) (os := os) (X := fun w _ => laidMetH Tryz.prog laid1 w) false (World.doorLaid Tryz.prog 400 os) #[.slice none 0 0, .agg #[.int .i64 0, .int .u64 0, .string ⟨#[]⟩, .int .u64 0, .string ⟨#[]⟩, .int .i64 0, .int .u64 0, .int .i64 0], .agg #[.int .i64 0, .int .i64 0]] 8 rfl (World.shaped_of_RefB (by kernel_rfl) (by kernel_rfl)) (by kernel_rfl) (by kernel_rfl) (by kernel_rfl) (door_met1 os _)) ?_
  intro W base args ds gs before hval0 hW _ _ hL _
  have hval : ∀ (j : Nat) t v, Tryz.f3.params[j]? = some t → args[j]? = some v → Value.okWide Tryz.prog W .any base t v := hval0
  have hW' := hW
  obtain ⟨p, q, hA0, hV, rfl, _, _⟩ := hW
  have hA : DataW.TrodAll enc Tryz.prog W 0 (fun _ => true) true Tryz.f3.params.toList args.toList ds p := hA0
  rw [Tryz.params3] at hA hval
  have hlt : ∀ x ∈ p, x.block < W.heap.size := fun x hx => by simpa using hW'.lt x (List.mem_append_left _ hx)
  obtain ⟨v0, vs0, d0, ds0, p0, q0, hargs, rfl, rfl, g0, r0⟩ := trodAll_cons hA
  obtain ⟨v1, vs1, d1, ds1, p1, q1, rfl, rfl, rfl, g1, r1⟩ := trodAll_cons r0
  obtain ⟨v2, vs2, d2, ds2, p2, q2, rfl, rfl, rfl, g2, r2⟩ := trodAll_cons r1
  obtain ⟨rfl, rfl, rfl⟩ := trodAll_nil r2
  obtain rfl : args = #[v0, v1, v2] := by cases args; simp_all
  obtain ⟨rfl, rfl⟩ := trodVars_none hV
  obtain ⟨A0, c0, l0, rfl, hs0, w0, hl0⟩ := open_steps (hval 0 22 v0 rfl rfl) g0 (fun x hx => hlt x <| List.mem_append_left _ hx)
  obtain ⟨a1, rfl, w1, _, _⟩ := open_cmd (hval 1 27 v1 rfl rfl) g1
  obtain ⟨x2, z2, y2, u2, m2, rfl, rfl, rfl, hy2, hu2⟩ := Go.Joins.open_agg2 Tryz.underlying29 (by kernel_rfl) (show Tryz.prog.cellsOf 29 = 2 by kernel_rfl) (hval 2 29 v2 rfl rfl) g2
  obtain ⟨a2, ha2, rfl, wa2⟩ := DataW.trod_int Tryz.underlying3 hy2
  obtain ⟨b2, hb2, rfl, wb2⟩ := DataW.trod_int Tryz.underlying3 hu2
  simp at ha2 hb2
  subst ha2 hb2
  refine (walk2 A0 l0 c0 a1 a2 b2 w0 hl0 w1 W hs0 (of_laid1 hL)).mono fun e W' ⟨he, hg⟩ => ?_
  subst he
  exact ⟨_, rfl, law_post laidOut7 hW' (by kernel_rfl) rfl rfl Tryz.underlying4 rfl hg⟩

theorem said : Rows.IndexSameSaid :=
  OpenClaim.holds_of_wide 3 Tryz.f3 rfl rfl rfl rfl rfl rfl rfl ⟨rfl, rfl, rfl, rfl, rfl⟩ rfl rfl rfl rfl rfl (by kernel_rfl) Tryz.func3 (by kernel_rfl)
    (of_decide_eq_true (by kernel_rfl)) (by unfold Func.isWrapper; first | (rw [if_pos (by decide +kernel)]; kernel_rfl) | (rw [if_neg (by decide +kernel)]; exact ⟨rfl, rfl⟩))
    (fun os started H enc _ => lifted os started H enc)

set_option maxRecDepth 100000 in
theorem proved : Rows.IndexSameCardSaid :=
  Claim7.holds_tied_plain_at .later [] [.data] true _ false
    said (fun _ h => by cases h) (by kernel_rfl) (fun _ h => by cases h) indexSame_row_tie rfl ⟨rfl, rfl⟩ (by kernel_rfl) rfl
    (fun f fn hf hfn => by
      obtain rfl : f = 3 := Option.some.inj ((show Tryz.prog.funcNamed "moothill/moothilllaw12.IndexSame" = some 3 by kernel_rfl).symm.trans hf) |>.symm
      obtain rfl : fn = Tryz.f3 := (Option.some.inj (Tryz.func3.symm.trans hfn)).symm
      exact ⟨by kernel_rfl, fun j t ht => by
        rw [Tryz.params3] at ht
        have hm : t ∈ [22, 27, 29] := by simpa using Array.mem_of_getElem? ht
        have hall : ([22, 27, 29].all fun u => !Tryz.prog.wantsStandIn u) = true := by kernel_rfl
        exact (show Tryz.prog.wantsStandIn t = false by simpa using List.all_eq_true.1 hall t hm)⟩)
    (by kernel_rfl)
#print axioms proved

end Go.Proofs.YtpdfakjopeldmaaGreatDoor.indexSame
