/-
  IndexShuffles, its tied card: in whatever order things are noted, and however often, what comes ahead of any command is the same, and it never shrinks. The condition: the table of kinds holds what its text lays, which the card ties to the program.
-/
import Derived.Test.YtpdfakjopeldmaaDoorZDShufflesLaw
import Derived.Test.YtpdfakjopeldmaaDoorMgF
import Derived.Test.YtpdfakjopeldmaaDoorCards
import Derived.Test.YtpdfakjopeldmaaDoorTie
import Derived.SevenTiedAt
import Derived.Lib.SmallJoins
namespace Go.Proofs.YtpdfakjopeldmaaDoor.indexShuffles
open Go.ChangeShapes Go.WideShapes Go.ChangeAt Go.RowKit Go.Lib Go.Joins
set_option linter.unusedVariables false

theorem steps_none {H : Type} {enc : TypeId × Value → H} {W : World} {len cap : Nat} {d : DataW H} {p : List MemPlace} (hd : DataW.Trod enc Tryd.prog W 0 (fun _ => true) true 22 (.slice none len cap) d p) : cap = 0 := by
  obtain ⟨fuel, hf⟩ := hd
  rcases Go.Deep.open_slice Tryd.underlying22 hf with ⟨hcs, _⟩ | ⟨a, len', cap', m, n', D, Pl, hcs, _⟩
  · simp [Value.cells] at hcs
    exact hcs.2
  · simp [Value.cells] at hcs
theorem seesI_of {w : World} {B : Option Addr} {ks : List Int} (h : Vals w B (ks.map (Value.int .i64))) : SeesI w.heap.size w B ks := fun j hj => by
  obtain ⟨b, o, h1, h2, h3⟩ := h j (.int .i64 ks[j]) (by simp [hj])
  exact ⟨b, o, h1, h2, h3⟩
theorem walk2 (A : Option Addr) (os : List OpV) (ca : Nat) (B : Option Addr) (ks : List Int) (cb : Nat) (c : K) (r e : Int) (hos : ∀ o ∈ os, Made o) (hl1 : os.length ≤ 9223372036854775807) (hA0 : A = none → ca = 0) (hl2 : ks.length ≤ 9223372036854775807) (hc : okK c) (w : World) (hA : SeesO w.heap.size w A os) (hB : Vals w B (ks.map (Value.int .i64))) (hP : PartsIs w) :
    Calls Tryd.prog 5 #[.slice A os.length ca, .slice B ks.length cb, val c, nm r e] w fun e w' => e = .returned (.bool true) ∧ Below w.heap.size w w' :=
  walk A os ca B ks cb c r e hA0 w hA (seesI_of hB) hos hl1 hl2 hc hP (parts_lt hP)

set_option maxRecDepth 100000 in
theorem lifted (os : Os) (started : os.Started) (H : Type) (enc : TypeId × Value → H) :
    ReturnsInHanded {} Tryd.checked os 5 .any (fun w args => (Rows.indexShufflesSpec.pre enc Tryd.prog Tryd.f5 [] false w args ∧ laidMetH Tryd.prog laid1 w) ∧ sizedMet enc Tryd.prog Tryd.f5 (OpenSpec.ofChange Rows.indexShufflesSpec) false w args) (Rows.indexShufflesSpec.post enc Tryd.prog Tryd.f5 false true false false) := by
  refine returnsInHanded_of_change_and (C := Tryd.checked) (X := fun w _ => laidMetH Tryd.prog laid1 w) (fun _ _ _ hh h => h.of_heap hh) own7 started (by kernel_rfl) Tryd.func5
    (ChangeSpec.witness_shaped (enc := enc) (C := Tryd.checked) (os := os) (X := fun w _ => laidMetH Tryd.prog laid1 w) false (World.doorLaid Tryd.prog 400 os) #[.slice none 0 0, .slice none 0 0, .agg #[.int .i64 0, .int .u64 0, .string ⟨#[]⟩, .int .u64 0, .string ⟨#[]⟩, .int .i64 0, .int .u64 0, .int .i64 0], .agg #[.int .i64 0, .int .i64 0]] 8 rfl (World.shaped_of_RefB (by kernel_rfl) (by kernel_rfl)) (by kernel_rfl) (by kernel_rfl) (by kernel_rfl) (door_met1 os _)) ?_
  intro W base args ds gs before hval0 hW _ _ hL _
  have hval : ∀ (j : Nat) t v, Tryd.f5.params[j]? = some t → args[j]? = some v → Value.okWide Tryd.prog W .any base t v := hval0
  have hW' := hW
  obtain ⟨p, q, hA0, hV, rfl, _, _⟩ := hW
  have hA : DataW.TrodAll enc Tryd.prog W 0 (fun _ => true) true Tryd.f5.params.toList args.toList ds p := hA0
  rw [Tryd.params5] at hA hval
  have hlt : ∀ x ∈ p, x.block < W.heap.size := fun x hx => by simpa using hW'.lt x (List.mem_append_left _ hx)
  obtain ⟨v0, vs0, d0, ds0, p0, q0, hargs, rfl, rfl, g0, r0⟩ := trodAll_cons hA
  obtain ⟨v1, vs1, d1, ds1, p1, q1, rfl, rfl, rfl, g1, r1⟩ := trodAll_cons r0
  obtain ⟨v2, vs2, d2, ds2, p2, q2, rfl, rfl, rfl, g2, r2⟩ := trodAll_cons r1
  obtain ⟨v3, vs3, d3, ds3, p3, q3, rfl, rfl, rfl, g3, r3⟩ := trodAll_cons r2
  obtain ⟨rfl, rfl, rfl⟩ := trodAll_nil r3
  obtain rfl : args = #[v0, v1, v2, v3] := by cases args; simp_all
  obtain ⟨rfl, rfl⟩ := trodVars_none hV
  obtain ⟨A0, c0, l0, rfl, hs0, w0, hl0⟩ := open_steps (hval 0 22 v0 rfl rfl) g0 (fun x hx => hlt x <| List.mem_append_left _ hx)
  obtain ⟨A1, c1, l1, rfl, _, hl1, hm1, hs1, _, _⟩ := open_ints_vals Tryd.underlying66 Tryd.underlying3 (by kernel_rfl) (hval 1 66 v1 rfl rfl) g1 (fun x hx => hlt x <| List.mem_append_right _ <| List.mem_append_left _ hx)
  obtain ⟨a2, rfl, w2, _, _⟩ := open_cmd (hval 2 27 v2 rfl rfl) g2
  obtain ⟨x3, z3, y3, u3, m3, rfl, rfl, rfl, hy3, hu3⟩ := Go.Joins.open_agg2 Tryd.underlying29 (by kernel_rfl) (show Tryd.prog.cellsOf 29 = 2 by kernel_rfl) (hval 3 29 v3 rfl rfl) g3
  obtain ⟨a3, ha3, rfl, wa3⟩ := DataW.trod_int Tryd.underlying3 hy3
  obtain ⟨b3, hb3, rfl, wb3⟩ := DataW.trod_int Tryd.underlying3 hu3
  simp at ha3 hb3
  subst ha3 hb3
  refine (walk2 A0 l0 c0 A1 l1 c1 a2 a3 b3 w0 hl0 (fun h => by subst h; exact steps_none g0) (by unfold maxLen at hm1; omega) w2 W hs0 hs1 (of_laid1 hL)).mono fun e W' ⟨he, hg⟩ => ?_
  subst he
  exact ⟨_, rfl, law_post laidOut7 hW' (by kernel_rfl) rfl rfl Tryd.underlying4 rfl hg⟩

theorem said : Rows.IndexShufflesSaid :=
  OpenClaim.holds_of_wide 5 Tryd.f5 rfl rfl rfl rfl rfl rfl rfl ⟨rfl, rfl, rfl, rfl, rfl⟩ rfl rfl rfl rfl rfl (by kernel_rfl) Tryd.func5 (by kernel_rfl)
    (of_decide_eq_true (by kernel_rfl)) (by unfold Func.isWrapper; first | (rw [if_pos (by decide +kernel)]; kernel_rfl) | (rw [if_neg (by decide +kernel)]; exact ⟨rfl, rfl⟩))
    (fun os started H enc _ => lifted os started H enc)

set_option maxRecDepth 100000 in
theorem proved : Rows.IndexShufflesCardSaid :=
  Claim7.holds_tied_plain_at .later [] [.data] true _ false
    said (fun _ h => by cases h) (by kernel_rfl) (fun _ h => by cases h) indexShuffles_row_tie rfl ⟨rfl, rfl⟩ (by kernel_rfl) rfl
    (fun f fn hf hfn => by
      obtain rfl : f = 5 := Option.some.inj ((show Tryd.prog.funcNamed "moothill/moothilllaw12.IndexShuffles" = some 5 by kernel_rfl).symm.trans hf) |>.symm
      obtain rfl : fn = Tryd.f5 := (Option.some.inj (Tryd.func5.symm.trans hfn)).symm
      exact ⟨by kernel_rfl, fun j t ht => by
        rw [Tryd.params5] at ht
        have hm : t ∈ [22, 66, 27, 29] := by simpa using Array.mem_of_getElem? ht
        have hall : ([22, 66, 27, 29].all fun u => !Tryd.prog.wantsStandIn u) = true := by kernel_rfl
        exact (show Tryd.prog.wantsStandIn t = false by simpa using List.all_eq_true.1 hall t hm)⟩)
    (by kernel_rfl)
#print axioms proved

end Go.Proofs.YtpdfakjopeldmaaDoor.indexShuffles
