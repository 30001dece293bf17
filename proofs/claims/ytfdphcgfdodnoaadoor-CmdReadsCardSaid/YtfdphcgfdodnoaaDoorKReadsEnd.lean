/-
  CmdReads, its tied card: any text is a command's just if that command has it. The condition: the listed variables hold what their texts lay, which the card ties to the program.
-/
import Derived.Test.YtfdphcgfdodnoaaDoorKSaid
import Derived.Test.YtfdphcgfdodnoaaDoorKEq
import Derived.BigQuiet
import Derived.ChangeMaps5
import Derived.Test.YtfdphcgfdodnoaaDoorKLaid
import Derived.Test.YtfdphcgfdodnoaaDoorCards
import Derived.Test.YtfdphcgfdodnoaaDoorTie
import Derived.SevenTiedAt
import Derived.Lib.SmallJoins
namespace Go.Proofs.YtfdphcgfdodnoaaDoor.cmdReads
open Go.ChangeShapes Go.WideShapes Go.ChangeAt Go.RowKit Go.Lib Go.Joins Go.ChangeMaps
set_option linter.unusedVariables false
set_option linter.unusedSimpArgs false

set_option maxRecDepth 100000 in
set_option maxHeartbeats 4000000 in
theorem walk (s : ByteArray) (hwf : s.size ≤ maxLen) (w : World) (hL : Laid7 w) :
    Calls Tryd.prog 4 #[.string s] w fun e w' => e = .returned (.bool true) ∧ Below w.heap.size w w' := by
  have HL := hid hL
  have HP := hid hL.1
  have HW := hid (Below.refl w.heap.size w)
  clear hL hwf
  go_enter Tryd.func4, Tryd.ntmps4
  go_wp2_with fail
  with_reducible refine (anchor7 _ HP.out).mono ?_
  rintro e w1 ⟨rfl, hb⟩
  have B1 := hid hb
  clear hb
  rcases Decidable.em (300 < s.size) with hz | hz
  · have hz1 : (300 : Int) < (s.size : Int) := by omega
    go_wp2
    go_ret
    exact ⟨rfl, B1.out⟩
  have hz1 : ¬ (300 : Int) < (s.size : Int) := by omega
  have hz2 : s.size ≤ 100000 := by omega
  have hok := gOf_ok (L s)
  have hsm := gOf_small (L s)
  obtain ⟨c, hc⟩ : ∃ c, gOf (L s) = c := ⟨_, rfl⟩
  rw [hc] at hok hsm
  rw [L_length] at hsm
  obtain ⟨ok, hk⟩ : ∃ b, readOK (L s) = b := ⟨_, rfl⟩
  have HC := hid hc
  have HK := hid hk
  have HO := hid hok
  have HS := hid hsm
  clear hc hk hok hsm
  go_wp2_with fail
  with_reducible refine (readcmd_any s _ (HL.out.below B1.out) hz2).mono ?_
  rw [HC.out, HK.out]
  rintro e w2 ⟨rfl, hb⟩
  have B2 := hid (B1.out.trans (hb.mono B1.out.size))
  clear hb B1
  have EG := eq_guard
  cases ok
  · simp only [Bool.false_eq_true, if_false]
    have X := hid (Blk.new w2 26 (cellsOf noK))
    have EQ := fun w => eq_val ⟨0, 0, ⟨#[]⟩, 0, ⟨#[]⟩, 0, 0, 0⟩ ⟨0, 0, ⟨#[]⟩, 0, ⟨#[]⟩, 0, 0, 0⟩ true (decide_eq_true rfl) w
    dsimp only [val] at EQ
    obtain ⟨⟨c0, c1, c2, c3, c4, c5, c6, c7⟩, f0, f1, f2, f3, f4, f5, f6, f7⟩ := cells8 X.out
    have B3 := hid (B2.out.alloc B2.out.size (.cells (cellsOf noK) 26))
    go_wp2
    go_ret
    exact ⟨rfl, B3.out⟩
  simp only [if_true]
  have hro := HK.out
  unfold readOK at hro
  rw [HC.out, Bool.and_eq_true, decide_eq_true_eq] at hro
  obtain ⟨hr, ht⟩ := hro
  obtain ⟨k, u, f, q, p, m, n, t⟩ := c
  have HR := hid hr
  have HT := hid ht
  have hs1 := HS.out.1
  have hs2 := HS.out.2
  dsimp only at hs1 hs2
  have hf9 : f.size ≤ 900 := by omega
  have hp9 : p.size ≤ 900 := by omega
  clear hr ht hs1 hs2 HS
  have X := hid (Blk.new w2 26 (cellsOf ⟨k, u, f, q, p, m, n, t⟩))
  have B3 := hid (B2.out.alloc B2.out.size (.cells (cellsOf ⟨k, u, f, q, p, m, n, t⟩) 26))
  obtain ⟨⟨c0, c1, c2, c3, c4, c5, c6, c7⟩, f0, f1, f2, f3, f4, f5, f6, f7⟩ := cells8 X.out
  go_wp2_with fail
  with_reducible refine (of_any ⟨k, u, f, q, p, m, n, t⟩ _).mono ?_
  rintro e w3 ⟨rfl, hb⟩
  have X3 := hid (X.out.below hb X.out.lt)
  have B4 := hid (B3.out.trans (hb.mono B3.out.size))
  clear hb B3
  clear c0 c1 c2 c3 c4 c5 c6 c7 f0 f1 f2 f3 f4 f5 f6 f7
  obtain ⟨⟨c0, c1, c2, c3, c4, c5, c6, c7⟩, f0, f1, f2, f3, f4, f5, f6, f7⟩ := cells8 X3.out
  go_wp2_with fail
  with_reducible refine (refright7 ⟨k, u, f, q, p, m, n, t⟩ _ HO.out hf9 hp9).mono ?_
  rw [HR.out]
  rintro e w4 ⟨rfl, hb⟩
  have X4 := hid (X3.out.below hb X3.out.lt)
  have B5 := hid (B4.out.trans (hb.mono B4.out.size))
  clear hb B4
  clear c0 c1 c2 c3 c4 c5 c6 c7 f0 f1 f2 f3 f4 f5 f6 f7
  obtain ⟨⟨c0, c1, c2, c3, c4, c5, c6, c7⟩, f0, f1, f2, f3, f4, f5, f6, f7⟩ := cells8 X4.out
  go_wp2_with fail
  with_reducible refine (of_any ⟨k, u, f, q, p, m, n, t⟩ _).mono ?_
  rintro e w5 ⟨rfl, hb⟩
  have X5 := hid (X4.out.below hb X4.out.lt)
  have B6 := hid (B5.out.trans (hb.mono B5.out.size))
  clear hb B5
  clear c0 c1 c2 c3 c4 c5 c6 c7 f0 f1 f2 f3 f4 f5 f6 f7
  obtain ⟨⟨c0, c1, c2, c3, c4, c5, c6, c7⟩, f0, f1, f2, f3, f4, f5, f6, f7⟩ := cells8 X5.out
  go_wp2_with fail
  with_reducible refine (text_any ⟨k, u, f, q, p, m, n, t⟩ _ HO.out HR.out).mono ?_
  rintro e w6 ⟨r, rfl, hr, hb⟩
  obtain rfl : r = s := L_inj.1 (hr.trans HT.out)
  have B7 := hid (B6.out.trans (hb.mono B6.out.size))
  clear hb B6 hr
  go_wp2
  go_ret
  exact ⟨rfl, B7.out⟩



set_option maxRecDepth 100000 in
theorem lifted (os : Os) (started : os.Started) (H : Type) (enc : TypeId × Value → H) :
    ReturnsInHanded {} Tryd.checked os 4 .any (fun w args => (Rows.cmdReadsSpec.pre enc Tryd.prog Tryd.f4 [] false w args ∧ laidMetH Tryd.prog laid7 w) ∧ sizedMet enc Tryd.prog Tryd.f4 (OpenSpec.ofChange Rows.cmdReadsSpec) false w args) (Rows.cmdReadsSpec.post enc Tryd.prog Tryd.f4 false true false false) := by
  refine returnsInHanded_of_change_and (C := Tryd.checked) (X := fun w _ => laidMetH Tryd.prog laid7 w) (fun _ _ _ hh h => h.of_heap hh) own7 started (by kernel_rfl) Tryd.func4
    (ChangeSpec.witness_shaped (enc := enc) (C := Tryd.checked) (os := os) (X := fun w _ => laidMetH Tryd.prog laid7 w) false (World.doorLaid Tryd.prog 400 os) #[.string ⟨#[]⟩] 8 rfl (World.shaped_of_RefB (by kernel_rfl) (by kernel_rfl)) (by kernel_rfl) (by kernel_rfl) (by kernel_rfl) (door_met7 os _)) ?_
  intro W base args ds gs before hval0 hW _ _ hL _
  have hval : ∀ (j : Nat) t v, Tryd.f4.params[j]? = some t → args[j]? = some v → Value.okWide Tryd.prog W .any base t v := hval0
  have hW' := hW
  obtain ⟨p, q, hA0, hV, rfl, _, _⟩ := hW
  have hA : DataW.TrodAll enc Tryd.prog W 0 (fun _ => true) true Tryd.f4.params.toList args.toList ds p := hA0
  rw [Tryd.params4] at hA hval
  have hlt : ∀ x ∈ p, x.block < W.heap.size := fun x hx => by simpa using hW'.lt x (List.mem_append_left _ hx)
  obtain ⟨v0, vs0, d0, ds0, p0, q0, hargs, rfl, rfl, g0, r0⟩ := trodAll_cons hA
  obtain ⟨rfl, rfl, rfl⟩ := trodAll_nil r0
  obtain rfl : args = #[v0] := by cases args; simp_all
  obtain ⟨rfl, rfl⟩ := trodVars_none hV
  obtain ⟨a0, rfl, rfl, rfl, w0⟩ := open_string Tryd.underlying9 (hval 0 9 v0 rfl rfl) g0
  refine (walk a0 w0 W (of_laid7 hL)).mono fun e W' ⟨he, hg⟩ => ?_
  subst he
  exact ⟨_, rfl, law_post laidOut7 hW' (by kernel_rfl) rfl rfl Tryd.underlying4 rfl hg⟩

theorem said : Rows.CmdReadsSaid :=
  OpenClaim.holds_of_wide 4 Tryd.f4 rfl rfl rfl rfl rfl rfl rfl ⟨rfl, rfl, rfl, rfl, rfl⟩ rfl rfl rfl rfl rfl (by kernel_rfl) Tryd.func4 (by kernel_rfl)
    (of_decide_eq_true (by kernel_rfl)) (by unfold Func.isWrapper; first | (rw [if_pos (by decide +kernel)]; kernel_rfl) | (rw [if_neg (by decide +kernel)]; exact ⟨rfl, rfl⟩))
    (fun os started H enc _ => lifted os started H enc)

set_option maxRecDepth 100000 in
theorem proved : Rows.CmdReadsCardSaid :=
  Claim7.holds_tied_plain_at .later [] [.data, .data, .data, .sentinel, .sentinel, .data, .data] true _ true
    said (fun _ h => by cases h) (by kernel_rfl) (fun _ h => by cases h) cmdReads_row_tie rfl ⟨rfl, rfl⟩ (by kernel_rfl) rfl
    (fun f fn hf hfn => by
      obtain rfl : f = 4 := Option.some.inj ((show Tryd.prog.funcNamed "moothill/moothilllaw07.CmdReads" = some 4 by kernel_rfl).symm.trans hf) |>.symm
      obtain rfl : fn = Tryd.f4 := (Option.some.inj (Tryd.func4.symm.trans hfn)).symm
      exact ⟨by kernel_rfl, fun j t ht => by
        rw [Tryd.params4] at ht
        have hm : t ∈ [9] := by simpa using Array.mem_of_getElem? ht
        have hall : ([9].all fun u => !Tryd.prog.wantsStandIn u) = true := by kernel_rfl
        exact (show Tryd.prog.wantsStandIn t = false by simpa using List.all_eq_true.1 hall t hm)⟩)
    (by kernel_rfl)
#print axioms proved

end Go.Proofs.YtfdphcgfdodnoaaDoor.cmdReads
