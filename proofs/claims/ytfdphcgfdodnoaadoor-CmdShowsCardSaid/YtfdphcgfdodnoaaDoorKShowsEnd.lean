/-
  CmdShows, its tied card: any command that may be has the document's text, and is read from it; others have none. The condition: the listed variables hold what their texts lay, which the card ties to the program.
-/
import Derived.Test.YtfdphcgfdodnoaaDoorKSaid
import Derived.Test.YtfdphcgfdodnoaaDoorKEq
import Derived.BigQuiet
import Derived.Test.YtfdphcgfdodnoaaDoorKLaid
import Derived.Test.YtfdphcgfdodnoaaDoorCards
import Derived.Test.YtfdphcgfdodnoaaDoorTie
import Derived.SevenTiedAt
import Derived.Lib.SmallJoins
namespace Go.Proofs.YtfdphcgfdodnoaaDoor.cmdShows
open Go.ChangeShapes Go.WideShapes Go.ChangeAt Go.RowKit Go.Lib Go.Joins
set_option linter.unusedVariables false
set_option linter.unusedSimpArgs false

set_option maxRecDepth 100000 in
set_option maxHeartbeats 4000000 in
theorem walk_k (k u : Int) (f : ByteArray) (q : Int) (s : ByteArray) (m n t : Int) (w : World) (hok : okK ⟨k, u, f, q, s, m, n, t⟩) (hL : Laid7 w) :
    Calls Tryd.prog 3 #[val ⟨k, u, f, q, s, m, n, t⟩] w fun e w' => e = .returned (.bool true) ∧ Below w.heap.size w w' := by
  have HO := hid hok
  have HL := hid hL
  have A0 := hid (Boxed.start hL.1 ⟨k, u, f, q, s, m, n, t⟩)
  obtain ⟨sm, hsm⟩ : ∃ x, smallK ⟨k, u, f, q, s, m, n, t⟩ = x := ⟨_, rfl⟩
  have SM := hid hsm
  obtain ⟨r, hr⟩ : ∃ r, rightK ⟨k, u, f, q, s, m, n, t⟩ = r := ⟨_, rfl⟩
  have R := hid hr
  clear hok hL hsm hr
  go_enter Tryd.func3, Tryd.ntmps3
  go_wp2_with fail
  with_reducible refine (anchor7 _ A0.out.parts).mono ?_
  rintro e w1 ⟨rfl, hb⟩
  have A1 := hid (A0.out.on hb)
  clear hb A0
  obtain ⟨⟨c0, c1, c2, c3, c4, c5, c6, c7⟩, f0, f1, f2, f3, f4, f5, f6, f7⟩ := cells8  A1.out.1
  go_wp2_with fail
  with_reducible refine (small_any ⟨k, u, f, q, s, m, n, t⟩ _).mono ?_
  rw [SM.out]
  rintro e w2 ⟨rfl, hb⟩
  have A2 := hid (A1.out.on hb)
  clear hb A1
  clear c0 c1 c2 c3 c4 c5 c6 c7 f0 f1 f2 f3 f4 f5 f6 f7
  obtain ⟨⟨c0, c1, c2, c3, c4, c5, c6, c7⟩, f0, f1, f2, f3, f4, f5, f6, f7⟩ := cells8  A2.out.1
  cases sm
  · go_wp2
    go_ret
    exact ⟨rfl, A2.out.below⟩
  have hs := SM.out
  unfold smallK at hs
  simp only [Bool.and_eq_true, decide_eq_true_eq] at hs
  obtain ⟨hp, hf⟩ := hs
  have hf9 : f.size ≤ 900 := by omega
  have hp9 : s.size ≤ 900 := by omega
  have hf4 : f.size ≤ 4611686018427387903 := by omega
  have hp4 : s.size ≤ 4611686018427387903 := by omega
  cases r
  · go_wp2_with fail
    with_reducible refine (show_wrong k u f q s m n t _ (HL.out.below A2.out.below) R.out hf4 hp4).mono ?_
    rintro e w3 ⟨rfl, hb⟩
    have A3 := hid (A2.out.on hb)
    clear hb A2
    clear c0 c1 c2 c3 c4 c5 c6 c7 f0 f1 f2 f3 f4 f5 f6 f7
    obtain ⟨⟨c0, c1, c2, c3, c4, c5, c6, c7⟩, f0, f1, f2, f3, f4, f5, f6, f7⟩ := cells8  A3.out.1
    go_wp2_with fail
    with_reducible refine (of_any ⟨k, u, f, q, s, m, n, t⟩ _).mono ?_
    rintro e w4 ⟨rfl, hb⟩
    have A4 := hid (A3.out.on hb)
    clear hb A3
    clear c0 c1 c2 c3 c4 c5 c6 c7 f0 f1 f2 f3 f4 f5 f6 f7
    obtain ⟨⟨c0, c1, c2, c3, c4, c5, c6, c7⟩, f0, f1, f2, f3, f4, f5, f6, f7⟩ := cells8  A4.out.1
    go_wp2_with fail
    with_reducible refine (refright7 ⟨k, u, f, q, s, m, n, t⟩ _ HO.out hf9 hp9).mono ?_
    rw [R.out]
    rintro e w5 ⟨rfl, hb⟩
    have A5 := hid (A4.out.on hb)
    clear hb A4
    go_wp2
    go_ret
    exact ⟨rfl, A5.out.below⟩
  have hin := right_in _ HO.out R.out
  have GT : Hid (gOf (txt ⟨k, u, f, q, s, m, n, t⟩) = ⟨k, u, f, q, s, m, n, t⟩) := hid (gOf_txt _ HO.out R.out ⟨hin.1, hin.2.1, hin.2.2.1⟩)
  have TZ : Hid ((txt ⟨k, u, f, q, s, m, n, t⟩).length ≤ 100000) := hid (txt_len _ HO.out R.out)
  have RO : Hid (readOK (txt ⟨k, u, f, q, s, m, n, t⟩) = true) := hid (by unfold readOK; rw [GT.out, R.out]; simp)
  clear hin
  go_wp2_with fail
  with_reducible refine (show_right ⟨k, u, f, q, s, m, n, t⟩ _ (HL.out.below A2.out.below) HO.out R.out).mono ?_
  rintro e w3 ⟨⟨r, rfl, hr⟩, hb⟩
  have A3 := hid (A2.out.on hb)
  have HR := hid hr
  have hz : r.size ≤ 100000 := by rw [← L_length, hr]; exact TZ.out
  clear hb A2 hr
  clear c0 c1 c2 c3 c4 c5 c6 c7 f0 f1 f2 f3 f4 f5 f6 f7
  obtain ⟨⟨c0, c1, c2, c3, c4, c5, c6, c7⟩, f0, f1, f2, f3, f4, f5, f6, f7⟩ := cells8  A3.out.1
  go_wp2_with fail
  with_reducible refine (of_any ⟨k, u, f, q, s, m, n, t⟩ _).mono ?_
  rintro e w4 ⟨rfl, hb⟩
  have A4 := hid (A3.out.on hb)
  clear hb A3
  clear c0 c1 c2 c3 c4 c5 c6 c7 f0 f1 f2 f3 f4 f5 f6 f7
  obtain ⟨⟨c0, c1, c2, c3, c4, c5, c6, c7⟩, f0, f1, f2, f3, f4, f5, f6, f7⟩ := cells8  A4.out.1
  go_wp2_with fail
  with_reducible refine (refright7 ⟨k, u, f, q, s, m, n, t⟩ _ HO.out hf9 hp9).mono ?_
  rw [R.out]
  rintro e w5 ⟨rfl, hb⟩
  have A5 := hid (A4.out.on hb)
  clear hb A4
  clear c0 c1 c2 c3 c4 c5 c6 c7 f0 f1 f2 f3 f4 f5 f6 f7
  obtain ⟨⟨c0, c1, c2, c3, c4, c5, c6, c7⟩, f0, f1, f2, f3, f4, f5, f6, f7⟩ := cells8  A5.out.1
  go_wp2_with fail
  with_reducible refine (readcmd_any r _ (HL.out.below A5.out.below) hz).mono ?_
  rw [HR.out, RO.out, GT.out, if_pos rfl, if_pos rfl]
  rintro e w6 ⟨rfl, hb⟩
  have A6 := hid ((A5.out.on hb).alloc (.cells (cellsOf ⟨k, u, f, q, s, m, n, t⟩) 26))
  have X6 := hid (Blk.new w6 26 (cellsOf ⟨k, u, f, q, s, m, n, t⟩))
  clear hb A5
  clear c0 c1 c2 c3 c4 c5 c6 c7 f0 f1 f2 f3 f4 f5 f6 f7
  obtain ⟨⟨c0, c1, c2, c3, c4, c5, c6, c7⟩, f0, f1, f2, f3, f4, f5, f6, f7⟩ := cells8  A6.out.1
  go_wp2_with fail
  with_reducible refine (of_any ⟨k, u, f, q, s, m, n, t⟩ _).mono ?_
  rintro e w7 ⟨rfl, hb⟩
  have A7 := hid (A6.out.on hb)
  have X7 := hid (X6.out.below hb X6.out.lt)
  clear hb A6 X6
  clear c0 c1 c2 c3 c4 c5 c6 c7 f0 f1 f2 f3 f4 f5 f6 f7
  obtain ⟨⟨c0, c1, c2, c3, c4, c5, c6, c7⟩, f0, f1, f2, f3, f4, f5, f6, f7⟩ := cells8  A7.out.1
  go_wp2_with fail
  with_reducible refine (text_any ⟨k, u, f, q, s, m, n, t⟩ _ HO.out R.out).mono ?_
  rintro e w8 ⟨r2, rfl, hr2, hb⟩
  obtain rfl : r2 = r := L_inj.1 (hr2.trans HR.out.symm)
  have A8 := hid (A7.out.on hb)
  have X8 := hid (X7.out.below hb X7.out.lt)
  clear hb A7 X7 hr2
  clear c0 c1 c2 c3 c4 c5 c6 c7 f0 f1 f2 f3 f4 f5 f6 f7
  obtain ⟨⟨c0, c1, c2, c3, c4, c5, c6, c7⟩, f0, f1, f2, f3, f4, f5, f6, f7⟩ := cells8  A8.out.1
  obtain ⟨⟨e0, e1, e2, e3, e4, e5, e6, e7⟩, g0, g1, g2, g3, g4, g5, g6, g7⟩ := cells8 X8.out
  have EG := eq_guard
  have EQ := fun w => eq_val ⟨k, u, f, q, s, m, n, t⟩ ⟨k, u, f, q, s, m, n, t⟩ true (decide_eq_true rfl) w
  dsimp only [val] at EQ
  go_wp2
  go_ret
  exact ⟨rfl, A8.out.below⟩

theorem walk (c : K) (hok : okK c) (w : World) (hL : Laid7 w) :
    Calls Tryd.prog 3 #[val c] w fun e w' => e = .returned (.bool true) ∧ Below w.heap.size w w' :=
  walk_k c.kind c.num c.foot c.req c.path c.mode c.n c.time w hok hL



set_option maxRecDepth 100000 in
theorem lifted (os : Os) (started : os.Started) (H : Type) (enc : TypeId × Value → H) :
    ReturnsInHanded {} Tryd.checked os 3 .any (fun w args => (Rows.cmdShowsSpec.pre enc Tryd.prog Tryd.f3 [] false w args ∧ laidMetH Tryd.prog laid7 w) ∧ sizedMet enc Tryd.prog Tryd.f3 (OpenSpec.ofChange Rows.cmdShowsSpec) false w args) (Rows.cmdShowsSpec.post enc Tryd.prog Tryd.f3 false true false false) := by
  refine returnsInHanded_of_change_and (C := Tryd.checked) (X := fun w _ => laidMetH Tryd.prog laid7 w) (fun _ _ _ hh h => h.of_heap hh) own7 started (by kernel_rfl) Tryd.func3
    (ChangeSpec.witness_shaped (enc := enc) (C := Tryd.checked) (os := os) (X := fun w _ => laidMetH Tryd.prog laid7 w) false (World.doorLaid Tryd.prog 400 os) #[.agg #[.int .i64 0, .int .u64 0, .string ⟨#[]⟩, .int .u64 0, .string ⟨#[]⟩, .int .i64 0, .int .u64 0, .int .i64 0]] 8 rfl (World.shaped_of_RefB (by kernel_rfl) (by kernel_rfl)) (by kernel_rfl) (by kernel_rfl) (by kernel_rfl) (door_met7 os _)) ?_
  intro W base args ds gs before hval0 hW _ _ hL _
  have hval : ∀ (j : Nat) t v, Tryd.f3.params[j]? = some t → args[j]? = some v → Value.okWide Tryd.prog W .any base t v := hval0
  have hW' := hW
  obtain ⟨p, q, hA0, hV, rfl, _, _⟩ := hW
  have hA : DataW.TrodAll enc Tryd.prog W 0 (fun _ => true) true Tryd.f3.params.toList args.toList ds p := hA0
  rw [Tryd.params3] at hA hval
  have hlt : ∀ x ∈ p, x.block < W.heap.size := fun x hx => by simpa using hW'.lt x (List.mem_append_left _ hx)
  obtain ⟨v0, vs0, d0, ds0, p0, q0, hargs, rfl, rfl, g0, r0⟩ := trodAll_cons hA
  obtain ⟨rfl, rfl, rfl⟩ := trodAll_nil r0
  obtain rfl : args = #[v0] := by cases args; simp_all
  obtain ⟨rfl, rfl⟩ := trodVars_none hV
  obtain ⟨a0, rfl, w0, _, _⟩ := open_cmd (hval 0 26 v0 rfl rfl) g0
  refine (walk a0 w0 W (of_laid7 hL)).mono fun e W' ⟨he, hg⟩ => ?_
  subst he
  exact ⟨_, rfl, law_post laidOut7 hW' (by kernel_rfl) rfl rfl Tryd.underlying4 rfl hg⟩

theorem said : Rows.CmdShowsSaid :=
  OpenClaim.holds_of_wide 3 Tryd.f3 rfl rfl rfl rfl rfl rfl rfl ⟨rfl, rfl, rfl, rfl, rfl⟩ rfl rfl rfl rfl rfl (by kernel_rfl) Tryd.func3 (by kernel_rfl)
    (of_decide_eq_true (by kernel_rfl)) (by unfold Func.isWrapper; first | (rw [if_pos (by decide +kernel)]; kernel_rfl) | (rw [if_neg (by decide +kernel)]; exact ⟨rfl, rfl⟩))
    (fun os started H enc _ => lifted os started H enc)

set_option maxRecDepth 100000 in
theorem proved : Rows.CmdShowsCardSaid :=
  Claim7.holds_tied_plain_at .later [] [.data, .data, .data, .sentinel, .sentinel, .data, .data] true _ true
    said (fun _ h => by cases h) (by kernel_rfl) (fun _ h => by cases h) cmdShows_row_tie rfl ⟨rfl, rfl⟩ (by kernel_rfl) rfl
    (fun f fn hf hfn => by
      obtain rfl : f = 3 := Option.some.inj ((show Tryd.prog.funcNamed "moothill/moothilllaw07.CmdShows" = some 3 by kernel_rfl).symm.trans hf) |>.symm
      obtain rfl : fn = Tryd.f3 := (Option.some.inj (Tryd.func3.symm.trans hfn)).symm
      exact ⟨by kernel_rfl, fun j t ht => by
        rw [Tryd.params3] at ht
        have hm : t ∈ [26] := by simpa using Array.mem_of_getElem? ht
        have hall : ([26].all fun u => !Tryd.prog.wantsStandIn u) = true := by kernel_rfl
        exact (show Tryd.prog.wantsStandIn t = false by simpa using List.all_eq_true.1 hall t hm)⟩)
    (by kernel_rfl)
#print axioms proved

end Go.Proofs.YtfdphcgfdodnoaaDoor.cmdShows
