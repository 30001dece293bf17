/-
  NumShorts: every number is written short as the document says, in at most ten bytes, and read again, whatever bytes follow. No condition.
-/
import Derived.Test.YtklehahedjbkjaaSame
import Derived.Deep.RegionHeld3
namespace Go.Proofs.Ytklehahedjbkjaa.numShorts
open Go.ChangeShapes Go.WideShapes Go.ChangeAt Go.RowKit
set_option linter.unusedVariables false

theorem own : ownKnob Try.prog.godebug = none := by kernel_rfl
theorem laidOut : laidOutB Try.prog = true := by kernel_rfl
theorem bytes_u8 : Try.prog.bytesOf 5 = 1 := by kernel_rfl
theorem cells_u8 : Try.prog.cellsOf 5 = 1 := by kernel_rfl

set_option maxRecDepth 100000 in
set_option maxHeartbeats 400000 in
theorem walk_nat (v : Nat) (A : Option Addr) (l : List Nat) (ca : Nat) (w : World) (hv : v < 18446744073709551616) (hn : A = none → ca = 0) (hl : l.length ≤ 140737488351232) (h8 : ∀ x ∈ l, x < 256) (hA : Sees .u8 w A l) :
    Calls Try.prog 4 #[.int .u64 v, .slice A l.length ca] w fun e w' => e = .returned (.bool true) ∧ Below w.heap.size w w' := by
  obtain ⟨i0, hi, hz0, hz1, hz2⟩ := info_parts info_u8
  have HA := hid hA
  have H8 := hid h8
  have HV := hid hv
  have HN := hid hn
  obtain ⟨L, hL⟩ : ∃ L, L = shortN v ++ l := ⟨_, rfl⟩
  have HL := hid hL
  have hLl : L.length ≤ 140737488351242 := by rw [hL, List.length_append]; have := shortN_len10 hv; omega
  have HR : Hid (readN L = (v, (shortN v).length, 0)) := hid (by rw [hL]; exact readN_short v l hv)
  have HL8 : Hid (∀ x ∈ L, x < 256) := hid (by rw [hL]; exact fun x hx => (List.mem_append.1 hx).elim (shortN_byte v x) (h8 x))
  have hlen := shortN_len10 hv
  have hpos := shortN_pos v
  clear hA h8 hv hn hL
  go_enter Try.func4, Try.ntmps4
  go_wp2_with (first
    | (go_at_call 10; refine (anchor_any _).mono ?_; rintro e w1 ⟨rfl, hw1⟩)
    | (go_at_call 16; ((with_reducible refine (short_hands v _ HV.out).mono ?_); rintro e w2 ⟨A1, c1, rfl, hn1, _, hs1, hb1⟩))
    | (go_at_call 17; ((with_reducible refine (refshort_hands v _ HV.out).mono ?_); rintro e w3 ⟨A2, c2, rfl, _, _, hs2, hb2⟩))
    | (go_at_call 12; refine (same_true A1 A2 (shortN v) c1 c2 _ (by omega) (hs1.below hb2) hs2).mono ?_; rintro e w4 ⟨rfl, hb4⟩; have B24 := below_on hb2 hb4; have z24 := B24.size; have B4 := below_on (below_on hw1 hb1) B24)
    | ((with_reducible refine wpList_build_none (o := ⟨some 24, _, _, _, _, _⟩) rfl 23 5 rfl Try.underlying23 i0 hi w4.heap.size (Nat.le_refl _) ?_); intro s5 w5 hown5 hb5; have B5 := below_on B4 hb5; have B25 := below_on B24 hb5; have z5 := hb5.size)
    | (at_builtin; refine wpList_append_sees rfl (.tmp 24) (.tmp 25) 23 rfl w4.heap.size 5 i0 (.int .u8 0) 1 Try.underlying23 hi hz0 hz1 hz2 rfl _ 0 [] rfl hown5 .u8 A1 c1 (shortN v) rfl hn1 (hs1.below B25) (by unfold maxLen; omega) (by omega) z5 ?_; intro s6 w6 hown6 hg6; simp only [Nat.zero_add, List.nil_append] at hown6; have B6 := below_on B4 (hb5.grown hg6 z5 (fun k hk => (hown5.lt k hk).1)); have z6 := Nat.le_trans z5 hg6.size)
    | (at_builtin; refine wpList_append_sees rfl (.tmp 26) (.tmp 27) 23 rfl w4.heap.size 5 i0 (.int .u8 0) 1 Try.underlying23 hi hz0 hz1 hz2 rfl _ _ _ rfl hown6 .u8 A ca l rfl HN.out (HA.out.below B6) (by unfold maxLen; omega) (by omega) z6 ?_; intro s7 w7 hown7 hg7; have B7 := below_on B4 ((hb5.grown hg6 z5 (fun k hk => (hown5.lt k hk).1)).grown hg7 z6 (fun k hk => (hown6.lt k hk).1)); obtain ⟨A7, c7, rfl, _, _, hs7⟩ := own_slice2 HL.out hown7)
    | (go_at_call 18; ((with_reducible refine (readshort_any A7 L c7 _ (by omega) HL8.out hs7).mono ?_); rintro e w' ⟨rfl, rfl⟩; rw [HR.out]))
    )
  go_ret
  exact ⟨rfl, B7⟩

/-- The Go text returns true. -/
theorem walk (v : Int) (A : Option Addr) (l : List Nat) (ca : Nat) (wv : (Lit.int .u64 v).wf = true) (hn : A = none → ca = 0) (hl : l.length ≤ ca) (hm : ca ≤ maxLen) (hr : l.length * 1 ≤ 140737488351232) (h8 : ∀ x ∈ l, (Lit.int .u8 (x : Int)).wf = true) (w : World) (hA : Sees .u8 w A l) :
    Calls Try.prog 4 #[.int .u64 v, .slice A l.length ca] w fun e w' => e = .returned (.bool true) ∧ Below w.heap.size w w' := by
  have h0 := u64_pos v wv
  have h1 := u64_lt v wv
  obtain ⟨n, rfl⟩ := Int.eq_ofNat_of_zero_le h0
  exact walk_nat n A l ca w (by omega) hn (by omega) (fun x hx => by have := u8_lt _ (h8 x hx); omega) hA

set_option maxRecDepth 100000 in
theorem lifted (os : Os) (started : os.Started) (H : Type) (enc : TypeId × Value → H) :
    ReturnsInHanded {} Try.checked os 4 .any (Rows.numShortsSpec.pre6 enc Try.prog Try.f4 Rows.numShortsRow.domain false) (Rows.numShortsSpec.post enc Try.prog Try.f4 false true false false) := by
  refine returnsInHanded_of_change_sized (C := Try.checked) own started (by kernel_rfl) Try.func4
    (ChangeSpec.witness6 (enc := enc) (C := Try.checked) false ⟨#[], #[.int .u64 0, .slice none 0 0], []⟩ 8 (by kernel_rfl) (by kernel_rfl) (by kernel_rfl) (by kernel_rfl)) ?_
  intro W base args ds gs before hval0 hW _ hsz0 _
  have hsz : (DataW.weightsEach Try.prog (Try.f4.params.toList ++ Rows.numShortsSpec.plain.varTypes Try.prog) (ds ++ gs)).all (· ≤ reachBytes) = true := hsz0
  have hval : ∀ (j : Nat) t v, Try.f4.params[j]? = some t → args[j]? = some v → Value.okWide Try.prog W .any base t v := hval0
  have hW' := hW
  obtain ⟨p, q, hA0, hV, rfl, _, _⟩ := hW
  have hA : DataW.TrodAll enc Try.prog W 0 (fun _ => true) true Try.f4.params.toList args.toList ds p := hA0
  rw [Try.params4] at hA hval hsz
  have hlt : ∀ x ∈ p, x.block < W.heap.size := fun x hx => by simpa using hW'.lt x (List.mem_append_left _ hx)
  obtain ⟨v0, vs0, d0, ds0, p0, q0, hargs, rfl, rfl, g0, r0⟩ := trodAll_cons hA
  obtain ⟨v1, vs1, d1, ds1, p1, q1, rfl, rfl, rfl, g1, r1⟩ := trodAll_cons r0
  obtain ⟨rfl, rfl, rfl⟩ := trodAll_nil r1
  obtain rfl : args = #[v0, v1] := by cases args; simp_all
  obtain ⟨rfl, rfl⟩ := trodVars_none hV
  obtain ⟨a0, rfl, rfl, rfl, w0⟩ := open_int Try.underlying22 (hval 0 22 v0 rfl rfl) g0
  obtain ⟨A1, c1, l1, rfl, hn1, hl1, hm1, hs1, hw1, hd1⟩ := open_nums Try.underlying23 Try.underlying5 cells_u8 u8_pos (hval 1 23 v1 rfl rfl) g1 (fun x hx => hlt x <| List.mem_append_right _ <| List.mem_append_left _ hx)
  have hr1 : l1.length * 1 ≤ 140737488351232 := by
    rcases hd1 with rfl | ⟨es, sp, hd, hlen⟩
    · simp
    · have := sized_slice hsz (j := 1) (t := 23) (e := 5) rfl (by rw [hd]; rfl) Try.underlying23
      rw [bytes_u8] at this
      simp only [reachBytes] at this
      omega
  refine (walk a0 A1 l1 c1 w0 hn1 hl1 hm1 hr1 hw1 W hs1).mono fun e W' ⟨he, hg⟩ => ?_
  subst he
  exact ⟨_, rfl, law_post laidOut hW' (by kernel_rfl) rfl rfl Try.underlying4 rfl hg⟩

theorem proved : Rows.NumShortsSaid :=
  OpenClaim.holds_of_wide 4 Try.f4 rfl rfl rfl rfl rfl rfl rfl ⟨rfl, rfl, rfl, rfl, rfl⟩ rfl rfl rfl rfl rfl (by kernel_rfl) Try.func4 (by kernel_rfl)
    (of_decide_eq_true (by kernel_rfl)) (by unfold Func.isWrapper; first | (rw [if_pos (by decide +kernel)]; kernel_rfl) | (rw [if_neg (by decide +kernel)]; exact ⟨rfl, rfl⟩))
    (fun os started H enc _ => lifted os started H enc)
#print axioms proved

end Go.Proofs.Ytklehahedjbkjaa.numShorts
