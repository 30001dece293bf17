/-
  NumBytes: any number's bytes are the document's, of any count, and are read as its lowest bytes; too few are refused. No condition.
-/
import Derived.Test.YtklehahedjbkjaaBytes
import Derived.Deep.RegionHeld3
namespace Go.Proofs.Ytklehahedjbkjaa.numBytes
open Go.ChangeShapes Go.WideShapes Go.ChangeAt Go.RowKit
set_option linter.unusedVariables false

theorem own : ownKnob Try.prog.godebug = none := by kernel_rfl
theorem laidOut : laidOutB Try.prog = true := by kernel_rfl
theorem bytes_u8 : Try.prog.bytesOf 5 = 1 := by kernel_rfl
theorem cells_u8 : Try.prog.cellsOf 5 = 1 := by kernel_rfl

set_option maxRecDepth 100000 in
set_option maxHeartbeats 400000 in
theorem walk_range (v n : Nat) (a : Int) (A : Option Addr) (l : List Nat) (ca : Nat) (w : World) (hv : v < 18446744073709551616) (hn8 : n ≤ 8) (ha : a < 0 ∧ n = 0 ∨ a = n ∨ 8 < a ∧ n = 8) (hr : a < 1 ∨ 8 < a) (hA : Sees .u8 w A l) :
    Calls Try.prog 3 #[.int .u64 v, .int .i64 a, .slice A l.length ca] w fun e w' => e = .returned (.bool true) ∧ Below w.heap.size w w' := by
  have HV := hid hv
  have HB := hid ha
  have HN := hid (bytesN_len n v)
  have HR := hid hr
  rcases ha with ⟨ha, hz⟩ | rfl | ⟨ha, hz⟩
  · have hzi : n ≤ 0 := by omega
    clear hz hr hA hv
    go_enter Try.func3, Try.ntmps3
    go_wp2_with (first
      | (go_at_call 10; refine (anchor_any _).mono ?_; rintro e w1 ⟨rfl, hw1⟩)
      | (go_at_call 11; ((with_reducible refine (bytes_hands v n _ _ HV.out hn8 HB.out).mono ?_); rintro e w2 ⟨A1, c1, rfl, hn1, hc1, hs1, hb1⟩))
      | (go_at_call 13; ((with_reducible refine (refbytes_hands v n _ _ HV.out hn8 (by omega)).mono ?_); rintro e w3 ⟨A2, c2, rfl, _, _, hs2, hb2⟩))
      | (go_at_call 12; refine (same_as A1 A2 (bytesN v n) n c1 c2 _ (by omega) HN.out (hs1.below hb2) hs2).mono ?_; rintro e w4 ⟨rfl, hb4⟩; have B24 := below_on hb2 hb4; have z24 := B24.size; have B4 := below_on (below_on hw1 hb1) B24)
      | (go_at_call 14; ((with_reducible refine (read_range A l.length ca _ _ HR.out).mono ?_); rintro e w' ⟨rfl, rfl⟩)))
    go_ret
    exact ⟨rfl, B4⟩
  · have hzi : n ≤ 0 := by omega
    obtain rfl : n = 0 := by omega
    clear hr hA hv hzi
    go_enter Try.func3, Try.ntmps3
    go_wp2_with (first
      | (go_at_call 10; refine (anchor_any _).mono ?_; rintro e w1 ⟨rfl, hw1⟩)
      | (go_at_call 11; ((with_reducible refine (bytes_hands v 0 0 _ HV.out hn8 (.inr (.inl rfl))).mono ?_); rintro e w2 ⟨A1, c1, rfl, hn1, hc1, hs1, hb1⟩))
      | (go_at_call 13; ((with_reducible refine (refbytes_hands v 0 0 _ HV.out hn8 rfl).mono ?_); rintro e w3 ⟨A2, c2, rfl, _, _, hs2, hb2⟩))
      | (go_at_call 12; refine (same_as A1 A2 (bytesN v 0) 0 c1 c2 _ (by omega) HN.out (hs1.below hb2) hs2).mono ?_; rintro e w4 ⟨rfl, hb4⟩; have B24 := below_on hb2 hb4; have z24 := B24.size; have B4 := below_on (below_on hw1 hb1) B24)
      | (go_at_call 14; ((with_reducible refine (read_range A l.length ca 0 _ (.inl (by decide))).mono ?_); rintro e w' ⟨rfl, rfl⟩)))
    go_ret
    exact ⟨rfl, B4⟩
  · have hzi : 8 ≤ n := by omega
    clear hz hr hA hv
    go_enter Try.func3, Try.ntmps3
    go_wp2_with (first
      | (go_at_call 10; refine (anchor_any _).mono ?_; rintro e w1 ⟨rfl, hw1⟩)
      | (go_at_call 11; ((with_reducible refine (bytes_hands v n _ _ HV.out hn8 HB.out).mono ?_); rintro e w2 ⟨A1, c1, rfl, hn1, hc1, hs1, hb1⟩))
      | (go_at_call 13; ((with_reducible refine (refbytes_hands v n _ _ HV.out hn8 (by omega)).mono ?_); rintro e w3 ⟨A2, c2, rfl, _, _, hs2, hb2⟩))
      | (go_at_call 12; refine (same_as A1 A2 (bytesN v n) n c1 c2 _ (by omega) HN.out (hs1.below hb2) hs2).mono ?_; rintro e w4 ⟨rfl, hb4⟩; have B24 := below_on hb2 hb4; have z24 := B24.size; have B4 := below_on (below_on hw1 hb1) B24)
      | (go_at_call 14; ((with_reducible refine (read_range A l.length ca _ _ HR.out).mono ?_); rintro e w' ⟨rfl, rfl⟩)))
    go_ret
    exact ⟨rfl, B4⟩

set_option maxRecDepth 100000 in
set_option maxHeartbeats 400000 in
theorem walk_few (v n : Nat) (A : Option Addr) (l : List Nat) (ca : Nat) (w : World) (hv : v < 18446744073709551616) (h1 : 1 ≤ n) (hn8 : n ≤ 8) (hl : l.length < n) :
    Calls Try.prog 3 #[.int .u64 v, .int .i64 n, .slice A l.length ca] w fun e w' => e = .returned (.bool true) ∧ Below w.heap.size w w' := by
  have HV := hid hv
  have HN := hid (bytesN_len n v)
  clear hv
  go_enter Try.func3, Try.ntmps3
  go_wp2_with (first
    | (go_at_call 10; refine (anchor_any _).mono ?_; rintro e w1 ⟨rfl, hw1⟩)
    | (go_at_call 11; ((with_reducible refine (bytes_hands v n _ _ HV.out hn8 (.inr (.inl rfl))).mono ?_); rintro e w2 ⟨A1, c1, rfl, hn1, hc1, hs1, hb1⟩))
    | (go_at_call 13; ((with_reducible refine (refbytes_hands v n _ _ HV.out hn8 rfl).mono ?_); rintro e w3 ⟨A2, c2, rfl, _, _, hs2, hb2⟩))
    | (go_at_call 12; refine (same_as A1 A2 (bytesN v n) n c1 c2 _ (by omega) HN.out (hs1.below hb2) hs2).mono ?_; rintro e w4 ⟨rfl, hb4⟩; have B24 := below_on hb2 hb4; have z24 := B24.size; have B4 := below_on (below_on hw1 hb1) B24)
    | (go_at_call 14; ((with_reducible refine (read_short A l.length ca n _ h1 hn8 hl).mono ?_); rintro e w' ⟨rfl, rfl⟩)))
  go_ret
  exact ⟨rfl, B4⟩

set_option maxRecDepth 100000 in
set_option maxHeartbeats 400000 in
theorem walk_all (v n : Nat) (A : Option Addr) (l : List Nat) (ca : Nat) (w : World) (hv : v < 18446744073709551616) (h1 : 1 ≤ n) (hn8 : n ≤ 8) (hl : n ≤ l.length) (hca : l.length ≤ 140737488351232) (hn : A = none → ca = 0) (h8 : ∀ x ∈ l, x < 256) (hA : Sees .u8 w A l) :
    Calls Try.prog 3 #[.int .u64 v, .int .i64 n, .slice A l.length ca] w fun e w' => e = .returned (.bool true) ∧ Below w.heap.size w w' := by
  obtain ⟨i0, hi, hz0, hz1, hz2⟩ := info_parts info_u8
  have HV := hid hv
  have HN := hid (bytesN_len n v)
  have HA := hid hA
  have HX := hid hn
  obtain ⟨L, hL⟩ : ∃ L, L = bytesN v n ++ l := ⟨_, rfl⟩
  have HL := hid hL
  have hLl : L.length ≤ 140737488351242 := by rw [hL, List.length_append, bytesN_len]; omega
  have hLn : n ≤ L.length := by rw [hL, List.length_append, bytesN_len]; omega
  have HL8 : Hid (∀ x ∈ L, x < 256) := hid (by rw [hL]; exact fun x hx => (List.mem_append.1 hx).elim (bytesN_byte n v x) (h8 x))
  have HT : Hid (numN (L.take n) = v % 256 ^ n) := hid (by rw [hL, List.take_left' (bytesN_len n v), numN_bytesN])
  have HLow : Hid (lowOf v (8 * (n : Int)) = ((v % 256 ^ n : Nat) : Int)) := hid (low_256 v n hv h1 hn8)
  have hvI : (v : Int) ≤ 18446744073709551615 := by omega
  clear hv hA hn hL h8
  go_enter Try.func3, Try.ntmps3
  go_wp2_with (first
    | (go_at_call 10; refine (anchor_any _).mono ?_; rintro e w1 ⟨rfl, hw1⟩)
    | (go_at_call 11; ((with_reducible refine (bytes_hands v n _ _ HV.out hn8 (.inr (.inl rfl))).mono ?_); rintro e w2 ⟨A1, c1, rfl, hn1, hc1, hs1, hb1⟩))
    | (go_at_call 13; ((with_reducible refine (refbytes_hands v n _ _ HV.out hn8 rfl).mono ?_); rintro e w3 ⟨A2, c2, rfl, _, _, hs2, hb2⟩))
    | (go_at_call 12; refine (same_as A1 A2 (bytesN v n) n c1 c2 _ (by omega) HN.out (hs1.below hb2) hs2).mono ?_; rintro e w4 ⟨rfl, hb4⟩; have B24 := below_on hb2 hb4; have z24 := B24.size; have B4 := below_on (below_on hw1 hb1) B24)
    | ((with_reducible refine wpList_build_none (o := ⟨some 69, _, _, _, _, _⟩) rfl 23 5 rfl Try.underlying23 i0 hi w4.heap.size (Nat.le_refl _) ?_); intro s5 w5 hown5 hb5; have B5 := below_on B4 hb5; have B25 := below_on B24 hb5; have z5 := hb5.size)
    | (at_builtin; refine wpList_append_named rfl (.tmp 69) (.tmp 70) 23 rfl w4.heap.size 5 i0 (.int .u8 0) 1 Try.underlying23 hi hz0 hz1 hz2 rfl _ 0 [] rfl hown5 .u8 A1 c1 (bytesN v n) n HN.out rfl hn1 (hs1.below B25) (by unfold maxLen; omega) (by omega) z5 ?_; intro s6 w6 hown6 hg6; simp only [Nat.zero_add, List.nil_append] at hown6; have B6 := below_on B4 (hb5.grown hg6 z5 (fun k hk => (hown5.lt k hk).1)); have z6 := Nat.le_trans z5 hg6.size)
    | (at_builtin; refine wpList_append_sees rfl (.tmp 71) (.tmp 72) 23 rfl w4.heap.size 5 i0 (.int .u8 0) 1 Try.underlying23 hi hz0 hz1 hz2 rfl _ _ _ rfl hown6 .u8 A ca l rfl HX.out (HA.out.below B6) (by unfold maxLen; omega) (by omega) z6 ?_; intro s7 w7 hown7 hg7; have B7 := below_on B4 ((hb5.grown hg6 z5 (fun k hk => (hown5.lt k hk).1)).grown hg7 z6 (fun k hk => (hown6.lt k hk).1)); obtain ⟨b7, o7, c7, rfl, hc7, hs7⟩ := own_slice3 HL.out HN.out (by omega) hown7)
    | (go_at_call 14; ((with_reducible refine (read_any b7 o7 L c7 n _ h1 hn8 hLn hc7 HL8.out hs7).mono ?_); rintro e w' ⟨rfl, rfl⟩; rw [HT.out]))
    | (go_at_call 15; ((with_reducible refine (low_as _ _ _ _ (by omega) hvI HLow.out).mono ?_); rintro e w' ⟨rfl, rfl⟩)))
  go_ret
  exact ⟨rfl, B7⟩

/-- The Go text returns true. -/
theorem walk (v a : Int) (A : Option Addr) (l : List Nat) (ca : Nat) (wv : (Lit.int .u64 v).wf = true) (wa : (Lit.int .i64 a).wf = true) (hn : A = none → ca = 0) (hl : l.length ≤ ca) (hm : ca ≤ maxLen) (hr : l.length * 1 ≤ 140737488351232) (h8 : ∀ x ∈ l, (Lit.int .u8 (x : Int)).wf = true) (w : World) (hA : Sees .u8 w A l) :
    Calls Try.prog 3 #[.int .u64 v, .int .i64 a, .slice A l.length ca] w fun e w' => e = .returned (.bool true) ∧ Below w.heap.size w w' := by
  have h0 := u64_pos v wv
  have h1 := u64_lt v wv
  obtain ⟨m, rfl⟩ := Int.eq_ofNat_of_zero_le h0
  by_cases hlo : a < 0
  · exact walk_range m 0 a A l ca w (by omega) (by omega) (.inl ⟨hlo, rfl⟩) (.inl (by omega)) hA
  · obtain ⟨n, rfl⟩ := Int.eq_ofNat_of_zero_le (show 0 ≤ a by omega)
    by_cases hz : n = 0
    · subst hz
      exact walk_range m 0 _ A l ca w (by omega) (by omega) (.inr (.inl rfl)) (.inl (by omega)) hA
    · by_cases hhi : 8 < n
      · exact walk_range m 8 _ A l ca w (by omega) (by omega) (.inr (.inr ⟨by omega, rfl⟩)) (.inr (by omega)) hA
      · by_cases hfew : l.length < n
        · exact walk_few m n A l ca w (by omega) (by omega) (by omega) hfew
        · exact walk_all m n A l ca w (by omega) (by omega) (by omega) (by omega) (by omega) hn (fun x hx => by have := u8_lt _ (h8 x hx); omega) hA

set_option maxRecDepth 100000 in
theorem lifted (os : Os) (started : os.Started) (H : Type) (enc : TypeId × Value → H) :
    ReturnsInHanded {} Try.checked os 3 .any (Rows.numBytesSpec.pre6 enc Try.prog Try.f3 Rows.numBytesRow.domain false) (Rows.numBytesSpec.post enc Try.prog Try.f3 false true false false) := by
  refine returnsInHanded_of_change_sized (C := Try.checked) own started (by kernel_rfl) Try.func3
    (ChangeSpec.witness6 (enc := enc) (C := Try.checked) false ⟨#[], #[.int .u64 0, .int .i64 0, .slice none 0 0], []⟩ 8 (by kernel_rfl) (by kernel_rfl) (by kernel_rfl) (by kernel_rfl)) ?_
  intro W base args ds gs before hval0 hW _ hsz0 _
  have hsz : (DataW.weightsEach Try.prog (Try.f3.params.toList ++ Rows.numBytesSpec.plain.varTypes Try.prog) (ds ++ gs)).all (· ≤ reachBytes) = true := hsz0
  have hval : ∀ (j : Nat) t v, Try.f3.params[j]? = some t → args[j]? = some v → Value.okWide Try.prog W .any base t v := hval0
  have hW' := hW
  obtain ⟨p, q, hA0, hV, rfl, _, _⟩ := hW
  have hA : DataW.TrodAll enc Try.prog W 0 (fun _ => true) true Try.f3.params.toList args.toList ds p := hA0
  rw [Try.params3] at hA hval hsz
  have hlt : ∀ x ∈ p, x.block < W.heap.size := fun x hx => by simpa using hW'.lt x (List.mem_append_left _ hx)
  obtain ⟨v0, vs0, d0, ds0, p0, q0, hargs, rfl, rfl, g0, r0⟩ := trodAll_cons hA
  obtain ⟨v1, vs1, d1, ds1, p1, q1, rfl, rfl, rfl, g1, r1⟩ := trodAll_cons r0
  obtain ⟨v2, vs2, d2, ds2, p2, q2, rfl, rfl, rfl, g2, r2⟩ := trodAll_cons r1
  obtain ⟨rfl, rfl, rfl⟩ := trodAll_nil r2
  obtain rfl : args = #[v0, v1, v2] := by cases args; simp_all
  obtain ⟨rfl, rfl⟩ := trodVars_none hV
  obtain ⟨a0, rfl, rfl, rfl, w0⟩ := open_int Try.underlying22 (hval 0 22 v0 rfl rfl) g0
  obtain ⟨a1, rfl, rfl, rfl, w1⟩ := open_int Try.underlying3 (hval 1 3 v1 rfl rfl) g1
  obtain ⟨A2, c2, l2, rfl, hn2, hl2, hm2, hs2, hw2, hd2⟩ := open_nums Try.underlying23 Try.underlying5 cells_u8 u8_pos (hval 2 23 v2 rfl rfl) g2 (fun x hx => hlt x <| List.mem_append_right _ <| List.mem_append_right _ <| List.mem_append_left _ hx)
  have hr2 : l2.length * 1 ≤ 140737488351232 := by
    rcases hd2 with rfl | ⟨es, sp, hd, hlen⟩
    · simp
    · have := sized_slice hsz (j := 2) (t := 23) (e := 5) rfl (by rw [hd]; rfl) Try.underlying23
      rw [bytes_u8] at this
      simp only [reachBytes] at this
      omega
  refine (walk a0 a1 A2 l2 c2 w0 w1 hn2 hl2 hm2 hr2 hw2 W hs2).mono fun e W' ⟨he, hg⟩ => ?_
  subst he
  exact ⟨_, rfl, law_post laidOut hW' (by kernel_rfl) rfl rfl Try.underlying4 rfl hg⟩

theorem proved : Rows.NumBytesSaid :=
  OpenClaim.holds_of_wide 3 Try.f3 rfl rfl rfl rfl rfl rfl rfl ⟨rfl, rfl, rfl, rfl, rfl⟩ rfl rfl rfl rfl rfl (by kernel_rfl) Try.func3 (by kernel_rfl)
    (of_decide_eq_true (by kernel_rfl)) (by unfold Func.isWrapper; first | (rw [if_pos (by decide +kernel)]; kernel_rfl) | (rw [if_neg (by decide +kernel)]; exact ⟨rfl, rfl⟩))
    (fun os started H enc _ => lifted os started H enc)
#print axioms proved

end Go.Proofs.Ytklehahedjbkjaa.numBytes
