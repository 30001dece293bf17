/-
  Contracts of attributes' text (package attr, and the law's own): Show, digits, text, Read.
-/
import Derived.Test.YtfpmmajgnijboaaDoorAShow
namespace Go.Proofs.YtfpmmajgnijboaaDoor
open Go.ChangeShapes Go.WideShapes Go.ChangeAt Go.RowKit Go.Lib
set_option linter.unusedVariables false
set_option linter.unusedSimpArgs false

theorem info_str9 : (Tryd.prog.info? 9).map (fun i => (i.zero, i.size, i.bytes)) = some (some (.string ⟨#[]⟩), 1, 16) := by kernel_rfl
theorem one_str9 {w : World} {x : Value} (E : TypeId) : Vals (w.alloc (.cells #[x] E)) (some ⟨w.heap.size, 0, none⟩) [x] := by
  intro j u hj
  match j, hj with
  | 0, hj =>
    simp at hj
    subst hj
    exact ⟨w.heap.size, 0, rfl, by simp, by simp⟩
theorem grown_below9 {w w' : World} (hb : Below w.heap.size w w') : w.grownBy w' none := ⟨hb.os, hb.tape, hb.output, hb.size, fun i hi _ => hb.block i hi⟩
theorem below_on9 {k : Nat} {a b c : World} (hk : a.heap.size = k) (h : Below k a b) (hb : Below b.heap.size b c) : Below k a c := h.trans (hb.mono (by have := h.size; omega))
theorem ok_bounds {f : Nat → Int} (h : okB f = true) : (0 ≤ f 0 ∧ f 0 ≤ 1073741824) ∧ ∀ j, j < 7 → 0 ≤ f (1 + j) ∧ f (1 + j) ≤ 1024 := by
  obtain ⟨h0, h1⟩ := okB_iff.1 h
  exact ⟨h0, fun j hj => by have := h1 j hj; rwa [Nat.add_comm] at this⟩

set_option maxRecDepth 100000 in
set_option maxHeartbeats 400000 in
theorem ashow_no (f : Nat → Int) (w : World) (h : okB f = false) :
    Calls Tryd.prog 5 #[.agg #[.int .i64 (f 0), .int .i64 (f 1), .int .i64 (f 2), .int .i64 (f 3), .int .i64 (f 4), .int .i64 (f 5), .int .i64 (f 6), .int .i64 (f 7)]] w fun e w' => e = .returned (.tuple #[.string ⟨#[]⟩, .int .i64 12]) ∧ Below w.heap.size w w' := by
  have HO := hid h
  clear h
  go_enter Tryd.func5, Tryd.ntmps5
  go_upto_region 1 with fail
  obtain ⟨W, hW⟩ : ∃ W, w.alloc (.cells #[.int .i64 (f 0), .int .i64 (f 1), .int .i64 (f 2), .int .i64 (f 3), .int .i64 (f 4), .int .i64 (f 5), .int .i64 (f 6), .int .i64 (f 7)] 24) = W := ⟨_, rfl⟩
  rw [hW]
  obtain ⟨K0, B0⟩ := one_new hW
  rw [show #[.int .i64 (f 0), .int .i64 (f 1), .int .i64 (f 2), .int .i64 (f 3), .int .i64 (f 4), .int .i64 (f 5), .int .i64 (f 6), .int .i64 (f 7)] = rowA f from rfl] at K0
  clear hW
  obtain ⟨c0, c1, c2, c3, c4, c5, c6, c7⟩ := K0.out.eight
  go_wp2_with fail
  clear c0 c1 c2 c3 c4 c5 c6 c7
  with_reducible refine (aright8 f _).mono ?_
  rw [HO.out]
  rintro e w1 ⟨rfl, hb⟩
  have B1 := hid (B0.out.trans (hb.mono (by have := K0.out.lt; omega)))
  clear hb
  go_wp2
  exact bodyPost_ret (v := .tuple #[.string ⟨#[]⟩, .int .i64 12]) (by simp [results, Tryd.results5, go_sem]) rfl ⟨rfl, B1.out⟩

set_option maxRecDepth 100000 in
set_option maxHeartbeats 2000000 in
theorem ashow_yes (f : Nat → Int) (w : World) (hL : Laid w) (h : okB f = true) :
    Calls Tryd.prog 5 #[.agg #[.int .i64 (f 0), .int .i64 (f 1), .int .i64 (f 2), .int .i64 (f 3), .int .i64 (f 4), .int .i64 (f 5), .int .i64 (f 6), .int .i64 (f 7)]] w fun e w' => (∃ t : ByteArray, e = .returned (.tuple #[.string t, .int .i64 0]) ∧ Sb t = textA f) ∧ Below w.heap.size w w' := by
  obtain ⟨i0, hi, hz0, hz1, hz2⟩ := info_parts info_str9
  have HO := hid h
  obtain ⟨⟨x0, x1⟩, hbd⟩ := ok_bounds h
  have HBD := hid hbd
  have HL := hid hL
  obtain ⟨k, hk⟩ : ∃ k, w.heap.size = k := ⟨_, rfl⟩
  have HK := hid hk
  clear h hL hbd
  go_enter Tryd.func5, Tryd.ntmps5
  go_upto_region 1 with fail
  obtain ⟨W, hW⟩ : ∃ W, w.alloc (.cells #[.int .i64 (f 0), .int .i64 (f 1), .int .i64 (f 2), .int .i64 (f 3), .int .i64 (f 4), .int .i64 (f 5), .int .i64 (f 6), .int .i64 (f 7)] 24) = W := ⟨_, rfl⟩
  rw [hW]
  obtain ⟨K0, B0⟩ := one_new hW
  have L0 := hid (HL.out.below B0.out)
  rw [show #[.int .i64 (f 0), .int .i64 (f 1), .int .i64 (f 2), .int .i64 (f 3), .int .i64 (f 4), .int .i64 (f 5), .int .i64 (f 6), .int .i64 (f 7)] = rowA f from rfl, hk] at K0
  rw [hk] at B0
  clear hW hk
  obtain ⟨c0, c1, c2, c3, c4, c5, c6, c7⟩ := K0.out.eight
  go_wp2_with fail
  clear c0 c1 c2 c3 c4 c5 c6 c7
  with_reducible refine (aright8 f _).mono ?_
  rw [HO.out]
  rintro e w1 ⟨rfl, hb⟩
  have K1 := hid (K0.out.below hb K0.out.lt)
  have B1 := hid (B0.out.trans (hb.mono (by have := K0.out.lt; omega)))
  have L1 := hid (L0.out.below hb)
  clear hb K0 B0 L0
  have MR := hid K1.out.range
  have H7 := hid (len_seven f)
  go_wp2_with (with_reducible refine wpList_load_mid (op := ⟨some 11, _, _, _, _, _⟩) rfl 22 (.tmp 10) rfl k 1 rfl (lsD f) _ MR.out Tryd.underlying22 rfl H7.out ?_)
  have HI : Hid (∀ j : Nat, j < 7 → (lsD f)[j]? = some (.int .i64 (f (1 + j)))) := hid (fun j hj => by rw [lsD_get f hj, Nat.add_comm])
  obtain ⟨ds, hds⟩ : ∃ ds, lsD f = ds := ⟨_, rfl⟩
  rw [hds] at HI
  rw [hds]
  clear hds MR H7
  go_loopw [4, 12] (fun dv iv wr => ∃ (j : Nat) (xs : List ByteArray), j ≤ 7 ∧ iv = .int .i64 j ∧ Hid (wr.ownsRow (k + 1) 9 1 dv j (strs xs)) ∧ Hid (xs.map Sb = (partsA f).take j) ∧ Hid (Blk wr k 24 (rowA f)) ∧ Hid (Below k w wr) ∧ Hid (Laid wr)) (fun _ iv _ => 7 - (RowKit.intOf iv).toNat)
  case atStart => exact ⟨0, [], by omega, rfl, hid (World.ownsRow_nil _ _ _ _), hid rfl, K1, B1, L1⟩
  case round =>
    obtain ⟨j, xs, hj, rfl, HR, HX, K, B, LL⟩ := hrel
    by_cases hlt : j < 7
    · have hx := run_index_seven ds.toArray j _ hlt ((List.getElem?_toArray ..).trans (HI.out j hlt))
      have HP := hid (partsA_at f hlt)
      obtain ⟨y0, y1⟩ := HBD.out j hlt
      obtain ⟨y, hy⟩ : ∃ y, f (1 + j) = y := ⟨_, rfl⟩
      rw [hy] at hx HP y0 y1
      clear hy
      go_wp2_with fail
      with_reducible refine (itoa_any y _ (by omega) (by omega) LL.out).mono ?_
      rintro e w2 ⟨r, rfl, hr, hb⟩
      have HS := hid hr
      have R2 := hid (HR.out.kept (grown_below9 hb) (Classical.em _))
      have K2 := hid (K.out.below hb K.out.lt)
      have B2 := hid (B.out.trans (hb.mono (by have := K.out.lt; omega)))
      have hk2 := K2.out.lt
      clear hr hb HR K B LL
      go_wp2_with (at_builtin; refine wpList_append_vals rfl (.tmp 15) (.tmp 18) 37 rfl (k + 1) 9 i0 _ 16 Tryd.underlying37 hi hz0 hz1 hz2 rfl _ j (strs xs) rfl (R2.out.alloc _) _ 1 [.string r] 1 rfl rfl (fun h => nomatch h) (one_str9 _) (by intro u hu; simp at hu; subst hu; rfl) (by unfold maxLen; omega) (by omega) (by simp; omega) ?_; intro v3 w3 hown3 hg3; have hb3 : Below (k + 1) w2 w3 := ((Below.refl (k + 1) w2).alloc (by omega) _).grown hg3 (by simp; omega) (fun j hj => (R2.out.lt j hj).1); have K3 := hid (K2.out.below hb3 (by omega)); have B3 := hid (B2.out.trans (hb3.mono (by omega))); have R3 := hid hown3; clear hb3 hg3 hown3)
      have L3 := hid (HL.out.below (by rw [HK.out]; exact B3.out))
      go_roundw
      case rel => exact ⟨j + 1, xs ++ [r], by omega, by go_num, by rw [← strs_append]; exact R3, hid (by rw [List.map_append, HX.out, List.take_add_one, HP.out, List.map_singleton, HS.out]; rfl), K3, B3, L3⟩
      case measure => simp only [RowKit.intOf]; omega
    · obtain rfl : j = 7 := by omega
      obtain ⟨Ad, cd, rfl, hl7, hn7, hc7, hm7, hv7⟩ := own_vals HR.out
      rw [strs_length] at hl7
      have HV := hid hv7
      have c0 := K.out.att (i := 0) (by decide)
      have HP : Hid (xs.map Sb = partsA f) := hid (by rw [HX.out, List.take_of_length_le (by rw [partsA_len]; omega)])
      have HZ : Hid (∀ x ∈ xs, x.size ≤ 1000) := hid (fun x hx => by
        have h1 : Sb x ∈ partsA f := by rw [← HP.out]; exact List.mem_map_of_mem hx
        unfold partsA at h1
        obtain ⟨i, hi, h2⟩ := List.mem_map.1 h1
        have h3 := HBD.out i (List.mem_range.1 hi)
        have h4 := itoa_len21 (f (1 + i)) (by omega) (by omega)
        rw [h2, Sb_length] at h4
        omega)
      have HT := hid (textA_len HO.out)
      have HTT : Hid (textA f = itoa (f 0) ++ 124 :: join (partsA f) [44]) := hid rfl
      obtain ⟨y, hy⟩ : ∃ y, f 0 = y := ⟨_, rfl⟩
      rw [hy] at c0 x0 x1 HTT
      clear hv7 HR HX hy
      go_wp2_with fail
      with_reducible refine (itoa_any y _ (by omega) (by omega) LL.out).mono ?_
      rintro e w2 ⟨r, rfl, hr, hb⟩
      have hrs : r.size ≤ 21 := says_size hr (itoa_len21 y x0 x1)
      have HS := hid hr
      have V2 := hid (HV.out.below hb)
      have B2 := hid (B.out.trans (hb.mono (by have := K.out.lt; omega)))
      have hk2 : k ≤ w2.heap.size := by have := K.out.lt; have := hb.size; omega
      clear hr hb K B LL HV c0
      go_wp2_with fail
      with_reducible refine (joinc_any Ad 7 cd xs _ hl7 (by omega) hc7 (by omega) HZ.out V2.out).mono ?_
      rintro e w3 ⟨r3, rfl, hr, hb⟩
      have H3 := hid hr
      have B3 := hid (B2.out.trans (hb.mono hk2))
      have hz : Sb (r ++ ⟨#[124]⟩ ++ r3) = textA f := by rw [HTT.out, Sb_append, Sb_append, HS.out, H3.out, HP.out, show Sb ⟨#[124]⟩ = [124] from rfl]; simp
      have hzs : r.size + 1 + r3.size ≤ 200 := by
        have h1 := congrArg List.length hz
        rw [Sb_append, Sb_append, List.length_append, List.length_append, Sb_length, Sb_length, Sb_length] at h1
        have h2 : (⟨#[124]⟩ : ByteArray).size = 1 := rfl
        have := HT.out
        omega
      have HZ3 := hid hz
      clear hr hb hz B2
      go_wp2
      exact bodyPost_ret (v := .tuple #[.string (r ++ ⟨#[124]⟩ ++ r3), .int .i64 0]) (by simp [results, Tryd.results5, go_sem]) rfl ⟨⟨_, rfl, HZ3.out⟩, by rw [HK.out]; exact B3.out⟩

set_option maxRecDepth 100000 in
set_option maxHeartbeats 1000000 in
theorem digits9 (v : Nat) (w : World) (hv : v < 18446744073709551616) :
    Calls Tryd.prog 15 #[.int .u64 (v : Int)] w (Says (decDigits v) w) := by
  have hlen : (decDigits v).length ≤ 20 := by rw [decDigits_length]; exact nDigits_le20 v hv
  go_enter Tryd.func15, Tryd.ntmps15
  go_wp2
  go_loopw [0, 3] (fun n s wr => ∃ (u : Nat) (r : ByteArray), n = .int .u64 (u : Int) ∧ s = .string r ∧ u < 18446744073709551616 ∧ Hid (decDigits v = decDigits u ++ Sb r) ∧ Hid (Below w.heap.size w wr)) (fun n _ _ => (RowKit.intOf n).toNat)
  case atStart => exact ⟨v, ⟨#[]⟩, rfl, rfl, hv, hid (by simp [Sb]), hid (Below.refl _ _)⟩
  case round =>
    obtain ⟨u, r, rfl, rfl, hu, H, HB⟩ := hrel
    have hr : r.size ≤ 20 := by
      have h := congrArg List.length H.out
      rw [List.length_append, Sb_length] at h
      omega
    obtain ⟨q, hq⟩ : ∃ q : Int, (u : Int) / 10 = q := ⟨_, rfl⟩
    obtain ⟨m, hm⟩ : ∃ m : Int, (u : Int) % 10 = m := ⟨_, rfl⟩
    have hm0 : 0 ≤ m := by omega
    have hm1 : m < 10 := by omega
    have hq0 : 0 ≤ q := by omega
    have hq1 : q < 18446744073709551616 := by omega
    obtain ⟨c1, hc1⟩ : ∃ c1 : ByteArray, c1 = ⟨#[UInt8.ofNat (48 + m).toNat]⟩ := ⟨_, rfl⟩
    have hcv := conv_one (48 + m) wr c1 hc1
    have hs1 : c1.size ≤ 1 := by rw [hc1]; exact Nat.le_refl _
    have HC : Hid (Sb (c1 ++ r) = UInt8.ofNat (48 + u % 10) :: Sb r) := hid (by
      rw [Sb_append, hc1, show (48 + m).toNat = 48 + u % 10 by omega]; rfl)
    have HB1 := hid (HB.out.alloc HB.out.size (.cells #[.int .u8 (48 + m)] 5))
    clear hc1
    rcases Decidable.em (q = 0) with h0 | h0
    · subst h0
      have HD : Hid (decDigits v = Sb (c1 ++ r)) := hid (by rw [H.out, HC.out, dec_small (by omega), show u % 10 = u by omega]; rfl)
      go_wp2
      go_ret
      exact ⟨_, rfl, HD.out.symm, HB1.out⟩
    · have hz : (q == 0) = false := beq_eq_false_iff_ne.2 h0
      have HD : Hid (decDigits v = decDigits (u / 10) ++ Sb (c1 ++ r)) := hid (by rw [H.out, HC.out, dec_big (by omega)]; simp)
      go_wp2
      go_roundw
      case rel => exact ⟨u / 10, _, by rw [← hq]; congr 1, rfl, by omega, HD, HB1⟩
      case measure => simp only [RowKit.intOf]; omega

theorem dec_len9 {v : Nat} (hv : v < 18446744073709551616) : (decDigits v).length ≤ 20 := by rw [decDigits_length]; exact nDigits_le20 v hv
theorem digits_at (q : Int) (w : World) (h0 : 0 ≤ q) (h1 : q < 18446744073709551616) :
    Calls Tryd.prog 15 #[.int .u64 q] w (Says (itoa q) w) := by
  obtain ⟨v, rfl⟩ : ∃ v : Nat, q = v := ⟨q.toNat, by omega⟩
  rw [itoa_nonneg]
  exact digits9 v w (by omega)

set_option maxRecDepth 100000 in
set_option maxHeartbeats 2000000 in
theorem text_any (f : Nat → Int) (w : World) (h : okB f = true) : Calls Tryd.prog 8 #[.agg #[.int .i64 (f 0), .int .i64 (f 1), .int .i64 (f 2), .int .i64 (f 3), .int .i64 (f 4), .int .i64 (f 5), .int .i64 (f 6), .int .i64 (f 7)]] w (Says (textA f) w) := by
  obtain ⟨⟨x0, x1⟩, hbd⟩ := ok_bounds h
  have HBD := hid hbd
  have HT := hid (textA_len h)
  have HTT : Hid (textA f = itoa (f 0) ++ 124 :: join (partsA f) [44]) := hid rfl
  have HJL : Hid (∀ j, j ≤ 7 → (join ((partsA f).take j) [44]).length ≤ 154) := hid (fun j hj => by
    have h1 := join_len ((partsA f).take j) 21 (fun x hx => by
      have hx := List.mem_of_mem_take hx
      unfold partsA at hx
      obtain ⟨i, hi, rfl⟩ := List.mem_map.1 hx
      have := hbd i (List.mem_range.1 hi)
      exact itoa_len21 _ (by omega) (by omega))
    rw [List.length_take, partsA_len] at h1
    omega)
  obtain ⟨k, hk⟩ : ∃ k, w.heap.size = k := ⟨_, rfl⟩
  have HK := hid hk
  clear h hbd
  go_enter Tryd.func8, Tryd.ntmps8
  go_upto_region 1 with fail
  obtain ⟨W, hW⟩ : ∃ W, w.alloc (.cells #[.int .i64 (f 0), .int .i64 (f 1), .int .i64 (f 2), .int .i64 (f 3), .int .i64 (f 4), .int .i64 (f 5), .int .i64 (f 6), .int .i64 (f 7)] 24) = W := ⟨_, rfl⟩
  rw [hW]
  obtain ⟨K0, B0⟩ := one_new hW
  rw [show #[.int .i64 (f 0), .int .i64 (f 1), .int .i64 (f 2), .int .i64 (f 3), .int .i64 (f 4), .int .i64 (f 5), .int .i64 (f 6), .int .i64 (f 7)] = rowA f from rfl, hk] at K0
  rw [hk] at B0
  clear hW hk
  have c0 := K0.out.att (i := 0) (by decide)
  obtain ⟨y, hy⟩ : ∃ y, f 0 = y := ⟨_, rfl⟩
  rw [hy] at c0 x0 x1 HTT
  have HCV : Hid (IntKind.u64.wrap y = y) := hid (by rw [IntKind.wrap_u64]; omega)
  clear hy
  go_wp2_with fail
  with_reducible refine (digits_at y _ x0 (by omega)).mono ?_
  rintro e w1 ⟨r, rfl, hr, hb⟩
  have hrs : r.size ≤ 21 := says_size hr (itoa_len21 y x0 x1)
  have K1 := hid (K0.out.below hb K0.out.lt)
  have B1 := hid (B0.out.trans (hb.mono (by have := K0.out.lt; omega)))
  have HS : Hid (Sb (r ++ ⟨#[124]⟩) = itoa y ++ 124 :: join ((partsA f).take 0) [44]) := hid (by rw [Sb_append, hr, show Sb ⟨#[124]⟩ = [124] from rfl]; rfl)
  clear hr hb K0 B0 c0
  have MR := hid K1.out.range
  have H7 := hid (len_seven f)
  go_wp2_with (with_reducible refine wpList_load_mid (op := ⟨some 12, _, _, _, _, _⟩) rfl 22 (.tmp 11) rfl k 1 rfl (lsD f) _ MR.out Tryd.underlying22 rfl H7.out ?_)
  have HI : Hid (∀ j : Nat, j < 7 → (lsD f)[j]? = some (.int .i64 (f (1 + j)))) := hid (fun j hj => by rw [lsD_get f hj, Nat.add_comm])
  obtain ⟨ds, hds⟩ : ∃ ds, lsD f = ds := ⟨_, rfl⟩
  rw [hds] at HI
  rw [hds]
  clear hds MR H7
  go_loopw [3, 13] (fun sv iv wr => ∃ (j : Nat) (t : ByteArray), j ≤ 7 ∧ sv = .string t ∧ iv = .int .i64 j ∧ Hid (Sb t = itoa y ++ 124 :: join ((partsA f).take j) [44]) ∧ Hid (Below k w wr)) (fun _ iv _ => 7 - (RowKit.intOf iv).toNat)
  case atStart => exact ⟨0, _, by omega, rfl, rfl, HS, B1⟩
  case round =>
    obtain ⟨j, t, hj, rfl, rfl, HS, B⟩ := hrel
    have hts : t.size ≤ 176 := by
      have h1 := congrArg List.length HS.out
      rw [Sb_length, List.length_append, List.length_cons] at h1
      have := itoa_len21 y x0 x1
      have := HJL.out j hj
      omega
    by_cases hlt : j < 7
    · have hx := run_index_seven ds.toArray j _ hlt ((List.getElem?_toArray ..).trans (HI.out j hlt))
      obtain ⟨z0, z1⟩ := HBD.out j hlt
      have HN := hid (join_next f hlt)
      obtain ⟨z, hz⟩ : ∃ z, f (1 + j) = z := ⟨_, rfl⟩
      rw [hz] at hx z0 z1 HN
      clear hz
      have HCV : Hid (IntKind.u64.wrap z = z) := hid (by rw [IntKind.wrap_u64]; omega)
      rcases (show j = 0 ∨ 0 < j by omega) with rfl | h0
      · rw [show ((0 : Nat) : Int) = 0 from rfl] at hx
        go_wp2_with fail
        with_reducible refine (digits_at z _ z0 (by omega)).mono ?_
        rintro e w2 ⟨r, rfl, hr, hb⟩
        have hrs : r.size ≤ 21 := says_size hr (itoa_len21 z z0 (by omega))
        have B2 := hid (below_on9 HK.out B.out hb)
        have HS2 : Hid (Sb (t ++ r) = itoa y ++ 124 :: join ((partsA f).take (0 + 1)) [44]) := hid (by rw [HN.out, Sb_append, HS.out, hr]; simp)
        clear hr hb
        go_wp2
        go_roundw
        case rel => exact ⟨0 + 1, _, by omega, rfl, by go_num, HS2, B2⟩
        case measure => simp only [RowKit.intOf]; omega
      · go_wp2_with fail
        with_reducible refine (digits_at z _ z0 (by omega)).mono ?_
        rintro e w2 ⟨r, rfl, hr, hb⟩
        have hrs : r.size ≤ 21 := says_size hr (itoa_len21 z z0 (by omega))
        have B2 := hid (below_on9 HK.out B.out hb)
        have HS2 : Hid (Sb (t ++ ⟨#[44]⟩ ++ r) = itoa y ++ 124 :: join ((partsA f).take (j + 1)) [44]) := hid (by rw [HN.out, Sb_append, Sb_append, HS.out, hr, if_pos h0, show Sb ⟨#[44]⟩ = [44] from rfl]; simp)
        clear hr hb
        go_wp2
        go_roundw
        case rel => exact ⟨j + 1, _, by omega, rfl, by go_num, HS2, B2⟩
        case measure => simp only [RowKit.intOf]; omega
    · obtain rfl : j = 7 := by omega
      have HE : Hid (Sb t = textA f) := hid (by rw [HTT.out, HS.out, List.take_of_length_le (by rw [partsA_len]; omega)])
      go_wp2
      go_ret
      exact ⟨t, rfl, HE.out, by rw [HK.out]; exact B.out⟩

/-- What a reading of a text tells: the right attributes whose text it is, or that there are none. -/
def ReadsA (l : List UInt8) (w : World) (e : Ending) (w' : World) : Prop :=
  Below w.heap.size w w' ∧ ((∃ V : Nat → Int, okB V = true ∧ textA V = l ∧ e = .returned (.tuple #[.agg #[.int .i64 (V 0), .int .i64 (V 1), .int .i64 (V 2), .int .i64 (V 3), .int .i64 (V 4), .int .i64 (V 5), .int .i64 (V 6), .int .i64 (V 7)], .int .i64 0])) ∨
    ((∀ f, okB f = true → textA f ≠ l) ∧ e = .returned (.tuple #[.agg #[.int .i64 0, .int .i64 0, .int .i64 0, .int .i64 0, .int .i64 0, .int .i64 0, .int .i64 0, .int .i64 0], .int .i64 10])))

theorem fits_none {V : Nat → Int} {l : List UInt8} (h : Fits V l 8) (hn : okB V = true → textA V ≠ l) : ∀ f, okB f = true → textA f ≠ l := by
  intro f hf ht
  have h1 := fits_text hf (by rw [ht]; exact h)
  refine hn ?_ ?_
  · rw [okB_congr h1]; exact hf
  · rw [textA_congr h1]; exact ht

/-- Two boxes: the result's, and what was guessed. -/
def Duo (w W : World) (k m : Nat) (V : Nat → Int) : Prop := Blk W k 24 (rowA fun _ => 0) ∧ Blk W m 24 (rowA V) ∧ Below k w W ∧ k < m
theorem Duo.on {w W W' : World} {k m : Nat} {V : Nat → Int} (H : Duo w W k m V) (hb : Below W.heap.size W W') : Duo w W' k m V := ⟨H.1.below hb H.1.lt, H.2.1.below hb H.2.1.lt, H.2.2.1.trans (hb.mono (by have := H.1.lt; omega)), H.2.2.2⟩
theorem Duo.res {w W : World} {k m : Nat} {V : Nat → Int} (H : Duo w W k m V) : Blk W k 24 (rowA fun _ => 0) := H.1
theorem Duo.got {w W : World} {k m : Nat} {V : Nat → Int} (H : Duo w W k m V) : Blk W m 24 (rowA V) := H.2.1
theorem Duo.below {w W : World} {k m : Nat} {V : Nat → Int} (H : Duo w W k m V) : Below k w W := H.2.2.1

set_option maxRecDepth 100000 in
set_option maxHeartbeats 2000000 in
theorem read_any9 (s : ByteArray) (w : World) (hs : s.size ≤ 100000) (hL : Laid w) : Calls Tryd.prog 7 #[.string s] w (ReadsA (Sb s) w) := by
  have HL := hid hL
  obtain ⟨k, hk⟩ : ∃ k, w.heap.size = k := ⟨_, rfl⟩
  have HK := hid hk
  clear hL
  go_enter Tryd.func7, Tryd.ntmps7
  go_upto_region 1 with fail
  obtain ⟨W, hW⟩ : ∃ W, w.alloc (.cells #[.int .i64 0, .int .i64 0, .int .i64 0, .int .i64 0, .int .i64 0, .int .i64 0, .int .i64 0, .int .i64 0] 24) = W := ⟨_, rfl⟩
  rw [hW]
  obtain ⟨K0, B0⟩ := one_new hW
  have L0 := hid (HL.out.below B0.out)
  rw [zeros_row, hk] at K0
  rw [hk] at B0
  clear hW hk
  go_wp2_with fail
  with_reducible refine (guess_any s _ hs L0.out).mono ?_
  rintro e w1 ⟨V, rfl, hf, hb⟩
  have HF := hid hf
  have K1 := hid (K0.out.below hb K0.out.lt)
  have B1 := hid (B0.out.trans (hb.mono (by have := K0.out.lt; omega)))
  have L1 := hid (L0.out.below hb)
  clear hf hb K0 B0 L0
  go_upto_region 2 with fail
  obtain ⟨W2, hW2⟩ : ∃ W2, w1.alloc (.cells #[.int .i64 (V 0), .int .i64 (V 1), .int .i64 (V 2), .int .i64 (V 3), .int .i64 (V 4), .int .i64 (V 5), .int .i64 (V 6), .int .i64 (V 7)] 24) = W2 := ⟨_, rfl⟩
  rw [hW2]
  obtain ⟨M2, hb⟩ := one_new hW2
  rw [show #[.int .i64 (V 0), .int .i64 (V 1), .int .i64 (V 2), .int .i64 (V 3), .int .i64 (V 4), .int .i64 (V 5), .int .i64 (V 6), .int .i64 (V 7)] = rowA V from rfl] at M2
  have D2 := hid (show Duo w W2 k w1.heap.size V from ⟨K1.out.below hb.out K1.out.lt, M2.out, B1.out.trans (hb.out.mono (by have := K1.out.lt; omega)), K1.out.lt⟩)
  have L2 := hid (L1.out.below hb.out)
  obtain ⟨m, hm⟩ : ∃ m, w1.heap.size = m := ⟨_, rfl⟩
  rw [hm] at D2 ⊢
  clear hW2 hb hm M2 K1 B1 L1
  obtain ⟨c0, c1, c2, c3, c4, c5, c6, c7⟩ := D2.out.2.1.eight
  cases ho : okB V with
  | true =>
    have HO := hid ho
    clear ho
    go_wp2_with fail
    clear c0 c1 c2 c3 c4 c5 c6 c7
    with_reducible refine (ashow_yes V _ L2.out HO.out).mono ?_
    rintro e w3 ⟨⟨t, rfl, ht⟩, hb⟩
    have D3 := hid (D2.out.on hb)
    have HT := hid ht
    clear hb D2 L2 ht
    by_cases he : t = s
    · obtain rfl : t = s := he
      have Z1 := hid (len_attr V)
      have Z2 := hid (size_zero V)
      have Z3 := hid (rowA_one V)
      go_wp2_with (first
        | (with_reducible refine wpList_load_row (o := ⟨some 22, _, _, _, _, _⟩) rfl 24 (.tmp 4) rfl m rfl 24 (rowA V) (0, 0) _ D3.out.got.heap Tryd.underlying24 rfl Z1.out ?_)
        | (with_reducible refine wpList_store_row (o := ⟨none, _, _, _, _, _⟩) rfl 24 (.tmp 2) (.tmp 22) rfl k (rowA V) rfl rfl 24 _ D3.out.res.heap Z1.out Z2.out Z3.out ?_))
      obtain ⟨W9, hW9⟩ : ∃ W9, w3.setRow k (rowA V) = W9 := ⟨_, rfl⟩
      rw [hW9]
      have K9 : Blk W9 k 24 (rowA V) := by rw [← hW9]; exact setRow_heap w3 k _ _ _ _ D3.out.res.heap
      have B9 : Hid (Below k w W9) := hid (by rw [← hW9]; exact below_setRow_ D3.out.below (Nat.le_refl _))
      clear hW9
      obtain ⟨z0, z1, z2, z3, z4, z5, z6, z7⟩ := K9.eight
      exact bodyPost_ret (v := .tuple #[.agg #[.int .i64 (V 0), .int .i64 (V 1), .int .i64 (V 2), .int .i64 (V 3), .int .i64 (V 4), .int .i64 (V 5), .int .i64 (V 6), .int .i64 (V 7)], .int .i64 0]) (by simp [results, Tryd.results7, go_sem, z0, z1, z2, z3, z4, z5, z6, z7]) rfl ⟨by rw [HK.out]; exact B9.out, .inl ⟨V, HO.out, HT.out.symm, rfl⟩⟩
    · have hne : (t.toList == s.toList) = false := by rw [Sb_eq]; exact decide_eq_false (fun h => he (Sb_inj.1 h))
      have HE : Hid (∀ f, okB f = true → textA f ≠ Sb s) := hid (fits_none HF.out (fun _ h => he (Sb_inj.1 (HT.out.trans h))))
      clear he
      have Z1 : Hid ((Tryd.prog.info? 24).map (·.size) = some (#[.int .i64 0, .int .i64 0, .int .i64 0, .int .i64 0, .int .i64 0, .int .i64 0, .int .i64 0, .int .i64 0] : Array Value).size) := hid info_attr
      have Z3 : Hid ((#[.int .i64 0, .int .i64 0, .int .i64 0, .int .i64 0, .int .i64 0, .int .i64 0, .int .i64 0, .int .i64 0] : Array Value).all (·.oneCell') = true) := hid (rowA_one fun _ => 0)
      go_wp2_with (with_reducible refine wpList_store_row (o := ⟨none, _, _, _, _, _⟩) rfl 24 (.tmp 2) (.tmp 21) rfl k #[.int .i64 0, .int .i64 0, .int .i64 0, .int .i64 0, .int .i64 0, .int .i64 0, .int .i64 0, .int .i64 0] rfl rfl 24 _ D3.out.res.heap Z1.out rfl Z3.out ?_)
      obtain ⟨W9, hW9⟩ : ∃ W9, w3.setRow k #[.int .i64 0, .int .i64 0, .int .i64 0, .int .i64 0, .int .i64 0, .int .i64 0, .int .i64 0, .int .i64 0] = W9 := ⟨_, rfl⟩
      rw [hW9]
      have K9 : Blk W9 k 24 (rowA fun _ => 0) := by rw [← hW9]; exact setRow_heap w3 k _ _ _ _ D3.out.res.heap
      have B9 : Hid (Below k w W9) := hid (by rw [← hW9]; exact below_setRow_ D3.out.below (Nat.le_refl _))
      clear hW9
      obtain ⟨z0, z1, z2, z3, z4, z5, z6, z7⟩ := K9.eight
      exact bodyPost_ret (v := .tuple #[.agg #[.int .i64 0, .int .i64 0, .int .i64 0, .int .i64 0, .int .i64 0, .int .i64 0, .int .i64 0, .int .i64 0], .int .i64 10]) (by simp [results, Tryd.results7, go_sem, z0, z1, z2, z3, z4, z5, z6, z7]) rfl ⟨by rw [HK.out]; exact B9.out, .inr ⟨HE.out, rfl⟩⟩
  | false =>
    have HE : Hid (∀ f, okB f = true → textA f ≠ Sb s) := hid (fits_none HF.out (fun h => by rw [ho] at h; cases h))
    have HO := hid ho
    clear ho
    go_wp2_with fail
    clear c0 c1 c2 c3 c4 c5 c6 c7
    with_reducible refine (ashow_no V _ HO.out).mono ?_
    rintro e w3 ⟨rfl, hb⟩
    have D3 := hid (D2.out.on hb)
    clear hb D2 L2
    have Z1 : Hid ((Tryd.prog.info? 24).map (·.size) = some (#[.int .i64 0, .int .i64 0, .int .i64 0, .int .i64 0, .int .i64 0, .int .i64 0, .int .i64 0, .int .i64 0] : Array Value).size) := hid info_attr
    have Z3 : Hid ((#[.int .i64 0, .int .i64 0, .int .i64 0, .int .i64 0, .int .i64 0, .int .i64 0, .int .i64 0, .int .i64 0] : Array Value).all (·.oneCell') = true) := hid (rowA_one fun _ => 0)
    go_wp2_with (with_reducible refine wpList_store_row (o := ⟨none, _, _, _, _, _⟩) rfl 24 (.tmp 2) (.tmp 21) rfl k #[.int .i64 0, .int .i64 0, .int .i64 0, .int .i64 0, .int .i64 0, .int .i64 0, .int .i64 0, .int .i64 0] rfl rfl 24 _ D3.out.res.heap Z1.out rfl Z3.out ?_)
    obtain ⟨W9, hW9⟩ : ∃ W9, w3.setRow k #[.int .i64 0, .int .i64 0, .int .i64 0, .int .i64 0, .int .i64 0, .int .i64 0, .int .i64 0, .int .i64 0] = W9 := ⟨_, rfl⟩
    rw [hW9]
    have K9 : Blk W9 k 24 (rowA fun _ => 0) := by rw [← hW9]; exact setRow_heap w3 k _ _ _ _ D3.out.res.heap
    have B9 : Hid (Below k w W9) := hid (by rw [← hW9]; exact below_setRow_ D3.out.below (Nat.le_refl _))
    clear hW9
    obtain ⟨z0, z1, z2, z3, z4, z5, z6, z7⟩ := K9.eight
    exact bodyPost_ret (v := .tuple #[.agg #[.int .i64 0, .int .i64 0, .int .i64 0, .int .i64 0, .int .i64 0, .int .i64 0, .int .i64 0, .int .i64 0], .int .i64 10]) (by simp [results, Tryd.results7, go_sem, z0, z1, z2, z3, z4, z5, z6, z7]) rfl ⟨by rw [HK.out]; exact B9.out, .inr ⟨HE.out, rfl⟩⟩

end Go.Proofs.YtfpmmajgnijboaaDoor
