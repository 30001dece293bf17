/-
  Contracts of cmp.Compare and slices.Compare at strings, path.Compare.
-/
import Derived.Test.YtgjbhlianlbflaaGreatBPParts
import Derived.Test.YtgjbhlianlbflaaGreatBPMathC
namespace Go.Proofs.YtgjbhlianlbflaaGreat
open Go.ChangeShapes Go.WideShapes Go.ChangeAt Go.RowKit
theorem less_textC : ∀ a b : List UInt8, Op.bytesLess a b = decide (textC a b < 0)
  | [], [] => rfl
  | _ :: _, [] => rfl
  | [], _ :: _ => rfl
  | a :: x, b :: y => by
    unfold textC
    rw [lexC_cons byteC_cmp]
    simp only [Op.bytesLess]
    by_cases h : a = b
    · subst h
      rw [if_pos rfl, less_textC x y, beq_self_eq_true, decide_eq_false (UInt8.lt_irrefl a), Bool.false_or, Bool.true_and]
      exact decide_eq_decide.2 Iff.rfl
    · rw [if_neg h]
      have hb : (a == b) = false := by simpa using h
      rw [hb]
      unfold byteC
      by_cases h1 : a < b
      · rw [if_pos h1]; simp [h1]
      · rw [if_neg h1]
        have h2 : b < a := by
          rw [UInt8.lt_iff_toNat_lt] at h1 ⊢
          rcases Nat.lt_or_ge b.toNat a.toNat with h3 | h3
          · exact h3
          · exact absurd (UInt8.toNat_inj.1 (by omega)) h
        rw [if_pos h2]; simp [h1]
theorem isnan_any (s : ByteArray) (w : World) : Calls Tryz.prog 97 #[.string s] w fun e w' => e = .returned (.bool false) ∧ w = w' := by
  go_enter Tryz.func97, Tryz.ntmps97
  go_wp2
  go_ret
  exact ⟨rfl, rfl⟩
set_option maxRecDepth 100000 in
set_option maxHeartbeats 1000000 in
theorem cmp_any (s t : ByteArray) (w : World) : Calls Tryz.prog 72 #[.string s, .string t] w fun e w' => e = .returned (.int .i64 (textC (L s) (L t))) ∧ w = w' := by
  have h3 := textC_cmp.three (L s) (L t)
  have H3 := hid h3
  have HS := hid (textC_cmp.same (L s) (L t))
  clear h3
  go_enter Tryz.func72, Tryz.ntmps72
  go_wp2_with (go_at_call 97; refine (isnan_any _ _).mono ?_; rintro e w' ⟨rfl, rfl⟩)
  · have h : Op.bytesLess s.toList t.toList = true := by assumption
    rw [toList_L, toList_L, less_textC, decide_eq_true_iff] at h
    have H : Hid (textC (L s) (L t) = -1) := hid (by rcases H3.out with h | h | h <;> omega)
    clear h
    go_ret
    exact ⟨ret_num H.out.symm, rfl⟩
  · have h : Op.bytesLess s.toList t.toList = false := by assumption
    have h2 : (!s.toList == t.toList) = true := by assumption
    rw [toList_L, toList_L, less_textC, decide_eq_false_iff_not] at h
    have hne : L s ≠ L t := by
      rw [toList_L, toList_L] at h2
      simpa using h2
    have H : Hid (textC (L s) (L t) = 1) := hid (by
      rcases H3.out with h1 | h1 | h1
      · omega
      · exact absurd (HS.out.1 h1) hne
      · exact h1)
    clear h h2 hne
    go_ret
    exact ⟨ret_num H.out.symm, rfl⟩
  · have h2 : (!s.toList == t.toList) = false := by assumption
    have H : Hid (textC (L s) (L t) = 0) := hid (by
      rw [toList_L, toList_L] at h2
      exact HS.out.2 (by simpa using h2))
    clear h2
    go_ret
    exact ⟨ret_num H.out.symm, rfl⟩
theorem lexC_drop {α : Type} {f : α → α → Int} [DecidableEq α] (hf : IsCmp f) : ∀ {k : Nat} {a b : List α} (h1 : k ≤ a.length) (h2 : k ≤ b.length), (∀ (j : Nat) (hj : j < k), a[j]'(by omega) = b[j]'(by omega)) → lexC f a b = lexC f (a.drop k) (b.drop k)
  | 0, _, _, _, _, _ => rfl
  | k + 1, [], _, h1, _, _ => by simp at h1
  | k + 1, _ :: _, [], _, h2, _ => by simp at h2
  | k + 1, x :: a, y :: b, h1, h2, he => by
    have h0 : x = y := he 0 (by omega)
    rw [lexC_cons hf, if_pos h0]
    exact lexC_drop hf (by simpa using h1) (by simpa using h2) (fun j hj => he (j + 1) (by omega))
theorem partsC_at {ys zs : List ByteArray} {k : Nat} (h1 : k ≤ ys.length) (h2 : k ≤ zs.length) (he : ∀ (j : Nat) (_ : j < ys.length) (_ : j < zs.length), j < k → ys[j] = zs[j]) :
    partsC (ys.map L) (zs.map L) = partsC ((ys.drop k).map L) ((zs.drop k).map L) := by
  unfold partsC
  rw [lexC_drop textC_cmp (k := k) (by simpa using h1) (by simpa using h2) (fun j hj => by simp; rw [he j (by omega) (by omega) hj]), List.map_drop, List.map_drop]
theorem partsC_end {ys zs : List ByteArray} (h2 : ys.length ≤ zs.length) (he : ∀ (j : Nat) (_ : j < ys.length) (_ : j < zs.length), j < ys.length → ys[j] = zs[j]) :
    partsC (ys.map L) (zs.map L) = if ys.length < zs.length then -1 else 0 := by
  rw [partsC_at (Nat.le_refl _) h2 he, List.drop_length]
  by_cases h : ys.length < zs.length
  · rw [if_pos h, List.drop_eq_getElem_cons h]; rfl
  · rw [if_neg h, List.drop_of_length_le (by omega)]; rfl
theorem partsC_out {ys zs : List ByteArray} {k : Nat} (h1 : k < ys.length) (h2 : k = zs.length) (he : ∀ (j : Nat) (_ : j < ys.length) (_ : j < zs.length), j < k → ys[j] = zs[j]) : partsC (ys.map L) (zs.map L) = 1 := by
  have e1 : ys.drop k = ys[k] :: ys.drop (k + 1) := List.drop_eq_getElem_cons h1
  have e2 : zs.drop k = [] := List.drop_of_length_le (by omega)
  rw [partsC_at (by omega) (by omega) he, e1, e2]; rfl
theorem partsC_ne {ys zs : List ByteArray} {k : Nat} (h1 : k < ys.length) (h2 : k < zs.length) (he : ∀ (j : Nat) (_ : j < ys.length) (_ : j < zs.length), j < k → ys[j] = zs[j]) (hne : ys[k] ≠ zs[k]) :
    partsC (ys.map L) (zs.map L) = textC (L ys[k]) (L zs[k]) := by
  rw [partsC_at (by omega) (by omega) he, List.drop_eq_getElem_cons h1, List.drop_eq_getElem_cons h2]
  simp only [List.map_cons]
  unfold partsC
  rw [lexC_cons textC_cmp, if_neg (fun e => hne (L_inj.1 e))]
set_option maxRecDepth 100000 in
set_option maxHeartbeats 1000000 in
theorem slicescmp_any (v u : Value) (ys zs : List ByteArray) (w : World) (hv : Holds w v ys) (hu : Holds w u zs) :
    Calls Tryz.prog 44 #[v, u] w fun e w' => e = .returned (.int .i64 (partsC (ys.map L) (zs.map L))) ∧ w = w' := by
  obtain ⟨A, c, rfl, _, hc, hm, hv⟩ := hv
  obtain ⟨A2, c2, rfl, _, hc2, hm2, hv2⟩ := hu
  unfold maxLen at hm hm2
  have HV := hid hv
  have HV2 := hid hv2
  clear hv hv2
  go_enter Tryz.func44, Tryz.ntmps44
  go_wp2
  go_loop [11] (fun i => ∃ k : Nat, k ≤ ys.length ∧ k ≤ zs.length ∧ i = .int .i64 k ∧ Hid (∀ (j : Nat) (_ : j < ys.length) (_ : j < zs.length), j < k → ys[j] = zs[j])) (fun i => ys.length - (intOf i).toNat)
  case atStart => exact ⟨0, Nat.zero_le _, Nat.zero_le _, rfl, hid (fun _ _ _ h => absurd h (Nat.not_lt_zero _))⟩
  case round =>
    obtain ⟨k, hk, hk2, rfl, HE⟩ := hrel
    by_cases hlt : k < ys.length
    · obtain ⟨b, o, rfl, _, hcell⟩ := strs_at HV.out hlt
      by_cases hlt2 : k < zs.length
      · obtain ⟨b2, o2, rfl, _, hcell2⟩ := strs_at HV2.out hlt2
        by_cases hne : ys[k] = zs[k]
        · have HC : Hid (textC (L ys[k]) (L zs[k]) = 0) := hid ((textC_cmp.same _ _).2 (by rw [hne]))
          have HE2 : Hid (∀ (j : Nat) (_ : j < ys.length) (_ : j < zs.length), j < k + 1 → ys[j] = zs[j]) := hid (fun j a b hj => by
            by_cases e : j = k
            · subst e; exact hne
            · exact HE.out j a b (by omega))
          clear hne
          go_wp2_with (go_at_call 72; refine (cmp_any _ _ _).mono ?_; rintro e w' ⟨rfl, rfl⟩; rw [HC.out])
          go_round
          case rel => exact ⟨k + 1, by omega, by omega, by go_num, HE2⟩
          case measure => simp [intOf]; omega
        · obtain ⟨cv, hcv⟩ : ∃ cv, textC (L ys[k]) (L zs[k]) = cv := ⟨_, rfl⟩
          have h0 : ¬ cv = 0 := fun e => hne (L_inj.1 ((textC_cmp.same _ _).1 (hcv.trans e)))
          have e0 : (cv == 0) = false := by simpa using h0
          have e1 : (cv != 0) = true := by simpa using h0
          have HC := hid hcv
          have HR : Hid (partsC (ys.map L) (zs.map L) = cv) := hid (by rw [partsC_ne hlt hlt2 HE.out hne, hcv])
          clear hne hcv h0
          go_wp2_with (go_at_call 72; refine (cmp_any _ _ _).mono ?_; rintro e w' ⟨rfl, rfl⟩; rw [HC.out])
          go_ret
          exact ⟨ret_num HR.out.symm, rfl⟩
      · have HR := hid (partsC_out hlt (by omega) HE.out)
        go_wp2
        go_ret
        exact ⟨ret_num HR.out.symm, rfl⟩
    · obtain rfl : k = ys.length := by omega
      have hr := partsC_end hk2 HE.out
      by_cases h : ys.length < zs.length
      · rw [if_pos h] at hr
        have HR := hid hr
        clear hr
        go_wp2
        go_ret
        exact ⟨ret_num HR.out.symm, rfl⟩
      · rw [if_neg h] at hr
        have HR := hid hr
        clear hr
        go_wp2
        go_ret
        exact ⟨ret_num HR.out.symm, rfl⟩
theorem textcmp_any (s t : ByteArray) (w : World) : Calls Tryz.prog 46 #[.string s, .string t] w fun e w' => e = .returned (.int .i64 (textC (L s) (L t))) ∧ w = w' := by
  refine (Tryz.strings_Compare s t w).mono ?_
  rintro e w' ⟨rfl, rfl⟩
  exact ⟨ret_num (compareBytes_eq _ _), rfl⟩
set_option maxRecDepth 100000 in
set_option maxHeartbeats 1000000 in
theorem compare_any (p q : ByteArray) (w : World) (hp : p.size ≤ 900) (hq : q.size ≤ 900) : Calls Tryz.prog 22 #[.string p, .string q] w (Asks (.int .i64 (cmpOf (L p) (L q))) w) := by
  cases h1 : right (L p) with
  | false =>
    have HR : Hid (cmpOf (L p) (L q) = textC (L p) (L q)) := hid (by unfold cmpOf; rw [if_neg (fun h => by rw [h1] at h; cases h.1)])
    have H1 := hid h1
    clear h1
    go_enter Tryz.func22, Tryz.ntmps22
    go_wp2_with fail
    refine (right_any p _ (by omega)).mono ?_
    rintro e w1 ⟨rfl, hb⟩
    rw [H1.out]
    have HB := hid hb
    clear hb
    go_wp2_with fail
    refine (textcmp_any p q _).mono ?_
    rintro e w2 ⟨rfl, rfl⟩
    go_wp2
    go_ret
    exact ⟨ret_num HR.out.symm, HB.out⟩
  | true =>
    cases h2 : right (L q) with
    | false =>
      have HR : Hid (cmpOf (L p) (L q) = textC (L p) (L q)) := hid (by unfold cmpOf; rw [if_neg (fun h => by rw [h2] at h; cases h.2)])
      have H1 := hid h1
      have H2 := hid h2
      clear h1 h2
      go_enter Tryz.func22, Tryz.ntmps22
      go_wp2_with fail
      refine (right_any p _ (by omega)).mono ?_
      rintro e w1 ⟨rfl, hb⟩
      rw [H1.out]
      have HB := hid hb
      clear hb
      go_wp2_with fail
      refine (right_any q _ (by omega)).mono ?_
      rintro e w2 ⟨rfl, hb⟩
      rw [H2.out]
      replace HB := hid (below_on HB.out hb)
      clear hb
      go_wp2_with fail
      refine (textcmp_any p q _).mono ?_
      rintro e w3 ⟨rfl, rfl⟩
      go_wp2
      go_ret
      exact ⟨ret_num HR.out.symm, HB.out⟩
    | true =>
      have HR : Hid (cmpOf (L p) (L q) = partsC (parts (L p)) (parts (L q))) := hid (by unfold cmpOf; rw [if_pos ⟨h1, h2⟩, parts_right h1, parts_right h2])
      have H1 := hid h1
      have H2 := hid h2
      clear h1 h2
      go_enter Tryz.func22, Tryz.ntmps22
      go_wp2_with fail
      refine (right_any p _ (by omega)).mono ?_
      rintro e w1 ⟨rfl, hb⟩
      rw [H1.out]
      have HB := hid hb
      clear hb
      go_wp2_with fail
      refine (right_any q _ (by omega)).mono ?_
      rintro e w2 ⟨rfl, hb⟩
      rw [H2.out]
      replace HB := hid (below_on HB.out hb)
      clear hb
      go_wp2_with fail
      refine (parts_any p _ (by omega)).mono ?_
      rintro e w3 ⟨v, ys, rfl, hh, hy, hb⟩
      have HY := hid hy
      have HH := hid hh
      replace HB := hid (below_on HB.out hb)
      clear hy hh hb
      go_wp2_with fail
      refine (parts_any q _ (by omega)).mono ?_
      rintro e w4 ⟨u, zs, rfl, hh2, hz, hb⟩
      have HZ := hid hz
      have HH2 := hid hh2
      replace HH := hid (HH.out.below hb)
      replace HB := hid (below_on HB.out hb)
      clear hz hh2 hb
      go_wp2_with fail
      refine (slicescmp_any v u ys zs _ HH.out HH2.out).mono ?_
      rintro e w5 ⟨rfl, rfl⟩
      go_wp2
      go_ret
      exact ⟨ret_num (by rw [HR.out, HY.out, HZ.out]), HB.out⟩
end Go.Proofs.YtgjbhlianlbflaaGreat
