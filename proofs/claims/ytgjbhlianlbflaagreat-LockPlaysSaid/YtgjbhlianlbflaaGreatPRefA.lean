/-
  Contract of moothillref04.Above.
-/
import Derived.Test.YtgjbhlianlbflaaGreatPRefJ
import Derived.Deep.QuietTactic
import Derived.BigQuiet
namespace Go.Proofs.YtgjbhlianlbflaaGreat
open Go.ChangeShapes Go.WideShapes Go.ChangeAt Go.RowKit

theorem prefix_get {ys zs : List ByteArray} : (ys.map L).isPrefixOf (zs.map L) = true ↔ ys.length ≤ zs.length ∧ ∀ (j : Nat) (h1 : j < ys.length) (h2 : j < zs.length), ys[j] = zs[j] := by
  rw [List.isPrefixOf_iff_prefix]
  constructor
  · rintro h
    refine ⟨by simpa using h.length_le, fun j h1 h2 => ?_⟩
    have := h.getElem (i := j) (by simpa using h1)
    simp at this
    exact L_inj.1 this
  · rintro ⟨h1, h2⟩
    rw [List.prefix_iff_eq_take]
    apply List.ext_getElem
    · simp; omega
    · intro j h3 h4
      have h3' : j < ys.length := by simpa using h3
      simp
      rw [h2 j h3' (by omega)]

theorem takes_right {s : List UInt8} (h : right s = true) : takes [] (pieces s) = some (pieces s) := by
  rw [takes_parts (right_iff.1 h).2.1]; rfl

theorem spell_ne {y z : ByteArray} (h : y ≠ z) : (y.toList == z.toList) = false ∧ ¬ y.toList = z.toList ∧ (y.toList != z.toList) = true := by
  have h' : ¬ y.toList = z.toList := by rw [toList_L, toList_L]; exact fun e => h (L_inj.1 e)
  exact ⟨by simpa using h', h', by simpa using h'⟩

set_option maxRecDepth 100000 in
set_option maxHeartbeats 2000000 in
theorem refabove_both (p q : ByteArray) (w : World) (hp : p.size ≤ 900) (hq : q.size ≤ 900) (h1 : right (L p) = true) (h2 : right (L q) = true) : Calls Tryz.prog 89 #[.string p, .string q] w (Asks (.bool (above (L p) (L q))) w) := by
  have HP := hid h1
  have HQ := hid h2
  have HA : Hid (above (L p) (L q) = (pieces (L p)).isPrefixOf (pieces (L q))) := hid (by unfold above; rw [h1, h2]; rfl)
  have HTP := hid (takes_right h1)
  have HTQ := hid (takes_right h2)
  clear h1 h2
  go_enter Tryz.func89, Tryz.ntmps89
  go_wp2_with fail
  refine (refright_any p _ hp).mono ?_
  rintro e w1 ⟨rfl, hb1⟩
  rw [HP.out]
  have HB1 := hid hb1
  clear hb1
  go_wp2_with fail
  refine (refright_any q _ hq).mono ?_
  rintro e w2 ⟨rfl, hb2⟩
  rw [HQ.out]
  have HB2 := hid (below_on HB1.out hb2)
  clear hb2
  go_wp2_with fail
  refine (refparts_any p _ (by omega)).mono ?_
  rintro e w3 ⟨hb3, ⟨ht, rfl⟩ | ⟨v, ys, rfl, hy, ht, hyl⟩⟩
  · rw [HTP.out] at ht; cases ht
  rw [HTP.out] at ht
  injection ht with hty
  have HTY := hid hty
  have HB3 := hid (below_on HB2.out hb3)
  have HY := hid hy
  clear hb3 hty hy
  go_wp2_with fail
  refine (refparts_any q _ (by omega)).mono ?_
  rintro e w4 ⟨hb4, ⟨ht, rfl⟩ | ⟨u, zs, rfl, hz, ht, hzl⟩⟩
  · rw [HTQ.out] at ht; cases ht
  rw [HTQ.out] at ht
  injection ht with htz
  have HTZ := hid htz
  have HB4 := hid (below_on HB3.out hb4)
  have HY4 := hid (HY.out.below hb4)
  have HZ := hid hz
  clear hb4 htz hz
  obtain ⟨A, c, rfl, _, hc, hm, hv⟩ := HY4.out
  obtain ⟨A2, c2, rfl, _, hc2, hm2, hv2⟩ := HZ.out
  have HV := hid hv
  have HV2 := hid hv2
  clear hv hv2 HY4 HZ HY
  by_cases hlen : zs.length < ys.length
  · have HF : Hid (above (L p) (L q) = false) := hid (by
      rw [HA.out, HTY.out, HTZ.out, ← Bool.not_eq_true, prefix_get]
      rintro ⟨h, _⟩; omega)
    go_wp2
    go_ret
    exact ⟨ret_bool HF.out.symm, HB4.out⟩
  · go_wp2
    go_loopw [9] (fun i wr => ∃ k m : Nat, wr = w4.drewN m ∧ k ≤ ys.length ∧ i = .int .i64 k ∧ Hid (∀ (j : Nat) (_ : j < ys.length) (_ : j < zs.length), j < k → ys[j] = zs[j])) (fun i _ => ys.length - (intOf i).toNat)
    case atStart => exact ⟨0, 0, rfl, Nat.zero_le _, rfl, hid (fun j _ _ h => absurd h (Nat.not_lt_zero _))⟩
    case round =>
      obtain ⟨k, m, rfl, hk, rfl, HE⟩ := hrel
      by_cases hlt : k < ys.length
      · have hlt2 : k < zs.length := by omega
        obtain ⟨b, o, rfl, _, hcell⟩ := strs_at HV.out hlt
        obtain ⟨b2, o2, rfl, _, hcell2⟩ := strs_at HV2.out hlt2
        by_cases hne : ys[k] = zs[k]
        · have HE2 : Hid (∀ (j : Nat) (_ : j < ys.length) (_ : j < zs.length), j < k + 1 → ys[j] = zs[j]) := hid (fun j h1 h2 h3 => by
            by_cases e : j = k
            · subst e; exact hne
            · exact HE.out j h1 h2 (by omega))
          rw [← hne] at hcell2
          clear hne
          go_wp2
          go_quiet (fail)
          go_wp2
          go_roundw
          case rel => exact ⟨k + 1, _, rfl, by omega, by go_num, HE2⟩
          case measure => simp [intOf]; omega
        · have HF : Hid (above (L p) (L q) = false) := hid (by
            rw [HA.out, HTY.out, HTZ.out, ← Bool.not_eq_true, prefix_get]
            rintro ⟨_, h⟩; exact hne (h k hlt hlt2))
          obtain ⟨e1, e2, e3⟩ := spell_ne hne
          clear hne
          go_wp2
          go_quiet (fail)
          go_wp2
          go_ret
          exact ⟨ret_bool HF.out.symm, below_drewN (below_drewN HB4.out _) _⟩
      · have HF : Hid (above (L p) (L q) = true) := hid (by
          rw [HA.out, HTY.out, HTZ.out, prefix_get]
          exact ⟨by omega, fun j h1 h2 => HE.out j h1 h2 (by omega)⟩)
        go_wp2
        go_ret
        exact ⟨ret_bool HF.out.symm, below_drewN HB4.out _⟩

set_option maxRecDepth 100000 in
set_option maxHeartbeats 400000 in
theorem refabove_any (p q : ByteArray) (w : World) (hp : p.size ≤ 900) (hq : q.size ≤ 900) : Calls Tryz.prog 89 #[.string p, .string q] w (Asks (.bool (above (L p) (L q))) w) := by
  cases h1 : right (L p) with
  | false =>
    have HA : Hid (above (L p) (L q) = false) := hid (by unfold above; rw [h1]; rfl)
    have H1 := hid h1
    clear h1
    go_enter Tryz.func89, Tryz.ntmps89
    go_wp2_with fail
    refine (refright_any p _ hp).mono ?_
    rintro e w1 ⟨rfl, hb1⟩
    rw [H1.out]
    have HB1 := hid hb1
    clear hb1
    go_wp2
    go_ret
    exact ⟨ret_bool HA.out.symm, HB1.out⟩
  | true =>
    cases h2 : right (L q) with
    | true => exact refabove_both p q w hp hq h1 h2
    | false =>
      have HA : Hid (above (L p) (L q) = false) := hid (by unfold above; rw [h1, h2]; rfl)
      have H1 := hid h1
      have H2 := hid h2
      clear h1 h2
      go_enter Tryz.func89, Tryz.ntmps89
      go_wp2_with fail
      refine (refright_any p _ hp).mono ?_
      rintro e w1 ⟨rfl, hb1⟩
      rw [H1.out]
      have HB1 := hid hb1
      clear hb1
      go_wp2_with fail
      refine (refright_any q _ hq).mono ?_
      rintro e w2 ⟨rfl, hb2⟩
      rw [H2.out]
      have HB2 := hid (below_on HB1.out hb2)
      clear hb2
      go_wp2
      go_ret
      exact ⟨ret_bool HA.out.symm, HB2.out⟩

end Go.Proofs.YtgjbhlianlbflaaGreat
