/-
  LogScans: its walk.
-/
import Derived.Test.YtilocedppkmikaaGOpen
namespace Go.Proofs.Ytilocedppkmikaa.logScans
open Go.ChangeShapes Go.WideShapes Go.ChangeAt Go.RowKit
set_option linter.unusedVariables false

set_option maxRecDepth 100000 in
set_option maxHeartbeats 400000 in
theorem walk_big (A : Option Addr) (n c : Nat) (w : World) (hn : 600 < n) :
    Calls Try.prog 4 #[.slice A n c] w fun e w' => e = .returned (.bool true) ∧ Below w.heap.size w w' := by
  have hni : ¬ (n : Int) ≤ 600 := by omega
  go_enter Try.func4, Try.ntmps4
  go_wp2_with (go_at_call 7; ((with_reducible refine (anchor14_any _).mono ?_); rintro e w1 ⟨rfl, hb1⟩))
  go_ret
  exact ⟨rfl, hb1⟩

set_option maxRecDepth 100000 in
set_option maxHeartbeats 1000000 in
theorem walk_small (A : Option Addr) (l : List Nat) (n c : Nat) (w : World) (hln : l.length = n) (hA0 : A = none → c = 0) (hc : n ≤ c) (hn : n ≤ 600) (h8 : ∀ x ∈ l, x < 256) (hA : Sees .u8 w A l) :
    Calls Try.prog 4 #[.slice A n c] w fun e w' => e = .returned (.bool true) ∧ Below w.heap.size w w' := by
  have hni : (n : Int) ≤ 600 := by omega
  obtain ⟨rs, m, he, hrs, hm⟩ := scan_exists l.length l (Nat.le_refl _)
  obtain ⟨K, hK⟩ : ∃ K, rs.length = K := ⟨_, rfl⟩
  obtain ⟨F, hF⟩ : ∃ F, (framesN rs).length = F := ⟨_, rfl⟩
  have hFn : F ≤ n := by rw [← hF, ← hln, he, List.length_append]; omega
  have hKF : K * 5 ≤ F := by rw [← hK, ← hF]; exact framesN_count rs
  obtain ⟨A6, hrun, hnil, hs6⟩ := cut_head hFn hc hA hA0
  have etake : l.take F = framesN rs := by rw [he, List.take_left' hF]
  rw [etake] at hs6
  have HS6 := hid hs6
  have HE := hid he
  have HRS := hid hrs
  have HM := hid hm
  have HK := hid hK
  have HF := hid hF
  have HA := hid hA
  have H8 := hid h8
  have H0 := hid hA0
  have HL := hid hln
  clear hA h8 hA0 hln he hrs hm hK hF hs6 etake hnil
  go_enter Try.func4, Try.ntmps4
  go_wp2_with (first
    | (go_at_call 7; ((with_reducible refine (anchor14_any _).mono ?_); rintro e w1 ⟨rfl, hb1⟩; have HB1 := hid hb1; clear hb1))
    | (go_at_call 12; ((with_reducible refine (scan_any A l m rs n c _ HL.out (by omega) hc H0.out H8.out (HA.out.below HB1.out) HRS.out HM.out HE.out).mono ?_); rintro e w2 ⟨A2, c2, rfl, hk2, hc2, hr2, hn2, hb2⟩; rw [HK.out] at hc2; rw [HK.out, HF.out]; have HB2 := hid (below_on HB1.out hb2); have HR2 := hid hr2; have HN2 := hid hn2; clear hk2 hr2 hn2 hb2))
    | (go_at_call 13; ((with_reducible refine (refscan_any A l m rs n c _ HL.out (by omega) hc H0.out H8.out (HA.out.below HB2.out) HRS.out HM.out HE.out).mono ?_); rintro e w3 ⟨A3, c3, rfl, hk3, hc3, hr3, hn3, hb3⟩; rw [HK.out] at hc3; rw [HK.out, HF.out]; have HB3 := hid (below_on HB2.out hb3); have HR3 := hid hr3; have HR23 := hid (rows_below HR2.out hb3); have HN23 := hid (bare_below HR2.out HN2.out hb3); clear hk3 hr3 hn3 hb3)))
  go_loopw [38] (fun i wr => ∃ k : Nat, k ≤ K ∧ i = .int .i64 (k : Int) ∧ Below w3.heap.size w3 wr) (fun i _ => K - (intOf i).toNat)
  case atStart => exact ⟨0, Nat.zero_le _, rfl, Below.refl _ _⟩
  case round =>
    obtain ⟨k, hk, rfl, hb⟩ := hrel
    have HB := hid hb
    by_cases hlt : k < K
    · have hlt' : k < rs.length := by rw [HK.out]; exact hlt
      obtain ⟨b1, o1, B1, d1, rfl, hbl1, hc1, hx1, _, hs1⟩ := HR23.out k rs[k] (List.getElem?_eq_getElem hlt')
      obtain ⟨b4, o4, B4, d4, rfl, hbl4, hc4, hx4, _, hs4⟩ := HR3.out k rs[k] (List.getElem?_eq_getElem hlt')
      have hc1' := (hb.cell (p := ⟨b1, o1 + k, none⟩) (by exact hbl1)).trans hc1
      have hc4' := (hb.cell (p := ⟨b4, o4 + k, none⟩) (by exact hbl4)).trans hc4
      have HS1 := hid (hs1.below hb)
      have HS4 := hid (hs4.below hb)
      clear hc1 hc4 hs1 hs4 hb
      generalize rs[k] = r at *
      obtain ⟨q, hq⟩ : ∃ q, r.length = q := ⟨_, rfl⟩
      have HQ := hid hq
      rw [hq] at hc1' hc4' hx1
      clear hq
      go_wp2_with (go_at_call 10; ((with_reducible refine (same_as B1 B4 r q d1 d4 _ hx1 HQ.out HS1.out HS4.out).mono ?_); rintro e w5 ⟨rfl, hb5⟩; have HB5 := hid (below_on HB.out hb5); clear hb5))
      go_roundw
      case rel => exact ⟨k + 1, by omega, by go_num, HB5.out⟩
      case measure => simp only [intOf]; omega
    · obtain rfl : k = K := by omega
      have HBW := hid (below_on HB3.out hb)
      have HR := hid (rows_below HR23.out hb)
      have HN := hid (bare_below HR23.out HN23.out hb)
      clear hb
      go_wp2_with (first
        | (go_at_call 14; ((with_reducible refine (join_any A2 rs k c2 _ HK.out (by omega) HRS.out (by rw [HF.out]; omega) HR.out HN.out).mono ?_); rintro e w5 ⟨s, rfl, hown5, hb5⟩; obtain ⟨A5, c5, rfl, _, _, hs5⟩ := own_slice (k := .u8) (l := framesN rs) hown5; rw [HF.out]; have HS5 := hid hs5; have HB5 := hid (below_on HBW.out hb5); clear hown5 hs5 hb5))
        | (go_at_call 10; ((with_reducible refine (same_as A5 A6 (framesN rs) F c5 c _ (by omega) HF.out HS5.out (HS6.out.below HB5.out)).mono ?_); rintro e w6 ⟨rfl, hb6⟩; have HB6 := hid (below_on HB5.out hb6); clear hb6)))
      go_ret
      exact ⟨rfl, HB6.out⟩

/-- The Go text returns true. -/
theorem walk (A : Option Addr) (l : List Nat) (c : Nat) (hn : A = none → c = 0) (hl : l.length ≤ c) (hm : c ≤ maxLen) (hr : l.length * 1 ≤ 140737488351232) (h8 : ∀ x ∈ l, (Lit.int .u8 (x : Int)).wf = true) (w : World) (hA : Sees .u8 w A l) :
    Calls Try.prog 4 #[.slice A l.length c] w fun e w' => e = .returned (.bool true) ∧ Below w.heap.size w w' := by
  have x8 : ∀ x ∈ l, x < 256 := fun x hx => by have := u8_lt _ (h8 x hx); omega
  by_cases h1 : 600 < l.length
  · exact walk_big A l.length c w h1
  · exact walk_small A l l.length c w rfl hn hl (by omega) x8 hA

end Go.Proofs.Ytilocedppkmikaa.logScans
