/-
  A state's text: the contract of Show (package inst).
-/
import Derived.Test.YtohffiehmmcgbaaGreatDoorXJuShow
namespace Go.Proofs.YtohffiehmmcgbaaGreatDoor
open Go.ChangeShapes Go.WideShapes Go.ChangeAt Go.RowKit Go.Lib
set_option linter.unusedVariables false
set_option linter.unusedSimpArgs false
theorem balT_len (b : Nat) (hb : b < 4294967296) : (balT b).length ≤ 43 := textOf_len (by omega) (by omega) (by omega) (by omega)
theorem statL_len (n : Nat) (h : n < 4) : (statL n).length ≤ 9 := by
  have e : n = 0 ∨ n = 1 ∨ n = 2 ∨ n = 3 := by omega
  rcases e with rfl | rfl | rfl | rfl <;> decide
theorem whoL_len (s : Bool) : (whoL s).length ≤ 5 := by cases s <;> decide
theorem sb_mk (l : List UInt8) : Sb (mk l) = l := L_mk7 l
set_option maxRecDepth 100000 in
set_option maxHeartbeats 8000000 in
theorem jshow_as (a b t v u : Nat) (sm : Bool) (c : K) (f : Nat → Int) (w : World) (hL : All10 w) (hok : okJ ⟨a, b, t, v, u, sm, c, f⟩) (hK : okK c) (hr : rightJ ⟨a, b, t, v, u, sm, c, f⟩ = true) (ha : a < 7) (hb10 : b < 1024) (hv : v < 4294967296) (hvb : ballotB v = true) (hu : u < 4294967296) (hub : ballotB u = true) (ht : t ≤ 3) (hn : t ≠ 0 → rightK c = true ∧ okB f = true) (hf : c.foot.size ≤ 4611686018427387903) (hp : c.path.size ≤ 4611686018427387903) :
    Calls Tryz.prog 19 #[.agg (rowJ ⟨a, b, t, v, u, sm, c, f⟩)] w fun e w' => (∃ r : ByteArray, e = .returned (.tuple #[.string r, .int .i64 0]) ∧ Sb r = textJ ⟨a, b, t, v, u, sm, c, f⟩) ∧ Below w.heap.size w w' := by
  obtain ⟨i0, hi, hz0, hz1, hz2⟩ := info_parts info_str9
  have HT0 : Hid (t = 0 → textJ ⟨a, b, t, v, u, sm, c, f⟩ = Lib.join [textOf a b, balT v, statL t] [32]) := hid (fun h => by
    unfold textJ partsJ headW
    simp only [Int.toNat_natCast]
    rw [if_pos (by omega)]
    rfl)
  have HT1 : Hid (t ≠ 0 → textJ ⟨a, b, t, v, u, sm, c, f⟩ = Lib.join [textOf a b, balT v, statL t, balT u, whoL sm, textA f, txt c] [32]) := hid (fun h => by
    unfold textJ partsJ headW
    simp only [Int.toNat_natCast]
    rw [if_neg (by omega)]
    rfl)
  have HNM : Hid (nameB (a : Int) (b : Int) = true) := hid (by unfold nameB; exact decide_eq_true ⟨by omega, by omega, by omega, by omega⟩)
  have HVB : Hid (balB (v : Int) = true) := hid (by unfold balB; rw [Int.toNat_natCast]; exact hvb)
  have HUB : Hid (balB (u : Int) = true) := hid (by unfold balB; rw [Int.toNat_natCast]; exact hub)
  have HV2 := hid (show 0 ≤ (v : Int) ∧ (v : Int) < 4294967296 from ⟨by omega, by omega⟩)
  have HZT : Hid (textJ ⟨a, b, t, v, u, sm, c, f⟩ = textJ ⟨a, b, t, v, u, sm, c, f⟩) := hid rfl
  obtain ⟨TT, hTT⟩ : ∃ T, textJ ⟨a, b, t, v, u, sm, c, f⟩ = T := ⟨_, rfl⟩
  rw [hTT] at HT0 HT1 ⊢
  clear HZT hTT
  have HL := hid hL
  have HO := hid hok
  have HKC := hid hK
  have HR := hid hr
  have HN := hid hn
  have L1 := hid (len_inst ⟨a, b, t, v, u, sm, c, f⟩)
  clear hL hok hK hr hn hvb hub
  go_enter Tryz.func19, Tryz.ntmps19
  go_upto_region 1 with fail
  obtain ⟨W, hW⟩ : ∃ W, w.alloc (.cells (rowJ ⟨a, b, t, v, u, sm, c, f⟩) 37) = W := ⟨_, rfl⟩
  rw [hW]
  obtain ⟨K0, KB⟩ := one_new hW
  have LW := hid (HL.out.below KB.out)
  clear hW HL
  obtain ⟨k, hk⟩ : ∃ k, w.heap.size = k := ⟨_, rfl⟩
  rw [hk] at K0 KB
  rw [hk]
  have HKK := hid hk
  have A0 : Hid (ShowJ w k W ⟨a, b, t, v, u, sm, c, f⟩) := hid ⟨K0.out, KB.out, LW.out⟩
  clear hk K0 KB LW
  go_wp2_with (with_reducible refine wpList_load_row (o := ⟨some 9, _, _, _, _, _⟩) rfl 37 (.tmp 1) rfl k rfl 37 (rowJ ⟨a, b, t, v, u, sm, c, f⟩) (0, 0) _ A0.out.blk.heap Tryz.underlying37 rfl L1.out ?_)
  with_reducible refine (jright_any ⟨a, b, t, v, u, sm, c, f⟩ HO.out _ A0.out.all.parts hf hp).mono ?_
  rw [HR.out]
  rintro e w1 ⟨rfl, hb⟩
  have A1 := hid (A0.out.on hb)
  clear hb A0
  have c0 := A1.out.blk.j0
  have c1 := A1.out.blk.j1
  go_wp2_with fail
  with_reducible refine (idshow_yes (a : Int) (b : Int) _ A1.out.all.laid HNM.out).mono ?_
  rintro e w2 ⟨⟨ta, rfl, hta⟩, hb⟩
  have TA := hid hta
  have A2 := hid (A1.out.on hb)
  clear hb hta c0 c1 A1
  have c3 := A2.out.blk.j3
  go_wp2_with fail
  with_reducible refine (balshow_int (v : Int) _ HV2.out A2.out.all.laid HVB.out).mono ?_
  rintro e w3 ⟨⟨tb, rfl, htb⟩, hb⟩
  have TB : Hid (Sb tb = balT v) := hid (by rw [htb, Int.toNat_natCast])
  have A3 := hid (A2.out.on hb)
  clear hb htb c3 A2
  have c2 := A3.out.blk.j2
  have cs := stats_cell A3.out.all.stats t (by omega)
  have ht4 : (t : Int) < 4 := by omega
  go_upto_region 6 with fail
  obtain ⟨tc, htc⟩ : ∃ s, mk (statL t) = s := ⟨_, rfl⟩
  rw [htc]
  have TC : Hid (Sb tc = statL t) := hid (by rw [← htc]; exact sb_mk _)
  obtain ⟨n, hn⟩ : ∃ n, w3.heap.size = n := ⟨_, rfl⟩
  obtain ⟨W4, hW4⟩ : ∃ W4, w3.alloc (.cells #[.string ta, .string tb, .string tc] 9) = W4 := ⟨_, rfl⟩
  have hkn : k < n := by have := A3.out.blk.lt; omega
  have OW : Hid (W4.ownsRow (k + 1) 9 1 (.slice (some ⟨n, 0, none⟩) 3 3) 3 (strs [ta, tb, tc])) := hid (by rw [← hW4, ← hn]; exact own_three w3 (k + 1) ta tb tc (by omega))
  have A4 : Hid (ShowJ w k W4 ⟨a, b, t, v, u, sm, c, f⟩) := hid (by rw [← hW4]; exact A3.out.on ((Below.refl _ _).alloc (Nat.le_refl _) _))
  rw [hn, hW4]
  clear hW4 hn htc c2 cs A3
  have ZA := hid (show ta.size ≤ 10000 by rw [sb_size TA.out]; have := textOf_len (a := (a : Int)) (b := (b : Int)) (by omega) (by omega) (by omega) (by omega); omega)
  have ZB := hid (show tb.size ≤ 10000 by rw [sb_size TB.out]; have := balT_len v hv; omega)
  have ZC := hid (show tc.size ≤ 10000 by rw [sb_size TC.out]; have := statL_len t (by omega); omega)
  have c2 := A4.out.blk.j2
  by_cases h0 : t = 0
  · have ht0 : ((t : Int) == 0) = true := beq_iff_eq.2 (by omega)
    have TT0 := hid (HT0.out h0)
    have ht0' : (t : Int) = 0 := by omega
    clear h0
    go_wp2_with fail
    with_reducible refine (joinb_any (some ⟨n, 0, none⟩) 3 3 [ta, tb, tc] _ rfl (by decide) (by decide) (by decide) (by intro x hx; simp at hx; rcases hx with rfl | rfl | rfl; exact ZA.out; exact ZB.out; exact ZC.out) (Vals.of_own OW.out)).mono ?_
    rintro e w5 ⟨r, rfl, hr, hb⟩
    have HRR : Hid (Sb r = TT) := hid (by rw [hr, TT0.out, ← TA.out, ← TB.out, ← TC.out]; rfl)
    have A5 := hid (A4.out.on hb)
    clear hr hb A4 OW c2
    go_wp2
    exact bodyPost_ret (v := .tuple #[.string r, .int .i64 0]) (by simp [results, Tryz.results19, go_sem]) rfl ⟨⟨r, rfl, HRR.out⟩, by rw [HKK.out]; exact A5.out.bel⟩
  · have ht0 : ((t : Int) == 0) = false := beq_eq_false_iff_ne.2 (by omega)
    have TT1 := hid (HT1.out h0)
    have HNN := hid (HN.out h0)
    clear h0
    go_wp2_with (with_reducible refine wpList_load_row (o := ⟨some 35, _, _, _, _, _⟩) rfl 37 (.tmp 1) rfl k rfl 37 (rowJ ⟨a, b, t, v, u, sm, c, f⟩) (0, 0) _ A4.out.blk.heap Tryz.underlying37 rfl L1.out ?_)
    with_reducible refine (showvalue_any ⟨a, b, t, v, u, sm, c, f⟩ HO.out HKC.out HUB.out HNN.out.1 HNN.out.2 _ A4.out.all).mono ?_
    rintro e w5 ⟨g, sa, sb, sc, sd, rfl, hg, hblk, ⟨h1, h2, h3, h4⟩, hb⟩
    have SA : Hid (Sb sa = balT u) := hid (by rw [h1, Int.toNat_natCast])
    have SB := hid h2
    have SC := hid h3
    have SD := hid h4
    have OV := hid (own_four w5 (k + 1) g sa sb sc sd (by have := A4.out.blk.lt; omega) hblk)
    have OW5 := hid (own_below OW.out hb)
    have A5 := hid (A4.out.on hb)
    have hk5 : k + 1 ≤ w5.heap.size := by have := A5.out.blk.lt; omega
    clear h1 h2 h3 h4 hblk hg hb A4 OW c2
    have VS := hid (Vals.of_own OV.out)
    go_wp2_with (at_builtin; refine wpList_append_vals rfl (.tmp 34) (.tmp 36) 100 rfl (k + 1) 9 i0 _ 16 Tryz.underlying100 hi hz0 hz1 hz2 rfl _ 3 (strs [ta, tb, tc]) rfl OW5.out _ 4 (strs [sa, sb, sc, sd]) 4 rfl rfl (fun h => nomatch h) VS.out (by intro u hu; simp [strs] at hu; rcases hu with rfl | rfl | rfl | rfl <;> rfl) (by decide) (by decide) hk5 ?_; intro v3 w6 hown3 hg3; have hb3 : Below (k + 1) w5 w6 := (Below.refl (k + 1) w5).grown hg3 hk5 (fun j hj => (OW5.out.lt j hj).1); have O6 := hid hown3; have H6 := hid hb3; clear hb3 hg3 hown3)
    obtain ⟨Ad, cd, rfl, hl7, hn7, hc7, hm7, hv7⟩ := own_vals O6.out
    have V6 := hid hv7
    have B6 : Hid (Below k w w6) := hid (A5.out.bel.trans (H6.out.mono (by omega)))
    clear hv7 hl7 hn7 O6
    have ZS : Hid (∀ x ∈ [ta, tb, tc, sa, sb, sc, sd], x.size ≤ 10000) := hid (by
      intro x hx
      simp at hx
      rcases hx with rfl | rfl | rfl | rfl | rfl | rfl | rfl
      · exact ZA.out
      · exact ZB.out
      · exact ZC.out
      · rw [sb_size SA.out]; have := balT_len u hu; omega
      · rw [sb_size SB.out]; have := whoL_len sm; omega
      · rw [sb_size SC.out]; have := textA_len HNN.out.2; omega
      · rw [sb_size SD.out]; have := txtj_len c HKC.out HNN.out.1; omega)
    go_wp2_with fail
    with_reducible refine (joinb_any Ad 7 cd [ta, tb, tc, sa, sb, sc, sd] _ rfl (by decide) hc7 (by decide) ZS.out V6.out).mono ?_
    rintro e w7 ⟨r, rfl, hr, hb⟩
    have HRR : Hid (Sb r = TT) := hid (by rw [hr, TT1.out, ← TA.out, ← TB.out, ← TC.out, ← SA.out, ← SC.out, ← SD.out]; rw [show whoL sm = Sb sb from SB.out.symm]; rfl)
    have hk6 : k ≤ w6.heap.size := by have := H6.out.size; omega
    have B7 := hid (below_pay B6.out hk6 hb)
    clear hr hb V6 B6 H6 A5
    go_wp2
    exact bodyPost_ret (v := .tuple #[.string r, .int .i64 0]) (by simp [results, Tryz.results19, go_sem]) rfl ⟨⟨r, rfl, HRR.out⟩, by rw [HKK.out]; exact B7.out⟩
theorem jshow_yes (x : J) (w : World) (hL : All10 w) (hok : okJ x) (hK : okK x.c) (hr : rightJ x = true) (hf : x.c.foot.size ≤ 4611686018427387903) (hp : x.c.path.size ≤ 4611686018427387903) :
    Calls Tryz.prog 19 #[.agg (rowJ x)] w fun e w' => (∃ r : ByteArray, e = .returned (.tuple #[.string r, .int .i64 0]) ∧ Sb r = textJ x) ∧ Below w.heap.size w w' := by
  obtain ⟨a, b, v, u, t, ha, hb, hv, hu, ht, ha7, hb10, hvv, hvb, huu, hub, ht3, hn0, _⟩ := rightJ_in hok hr
  obtain ⟨r, s, st, bal, vote, sm, c, f⟩ := x
  simp only at ha hb hv hu ht hn0 hf hp hK
  subst ha hb hv hu ht
  exact jshow_as a b t v u sm c f w hL hok hK hr ha7 hb10 hvv hvb huu hub ht3 hn0 hf hp
set_option maxRecDepth 100000 in
set_option maxHeartbeats 1000000 in
theorem jshow_no (x : J) (w : World) (hL : All10 w) (hok : okJ x) (hr : rightJ x = false) (hf : x.c.foot.size ≤ 4611686018427387903) (hp : x.c.path.size ≤ 4611686018427387903) :
    Calls Tryz.prog 19 #[.agg (rowJ x)] w fun e w' => e = .returned (.tuple #[.string ⟨#[]⟩, .int .i64 10]) ∧ Below w.heap.size w w' := by
  have HL := hid hL
  have HO := hid hok
  have HR := hid hr
  have L1 := hid (len_inst x)
  clear hL hok hr
  go_enter Tryz.func19, Tryz.ntmps19
  go_upto_region 1 with fail
  obtain ⟨W, hW⟩ : ∃ W, w.alloc (.cells (rowJ x) 37) = W := ⟨_, rfl⟩
  rw [hW]
  obtain ⟨K0, KB⟩ := one_new hW
  have LW := hid (HL.out.below KB.out)
  clear hW HL
  obtain ⟨k, hk⟩ : ∃ k, w.heap.size = k := ⟨_, rfl⟩
  rw [hk] at K0 KB
  rw [hk]
  have HKK := hid hk
  have A0 : Hid (ShowJ w k W x) := hid ⟨K0.out, KB.out, LW.out⟩
  clear hk K0 KB LW
  go_wp2_with (with_reducible refine wpList_load_row (o := ⟨some 9, _, _, _, _, _⟩) rfl 37 (.tmp 1) rfl k rfl 37 (rowJ x) (0, 0) _ A0.out.blk.heap Tryz.underlying37 rfl L1.out ?_)
  with_reducible refine (jright_any x HO.out _ A0.out.all.parts hf hp).mono ?_
  rw [HR.out]
  rintro e w1 ⟨rfl, hb⟩
  have A1 := hid (A0.out.on hb)
  clear hb A0
  go_wp2
  exact bodyPost_ret (v := .tuple #[.string ⟨#[]⟩, .int .i64 10]) (by simp [results, Tryz.results19, go_sem]) rfl ⟨rfl, by rw [HKK.out]; exact A1.out.bel⟩
end Go.Proofs.YtohffiehmmcgbaaGreatDoor
