/-
  The law's step: Take, Drop, Spoil of a place that there isn't.
-/
import Derived.Test.YtljnboimadhkoaaNtStepK
namespace Go.Proofs.Ytljnboimadhkoaa
open Go.ChangeShapes Go.WideShapes Go.ChangeAt Go.RowKit
set_option linter.unusedVariables false
set_option linter.unusedSimpArgs false

set_option maxRecDepth 100000 in
set_option maxHeartbeats 4000000 in
theorem ntstep_none2 (N B g : Nat) (lim : Int) (v : Value) (lp : List FrV) (rv : Value) (lr : List FrV) (o : OpN) (w : World) (h : BothN w N B g lim v lp rv lr) (h1 : o.kind = 2) (hi : hasN lr.length o.i = false) :
    Calls Try.prog 7 #[.pointer (some ⟨g, 0, none⟩), rv, .int .i64 lim, .agg (opNC o)] w (StepN N B g lim w) := by
  have HB := hid h
  have HT := hid (fun w1 (hb : Below w.heap.size w w1) => nttake_no B g lim v lp o.i w1 (h.net.on hb) (by rw [h.len]; exact hi))
  obtain ⟨R, rc, hrv⟩ := own_shapeN h.ref.row
  have hm9 : lr.length ≤ 4096 := by rw [← h.len]; exact h.net.len
  obtain ⟨m, hmm⟩ : ∃ m, lr.length = m := ⟨_, rfl⟩
  have HM := hid hmm
  have HLp : Hid (lp.length = m) := hid (by rw [h.len, hmm])
  rw [hmm] at hrv hm9
  subst hrv
  obtain ⟨kd, i, bit, ⟨fr, to, d⟩, A, c⟩ := o
  simp only at h1 HT hi
  subst h1
  rw [HM.out] at hi
  have hi2 : ¬ (0 ≤ i ∧ i < (m : Int)) := by unfold hasN at hi; simp at hi; omega
  have HOf := hid (fun w => ntof_any 0 0 none 0 0 w)
  have HSm := hid (fun w => ntsame_any ⟨0, 0, []⟩ ⟨0, 0, []⟩ none none 0 0 0 0 w rfl rfl (by decide) (by decide) (Sees.nil _ _ _) (Sees.nil _ _ _))
  rw [sameB_self] at HSm
  clear h hmm hi
  simp only [opNC]
  obtain ⟨n, hn⟩ : ∃ n, d.length = n := ⟨_, rfl⟩
  rw [hn]
  clear hn
  go_enter Try.func7, Try.ntmps7
  go_upto_region 1 with fail
  obtain ⟨W, hW⟩ : ∃ W, w.alloc (.cells #[.int .i64 2, .int .i64 i, .int .i64 bit, .int .i64 fr, .int .i64 to, .slice A n c] 34) = W := ⟨_, rfl⟩
  rw [hW]
  obtain ⟨K0, KB⟩ := lone_new hW
  obtain ⟨k, hk⟩ : ∃ k, w.heap.size = k := ⟨_, rfl⟩
  have HK := hid hk
  rw [hk] at K0 ⊢
  clear hW hk
  obtain ⟨c0, c1, c2, c3, c4, c5⟩ := lcells6N K0.out
  have key : (0 ≤ i ∧ ¬ i < (m : Int)) ∨ ¬ 0 ≤ i := by omega
  rcases key with ⟨h0, h2⟩ | h0
  all_goals (
    clear hi2
    go_upto_region 26 with fail
    obtain ⟨W3, hW3⟩ : ∃ W3, (W.alloc (.cells zeroF 32)).alloc (.cells zeroF 41) = W3 := ⟨_, rfl⟩
    rw [hW3]
    obtain ⟨K15, K17, KB3⟩ := ltwo_new hW3
    have B3 := hid (below_on KB.out KB3.out)
    have KO := hid (K0.out.below KB3.out K0.out.lt)
    have HTs := hid (HT.out W3 B3.out)
    obtain ⟨k15, hk15⟩ : ∃ k, W.heap.size = k := ⟨_, rfl⟩
    have HKK : Hid (k < k15) := hid (by rw [← hk15]; exact K0.out.lt)
    rw [hk15] at K15 K17 ⊢
    clear hW3 hk15 c0 c1 c2 c3 c4 c5
    obtain ⟨c0, c1, c2, c3, c4, c5⟩ := lcells6N KO.out
    go_upto_region 32 with (go_at_call 15; (with_reducible refine HTs.out.mono ?_); rintro e w4 ⟨rfl, hb⟩; have B4 := hid (below_on B3.out hb); have K4 := hid (K15.out.below hb K15.out.lt); have K5 := hid (K17.out.below hb K17.out.lt); have K6 := hid (KO.out.below hb KO.out.lt); clear hb c0 c1 c2 c3 c4 c5; obtain ⟨c0, c1, c2, c3, c4, c5⟩ := lcells6N K6.out; obtain ⟨e0, e1, e2⟩ := lcells3N K4.out; obtain ⟨g0, g1, g2⟩ := lfrozen3N K4.out)
    have K4b := hid (put3N_blk K4.out (.int .i64 0) (.int .i64 0) (.slice none 0 0))
    have B4b := hid (put3N_below (k := w.heap.size) (g := k15) B4.out (by have := HKK.out; have := HK.out; omega) (.int .i64 0) (.int .i64 0) (.slice none 0 0))
    have K5b := hid (K5.out.grown (put3N_grown w4 k15 (.int .i64 0) (.int .i64 0) (.slice none 0 0)) (by simp))
    unfold put3N at K4b B4b K5b
    obtain ⟨w5, hw5⟩ : ∃ w5, ((w4.setCell ⟨k15, 0, none⟩ (.int .i64 0)).setCell ⟨k15, 1, none⟩ (.int .i64 0)).setCell ⟨k15, 2, none⟩ (.slice none 0 0) = w5 := ⟨_, rfl⟩
    rw [hw5] at K4b B4b K5b ⊢
    clear hw5
    clear c0 c1 c2 c3 c4 c5 e0 e1 e2 g0 g1 g2
    have S0 : Hid (∀ W', Below w5.heap.size w5 W' → ((W'.cell? ⟨k15, 0, none⟩ = some (.int .i64 0) ∧ W'.cell? ⟨k15, 1, none⟩ = some (.int .i64 0) ∧ W'.cell? ⟨k15, 2, none⟩ = some (.slice none 0 0)) ∧ (W'.cell? ⟨k15 + 1, 0, none⟩ = some (.int .i64 0) ∧ W'.cell? ⟨k15 + 1, 1, none⟩ = some (.int .i64 0) ∧ W'.cell? ⟨k15 + 1, 2, none⟩ = some (.slice none 0 0)))) := hid (fun W' b => ⟨lcells3N (K4b.out.below b K4b.out.lt), lcells3N (K5b.out.below b K5b.out.lt)⟩)
    have D0 := hid (below_drew (Below.refl w5.heap.size w5))
    go_upto_region 33 with fail
    go_region_held3 (fun W' => (W'.cell? ⟨k15, 0, none⟩ = some (.int .i64 0) ∧ W'.cell? ⟨k15, 1, none⟩ = some (.int .i64 0) ∧ W'.cell? ⟨k15, 2, none⟩ = some (.slice none 0 0)) ∧ (W'.cell? ⟨k15 + 1, 0, none⟩ = some (.int .i64 0) ∧ W'.cell? ⟨k15 + 1, 1, none⟩ = some (.int .i64 0) ∧ W'.cell? ⟨k15 + 1, 2, none⟩ = some (.slice none 0 0)))
      (with_reducible exact S0.out _ D0.out)
      (first
        | (go_at_call 11; (with_reducible refine (HOf.out _).mono ?_); rintro e w6 ⟨rfl, b6⟩; have D0 := hid (below_on D0.out b6); clear b6)
        | (go_at_call 10; (with_reducible refine (HSm.out _).mono ?_); rintro e w6 ⟨rfl, b6⟩; have D0 := hid (below_on D0.out b6); clear b6))
    all_goals (
      rename_i hHeld
      clear hHeld
      go_wp2
      refine bodyPost_ret (v := .tuple #[.slice R m rc, .bool true]) (by simp [results, Try.results7, go_sem]) rfl (HB.out.stepped (below_on B4b.out D0.out))))
set_option maxRecDepth 100000 in
set_option maxHeartbeats 4000000 in
theorem ntstep_none3 (N B g : Nat) (lim : Int) (v : Value) (lp : List FrV) (rv : Value) (lr : List FrV) (o : OpN) (w : World) (h : BothN w N B g lim v lp rv lr) (h1 : o.kind = 3) (hi : hasN lr.length o.i = false) :
    Calls Try.prog 7 #[.pointer (some ⟨g, 0, none⟩), rv, .int .i64 lim, .agg (opNC o)] w (StepN N B g lim w) := by
  have HB := hid h
  have HT := hid (fun w1 (hb : Below w.heap.size w w1) => ntdrop_no B g lim v lp o.i w1 (h.net.on hb) (by rw [h.len]; exact hi))
  obtain ⟨R, rc, hrv⟩ := own_shapeN h.ref.row
  have hm9 : lr.length ≤ 4096 := by rw [← h.len]; exact h.net.len
  obtain ⟨m, hmm⟩ : ∃ m, lr.length = m := ⟨_, rfl⟩
  have HM := hid hmm
  have HLp : Hid (lp.length = m) := hid (by rw [h.len, hmm])
  rw [hmm] at hrv hm9
  subst hrv
  obtain ⟨kd, i, bit, ⟨fr, to, d⟩, A, c⟩ := o
  simp only at h1 HT hi
  subst h1
  rw [HM.out] at hi
  have hi2 : ¬ (0 ≤ i ∧ i < (m : Int)) := by unfold hasN at hi; simp at hi; omega
  have HOf := hid (fun w => ntof_any 0 0 none 0 0 w)
  have HSm := hid (fun w => ntsame_any ⟨0, 0, []⟩ ⟨0, 0, []⟩ none none 0 0 0 0 w rfl rfl (by decide) (by decide) (Sees.nil _ _ _) (Sees.nil _ _ _))
  rw [sameB_self] at HSm
  clear h hmm hi
  simp only [opNC]
  obtain ⟨n, hn⟩ : ∃ n, d.length = n := ⟨_, rfl⟩
  rw [hn]
  clear hn
  go_enter Try.func7, Try.ntmps7
  go_upto_region 1 with fail
  obtain ⟨W, hW⟩ : ∃ W, w.alloc (.cells #[.int .i64 3, .int .i64 i, .int .i64 bit, .int .i64 fr, .int .i64 to, .slice A n c] 34) = W := ⟨_, rfl⟩
  rw [hW]
  obtain ⟨K0, KB⟩ := lone_new hW
  obtain ⟨k, hk⟩ : ∃ k, w.heap.size = k := ⟨_, rfl⟩
  have HK := hid hk
  rw [hk] at K0 ⊢
  clear hW hk
  obtain ⟨c0, c1, c2, c3, c4, c5⟩ := lcells6N K0.out
  have key : (0 ≤ i ∧ ¬ i < (m : Int)) ∨ ¬ 0 ≤ i := by omega
  rcases key with ⟨h0, h2⟩ | h0
  all_goals (
    clear hi2
    go_upto_region 26 with fail
    obtain ⟨W3, hW3⟩ : ∃ W3, (W.alloc (.cells zeroF 32)).alloc (.cells zeroF 41) = W3 := ⟨_, rfl⟩
    rw [hW3]
    obtain ⟨K15, K17, KB3⟩ := ltwo_new hW3
    have B3 := hid (below_on KB.out KB3.out)
    have KO := hid (K0.out.below KB3.out K0.out.lt)
    have HTs := hid (HT.out W3 B3.out)
    obtain ⟨k15, hk15⟩ : ∃ k, W.heap.size = k := ⟨_, rfl⟩
    have HKK : Hid (k < k15) := hid (by rw [← hk15]; exact K0.out.lt)
    rw [hk15] at K15 K17 ⊢
    clear hW3 hk15 c0 c1 c2 c3 c4 c5
    obtain ⟨c0, c1, c2, c3, c4, c5⟩ := lcells6N KO.out
    go_upto_region 32 with (go_at_call 16; (with_reducible refine HTs.out.mono ?_); rintro e w4 ⟨rfl, hb⟩; have B4 := hid (below_on B3.out hb); have K4 := hid (K15.out.below hb K15.out.lt); have K5 := hid (K17.out.below hb K17.out.lt); have K6 := hid (KO.out.below hb KO.out.lt); clear hb c0 c1 c2 c3 c4 c5; obtain ⟨c0, c1, c2, c3, c4, c5⟩ := lcells6N K6.out; obtain ⟨e0, e1, e2⟩ := lcells3N K4.out; obtain ⟨g0, g1, g2⟩ := lfrozen3N K4.out)
    have K4b := hid K4.out
    have B4b := hid B4.out
    have K5b := hid K5.out
    obtain ⟨w5, hw5⟩ : ∃ w5, w4 = w5 := ⟨_, rfl⟩
    rw [hw5] at K4b B4b K5b ⊢
    clear hw5
    clear c0 c1 c2 c3 c4 c5 e0 e1 e2 g0 g1 g2
    have S0 : Hid (∀ W', Below w5.heap.size w5 W' → ((W'.cell? ⟨k15, 0, none⟩ = some (.int .i64 0) ∧ W'.cell? ⟨k15, 1, none⟩ = some (.int .i64 0) ∧ W'.cell? ⟨k15, 2, none⟩ = some (.slice none 0 0)) ∧ (W'.cell? ⟨k15 + 1, 0, none⟩ = some (.int .i64 0) ∧ W'.cell? ⟨k15 + 1, 1, none⟩ = some (.int .i64 0) ∧ W'.cell? ⟨k15 + 1, 2, none⟩ = some (.slice none 0 0)))) := hid (fun W' b => ⟨lcells3N (K4b.out.below b K4b.out.lt), lcells3N (K5b.out.below b K5b.out.lt)⟩)
    have D0 := hid (below_drew (Below.refl w5.heap.size w5))
    go_upto_region 33 with fail
    go_region_held3 (fun W' => (W'.cell? ⟨k15, 0, none⟩ = some (.int .i64 0) ∧ W'.cell? ⟨k15, 1, none⟩ = some (.int .i64 0) ∧ W'.cell? ⟨k15, 2, none⟩ = some (.slice none 0 0)) ∧ (W'.cell? ⟨k15 + 1, 0, none⟩ = some (.int .i64 0) ∧ W'.cell? ⟨k15 + 1, 1, none⟩ = some (.int .i64 0) ∧ W'.cell? ⟨k15 + 1, 2, none⟩ = some (.slice none 0 0)))
      (with_reducible exact S0.out _ D0.out)
      (first
        | (go_at_call 11; (with_reducible refine (HOf.out _).mono ?_); rintro e w6 ⟨rfl, b6⟩; have D0 := hid (below_on D0.out b6); clear b6)
        | (go_at_call 10; (with_reducible refine (HSm.out _).mono ?_); rintro e w6 ⟨rfl, b6⟩; have D0 := hid (below_on D0.out b6); clear b6))
    all_goals (
      rename_i hHeld
      clear hHeld
      go_wp2
      refine bodyPost_ret (v := .tuple #[.slice R m rc, .bool true]) (by simp [results, Try.results7, go_sem]) rfl (HB.out.stepped (below_on B4b.out D0.out))))
set_option maxRecDepth 100000 in
set_option maxHeartbeats 4000000 in
theorem ntstep_none5 (N B g : Nat) (lim : Int) (v : Value) (lp : List FrV) (rv : Value) (lr : List FrV) (o : OpN) (w : World) (h : BothN w N B g lim v lp rv lr) (h1 : o.kind = 5) (hi : hasN lr.length o.i = false) :
    Calls Try.prog 7 #[.pointer (some ⟨g, 0, none⟩), rv, .int .i64 lim, .agg (opNC o)] w (StepN N B g lim w) := by
  have HB := hid h
  have HT := hid (fun w1 (hb : Below w.heap.size w w1) => ntspoil_no B g lim v lp o.i o.bit w1 (h.net.on hb) (by rw [h.len]; exact hi))
  obtain ⟨R, rc, hrv⟩ := own_shapeN h.ref.row
  have hm9 : lr.length ≤ 4096 := by rw [← h.len]; exact h.net.len
  obtain ⟨m, hmm⟩ : ∃ m, lr.length = m := ⟨_, rfl⟩
  have HM := hid hmm
  have HLp : Hid (lp.length = m) := hid (by rw [h.len, hmm])
  rw [hmm] at hrv hm9
  subst hrv
  obtain ⟨kd, i, bit, ⟨fr, to, d⟩, A, c⟩ := o
  simp only at h1 HT hi
  subst h1
  rw [HM.out] at hi
  have hi2 : ¬ (0 ≤ i ∧ i < (m : Int)) := by unfold hasN at hi; simp at hi; omega
  have HOf := hid (fun w => ntof_any 0 0 none 0 0 w)
  have HSm := hid (fun w => ntsame_any ⟨0, 0, []⟩ ⟨0, 0, []⟩ none none 0 0 0 0 w rfl rfl (by decide) (by decide) (Sees.nil _ _ _) (Sees.nil _ _ _))
  rw [sameB_self] at HSm
  clear h hmm hi
  simp only [opNC]
  obtain ⟨n, hn⟩ : ∃ n, d.length = n := ⟨_, rfl⟩
  rw [hn]
  clear hn
  go_enter Try.func7, Try.ntmps7
  go_upto_region 1 with fail
  obtain ⟨W, hW⟩ : ∃ W, w.alloc (.cells #[.int .i64 5, .int .i64 i, .int .i64 bit, .int .i64 fr, .int .i64 to, .slice A n c] 34) = W := ⟨_, rfl⟩
  rw [hW]
  obtain ⟨K0, KB⟩ := lone_new hW
  obtain ⟨k, hk⟩ : ∃ k, w.heap.size = k := ⟨_, rfl⟩
  have HK := hid hk
  rw [hk] at K0 ⊢
  clear hW hk
  obtain ⟨c0, c1, c2, c3, c4, c5⟩ := lcells6N K0.out
  have key : (0 ≤ i ∧ ¬ i < (m : Int)) ∨ ¬ 0 ≤ i := by omega
  rcases key with ⟨h0, h2⟩ | h0
  all_goals (
    clear hi2
    go_upto_region 26 with fail
    obtain ⟨W3, hW3⟩ : ∃ W3, (W.alloc (.cells zeroF 32)).alloc (.cells zeroF 41) = W3 := ⟨_, rfl⟩
    rw [hW3]
    obtain ⟨K15, K17, KB3⟩ := ltwo_new hW3
    have B3 := hid (below_on KB.out KB3.out)
    have KO := hid (K0.out.below KB3.out K0.out.lt)
    have HTs := hid (HT.out W3 B3.out)
    obtain ⟨k15, hk15⟩ : ∃ k, W.heap.size = k := ⟨_, rfl⟩
    have HKK : Hid (k < k15) := hid (by rw [← hk15]; exact K0.out.lt)
    rw [hk15] at K15 K17 ⊢
    clear hW3 hk15 c0 c1 c2 c3 c4 c5
    obtain ⟨c0, c1, c2, c3, c4, c5⟩ := lcells6N KO.out
    go_upto_region 32 with (go_at_call 17; (with_reducible refine HTs.out.mono ?_); rintro e w4 ⟨rfl, hb⟩; have B4 := hid (below_on B3.out hb); have K4 := hid (K15.out.below hb K15.out.lt); have K5 := hid (K17.out.below hb K17.out.lt); have K6 := hid (KO.out.below hb KO.out.lt); clear hb c0 c1 c2 c3 c4 c5; obtain ⟨c0, c1, c2, c3, c4, c5⟩ := lcells6N K6.out; obtain ⟨e0, e1, e2⟩ := lcells3N K4.out; obtain ⟨g0, g1, g2⟩ := lfrozen3N K4.out)
    have K4b := hid (put3N_blk K4.out (.int .i64 0) (.int .i64 0) (.slice none 0 0))
    have B4b := hid (put3N_below (k := w.heap.size) (g := k15) B4.out (by have := HKK.out; have := HK.out; omega) (.int .i64 0) (.int .i64 0) (.slice none 0 0))
    have K5b := hid (K5.out.grown (put3N_grown w4 k15 (.int .i64 0) (.int .i64 0) (.slice none 0 0)) (by simp))
    unfold put3N at K4b B4b K5b
    obtain ⟨w5, hw5⟩ : ∃ w5, ((w4.setCell ⟨k15, 0, none⟩ (.int .i64 0)).setCell ⟨k15, 1, none⟩ (.int .i64 0)).setCell ⟨k15, 2, none⟩ (.slice none 0 0) = w5 := ⟨_, rfl⟩
    rw [hw5] at K4b B4b K5b ⊢
    clear hw5
    clear c0 c1 c2 c3 c4 c5 e0 e1 e2 g0 g1 g2
    have S0 : Hid (∀ W', Below w5.heap.size w5 W' → ((W'.cell? ⟨k15, 0, none⟩ = some (.int .i64 0) ∧ W'.cell? ⟨k15, 1, none⟩ = some (.int .i64 0) ∧ W'.cell? ⟨k15, 2, none⟩ = some (.slice none 0 0)) ∧ (W'.cell? ⟨k15 + 1, 0, none⟩ = some (.int .i64 0) ∧ W'.cell? ⟨k15 + 1, 1, none⟩ = some (.int .i64 0) ∧ W'.cell? ⟨k15 + 1, 2, none⟩ = some (.slice none 0 0)))) := hid (fun W' b => ⟨lcells3N (K4b.out.below b K4b.out.lt), lcells3N (K5b.out.below b K5b.out.lt)⟩)
    have D0 := hid (below_drew (Below.refl w5.heap.size w5))
    go_upto_region 33 with fail
    go_region_held3 (fun W' => (W'.cell? ⟨k15, 0, none⟩ = some (.int .i64 0) ∧ W'.cell? ⟨k15, 1, none⟩ = some (.int .i64 0) ∧ W'.cell? ⟨k15, 2, none⟩ = some (.slice none 0 0)) ∧ (W'.cell? ⟨k15 + 1, 0, none⟩ = some (.int .i64 0) ∧ W'.cell? ⟨k15 + 1, 1, none⟩ = some (.int .i64 0) ∧ W'.cell? ⟨k15 + 1, 2, none⟩ = some (.slice none 0 0)))
      (with_reducible exact S0.out _ D0.out)
      (first
        | (go_at_call 11; (with_reducible refine (HOf.out _).mono ?_); rintro e w6 ⟨rfl, b6⟩; have D0 := hid (below_on D0.out b6); clear b6)
        | (go_at_call 10; (with_reducible refine (HSm.out _).mono ?_); rintro e w6 ⟨rfl, b6⟩; have D0 := hid (below_on D0.out b6); clear b6))
    all_goals (
      rename_i hHeld
      clear hHeld
      go_wp2
      refine bodyPost_ret (v := .tuple #[.slice R m rc, .bool true]) (by simp [results, Try.results7, go_sem]) rfl (HB.out.stepped (below_on B4b.out D0.out))))
end Go.Proofs.Ytljnboimadhkoaa
