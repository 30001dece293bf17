/-
  The law's step: Twice.
-/
import Derived.Test.YtljnboimadhkoaaNtStepT
namespace Go.Proofs.Ytljnboimadhkoaa
open Go.ChangeShapes Go.WideShapes Go.ChangeAt Go.RowKit
set_option linter.unusedVariables false
set_option linter.unusedSimpArgs false

set_option maxRecDepth 100000 in
set_option maxHeartbeats 2000000 in
theorem ntstep_twice_none (N B g : Nat) (lim : Int) (v : Value) (lp : List FrV) (rv : Value) (lr : List FrV) (o : OpN) (w : World) (h : BothN w N B g lim v lp rv lr) (h1 : o.kind = 4) (hi : hasN lr.length o.i = false) :
    Calls Try.prog 7 #[.pointer (some ⟨g, 0, none⟩), rv, .int .i64 lim, .agg (opNC o)] w (StepN N B g lim w) := by
  have HB := hid h
  have HT := hid (fun w1 (hb : Below w.heap.size w w1) => nttwice_none B g lim v lp o.i w1 (h.net.on hb) (by rw [h.len]; exact hi))
  obtain ⟨R, rc, hrv⟩ := own_shapeN h.ref.row
  have hm9 : lr.length ≤ 4096 := by rw [← h.len]; exact h.net.len
  obtain ⟨m, hmm⟩ : ∃ m, lr.length = m := ⟨_, rfl⟩
  have HM := hid hmm
  have HLp : Hid (lp.length = m) := hid (by rw [h.len, hmm])
  rw [hmm] at hrv hm9
  subst hrv
  obtain ⟨kd, i, bit, ⟨fr, to, d⟩, A, c⟩ := o
  simp only at h1 HT hi
  subst h1
  rw [HM.out] at hi
  have hi2 : ¬ (0 ≤ i ∧ i < (m : Int)) := by unfold hasN at hi; simp at hi; omega
  clear h hmm hi
  simp only [opNC]
  obtain ⟨n, hn⟩ : ∃ n, d.length = n := ⟨_, rfl⟩
  rw [hn]
  clear hn
  go_enter Try.func7, Try.ntmps7
  go_upto_region 1 with fail
  obtain ⟨W, hW⟩ : ∃ W, w.alloc (.cells #[.int .i64 4, .int .i64 i, .int .i64 bit, .int .i64 fr, .int .i64 to, .slice A n c] 34) = W := ⟨_, rfl⟩
  rw [hW]
  obtain ⟨K0, KB⟩ := lone_new hW
  obtain ⟨k, hk⟩ : ∃ k, w.heap.size = k := ⟨_, rfl⟩
  have HK := hid hk
  rw [hk] at K0 ⊢
  clear hW hk
  obtain ⟨c0, c1, c2, c3, c4, c5⟩ := lcells6N K0.out
  have HTs := hid (HT.out W KB.out)
  by_cases h0 : 0 ≤ i
  · have h2 : ¬ i < (m : Int) := by omega
    clear hi2
    go_wp2_with (go_at_call 14; (with_reducible refine HTs.out.mono ?_); rintro e w' ⟨rfl, rfl⟩)
    refine bodyPost_ret (v := .tuple #[.slice R m rc, .bool true]) (by simp [results, Try.results7, go_sem]) rfl (HB.out.stepped KB.out)
  · clear hi2
    go_wp2_with (go_at_call 14; (with_reducible refine HTs.out.mono ?_); rintro e w' ⟨rfl, rfl⟩)
    refine bodyPost_ret (v := .tuple #[.slice R m rc, .bool true]) (by simp [results, Try.results7, go_sem]) rfl (HB.out.stepped KB.out)
set_option maxRecDepth 100000 in
set_option maxHeartbeats 2000000 in
theorem ntstep_twice_full (N B g : Nat) (lim : Int) (v : Value) (lp : List FrV) (rv : Value) (lr : List FrV) (o : OpN) (w : World) (h : BothN w N B g lim v lp rv lr) (h1 : o.kind = 4) (j : Nat) (hi : o.i = j) (hj : j < lr.length) (hf : lim ≤ (lr.length : Int)) :
    Calls Try.prog 7 #[.pointer (some ⟨g, 0, none⟩), rv, .int .i64 lim, .agg (opNC o)] w (StepN N B g lim w) := by
  obtain ⟨p, hp⟩ : ∃ p, lr[j]? = some p := ⟨_, List.getElem?_eq_getElem hj⟩
  obtain ⟨u, hu⟩ := h.at_ hp
  have HB := hid h
  have HT := hid (fun w1 (hb : Below w.heap.size w w1) => nttwice_full B g lim v lp j _ o.i hi w1 (h.net.on hb) (by rw [h.len]; exact hf) hu)
  obtain ⟨R, rc, hrv⟩ := own_shapeN h.ref.row
  have hm9 : lr.length ≤ 4096 := by rw [← h.len]; exact h.net.len
  obtain ⟨m, hmm⟩ : ∃ m, lr.length = m := ⟨_, rfl⟩
  have HM := hid hmm
  have HLp : Hid (lp.length = m) := hid (by rw [h.len, hmm])
  rw [hmm] at hrv hm9
  subst hrv
  obtain ⟨kd, i, bit, ⟨fr, to, d⟩, A, c⟩ := o
  simp only at h1 HT hi
  subst h1 hi
  rw [HM.out] at hj hf
  have h0 : (0 : Int) ≤ (j : Int) := by omega
  have h2 : (j : Int) < (m : Int) := by omega
  clear h hmm hp hu
  simp only [opNC]
  obtain ⟨n, hn⟩ : ∃ n, d.length = n := ⟨_, rfl⟩
  rw [hn]
  clear hn
  go_enter Try.func7, Try.ntmps7
  go_upto_region 1 with fail
  obtain ⟨W, hW⟩ : ∃ W, w.alloc (.cells #[.int .i64 4, .int .i64 (j : Int), .int .i64 bit, .int .i64 fr, .int .i64 to, .slice A n c] 34) = W := ⟨_, rfl⟩
  rw [hW]
  obtain ⟨K0, KB⟩ := lone_new hW
  obtain ⟨k, hk⟩ : ∃ k, w.heap.size = k := ⟨_, rfl⟩
  have HK := hid hk
  rw [hk] at K0 ⊢
  clear hW hk
  obtain ⟨c0, c1, c2, c3, c4, c5⟩ := lcells6N K0.out
  have HTs := hid (HT.out W KB.out)
  go_wp2_with (go_at_call 14; (with_reducible refine HTs.out.mono ?_); rintro e w' ⟨rfl, hb⟩; have B5 := hid (below_on KB.out hb); have K5 := hid (K0.out.below hb K0.out.lt); clear hb c0 c1 c2 c3 c4 c5; obtain ⟨c0, c1, c2, c3, c4, c5⟩ := lcells6N K5.out)
  refine bodyPost_ret (v := .tuple #[.slice R m rc, .bool true]) (by simp [results, Try.results7, go_sem]) rfl (HB.out.stepped B5.out)
set_option maxRecDepth 100000 in
set_option maxHeartbeats 2000000 in
theorem ntstep_twice_ok (N B g : Nat) (lim : Int) (v : Value) (lp : List FrV) (rv : Value) (lr : List FrV) (o : OpN) (w : World) (h : BothN w N B g lim v lp rv lr) (h1 : o.kind = 4) (j : Nat) (hi : o.i = j) (hj : j < lr.length) (hf : (lr.length : Int) < lim) :
    Calls Try.prog 7 #[.pointer (some ⟨g, 0, none⟩), rv, .int .i64 lim, .agg (opNC o)] w (StepN N B g lim w) := by
  obtain ⟨p, hp⟩ : ∃ p, lr[j]? = some p := ⟨_, List.getElem?_eq_getElem hj⟩
  obtain ⟨u, hu⟩ := h.at_ hp
  have hpm := List.mem_of_getElem? hp
  have HB := hid h
  have HT := hid (fun w1 (hb : Below w.heap.size w w1) => nttwice_ok B g lim v lp j _ o.i hi w1 (h.net.on hb) (by rw [h.len]; exact hf) hu)
  obtain ⟨R, rc, hrv⟩ := own_shapeN h.ref.row
  have hm9 : lr.length ≤ 4096 := by rw [← h.len]; exact h.net.len
  obtain ⟨m, hmm⟩ : ∃ m, lr.length = m := ⟨_, rfl⟩
  have HM := hid hmm
  have HLp : Hid (lp.length = m) := hid (by rw [h.len, hmm])
  rw [hmm] at hrv hm9
  subst hrv
  obtain ⟨kd, i, bit, ⟨fr, to, d⟩, A, c⟩ := o
  simp only at h1 HT hi
  subst h1 hi
  rw [HM.out] at hj hf
  have h0 : (0 : Int) ≤ (j : Int) := by omega
  have h2 : (j : Int) < (m : Int) := by omega
  have h3 : ¬ lim ≤ (m : Int) := by omega
  have HP := hid hp
  obtain ⟨As, cs, hs1, hs2, hs3⟩ := h.ref.arg p hpm
  have HAr := hid (And.intro hs2 hs3)
  have H8 := hid (h.byte p hpm)
  have HKn := hid (h.known p hpm)
  obtain ⟨⟨f1, t1, d1⟩, s1⟩ := p
  simp only at hs1
  subst hs1
  obtain ⟨i0, hi0, hz0, hz1, hz2⟩ := info_parts info_rf
  have HI := hid (And.intro hi0 (And.intro hz0 (And.intro hz1 hz2)))
  clear h hmm hp hu hpm hs2 hs3 hi0 hz0 hz1 hz2
  simp only [opNC]
  obtain ⟨n, hn⟩ : ∃ n, d.length = n := ⟨_, rfl⟩
  rw [hn]
  clear hn
  go_enter Try.func7, Try.ntmps7
  go_upto_region 1 with fail
  obtain ⟨W, hW⟩ : ∃ W, w.alloc (.cells #[.int .i64 4, .int .i64 (j : Int), .int .i64 bit, .int .i64 fr, .int .i64 to, .slice A n c] 34) = W := ⟨_, rfl⟩
  rw [hW]
  obtain ⟨K0, KB⟩ := lone_new hW
  obtain ⟨k, hk⟩ : ∃ k, w.heap.size = k := ⟨_, rfl⟩
  have HK := hid hk
  rw [hk] at K0 ⊢
  clear hW hk
  obtain ⟨c0, c1, c2, c3, c4, c5⟩ := lcells6N K0.out
  have HTs := hid (HT.out W KB.out)
  have X4 := hid (HB.out.on KB.out)
  go_upto_region 19 with (go_at_call 14; (with_reducible refine HTs.out.mono ?_); rintro e W2 ⟨v2, u2, rfl, hN2, hT2, _, _⟩; have N2 := hid hN2; have R2 := hid (X4.out.keeps hT2 (fun i hi => .inl hi)).1; have BB := hid ((KB.out.mono HB.out.net.base_le).trans (X4.out.keeps hT2 (fun i hi => .inl hi)).2); have K2 := hid (K0.out.turns hT2 (fun e => by have hh := (HB.out.net.own (.inl e)).2; have := HK.out; omega)); clear hN2 hT2 c0 c1 c2 c3 c4 c5; obtain ⟨c0, c1, c2, c3, c4, c5⟩ := lcells6N K2.out)
  have hnone := own_nilN (by have hh := R2.out.row; rw [HM.out] at hh; exact hh)
  have HN2 : Hid (N ≤ W2.heap.size) := hid (Nat.le_trans HB.out.low N2.out.base_le)
  have HSrc : Hid (∀ W', Below W2.heap.size W2 W' → ∀ ad, R = some ad → ∀ j u, (flatN lr)[j]? = some u → W'.cell? (ad.add j) = some u) := hid (fun W' b => R2.out.src HN2.out b)
  have HFl : Hid ((flatN lr).length = m * 3) := hid (by rw [flatN_len, HM.out])
  have HOne := hid R2.out.one
  obtain ⟨b, hRb⟩ : ∃ b, R = some ⟨b, 0, none⟩ := by
    obtain ⟨b, cv', hvv, _⟩ := rowN_at R2.out.row HP.out
    injection hvv with e1
    exact ⟨b, e1⟩
  subst hRb
  have S0 : Hid (∀ W', Below W2.heap.size W2 W' → (W'.cell? ⟨k, 1, none⟩ = some (.int .i64 (j : Int)) ∧ W'.cell? ⟨b, j * 3, none⟩ = some (.int .i64 f1) ∧ W'.cell? ⟨b, j * 3 + 1, none⟩ = some (.int .i64 t1) ∧ W'.cell? ⟨b, j * 3 + 2, none⟩ = some (.slice As d1.length cs))) := hid (fun W' bb => ⟨(lcells6N (K2.out.below bb K2.out.lt)).2.1, rowN_cells (R2.out.on HN2.out bb).row HP.out⟩)
  have D0 := hid (below_drew (Below.refl W2.heap.size W2))
  have HM0 := hid (made0 (W := W2.drew) (base := W2.heap.size) (a := W2.heap.size) (s := 3) (e := 41) (Nat.le_refl _) rfl)
  have HM1 := hid (made0 (W := W2.drew.alloc (.cells #[.int .i64 f1, .int .i64 t1, .slice As d1.length cs] 41)) (base := W2.heap.size) (a := W2.heap.size + 1) (s := 3) (e := 41) (by simp) (by simp))
  go_region_held3 (fun W' => W'.cell? ⟨k, 1, none⟩ = some (.int .i64 (j : Int)) ∧ W'.cell? ⟨b, j * 3, none⟩ = some (.int .i64 f1) ∧ W'.cell? ⟨b, j * 3 + 1, none⟩ = some (.int .i64 t1) ∧ W'.cell? ⟨b, j * 3 + 2, none⟩ = some (.slice As d1.length cs))
    (with_reducible exact S0.out _ (by repeat (first | with_reducible exact D0.out | with_reducible exact Below.refl _ _ | with_reducible refine below_alloc ?_ _ | with_reducible refine below_drew ?_)))
    (first
      | (refine step_append_cellsD rfl (.tmp 105) (.tmp 106) 29 rfl W2 (by repeat (first | with_reducible exact D0.out | with_reducible exact Below.refl _ _ | with_reducible refine below_alloc ?_ _ | with_reducible refine below_drew ?_)) 41 i0 _ 3 40 Try.underlying29 HI.out.1 HI.out.2.1 HI.out.2.2.1 HI.out.2.2.2 rfl (by decide) (.slice (some ⟨W2.heap.size, 0, none⟩) 0 0) 0 [] rfl (by repeat (first | with_reducible exact O1.out | exact HM0.out | with_reducible refine World.ownsRow.alloc ?_ _ | with_reducible refine World.ownsRow.drew ?_ | with_reducible refine own_since ?_ CB.out)) (some ⟨b, 0, none⟩) m rc (flatN lr) rfl hnone HFl.out (HSrc.out _ (by repeat (first | with_reducible exact D0.out | with_reducible exact Below.refl _ _ | with_reducible refine below_alloc ?_ _ | with_reducible refine below_drew ?_))) HOne.out (by unfold maxLen; omega) (by omega) ?_
         intro v7 w7 hown hg hb
         simp only [Nat.zero_add, List.nil_append] at hown
         obtain ⟨X7, x7, rfl⟩ := own_shapeN hown
         have O1 := hid hown
         have G1 := hid hg
         have D0 := hid hb
         clear hown hg hb)
      | (refine step_append_cellsD rfl (.tmp 105) (.tmp 106) 29 rfl W2 (by repeat (first | with_reducible exact D0.out | with_reducible exact Below.refl _ _ | with_reducible refine below_alloc ?_ _ | with_reducible refine below_drew ?_)) 41 i0 _ 3 40 Try.underlying29 HI.out.1 HI.out.2.1 HI.out.2.2.1 HI.out.2.2.2 rfl (by decide) (.slice (some ⟨W2.heap.size + 1, 0, none⟩) 0 0) 0 [] rfl (by first | exact HM1.out | exact HM1.out.drew) (some ⟨b, 0, none⟩) m rc (flatN lr) rfl hnone HFl.out (HSrc.out _ (by repeat (first | with_reducible exact D0.out | with_reducible exact Below.refl _ _ | with_reducible refine below_alloc ?_ _ | with_reducible refine below_drew ?_))) HOne.out (by unfold maxLen; omega) (by omega) ?_
         intro v7 w7 hown hg hb
         simp only [Nat.zero_add, List.nil_append] at hown
         obtain ⟨X7, x7, rfl⟩ := own_shapeN hown
         have O1 := hid hown
         have G1 := hid hg
         have D0 := hid hb
         clear hown hg hb)
      | (refine step_append_cellsD rfl (.tmp 107) (.tmp 113) 29 rfl W2 (by repeat (first | with_reducible exact D0.out | with_reducible exact Below.refl _ _ | with_reducible refine below_alloc ?_ _ | with_reducible refine below_drew ?_)) 41 i0 _ 3 40 Try.underlying29 HI.out.1 HI.out.2.1 HI.out.2.2.1 HI.out.2.2.2 rfl (by decide) (.slice X7 m x7) m (flatN lr) rfl (by repeat (first | with_reducible exact O1.out | exact HM0.out | with_reducible refine World.ownsRow.alloc ?_ _ | with_reducible refine World.ownsRow.drew ?_ | with_reducible refine own_since ?_ CB.out)) (some ⟨_, 0, none⟩) 1 1 [.int .i64 f1, .int .i64 t1, .slice As d1.length cs] rfl (fun h => nomatch h) rfl (fun ad had => by injection had with had; subst had; exact blk_cells3 (t := 41) (by first | refine Blk.grown (by (first | refine Blk.drew ?_ | skip); first | exact blk_at (by simp) | exact Blk.alloc (blk_at (by simp)) _) G1.out (ne_own (by omega)) | (repeat (first | (with_reducible refine blk_at ?_; focus (simp)) | with_reducible refine Blk.alloc ?_ _ | with_reducible refine Blk.drew ?_)))) (by intro y hy; simp at hy; rcases hy with rfl | rfl | rfl <;> rfl) (by unfold maxLen; omega) (by omega) ?_
         intro v8 w8 hown hg hb
         obtain ⟨X8, x8, rfl⟩ := own_shapeN hown
         have O2 := hid hown
         have D0 := hid hb
         clear hown hg hb))
  all_goals (
    rename_i hHeld
    clear hHeld
    have HFin := hid (HB.out.more (f := ⟨f1, t1, d1⟩) BB.out N2.out R2.out D0.out (by rw [HM.out]; exact O2.out) ⟨As, cs, rfl, HAr.out.1, HAr.out.2.below (BB.out.mono HB.out.low)⟩ H8.out HKn.out)
    go_wp2
    refine bodyPost_ret (v := .tuple #[.slice X8 (m + 1) x8, .bool true]) (by simp [results, Try.results7, go_sem]) rfl HFin.out)
end Go.Proofs.Ytljnboimadhkoaa
