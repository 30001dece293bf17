/-
  The contracts of Put and Bytes (package cmd) of any command.
-/
import Derived.Test.YtohffiehmmcgbaaGreatDoorXC
import Derived.Test.YtohffiehmmcgbaaGreatDoorXKRight
import Derived.Test.YtohffiehmmcgbaaGreatDoorXA
import Derived.Deep.Cut
namespace Go.Proofs.YtohffiehmmcgbaaGreatDoor
open Go.ChangeShapes Go.WideShapes Go.ChangeAt Go.RowKit Go.Lib
set_option linter.unusedVariables false
theorem right_in (c : K) (ho : okK c) (hr : rightK c = true) : (0 ≤ c.kind ∧ c.kind ≤ 8) ∧ (0 ≤ c.mode ∧ c.mode ≤ 2) ∧ (0 ≤ c.time ∧ c.time ≤ 1099511627776) ∧ c.foot.size ≤ 64 ∧ c.path.size ≤ 64 := by
  unfold rightK at hr
  simp only [Bool.and_eq_true, decide_eq_true_eq] at hr
  obtain ⟨⟨hk, he⟩, hi⟩ := hr
  unfold isK at hk
  rw [decide_eq_true_eq] at hk
  have hl := (own_eq c).1 he
  unfold areIn at hi
  simp only [Bool.and_eq_true] at hi
  obtain ⟨⟨⟨⟨⟨i0, i1⟩, i2⟩, i3⟩, i4⟩, i5⟩ := hi
  unfold lacks at hl
  simp only [Bool.or_eq_false_iff, Bool.and_eq_false_iff, Bool.not_eq_false', decide_eq_false_iff_not, Decidable.not_not, L_nil, ne_eq] at hl
  obtain ⟨⟨⟨⟨⟨l0, l1⟩, l2⟩, l3⟩, l4⟩, l5⟩ := hl
  have size64 : ∀ s : ByteArray, right (L s) = true → s.size ≤ 64 := fun s h => by
    have := (right_iff.1 h).1
    rwa [L_length] at this
  refine ⟨by omega, ?_, ?_, ?_, ?_⟩
  · unfold in3 at i3
    simp only [Bool.or_eq_true, Bool.not_eq_true', decide_eq_true_eq] at i3
    rcases l3 with h | h
    · rcases i3 with g | g
      · rw [h] at g; cases g
      · omega
    · omega
  · unfold in5 at i5
    simp only [Bool.or_eq_true, Bool.not_eq_true', decide_eq_true_eq] at i5
    rcases l5 with h | h
    · rcases i5 with g | g
      · rw [h] at g; cases g
      · exact g
    · omega
  · unfold in0 at i0
    simp only [Bool.or_eq_true, Bool.not_eq_true'] at i0
    rcases l0 with h | h
    · rcases i0 with g | g
      · rw [h] at g; cases g
      · exact size64 _ g
    · rw [h.2]; decide
  · unfold in2 at i2
    simp only [Bool.or_eq_true, Bool.not_eq_true'] at i2
    rcases l2 with h | h
    · rcases i2 with g | g
      · rw [h] at g; cases g
      · exact size64 _ g
    · rw [h]; decide
abbrev noK : K := ⟨0, 0, ⟨#[]⟩, 0, ⟨#[]⟩, 0, 0, 0⟩
theorem OutAt.box {w : World} {base g b : Nat} {l : List Nat} {T : TypeId} {cs : Array Value} (h : OutAt w base g l) (hb : Blk w b T cs) (hT : 5 ≠ T) (hgb : g ≠ b) (i : Nat) (v : Value) : OutAt (w.setCell ⟨b, i, none⟩ v) base g l := by
  obtain ⟨h0, x, h1, h2⟩ := h
  exact ⟨h0, x, h1.far (p := ⟨b, i, none⟩) hgb v, h2.kept (only_setCell (p := ⟨b, i, none⟩) (World.grownBy.refl _ _) (.inl rfl) _) (.inr (row_ne h2 hb hT))⟩
theorem enc_len (c : K) (ho : okK c) (hr : rightK c = true) : (enc c).length ≤ 300 := by
  obtain ⟨r1, r2, r3, r4, r5⟩ := right_in c ho hr
  obtain ⟨o1, o2, o3, _⟩ := ho
  have t0 : ∀ s : ByteArray, s.size ≤ 64 → (textN s).length ≤ 74 := fun s h => by
    unfold textN
    have h1 := shortN_len10 (show s.size < 18446744073709551616 by omega)
    rw [List.length_append, bytesOfS_len]; omega
  have a0 : (e0 c).length ≤ 82 := by
    unfold e0; split
    · have := t0 _ r4; rw [List.length_append, bytesN_len]; omega
    · simp
  have a1 : (e1 c).length ≤ 10 := by unfold e1; split; exact shortN_len10 (by omega); simp
  have a2 : (e2 c).length ≤ 74 := by unfold e2; split; exact t0 _ r5; simp
  have a3 : (e3 c).length ≤ 1 := by unfold e3; split <;> simp
  have a4 : (e4 c).length ≤ 10 := by unfold e4; split; exact shortN_len10 (by omega); simp
  have a5 : (e5 c).length ≤ 10 := by unfold e5; split; exact shortN_len10 (by omega); simp
  unfold enc
  simp only [List.length_cons, List.length_append]
  omega
end Go.Proofs.YtohffiehmmcgbaaGreatDoor
namespace Go.Proofs.YtohffiehmmcgbaaGreatDoor
open Go.Lib
set_option linter.unusedVariables false
set_option linter.unusedSimpArgs false
def body (c : K) : List Nat := e0 c ++ (e1 c ++ (e2 c ++ (e3 c ++ (e4 c ++ e5 c))))
theorem enc_byteK (c : K) (ho : okK c) (hr : rightK c = true) : ∀ x ∈ enc c, x < 256 := by
  obtain ⟨r1, r2, r3, r4, r5⟩ := right_in c ho hr
  intro x hx
  unfold enc e0 e1 e2 e3 e4 e5 at hx
  simp only [List.mem_cons, List.mem_append] at hx
  rcases hx with rfl | hx | hx | hx | hx | hx | hx
  · omega
  · split at hx
    · rcases List.mem_append.1 hx with h | h
      · exact bytesN_byte 8 _ x h
      · exact textN_byte _ x h
    · cases hx
  · split at hx
    · exact shortN_byte _ x hx
    · cases hx
  · split at hx
    · exact textN_byte _ x hx
    · cases hx
  · split at hx
    · rw [List.mem_singleton.1 hx]; omega
    · cases hx
  · split at hx
    · exact shortN_byte _ x hx
    · cases hx
  · split at hx
    · exact shortN_byte _ x hx
    · cases hx
end Go.Proofs.YtohffiehmmcgbaaGreatDoor
namespace Go.Proofs.YtohffiehmmcgbaaGreatDoor
open Go.ChangeShapes Go.WideShapes Go.ChangeAt Go.RowKit
theorem InAt.put2 {w : World} {g : Nat} {l : List Nat} {e : Nat} (h : InAt w g l e) {r : Nat} (hr : g < r) (a b : Value) : InAt ((w.setCell ⟨r, 0, none⟩ a).setCell ⟨r, 1, none⟩ b) g l e :=
  h.keep (Below.setCell (p := ⟨r, 1, none⟩) (Below.setCell (p := ⟨r, 0, none⟩) (Below.refl _ _) hr _) hr _)
theorem only_put2 {a w : World} {g r : Nat} (h : a.grownBy w (some g)) (hr : a.heap.size ≤ r) (x y : Value) : a.grownBy ((w.setCell ⟨r, 0, none⟩ x).setCell ⟨r, 1, none⟩ y) (some g) :=
  only_setCell (p := ⟨r, 1, none⟩) (only_setCell (p := ⟨r, 0, none⟩) h (.inr hr) x) (.inr hr) y
def midName (l : List Nat) (e : Nat) : List Nat × Nat := if 6 < (sByte l e).2.2 then (leftE (sByte l e).2.1 12 (sByte l e).1, firstE (sByte l e).2.1 12) else ((sByte l e).1, (sByte l e).2.1)
def endName (l : List Nat) (e : Nat) : List Nat × Nat × Nat := sShort (midName l e).1 (midName l e).2 1023
def sName (l : List Nat) (e : Nat) : List Nat × Nat × Nat × Nat :=
  ((endName l e).1, (endName l e).2.1, if (endName l e).2.1 = 0 then ((sByte l e).2.2, (endName l e).2.2) else (0, 0))
def sBallot (l : List Nat) (e : Nat) : List Nat × Nat × Nat :=
  if ballotB (sShort l e 4294967295).2.2 then sShort l e 4294967295 else (leftE (sShort l e 4294967295).2.1 60 (sShort l e 4294967295).1, firstE (sShort l e 4294967295).2.1 60, 0)
theorem sByte_fine {l : List Nat} {e : Nat} (hf : Fine l e) (h8 : ∀ x ∈ l, x < 256) : Fine (sByte l e).1 (sByte l e).2.1 ∧ (∀ x ∈ (sByte l e).1, x < 256) ∧ (sByte l e).1.length ≤ l.length ∧ (sByte l e).2.2 < 256 ∧ (6 < (sByte l e).2.2 → (sByte l e).2.1 = 0) := by
  cases l with
  | nil => exact ⟨fun _ => rfl, fun x hx => by simp [sByte] at hx, Nat.le_refl _, by simp [sByte], fun h => by simp [sByte] at h⟩
  | cons b t =>
    have he := fine_zero hf (by simp)
    subst he
    exact ⟨fun h => absurd rfl h, fun x hx => h8 x (List.mem_cons_of_mem _ hx), by simp [sByte], h8 b (by simp), fun _ => rfl⟩
theorem leftE_fine {l : List Nat} {e x : Nat} (hx : 0 < x) (hf : Fine l e) : Fine (leftE e x l) (firstE e x) := fun _ => leftE_nil hx (fun h => hf h)
theorem leftE_in {l : List Nat} {e x : Nat} : ∀ y ∈ leftE e x l, y ∈ l := by
  unfold leftE; split
  · intro y hy; cases hy
  · exact fun y hy => hy
theorem leftE_len {l : List Nat} {e x : Nat} : (leftE e x l).length ≤ l.length := by
  unfold leftE; split
  · simp
  · exact Nat.le_refl _
theorem midName_fine {l : List Nat} {e : Nat} (hf : Fine l e) (h8 : ∀ x ∈ l, x < 256) : Fine (midName l e).1 (midName l e).2 ∧ (∀ x ∈ (midName l e).1, x < 256) ∧ (midName l e).1.length ≤ l.length := by
  obtain ⟨h1, h2, h3, _, _⟩ := sByte_fine hf h8
  unfold midName
  split
  · exact ⟨leftE_fine (by decide) h1, fun x hx => h2 x (leftE_in x hx), Nat.le_trans leftE_len h3⟩
  · exact ⟨h1, h2, h3⟩
set_option maxRecDepth 100000 in
set_option maxHeartbeats 400000 in
theorem takeid_as (g : Nat) (l : List Nat) (e : Nat) (l1 l2 l3 : List Nat) (e1 e2 e3 r s : Nat) (w : World) (h : InAt w g l e) (hf : Fine l e) (hb : sByte l e = (l1, e1, r)) (hr : r < 256)
    (hm : (if 6 < r then (leftE e1 12 l1, firstE e1 12) else (l1, e1)) = (l2, e2)) (hs : sShort l2 e2 1023 = (l3, e3, s)) (hf2 : Fine l2 e2) (h2 : ∀ x ∈ l2, x < 256) (hl2 : l2.length ≤ 9223372036854775807) :
    Calls Tryz.prog 90 #[.pointer (some ⟨g, 0, none⟩)] w (Turns (fun en => en = .returned (if e3 = 0 then nm r s else nm 0 0)) g l3 e3 w) := by
  have hs1 : s ≤ 1023 := by have := sShort_most (l := l2) (e := e2) (most := 1023); rw [hs] at this; exact this
  obtain ⟨x, hx⟩ : ∃ x, repB (r : Int) = x := ⟨_, rfl⟩
  have HX := hid hx
  have HI := hid h
  have hgl := h.lt
  have HI0 := hid (h.keep ((Below.refl _ _).alloc (by omega) (.cells #[.int .i64 0, .int .i64 0] 25)))
  have HF := hid hf
  have HB := hid hb
  have HS := hid hs
  have HF2 := hid hf2
  have H2 := hid h2
  have HM := hid hm
  clear hx h hf hb hs hf2 h2 hm
  go_enter Tryz.func90, Tryz.ntmps90
  go_wp2_with fail
  with_reducible refine (byte_any g l e l1 e1 r _ HI0.out HF.out HB.out).mono ?_
  rintro en w1 ⟨rfl, hi1, hg1⟩
  have HG1 := hid ((only_of_below ((Below.refl w.heap.size w).alloc (Nat.le_refl _) (.cells #[.int .i64 0, .int .i64 0] 25)) (some g)).trans hg1)
  have K1 := hid ((Blk.new w 25 #[.int .i64 0, .int .i64 0]).grown hg1 (by simp; omega))
  have HI1 := hid hi1
  clear hi1 hg1 HI0
  cases x
  · have h6 : 6 < r := by have := HX.out; unfold repB at this; rw [decide_eq_false_iff_not] at this; omega
    have hm1 : leftE e1 12 l1 = l2 ∧ firstE e1 12 = e2 := by have := HM.out; rw [if_pos h6] at this; simpa using this
    have HL := hid hm1.1
    have HE := hid hm1.2
    have h0 : e3 ≠ 0 := by
      intro h0
      have hp := firstE_pos (e := e1) (x := 12) (by decide)
      rw [hm1.2] at hp
      have hn : l2 = [] := HF2.out (by omega)
      have := HS.out
      subst hn
      unfold sShort at this
      rw [if_neg (show ¬ (readN ([] : List Nat)).2.2 = 0 by decide)] at this
      simp only [Prod.mk.injEq] at this
      have h4 := firstE_pos (e := e2) (x := (readN ([] : List Nat)).2.2) (by decide)
      omega
    clear hm1
    go_wp2_with fail
    with_reducible refine (isreplica_any r _).mono ?_
    rintro en w2 ⟨rfl, rfl⟩
    rw [HX.out]
    go_wp2_with fail
    with_reducible refine (fail_any g l1 e1 12 12 _ HI1.out rfl).mono ?_
    rw [HL.out, HE.out]
    rintro en w2 ⟨rfl, hi2, hg2⟩
    have HG2 := hid (HG1.out.trans hg2)
    have K2 := hid (K1.out.grown hg2 (by simp; omega))
    have HI2 := hid hi2
    clear hi2 hg2 HI1 K1 HG1
    go_wp2_with fail
    with_reducible refine (inshort_any g l2 e2 1023 1023 l3 e3 s _ HI2.out HF2.out H2.out hl2 rfl HS.out).mono ?_
    rintro en w3 ⟨rfl, hi3, hg3⟩
    have HG3 := hid (HG2.out.trans hg3)
    have K3 := hid (K2.out.grown hg3 (by simp; omega))
    have HI3 := hid hi3
    clear hi3 hg3 HI2 K2 HG2
    go_wp2_with fail
    with_reducible refine (failed_yes g l3 e3 _ HI3.out (by omega)).mono ?_
    rintro en w4 ⟨rfl, rfl⟩
    obtain ⟨⟨c0, c1⟩, f0, f1⟩ := blkn K3.out
    go_wp2
    refine bodyPost_ret (v := nm 0 0) (by simp [results, Tryz.results90, go_sem, c0, c1]) rfl ⟨rfl, HI3.out.put2 hgl _ _, only_put2 HG3.out (Nat.le_refl _) _ _⟩
  · have h6 : ¬ 6 < r := by have := HX.out; unfold repB at this; rw [decide_eq_true_eq] at this; omega
    have hm1 : l1 = l2 ∧ e1 = e2 := by have := HM.out; rw [if_neg h6] at this; simpa using this
    obtain ⟨rfl, rfl⟩ := hm1
    clear HM
    go_wp2_with fail
    with_reducible refine (isreplica_any r _).mono ?_
    rintro en w2 ⟨rfl, rfl⟩
    rw [HX.out]
    go_wp2_with fail
    with_reducible refine (inshort_any g l1 e1 1023 1023 l3 e3 s _ HI1.out HF2.out H2.out hl2 rfl HS.out).mono ?_
    rintro en w3 ⟨rfl, hi3, hg3⟩
    have HG3 := hid (HG1.out.trans hg3)
    have K3 := hid (K1.out.grown hg3 (by simp; omega))
    have HI3 := hid hi3
    clear hi3 hg3 HI1 K1 HG1
    by_cases h0 : e3 = 0
    · subst h0
      go_wp2_with fail
      with_reducible refine (failed_no g l3 _ HI3.out).mono ?_
      rintro en w4 ⟨rfl, rfl⟩
      obtain ⟨⟨c0, c1⟩, f0, f1⟩ := blkn K3.out
      go_wp2
      refine bodyPost_ret (v := nm r s) (by simp [results, Tryz.results90, go_sem, c0, c1]) rfl ⟨rfl, HI3.out.put2 hgl _ _, only_put2 HG3.out (Nat.le_refl _) _ _⟩
    · go_wp2_with fail
      with_reducible refine (failed_yes g l3 e3 _ HI3.out (by omega)).mono ?_
      rintro en w4 ⟨rfl, rfl⟩
      obtain ⟨⟨c0, c1⟩, f0, f1⟩ := blkn K3.out
      go_wp2
      refine bodyPost_ret (v := nm 0 0) (by simp [results, Tryz.results90, go_sem, c0, c1]) rfl ⟨rfl, HI3.out.put2 hgl _ _, only_put2 HG3.out (Nat.le_refl _) _ _⟩
theorem takeid_any (g : Nat) (l : List Nat) (e : Nat) (l' : List Nat) (e' r s : Nat) (w : World) (h : InAt w g l e) (hf : Fine l e) (h8 : ∀ x ∈ l, x < 256) (hl : l.length ≤ 9223372036854775807) (hs : sName l e = (l', e', r, s)) :
    Calls Tryz.prog 90 #[.pointer (some ⟨g, 0, none⟩)] w (Turns (fun en => en = .returned (nm r s)) g l' e' w) := by
  obtain ⟨h1, h2, h3, h4, h5⟩ := sByte_fine hf h8
  obtain ⟨m1, m2, m3⟩ := midName_fine hf h8
  have hc := takeid_as g l e (sByte l e).1 (midName l e).1 (endName l e).1 (sByte l e).2.1 (midName l e).2 (endName l e).2.1 (sByte l e).2.2 (endName l e).2.2 w h hf rfl h4 rfl rfl m1 m2 (by omega)
  unfold sName at hs
  simp only [Prod.mk.injEq] at hs
  obtain ⟨rfl, rfl, hv⟩ := hs
  refine hc.mono fun en w' hh => ⟨?_, hh.2⟩
  have h6 := hh.1
  dsimp only at h6
  rw [h6]
  split at hv <;> rename_i c
  · rw [if_pos c]; simp only [Prod.mk.injEq] at hv; rw [hv.1, hv.2]
  · rw [if_neg c]; simp only [Prod.mk.injEq] at hv; obtain ⟨rfl, rfl⟩ := hv; rfl
theorem ballot0 : ballotB 0 = true := by decide
set_option maxRecDepth 100000 in
set_option maxHeartbeats 400000 in
theorem takeballot_any (g : Nat) (l : List Nat) (e : Nat) (l' : List Nat) (e' v' : Nat) (w : World) (h : InAt w g l e) (hf : Fine l e) (h8 : ∀ x ∈ l, x < 256) (hl : l.length ≤ 9223372036854775807) (hs : sBallot l e = (l', e', v')) :
    Calls Tryz.prog 91 #[.pointer (some ⟨g, 0, none⟩)] w (Turns (fun en => en = .returned (.int .u32 (v' : Int))) g l' e' w) := by
  obtain ⟨l1, e1, v, hv⟩ : ∃ l1 e1 v, sShort l e 4294967295 = (l1, e1, v) := ⟨_, _, _, rfl⟩
  have hm : v ≤ 4294967295 := by have := sShort_most (l := l) (e := e) (most := 4294967295); rw [hv] at this; exact this
  have hbad : e1 ≠ 0 → l1 = [] ∧ v = 0 := by intro h0; have := sShort_bad (l := l) (e := e) (most := 4294967295) (by rw [hv]; exact h0) hf; rw [hv] at this; exact this
  have HI := hid h
  have HF := hid hf
  have H8 := hid h8
  have HV := hid hv
  have HBAD := hid hbad
  have HS := hid hs
  obtain ⟨x, hx⟩ : ∃ x, ballotB v = x := ⟨_, rfl⟩
  have HX := hid hx
  clear h hf h8 hv hs hx hbad
  go_enter Tryz.func91, Tryz.ntmps91
  go_wp2_with fail
  with_reducible refine (inshort_any g l e 4294967295 4294967295 l1 e1 v _ HI.out HF.out H8.out hl rfl HV.out).mono ?_
  rintro en w1 ⟨rfl, hi1, hg1⟩
  have HI1 := hid hi1
  have HG1 := hid hg1
  clear hi1 hg1
  cases x
  · have he1 : e1 = 0 := by
      rcases Decidable.em (e1 = 0) with h0 | h0
      · exact h0
      · have := (HBAD.out h0).2; subst this; have := HX.out; rw [ballot0] at this; cases this
    have hs2 : leftE e1 60 l1 = l' ∧ firstE e1 60 = e' ∧ v' = 0 := by
      have := HS.out
      unfold sBallot at this
      rw [HV.out] at this
      simp only [HX.out, Bool.false_eq_true, if_false, Prod.mk.injEq] at this
      exact ⟨this.1, this.2.1, this.2.2.symm⟩
    have HL := hid hs2.1
    have HE := hid hs2.2.1
    obtain rfl := hs2.2.2
    have hp : 0 < e' := by rw [← hs2.2.1]; exact firstE_pos (by decide)
    clear hs2 HBAD HS
    go_wp2_with fail
    with_reducible refine (ballotright_any v _ (by omega)).mono ?_
    rintro en w2 ⟨rfl, rfl⟩
    rw [HX.out]
    go_wp2_with fail
    with_reducible refine (fail_any g l1 e1 60 60 _ HI1.out rfl).mono ?_
    rw [HL.out, HE.out]
    rintro en w2 ⟨rfl, hi2, hg2⟩
    have HG2 := hid (HG1.out.trans hg2)
    have HI2 := hid hi2
    clear hi2 hg2
    go_wp2_with fail
    with_reducible refine (failed_yes g l' e' _ HI2.out hp).mono ?_
    rintro en w4 ⟨rfl, rfl⟩
    go_wp2
    go_ret
    exact ⟨rfl, HI2.out, HG2.out⟩
  · have hs2 : l1 = l' ∧ e1 = e' ∧ v = v' := by
      have := HS.out
      unfold sBallot at this
      rw [HV.out] at this
      simp only [HX.out, if_true, Prod.mk.injEq] at this
      exact this
    obtain ⟨rfl, rfl, rfl⟩ := hs2
    clear HS
    go_wp2_with fail
    with_reducible refine (ballotright_any v _ (by omega)).mono ?_
    rintro en w2 ⟨rfl, rfl⟩
    rw [HX.out]
    by_cases h0 : e1 = 0
    · subst h0
      go_wp2_with fail
      with_reducible refine (failed_no g l1 _ HI1.out).mono ?_
      rintro en w4 ⟨rfl, rfl⟩
      go_wp2
      go_ret
      exact ⟨rfl, HI1.out, HG1.out⟩
    · obtain rfl := (HBAD.out h0).2
      go_wp2_with fail
      with_reducible refine (failed_yes g l1 e1 _ HI1.out (by omega)).mono ?_
      rintro en w4 ⟨rfl, rfl⟩
      go_wp2
      go_ret
      exact ⟨rfl, HI1.out, HG1.out⟩
end Go.Proofs.YtohffiehmmcgbaaGreatDoor
namespace Go.Proofs.YtohffiehmmcgbaaGreatDoor
open Go.ChangeShapes Go.WideShapes Go.ChangeAt Go.RowKit
set_option linter.unusedVariables false
set_option linter.unusedSimpArgs false
theorem only_setRow {a w : World} {g r : Nat} {cs : Array Value} (h : a.grownBy w (some g)) (hr : a.heap.size ≤ r) : a.grownBy (w.setRow r cs) (some g) :=
  ⟨h.os, h.tape, h.output, by simpa using h.size, fun i hi hne => (setRow_other w r i cs (by omega)).trans (h.block i hi hne)⟩
theorem InAt.setRow {w : World} {g r : Nat} {l : List Nat} {e : Nat} {cs : Array Value} (h : InAt w g l e) (hr : g < r) : InAt (w.setRow r cs) g l e := h.keep (below_setRow_ (Below.refl _ _) hr)
theorem InAt.setCell {w : World} {g r i : Nat} {l : List Nat} {e : Nat} {x : Value} (h : InAt w g l e) (hr : g < r) : InAt (w.setCell ⟨r, i, none⟩ x) g l e := h.keep (Below.setCell (p := ⟨r, i, none⟩) (Below.refl _ _) hr _)
end Go.Proofs.YtohffiehmmcgbaaGreatDoor
namespace Go.Proofs.YtohffiehmmcgbaaGreatDoor
open Go.ChangeShapes Go.WideShapes Go.ChangeAt Go.RowKit
set_option linter.unusedVariables false
set_option linter.unusedSimpArgs false
def putTo (F : Nat → Nat) : Nat → List Nat
  | 0 => shortN (F 0)
  | j + 1 => putTo F j ++ shortN (F (1 + j))
def natA (f : Nat → Int) : Nat → Nat := fun i => (f i).toNat
theorem ok_nat {f : Nat → Int} (h : okB f = true) : (∀ i, i < 8 → f i = (natA f i : Int)) ∧ natA f 0 ≤ 1073741824 ∧ ∀ j, j < 7 → natA f (1 + j) ≤ 1024 := by
  obtain ⟨h0, h1⟩ := okB_iff.1 h
  refine ⟨fun i hi => ?_, by unfold natA; omega, fun j hj => by have := h1 j hj; unfold natA; rw [Nat.add_comm]; omega⟩
  unfold natA
  cases i with
  | zero => omega
  | succ i => have := h1 i (by omega); omega
theorem putTo_len {F : Nat → Nat} (h0 : F 0 ≤ 1073741824) (h : ∀ j, j < 7 → F (1 + j) ≤ 1024) : ∀ j, j ≤ 7 → (putTo F j).length ≤ 10 * (j + 1)
  | 0, _ => by unfold putTo; have := shortN_len10 (v := F 0) (by omega); omega
  | j + 1, hj => by
    have h1 := putTo_len h0 h j (by omega)
    have h2 := h j (by omega)
    have h3 := shortN_len10 (v := F (1 + j)) (by omega)
    unfold putTo
    rw [List.length_append]
    omega
theorem OutAt.drew_ {w : World} {base g : Nat} {l : List Nat} (h : OutAt w base g l) : OutAt w.drew base g l := h.later (below_drew (Below.refl _ _))
end Go.Proofs.YtohffiehmmcgbaaGreatDoor
namespace Go.Proofs.YtohffiehmmcgbaaGreatDoor
open Go.Lib
set_option linter.unusedVariables false
set_option linter.unusedSimpArgs false
theorem sName_put (a b : Nat) (r : List Nat) (ha : a < 7) (hb : b < 1024) : sName (([a] ++ shortN b) ++ r) 0 = (r, 0, a, b) := by
  have h1 : sByte (([a] ++ shortN b) ++ r) 0 = (shortN b ++ r, 0, a) := rfl
  have h2 : midName (([a] ++ shortN b) ++ r) 0 = (shortN b ++ r, 0) := by unfold midName; rw [h1, if_neg (by show ¬ 6 < a; omega)]
  have h3 : endName (([a] ++ shortN b) ++ r) 0 = (r, 0, b) := by unfold endName; rw [h2]; exact sShort_put b 1023 r (by omega) (by omega)
  unfold sName
  rw [h3, h1]
  rfl
theorem sBallot_put (v : Nat) (r : List Nat) (hv : v < 4294967296) (hb : ballotB v = true) : sBallot (shortN v ++ r) 0 = (r, 0, v) := by
  have h := sShort_put v 4294967295 r (by omega) (by omega)
  unfold sBallot
  rw [h, if_pos hb]
theorem sTruth_put (t : Bool) (r : List Nat) : sTruth ([truthN t] ++ r) 0 = (r, 0, t) := by cases t <;> rfl
def encJ (x : J) : List Nat := ((([x.r.toNat] ++ shortN x.s.toNat) ++ shortN x.bal.toNat) ++ [x.st.toNat]) ++ (if x.st = 0 then [] else ((shortN x.vote.toNat ++ [truthN x.same]) ++ enc x.c) ++ putTo (natA x.f) 7)
theorem zeroK_ok : okK zeroK := ⟨by simp, by simp, by simp, by simp, by simp, by simp⟩
theorem rightJ_in {x : J} (hok : okJ x) (hr : rightJ x = true) : ∃ a b v u t : Nat, x.r = a ∧ x.s = b ∧ x.bal = v ∧ x.vote = u ∧ x.st = t ∧ a < 7 ∧ b < 1024 ∧ v < 4294967296 ∧ ballotB v = true ∧ u < 4294967296 ∧ ballotB u = true ∧ t ≤ 3 ∧
    (t ≠ 0 → rightK x.c = true ∧ okB x.f = true) ∧ (t = 0 → x.vote = 0 ∧ x.same = false ∧ x.c = zeroK ∧ ∀ i, i < 8 → x.f i = 0) := by
  unfold rightJ at hr
  simp only [Bool.and_eq_true] at hr
  obtain ⟨⟨hn, hb⟩, hv⟩ := hr
  obtain ⟨a, b, ha, hb2, ha7, hb10, _⟩ := name_in hn
  unfold balB at hb
  by_cases h0 : x.st = 0
  · rw [if_pos h0] at hv
    unfold eqJ emptyJ at hv
    simp only [Bool.and_eq_true, beq_iff_eq, decide_eq_true_eq, eqA_iff] at hv
    obtain ⟨_, _, _, h4, h5, h6, h7⟩ := hv
    refine ⟨a, b, x.bal.toNat, 0, 0, ha, hb2, by have := hok.1; omega, h4, h0, ha7, hb10, by have := hok.1; omega, hb, by omega, by decide, by omega, fun h => absurd rfl h, fun _ => ⟨h4, h5, h6, h7⟩⟩
  · rw [if_neg h0] at hv
    unfold valB statB balB at hv
    simp only [Bool.and_eq_true, decide_eq_true_eq] at hv
    obtain ⟨hs, ⟨⟨⟨⟨hv1, hv2⟩, hv3⟩, hv4⟩, hv5⟩⟩ := hv
    unfold ownB at hv5
    simp only [Bool.and_eq_true, decide_eq_true_eq] at hv5
    refine ⟨a, b, x.bal.toNat, x.vote.toNat, x.st.toNat, ha, hb2, by have := hok.1; omega, by have := hok.2; omega, by omega, ha7, hb10, by have := hok.1; omega, hb, by have := hok.2; omega, hv1, by omega, fun _ => ⟨hv4, hv5.1.1⟩, fun h => absurd h (by omega)⟩
theorem eqJ_self (x : J) : eqJ x x = true := by
  unfold eqJ
  simp [eqA_self]
theorem eqJ_of {x y : J} (h1 : x.r = y.r) (h2 : x.s = y.s) (h3 : x.st = y.st) (h4 : x.bal = y.bal) (h5 : x.vote = y.vote) (h6 : x.same = y.same) (h7 : x.c = y.c) (h8 : eqA x.f y.f = true) : eqJ x y = true := by
  unfold eqJ
  simp [h1, h2, h3, h4, h5, h6, h7, h8]
theorem eqA_sym {f g : Nat → Int} (h : eqA f g = true) : eqA g f = true := eqA_iff.2 fun i hi => (eqA_iff.1 h i hi).symm
theorem okB_congr {f g : Nat → Int} (h : eqA f g = true) : okB f = okB g := by
  have e := eqA_iff.1 h
  rw [Bool.eq_iff_iff, okB_iff, okB_iff, e 0 (by decide)]
  constructor
  · rintro ⟨a, b⟩
    exact ⟨a, fun i hi => by rw [← e (i + 1) (by omega)]; exact b i hi⟩
  · rintro ⟨a, b⟩
    exact ⟨a, fun i hi => by rw [e (i + 1) (by omega)]; exact b i hi⟩
theorem ownB_congr {f g : Nat → Int} (h : eqA f g = true) (r s : Int) : ownB f r s = ownB g r s := by
  unfold ownB
  rw [okB_congr h]
  cases hn : nameB r s
  · simp
  · obtain ⟨a, b, rfl, rfl, ha, _, _⟩ := name_in hn
    rw [Int.toNat_natCast, eqA_iff.1 h (1 + a) (by omega)]
theorem eqA_right {f g k : Nat → Int} (h : eqA f g = true) : eqA f k = eqA g k := by
  rw [Bool.eq_iff_iff, eqA_iff, eqA_iff]
  have e := eqA_iff.1 h
  constructor
  · intro a i hi; rw [← e i hi]; exact a i hi
  · intro a i hi; rw [e i hi]; exact a i hi
theorem rightJ_att (x : J) (V : Nat → Int) (h : eqA V x.f = true) : rightJ ⟨x.r, x.s, x.st, x.bal, x.vote, x.same, x.c, V⟩ = rightJ x := by
  unfold rightJ valB eqJ emptyJ maySame
  simp only
  rw [eqA_right h, ownB_congr h]
end Go.Proofs.YtohffiehmmcgbaaGreatDoor
