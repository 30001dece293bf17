/-
  Contracts of taking a name, and a ballot (package mark), off an In.
-/
import Derived.Test.YtmihfalekbgdhaaMWord
import Derived.Test.YtmihfalekbgdhaaInOps
import Derived.Test.YtmihfalekbgdhaaNew
namespace Go.Proofs.Ytmihfalekbgdhaa
open Go.ChangeShapes Go.WideShapes Go.ChangeAt Go.RowKit

theorem InAt.put2 {w : World} {g : Nat} {l : List Nat} {e : Nat} (h : InAt w g l e) {r : Nat} (hr : g < r) (a b : Value) : InAt ((w.setCell ⟨r, 0, none⟩ a).setCell ⟨r, 1, none⟩ b) g l e :=
  h.keep (Below.setCell (p := ⟨r, 1, none⟩) (Below.setCell (p := ⟨r, 0, none⟩) (Below.refl _ _) hr _) hr _)
theorem only_put2 {a w : World} {g r : Nat} (h : a.grownBy w (some g)) (hr : a.heap.size ≤ r) (x y : Value) : a.grownBy ((w.setCell ⟨r, 0, none⟩ x).setCell ⟨r, 1, none⟩ y) (some g) :=
  only_setCell (p := ⟨r, 1, none⟩) (only_setCell (p := ⟨r, 0, none⟩) h (.inr hr) x) (.inr hr) y

/-- What a taking of a name does: what is left, the error, the name. -/
def midName (l : List Nat) (e : Nat) : List Nat × Nat := if 6 < (sByte l e).2.2 then (leftE (sByte l e).2.1 12 (sByte l e).1, firstE (sByte l e).2.1 12) else ((sByte l e).1, (sByte l e).2.1)
def endName (l : List Nat) (e : Nat) : List Nat × Nat × Nat := sShort (midName l e).1 (midName l e).2 1023
def sName (l : List Nat) (e : Nat) : List Nat × Nat × Nat × Nat :=
  ((endName l e).1, (endName l e).2.1, if (endName l e).2.1 = 0 then ((sByte l e).2.2, (endName l e).2.2) else (0, 0))
/-- What a taking of a ballot does: what is left, the error, the ballot. -/
def sBallot (l : List Nat) (e : Nat) : List Nat × Nat × Nat :=
  if ballotB (sShort l e 4294967295).2.2 then sShort l e 4294967295 else (leftE (sShort l e 4294967295).2.1 60 (sShort l e 4294967295).1, firstE (sShort l e 4294967295).2.1 60, 0)

theorem sByte_fine {l : List Nat} {e : Nat} (hf : Fine l e) (h8 : ∀ x ∈ l, x < 256) : Fine (sByte l e).1 (sByte l e).2.1 ∧ (∀ x ∈ (sByte l e).1, x < 256) ∧ (sByte l e).1.length ≤ l.length ∧ (sByte l e).2.2 < 256 ∧ (6 < (sByte l e).2.2 → (sByte l e).2.1 = 0) := by
  cases l with
  | nil => exact ⟨fun _ => rfl, fun x hx => by simp [sByte] at hx, Nat.le_refl _, by simp [sByte], fun h => by simp [sByte] at h⟩
  | cons b t =>
    have he := fine_zero hf (by simp)
    subst he
    exact ⟨fun h => absurd rfl h, fun x hx => h8 x (List.mem_cons_of_mem _ hx), by simp [sByte], h8 b (by simp), fun _ => rfl⟩
theorem leftE_fine {l : List Nat} {e x : Nat} (hx : 0 < x) (hf : Fine l e) : Fine (leftE e x l) (firstE e x) := fun _ => leftE_nil hx (fun h => hf h)
theorem leftE_in {l : List Nat} {e x : Nat} : ∀ y ∈ leftE e x l, y ∈ l := by
  unfold leftE; split
  · intro y hy; cases hy
  · exact fun y hy => hy
theorem leftE_len {l : List Nat} {e x : Nat} : (leftE e x l).length ≤ l.length := by
  unfold leftE; split
  · simp
  · exact Nat.le_refl _
theorem midName_fine {l : List Nat} {e : Nat} (hf : Fine l e) (h8 : ∀ x ∈ l, x < 256) : Fine (midName l e).1 (midName l e).2 ∧ (∀ x ∈ (midName l e).1, x < 256) ∧ (midName l e).1.length ≤ l.length := by
  obtain ⟨h1, h2, h3, _, _⟩ := sByte_fine hf h8
  unfold midName
  split
  · exact ⟨leftE_fine (by decide) h1, fun x hx => h2 x (leftE_in x hx), Nat.le_trans leftE_len h3⟩
  · exact ⟨h1, h2, h3⟩
theorem sShort_fine {l : List Nat} {e most : Nat} (hf : Fine l e) : Fine (sShort l e most).1 (sShort l e most).2.1 := fun h => (sShort_bad h hf).1
theorem sName_fine {l : List Nat} {e : Nat} (hf : Fine l e) (h8 : ∀ x ∈ l, x < 256) : Fine (sName l e).1 (sName l e).2.1 ∧ (∀ x ∈ (sName l e).1, x < 256) ∧ (sName l e).1.length ≤ l.length := by
  obtain ⟨h1, h2, h3⟩ := midName_fine hf h8
  exact ⟨sShort_fine h1, fun x hx => h2 x (sShort_in x hx), Nat.le_trans sShort_len h3⟩

/-- The contracts of a taking, by what the functions tell. -/
theorem byte_is (g : Nat) (l : List Nat) (e : Nat) (w : World) (h : InAt w g l e) (hf : Fine l e) :
    Calls Try.prog 36 #[.pointer (some ⟨g, 0, none⟩)] w (Turns (fun en => en = .returned (.int .u8 ((sByte l e).2.2 : Int))) g (sByte l e).1 (sByte l e).2.1 w) :=
  byte_any g l e _ _ _ w h hf rfl
theorem short_is (g : Nat) (l : List Nat) (e most : Nat) (a : Int) (w : World) (h : InAt w g l e) (hf : Fine l e) (h8 : ∀ x ∈ l, x < 256) (hl : l.length ≤ 9223372036854775807) (ha : a = (most : Int)) :
    Calls Try.prog 38 #[.pointer (some ⟨g, 0, none⟩), .int .u64 a] w (Turns (fun en => en = .returned (.int .u64 ((sShort l e most).2.2 : Int))) g (sShort l e most).1 (sShort l e most).2.1 w) :=
  inshort_any g l e most a _ _ _ w h hf h8 hl ha rfl

set_option maxRecDepth 100000 in
set_option maxHeartbeats 400000 in
theorem takeid_as (g : Nat) (l : List Nat) (e : Nat) (l1 l2 l3 : List Nat) (e1 e2 e3 r s : Nat) (w : World) (h : InAt w g l e) (hf : Fine l e) (hb : sByte l e = (l1, e1, r)) (hr : r < 256)
    (hm : (if 6 < r then (leftE e1 12 l1, firstE e1 12) else (l1, e1)) = (l2, e2)) (hs : sShort l2 e2 1023 = (l3, e3, s)) (hf2 : Fine l2 e2) (h2 : ∀ x ∈ l2, x < 256) (hl2 : l2.length ≤ 9223372036854775807) :
    Calls Try.prog 20 #[.pointer (some ⟨g, 0, none⟩)] w (Turns (fun en => en = .returned (if e3 = 0 then nm r s else nm 0 0)) g l3 e3 w) := by
  have hs1 : s ≤ 1023 := by have := sShort_most (l := l2) (e := e2) (most := 1023); rw [hs] at this; exact this
  obtain ⟨x, hx⟩ : ∃ x, repB (r : Int) = x := ⟨_, rfl⟩
  have HX := hid hx
  have HI := hid h
  have hgl := h.lt
  have HI0 := hid (h.keep ((Below.refl _ _).alloc (by omega) (.cells #[.int .i64 0, .int .i64 0] 23)))
  have HF := hid hf
  have HB := hid hb
  have HS := hid hs
  have HF2 := hid hf2
  have H2 := hid h2
  have HM := hid hm
  clear hx h hf hb hs hf2 h2 hm
  go_enter Try.func20, Try.ntmps20
  go_wp2_with fail
  with_reducible refine (byte_any g l e l1 e1 r _ HI0.out HF.out HB.out).mono ?_
  rintro en w1 ⟨rfl, hi1, hg1⟩
  have HG1 := hid ((only_of_below ((Below.refl w.heap.size w).alloc (Nat.le_refl _) (.cells #[.int .i64 0, .int .i64 0] 23)) (some g)).trans hg1)
  have K1 := hid ((Blk.new w 23 #[.int .i64 0, .int .i64 0]).grown hg1 (by simp; omega))
  have HI1 := hid hi1
  clear hi1 hg1 HI0
  cases x
  · have h6 : 6 < r := by have := HX.out; unfold repB at this; rw [decide_eq_false_iff_not] at this; omega
    have hm1 : leftE e1 12 l1 = l2 ∧ firstE e1 12 = e2 := by have := HM.out; rw [if_pos h6] at this; simpa using this
    have HL := hid hm1.1
    have HE := hid hm1.2
    have h0 : e3 ≠ 0 := by
      intro h0
      have hp := firstE_pos (e := e1) (x := 12) (by decide)
      rw [hm1.2] at hp
      have hn : l2 = [] := HF2.out (by omega)
      have := HS.out
      subst hn
      unfold sShort at this
      rw [if_neg (show ¬ (readN ([] : List Nat)).2.2 = 0 by decide)] at this
      simp only [Prod.mk.injEq] at this
      have h4 := firstE_pos (e := e2) (x := (readN ([] : List Nat)).2.2) (by decide)
      omega
    clear hm1
    go_wp2_with fail
    with_reducible refine (isreplica_any r _).mono ?_
    rintro en w2 ⟨rfl, rfl⟩
    rw [HX.out]
    go_wp2_with fail
    with_reducible refine (fail_any g l1 e1 12 12 _ HI1.out rfl).mono ?_
    rw [HL.out, HE.out]
    rintro en w2 ⟨rfl, hi2, hg2⟩
    have HG2 := hid (HG1.out.trans hg2)
    have K2 := hid (K1.out.grown hg2 (by simp; omega))
    have HI2 := hid hi2
    clear hi2 hg2 HI1 K1 HG1
    go_wp2_with fail
    with_reducible refine (inshort_any g l2 e2 1023 1023 l3 e3 s _ HI2.out HF2.out H2.out hl2 rfl HS.out).mono ?_
    rintro en w3 ⟨rfl, hi3, hg3⟩
    have HG3 := hid (HG2.out.trans hg3)
    have K3 := hid (K2.out.grown hg3 (by simp; omega))
    have HI3 := hid hi3
    clear hi3 hg3 HI2 K2 HG2
    go_wp2_with fail
    with_reducible refine (failed_yes g l3 e3 _ HI3.out (by omega)).mono ?_
    rintro en w4 ⟨rfl, rfl⟩
    obtain ⟨⟨c0, c1⟩, f0, f1⟩ := blkn K3.out
    go_wp2
    refine bodyPost_ret (v := nm 0 0) (by simp [results, Try.results20, go_sem, c0, c1]) rfl ⟨rfl, HI3.out.put2 hgl _ _, only_put2 HG3.out (Nat.le_refl _) _ _⟩
  · have h6 : ¬ 6 < r := by have := HX.out; unfold repB at this; rw [decide_eq_true_eq] at this; omega
    have hm1 : l1 = l2 ∧ e1 = e2 := by have := HM.out; rw [if_neg h6] at this; simpa using this
    obtain ⟨rfl, rfl⟩ := hm1
    clear HM
    go_wp2_with fail
    with_reducible refine (isreplica_any r _).mono ?_
    rintro en w2 ⟨rfl, rfl⟩
    rw [HX.out]
    go_wp2_with fail
    with_reducible refine (inshort_any g l1 e1 1023 1023 l3 e3 s _ HI1.out HF2.out H2.out hl2 rfl HS.out).mono ?_
    rintro en w3 ⟨rfl, hi3, hg3⟩
    have HG3 := hid (HG1.out.trans hg3)
    have K3 := hid (K1.out.grown hg3 (by simp; omega))
    have HI3 := hid hi3
    clear hi3 hg3 HI1 K1 HG1
    by_cases h0 : e3 = 0
    · subst h0
      go_wp2_with fail
      with_reducible refine (failed_no g l3 _ HI3.out).mono ?_
      rintro en w4 ⟨rfl, rfl⟩
      obtain ⟨⟨c0, c1⟩, f0, f1⟩ := blkn K3.out
      go_wp2
      refine bodyPost_ret (v := nm r s) (by simp [results, Try.results20, go_sem, c0, c1]) rfl ⟨rfl, HI3.out.put2 hgl _ _, only_put2 HG3.out (Nat.le_refl _) _ _⟩
    · go_wp2_with fail
      with_reducible refine (failed_yes g l3 e3 _ HI3.out (by omega)).mono ?_
      rintro en w4 ⟨rfl, rfl⟩
      obtain ⟨⟨c0, c1⟩, f0, f1⟩ := blkn K3.out
      go_wp2
      refine bodyPost_ret (v := nm 0 0) (by simp [results, Try.results20, go_sem, c0, c1]) rfl ⟨rfl, HI3.out.put2 hgl _ _, only_put2 HG3.out (Nat.le_refl _) _ _⟩

theorem takeid_any (g : Nat) (l : List Nat) (e : Nat) (l' : List Nat) (e' r s : Nat) (w : World) (h : InAt w g l e) (hf : Fine l e) (h8 : ∀ x ∈ l, x < 256) (hl : l.length ≤ 9223372036854775807) (hs : sName l e = (l', e', r, s)) :
    Calls Try.prog 20 #[.pointer (some ⟨g, 0, none⟩)] w (Turns (fun en => en = .returned (nm r s)) g l' e' w) := by
  obtain ⟨h1, h2, h3, h4, h5⟩ := sByte_fine hf h8
  obtain ⟨m1, m2, m3⟩ := midName_fine hf h8
  have hc := takeid_as g l e (sByte l e).1 (midName l e).1 (endName l e).1 (sByte l e).2.1 (midName l e).2 (endName l e).2.1 (sByte l e).2.2 (endName l e).2.2 w h hf rfl h4 rfl rfl m1 m2 (by omega)
  unfold sName at hs
  simp only [Prod.mk.injEq] at hs
  obtain ⟨rfl, rfl, hv⟩ := hs
  refine hc.mono fun en w' hh => ⟨?_, hh.2⟩
  have h6 := hh.1
  dsimp only at h6
  rw [h6]
  split at hv <;> rename_i c
  · rw [if_pos c]; simp only [Prod.mk.injEq] at hv; rw [hv.1, hv.2]
  · rw [if_neg c]; simp only [Prod.mk.injEq] at hv; obtain ⟨rfl, rfl⟩ := hv; rfl

theorem ballot0 : ballotB 0 = true := by decide

set_option maxRecDepth 100000 in
set_option maxHeartbeats 400000 in
theorem takeballot_any (g : Nat) (l : List Nat) (e : Nat) (l' : List Nat) (e' v' : Nat) (w : World) (h : InAt w g l e) (hf : Fine l e) (h8 : ∀ x ∈ l, x < 256) (hl : l.length ≤ 9223372036854775807) (hs : sBallot l e = (l', e', v')) :
    Calls Try.prog 24 #[.pointer (some ⟨g, 0, none⟩)] w (Turns (fun en => en = .returned (.int .u32 (v' : Int))) g l' e' w) := by
  obtain ⟨l1, e1, v, hv⟩ : ∃ l1 e1 v, sShort l e 4294967295 = (l1, e1, v) := ⟨_, _, _, rfl⟩
  have hm : v ≤ 4294967295 := by have := sShort_most (l := l) (e := e) (most := 4294967295); rw [hv] at this; exact this
  have hbad : e1 ≠ 0 → l1 = [] ∧ v = 0 := by intro h0; have := sShort_bad (l := l) (e := e) (most := 4294967295) (by rw [hv]; exact h0) hf; rw [hv] at this; exact this
  have HI := hid h
  have HF := hid hf
  have H8 := hid h8
  have HV := hid hv
  have HBAD := hid hbad
  have HS := hid hs
  obtain ⟨x, hx⟩ : ∃ x, ballotB v = x := ⟨_, rfl⟩
  have HX := hid hx
  clear h hf h8 hv hs hx hbad
  go_enter Try.func24, Try.ntmps24
  go_wp2_with fail
  with_reducible refine (inshort_any g l e 4294967295 4294967295 l1 e1 v _ HI.out HF.out H8.out hl rfl HV.out).mono ?_
  rintro en w1 ⟨rfl, hi1, hg1⟩
  have HI1 := hid hi1
  have HG1 := hid hg1
  clear hi1 hg1
  cases x
  · have he1 : e1 = 0 := by
      rcases Decidable.em (e1 = 0) with h0 | h0
      · exact h0
      · have := (HBAD.out h0).2; subst this; have := HX.out; rw [ballot0] at this; cases this
    have hs2 : leftE e1 60 l1 = l' ∧ firstE e1 60 = e' ∧ v' = 0 := by
      have := HS.out
      unfold sBallot at this
      rw [HV.out] at this
      simp only [HX.out, Bool.false_eq_true, if_false, Prod.mk.injEq] at this
      exact ⟨this.1, this.2.1, this.2.2.symm⟩
    have HL := hid hs2.1
    have HE := hid hs2.2.1
    obtain rfl := hs2.2.2
    have hp : 0 < e' := by rw [← hs2.2.1]; exact firstE_pos (by decide)
    clear hs2 HBAD HS
    go_wp2_with fail
    with_reducible refine (ballotright_any v _ (by omega)).mono ?_
    rintro en w2 ⟨rfl, rfl⟩
    rw [HX.out]
    go_wp2_with fail
    with_reducible refine (fail_any g l1 e1 60 60 _ HI1.out rfl).mono ?_
    rw [HL.out, HE.out]
    rintro en w2 ⟨rfl, hi2, hg2⟩
    have HG2 := hid (HG1.out.trans hg2)
    have HI2 := hid hi2
    clear hi2 hg2
    go_wp2_with fail
    with_reducible refine (failed_yes g l' e' _ HI2.out hp).mono ?_
    rintro en w4 ⟨rfl, rfl⟩
    go_wp2
    go_ret
    exact ⟨rfl, HI2.out, HG2.out⟩
  · have hs2 : l1 = l' ∧ e1 = e' ∧ v = v' := by
      have := HS.out
      unfold sBallot at this
      rw [HV.out] at this
      simp only [HX.out, if_true, Prod.mk.injEq] at this
      exact this
    obtain ⟨rfl, rfl, rfl⟩ := hs2
    clear HS
    go_wp2_with fail
    with_reducible refine (ballotright_any v _ (by omega)).mono ?_
    rintro en w2 ⟨rfl, rfl⟩
    rw [HX.out]
    by_cases h0 : e1 = 0
    · subst h0
      go_wp2_with fail
      with_reducible refine (failed_no g l1 _ HI1.out).mono ?_
      rintro en w4 ⟨rfl, rfl⟩
      go_wp2
      go_ret
      exact ⟨rfl, HI1.out, HG1.out⟩
    · obtain rfl := (HBAD.out h0).2
      go_wp2_with fail
      with_reducible refine (failed_yes g l1 e1 _ HI1.out (by omega)).mono ?_
      rintro en w4 ⟨rfl, rfl⟩
      go_wp2
      go_ret
      exact ⟨rfl, HI1.out, HG1.out⟩

end Go.Proofs.Ytmihfalekbgdhaa
