/-
  The walk of LeaseFull.
-/
import Derived.Test.YtbeeklpfbnhdnaaLsAnch
namespace Go.Proofs.Ytbeeklpfbnhdnaa
open Go.ChangeShapes Go.WideShapes Go.ChangeAt Go.RowKit Go.Maps Go.WideMaps
set_option linter.unusedVariables false
set_option linter.unusedSimpArgs false

theorem lsession_any (u : Int) (f : ByteArray) (w : World) : Calls Try.prog 24 #[.int .u64 u, .string f] w fun e w' => e = .returned (sesV u f) ∧ Below w.heap.size w w' := by
  go_enter Try.func24, Try.ntmps24
  go_wp2
  have E0 := hid (Blk.new w 25 #[.int .u64 u, .string f])
  have D0 : Hid (Below w.heap.size w (w.alloc (.cells #[.int .u64 u, .string f] 25))) := hid ((Below.refl _ _).alloc (Nat.le_refl _) _)
  obtain ⟨w1, hw1⟩ : ∃ w1, w.alloc (.cells #[.int .u64 u, .string f] 25) = w1 := ⟨_, rfl⟩
  rw [hw1] at E0 D0 ⊢
  obtain ⟨c0, c1⟩ := lcells2 E0.out
  refine bodyPost_ret (v := sesV u f) (by simp [results, Try.results24, go_sem, c0, c1]) rfl ⟨rfl, D0.out⟩

def mkF (u : Int) (f : ByteArray) : SeL := ⟨u, f, true, false, 2, 1, [], none⟩
/-- Behind j openings. -/
def Opened (f : ByteArray) (j : Nat) (l : List SeL) : Prop := (∀ u, findL l u f = if 0 ≤ u ∧ u < (min j 32 : Nat) then some (mkF u f) else none) ∧ openL l f = min j 32
theorem Opened.start (f : ByteArray) : Opened f 0 [] := by
  refine ⟨fun u => ?_, rfl⟩
  rw [if_neg (by omega)]
  rfl
theorem Opened.gone {f : ByteArray} {j : Nat} {l : List SeL} (h : Opened f j l) : getL l (j : Int) f = zeroL (j : Int) f := by
  unfold getL
  rw [h.1, if_neg (by omega)]
  rfl
theorem Opened.less {f : ByteArray} {j : Nat} {l : List SeL} (h : Opened f j l) (hr : RiseL l) (hj : j < 32) : openE l (zeroL (j : Int) f) = 0 ∧ Opened f (j + 1) (openB l (zeroL (j : Int) f) 1 1) := by
  have e0 : openE l (zeroL (j : Int) f) = 0 := by
    unfold openE
    rw [if_neg (by simp [zeroL]), if_neg (by simp [zeroL]), if_neg (by show ¬ 32 ≤ openL l f; rw [h.2]; omega)]
  have es : openS (zeroL (j : Int) f) 1 1 = mkF (j : Int) f := rfl
  refine ⟨e0, ?_⟩
  unfold openB
  rw [if_pos e0, es]
  refine ⟨fun u => ?_, ?_⟩
  · rw [findL_put, h.1]
    by_cases hu : (mkF (j : Int) f).num = u ∧ (mkF (j : Int) f).foot = f
    · rw [if_pos hu]
      have := hu.1
      have e : (j : Int) = u := this
      subst e
      rw [if_pos (by omega)]
    · rw [if_neg hu]
      have hne : ¬ (j : Int) = u := fun e => hu ⟨e, rfl⟩
      by_cases h2 : 0 ≤ u ∧ u < (min j 32 : Nat)
      · rw [if_pos h2, if_pos (by omega)]
      · rw [if_neg h2, if_neg (by omega)]
  · have h1 := openL_new (s := mkF (j : Int) f) hr (by show findL l (j : Int) f = Option.none; rw [h.1, if_neg (by omega)]) rfl
    have h2 : openL (putL (mkF (j : Int) f) l) f = openL l f + 1 := h1
    rw [h2, h.2]
    omega
theorem Opened.more {f : ByteArray} {j : Nat} {l : List SeL} (h : Opened f j l) (hj : ¬ j < 32) : openE l (zeroL (j : Int) f) = 14 ∧ Opened f (j + 1) (openB l (zeroL (j : Int) f) 1 1) := by
  have e0 : openE l (zeroL (j : Int) f) = 14 := by
    unfold openE
    rw [if_neg (by simp [zeroL]), if_neg (by simp [zeroL]), if_pos (by show 32 ≤ openL l f; rw [h.2]; omega)]
  refine ⟨e0, ?_⟩
  unfold openB
  rw [if_neg (by rw [e0]; decide)]
  refine ⟨fun u => ?_, by rw [h.2]; omega⟩
  rw [h.1, show min (j + 1) 32 = min j 32 by omega]
/-- Behind j answers. -/
def ToldF (f : ByteArray) (j : Nat) (l : List SeL) : Prop :=
  ∃ t m, t.length = min j 256 ∧ (∀ r : Int, (j : Int) ≤ r → saidL t r = none) ∧ getL l 0 f = ⟨0, f, true, false, 2, 1, t, m⟩ ∧ (findL l 0 f).isSome = true ∧ (∀ u, u ≠ 0 → findL l u f = if 0 ≤ u ∧ u < 32 then some (mkF u f) else none) ∧ openL l f = 32
theorem Opened.told {f : ByteArray} {j : Nat} {l : List SeL} (h : Opened f j l) (hj : 32 ≤ j) : ToldF f 0 l := by
  have e : min j 32 = 32 := by omega
  obtain ⟨h1, h2⟩ := h
  rw [e] at h1 h2
  refine ⟨[], none, rfl, fun _ _ => rfl, ?_, ?_, fun u hu => ?_, h2⟩
  · unfold getL; rw [h1, if_pos (by omega)]; rfl
  · rw [h1, if_pos (by omega)]; rfl
  · rw [h1]; rfl
theorem ToldF.step {f : ByteArray} {j : Nat} {l l' : List SeL} {a : AnL} (h : ToldF f j l) (hr : RiseL l)
    (hl : (¬ tellP (getL l 0 f) j ∧ l' = l) ∨ (tellP (getL l 0 f) j ∧ ∃ p, l' = putL (tellS (getL l 0 f) j a p) l)) (ht : RiseT (getL l 0 f).told) : ToldF f (j + 1) l' := by
  obtain ⟨t, m, h1, h2, h3, h4, h5, h6⟩ := h
  rw [h3] at hl ht
  rcases hl with ⟨hn, rfl⟩ | ⟨hp, p, rfl⟩
  · have h256 : ¬ j < 256 := fun hj => hn ⟨h2 _ (Int.le_refl _), by show t.length < 256; omega⟩
    exact ⟨t, m, by omega, fun r hr => h2 r (by omega), h3, h4, h5, h6⟩
  · have hp2 : t.length < 256 := hp.2
    obtain ⟨x, hx⟩ := Option.isSome_iff_exists.1 h4
    have hx' : x = ⟨0, f, true, false, 2, 1, t, m⟩ := by
      unfold getL at h3
      rw [hx] at h3
      exact h3
    refine ⟨tellT t j a, some p, by rw [tellT_len]; omega, fun r hr2 => ?_, ?_, ?_, fun u hu => ?_, ?_⟩
    · rw [saidL_tell ht a hp.1, if_neg (by omega)]
      exact h2 r (by omega)
    · exact getL_put_self _ _ ⟨rfl, rfl⟩
    · rw [findL_put, if_pos ⟨rfl, rfl⟩]; rfl
    · rw [findL_put, if_neg (fun e => hu e.1.symm)]
      exact h5 u hu
    · rw [openL_same (s := tellS ⟨0, f, true, false, 2, 1, t, m⟩ j a p) hr hx (by rw [hx']; rfl)]
      exact h6
theorem ToldF.served {f : ByteArray} {j : Nat} {l : List SeL} (h : ToldF f j l) (hj : 256 ≤ j) : (getL l 0 f).told.length = 256 ∧ roomL (getL l 0 f) = false ∧ roomL (getL l 1 f) = true := by
  obtain ⟨t, m, h1, h2, h3, h4, h5, h6⟩ := h
  refine ⟨by rw [h3]; show t.length = 256; omega, by rw [h3]; unfold roomL; show decide (t.length < 256) = false; rw [decide_eq_false_iff_not]; omega, ?_⟩
  unfold getL
  rw [h5 1 (by decide), if_pos (by omega)]
  rfl
/-- The last three calls. -/
theorem ToldF.fin {f : ByteArray} {j : Nat} {l : List SeL} (h : ToldF f j l) (hr : RiseL l) :
    endE l (getL l 0 f) = 0 ∧ (let l1 := endB l (getL l 0 f); openE l1 (getL l1 1099511627776 f) = 0 ∧ (let l2 := openB l1 (getL l1 1099511627776 f) 1 1; openE l2 (getL l2 2199023255552 f) = 14)) := by
  obtain ⟨t, m, h1, h2, h3, h4, h5, h6⟩ := h
  obtain ⟨x, hx⟩ := Option.isSome_iff_exists.1 h4
  have hx' : x = ⟨0, f, true, false, 2, 1, t, m⟩ := by
    unfold getL at h3
    rw [hx] at h3
    exact h3
  have e1 : endE l (getL l 0 f) = 0 := by rw [h3]; rfl
  refine ⟨e1, ?_⟩
  have eb : endB l (getL l 0 f) = putL (endS (getL l 0 f)) l := by unfold endB; rw [if_pos (by rw [h3])]
  rw [eb, h3]
  show openE (putL (endS ⟨0, f, true, false, 2, 1, t, m⟩) l) _ = 0 ∧ openE (openB (putL (endS ⟨0, f, true, false, 2, 1, t, m⟩) l) _ 1 1) _ = 14
  have g1 : getL (putL (endS ⟨0, f, true, false, 2, 1, t, m⟩) l) 1099511627776 f = zeroL 1099511627776 f := by
    rw [getL_put_other _ _ (fun e => by have := e.1; simp [endS] at this)]
    unfold getL
    rw [h5 _ (by decide), if_neg (by omega)]
    rfl
  have o1 : openL (putL (endS ⟨0, f, true, false, 2, 1, t, m⟩) l) f + 1 = openL l f := openL_less (s := endS ⟨0, f, true, false, 2, 1, t, m⟩) hr hx (by rw [hx']) rfl
  have r1 : RiseL (putL (endS ⟨0, f, true, false, 2, 1, t, m⟩) l) := hr.put
  have e2 : openE (putL (endS ⟨0, f, true, false, 2, 1, t, m⟩) l) (zeroL 1099511627776 f) = 0 := by
    unfold openE
    rw [if_neg (by simp [zeroL]), if_neg (by simp [zeroL]), if_neg (by show ¬ 32 ≤ openL _ f; omega)]
  rw [g1]
  refine ⟨e2, ?_⟩
  unfold openB
  rw [if_pos e2]
  have n1 : findL (putL (endS ⟨0, f, true, false, 2, 1, t, m⟩) l) 1099511627776 f = none := by
    rw [findL_put, if_neg (fun e => by have := e.1; simp [endS] at this), h5 _ (by decide), if_neg (by omega)]
  have o2 : openL (putL (openS (zeroL 1099511627776 f) 1 1) (putL (endS ⟨0, f, true, false, 2, 1, t, m⟩) l)) f = openL (putL (endS ⟨0, f, true, false, 2, 1, t, m⟩) l) f + 1 :=
    openL_new (s := openS (zeroL 1099511627776 f) 1 1) r1 n1 rfl
  have g2 : getL (putL (openS (zeroL 1099511627776 f) 1 1) (putL (endS ⟨0, f, true, false, 2, 1, t, m⟩) l)) 2199023255552 f = zeroL 2199023255552 f := by
    rw [getL_put_other _ _ (fun e => by have := e.1; simp [openS, zeroL] at this), getL_put_other _ _ (fun e => by have := e.1; simp [endS] at this)]
    unfold getL
    rw [h5 _ (by decide), if_neg (by omega)]
    rfl
  rw [g2]
  unfold openE
  rw [if_neg (by simp [zeroL]), if_neg (by simp [zeroL]), if_pos (by show 32 ≤ openL _ f; omega)]

end Go.Proofs.Ytbeeklpfbnhdnaa
