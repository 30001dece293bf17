/-
  Records' frames, logs, and what is torn: as lists of numbers. No program in it.
-/
import Derived.Test.YtilocedppkmikaaSOpen
namespace Go.Proofs.Ytilocedppkmikaa
open Go.RowKit

/-- A record's frame. -/
def frameN (r : List Nat) : List Nat := shortN (r.length + 4) ++ sealed r
/-- Records' frames, one behind the other. -/
def framesN (rs : List (List Nat)) : List Nat := (rs.map frameN).flatten

theorem frameN_len (r : List Nat) : (frameN r).length = (shortN (r.length + 4)).length + (r.length + 4) := by
  unfold frameN; rw [List.length_append, sealed_len]
theorem shortN_len3 {v : Nat} (h : v ≤ 16388) : (shortN v).length ≤ 3 := shortN_len 2 v (by omega)
theorem frameN_le {r : List Nat} (h : r.length ≤ 16384) : (frameN r).length ≤ r.length + 7 := by
  rw [frameN_len]; have := shortN_len3 (v := r.length + 4) (by omega); omega
theorem frameN_ge (r : List Nat) : r.length + 5 ≤ (frameN r).length := by
  rw [frameN_len]; have := shortN_pos (r.length + 4); omega
theorem frameN_byte {r : List Nat} (h : ∀ x ∈ r, x < 256) : ∀ x ∈ frameN r, x < 256 := fun x hx => by
  unfold frameN at hx
  exact (List.mem_append.1 hx).elim (shortN_byte _ x) (sealed_byte h x)
theorem frameN_none : frameN [] = [4, 0, 0, 0, 0] := by
  have e : sealed [] = [0, 0, 0, 0] := by unfold sealed; rw [crc_none]; rfl
  unfold frameN
  rw [e, shortN_lo (by simp)]
  rfl

theorem framesN_nil : framesN [] = [] := rfl
theorem framesN_cons (r : List Nat) (rs : List (List Nat)) : framesN (r :: rs) = frameN r ++ framesN rs := by simp [framesN]
theorem framesN_append (a b : List (List Nat)) : framesN (a ++ b) = framesN a ++ framesN b := by simp [framesN]
theorem framesN_take {rs : List (List Nat)} {k : Nat} (h : k < rs.length) : framesN (rs.take (k + 1)) = framesN (rs.take k) ++ frameN rs[k] := by
  rw [List.take_succ_eq_append_getElem h, framesN_append, framesN_cons, framesN_nil, List.append_nil]
theorem framesN_split (rs : List (List Nat)) (k : Nat) : framesN rs = framesN (rs.take k) ++ framesN (rs.drop k) := by
  rw [← framesN_append, List.take_append_drop]
theorem framesN_take_len {rs : List (List Nat)} {k : Nat} (h : k < rs.length) : (framesN (rs.take (k + 1))).length = (framesN (rs.take k)).length + (frameN rs[k]).length := by
  rw [framesN_take h, List.length_append]
theorem framesN_take_le (rs : List (List Nat)) (k : Nat) : (framesN (rs.take k)).length ≤ (framesN rs).length := by
  rw [framesN_split rs k, List.length_append]; omega
theorem framesN_mono (rs : List (List Nat)) {j k : Nat} (h : j ≤ k) : (framesN (rs.take j)).length ≤ (framesN (rs.take k)).length := by
  have := framesN_take_le (rs.take k) j
  rwa [List.take_take, Nat.min_eq_left h] at this
theorem framesN_drop {rs : List (List Nat)} {k : Nat} (h : k < rs.length) : framesN (rs.drop k) = frameN rs[k] ++ framesN (rs.drop (k + 1)) := by
  rw [List.drop_eq_getElem_cons h, framesN_cons]
theorem framesN_byte {rs : List (List Nat)} (h : ∀ r ∈ rs, ∀ x ∈ r, x < 256) : ∀ x ∈ framesN rs, x < 256 := fun x hx => by
  unfold framesN at hx
  obtain ⟨f, h1, h2⟩ := List.mem_flatten.1 hx
  obtain ⟨r, h3, rfl⟩ := List.mem_map.1 h1
  exact frameN_byte (h r h3) x h2
theorem framesN_count (rs : List (List Nat)) : rs.length * 5 ≤ (framesN rs).length := by
  induction rs with
  | nil => simp
  | cons r rs ih => rw [framesN_cons, List.length_append, List.length_cons]; have := frameN_ge r; omega
theorem framesN_bound (rs : List (List Nat)) (h : ∀ r ∈ rs, r.length ≤ 16384) : (framesN rs).length ≤ rs.flatten.length + rs.length * 7 := by
  induction rs with
  | nil => simp [framesN]
  | cons r rs ih =>
    rw [framesN_cons, List.length_append, List.flatten_cons, List.length_append, List.length_cons]
    have h1 := frameN_le (h r (by simp))
    have h2 := ih (fun x hx => h x (by simp [hx]))
    omega

/-- No frame of a record stands at its beginning. -/
def Torn (l : List Nat) : Prop := ∀ (r m : List Nat), r.length ≤ 16384 → l ≠ frameN r ++ m

theorem frame_read (r m : List Nat) (h : r.length ≤ 16384) : readN (frameN r ++ m) = (r.length + 4, (shortN (r.length + 4)).length, 0) := by
  unfold frameN
  rw [List.append_assoc, readN_short _ _ (by omega)]

theorem torn_nil : Torn [] := fun r m _ h => by
  have h1 := congrArg List.length h
  rw [List.length_append] at h1
  have := frameN_ge r
  simp at h1
  omega

/-- The record of the frame at the beginning. -/
theorem frame_same {r r' m m' : List Nat} (h : r.length ≤ 16384) (h' : r'.length ≤ 16384) (e : frameN r ++ m = frameN r' ++ m') : r = r' ∧ m = m' := by
  have h1 := frame_read r m h
  rw [e, frame_read r' m' h'] at h1
  simp only [Prod.mk.injEq, Nat.add_right_cancel_iff, and_true] at h1
  have hl : (frameN r).length = (frameN r').length := by rw [frameN_len, frameN_len, h1.1]
  obtain ⟨e1, e2⟩ := List.append_inj e hl
  refine ⟨?_, e2⟩
  unfold frameN at e1
  rw [h1.1] at e1
  have e3 := List.append_cancel_left e1
  unfold sealed at e3
  exact (List.append_inj e3 h1.1.symm).1

/-- Of what is taken off there is one way. -/
theorem frames_same : ∀ (rs rs' : List (List Nat)) (m m' : List Nat), (∀ r ∈ rs, r.length ≤ 16384) → (∀ r ∈ rs', r.length ≤ 16384) → Torn m → Torn m' → framesN rs ++ m = framesN rs' ++ m' → rs = rs' ∧ m = m' := by
  intro rs
  induction rs with
  | nil =>
    intro rs' m m' _ h2 hm _ e
    cases rs' with
    | nil => exact ⟨rfl, by simpa [framesN] using e⟩
    | cons r' rs' =>
      rw [framesN_nil, List.nil_append, framesN_cons, List.append_assoc] at e
      exact absurd e (hm r' _ (h2 r' (by simp)))
  | cons r rs ih =>
    intro rs' m m' h1 h2 hm hm' e
    cases rs' with
    | nil =>
      rw [framesN_nil, List.nil_append, framesN_cons, List.append_assoc] at e
      exact absurd e.symm (hm' r _ (h1 r (by simp)))
    | cons r' rs' =>
      rw [framesN_cons, framesN_cons, List.append_assoc, List.append_assoc] at e
      obtain ⟨rfl, e2⟩ := frame_same (h1 r (by simp)) (h2 r' (by simp)) e
      obtain ⟨rfl, rfl⟩ := ih rs' m m' (fun x hx => h1 x (by simp [hx])) (fun x hx => h2 x (by simp [hx])) hm hm' e2
      exact ⟨rfl, rfl⟩

/-- Any bytes are whole frames, and what is torn. -/
theorem scan_exists : ∀ (n : Nat) (l : List Nat), l.length ≤ n → ∃ (rs : List (List Nat)) (m : List Nat), l = framesN rs ++ m ∧ (∀ r ∈ rs, r.length ≤ 16384) ∧ Torn m := by
  intro n
  induction n with
  | zero =>
    intro l h
    obtain rfl : l = [] := List.eq_nil_of_length_eq_zero (by omega)
    exact ⟨[], [], rfl, by simp, torn_nil⟩
  | succ n ih =>
    intro l h
    by_cases ht : Torn l
    · exact ⟨[], l, rfl, by simp, ht⟩
    · unfold Torn at ht
      have ⟨r, hr⟩ := Classical.not_forall.1 ht
      have ⟨m, hm⟩ := Classical.not_forall.1 hr
      have ⟨h1, h2⟩ := Classical.not_imp.1 hm
      have e := Classical.not_not.1 h2
      have hl := congrArg List.length e
      rw [List.length_append] at hl
      have hg := frameN_ge r
      obtain ⟨rs, m', e2, h3, h4⟩ := ih m (by omega)
      refine ⟨r :: rs, m', ?_, ?_, h4⟩
      · rw [e, e2, framesN_cons, List.append_assoc]
      · intro x hx
        rcases List.mem_cons.1 hx with rfl | hx
        · exact h1
        · exact h3 x hx

/-- A frame of which something lacks is torn. -/
theorem torn_cut {r m : List Nat} {c : Nat} (h : r.length ≤ 16384) (hc : c < (frameN r).length) : Torn ((frameN r ++ m).take c) := by
  intro r' m' h' e
  have hl := congrArg List.length e
  rw [List.length_take, List.length_append, List.length_append] at hl
  have e2 : frameN r ++ m = frameN r' ++ (m' ++ (frameN r ++ m).drop c) := by
    rw [← List.append_assoc, ← e, List.take_append_drop]
  obtain ⟨rfl, _⟩ := frame_same h h' e2
  omega

/-- Where a log is cut. -/
theorem tear_exists : ∀ (rs : List (List Nat)) (c : Nat), (∀ r ∈ rs, r.length ≤ 16384) → c ≤ (framesN rs).length →
    ∃ (i : Nat) (m : List Nat), i ≤ rs.length ∧ (framesN rs).take c = framesN (rs.take i) ++ m ∧ Torn m ∧ (i < rs.length → c < (framesN (rs.take (i + 1))).length) ∧ (framesN (rs.take i)).length ≤ c ∧ (framesN (rs.take i)).length + m.length = c := by
  intro rs
  induction rs with
  | nil =>
    intro c _ hc
    obtain rfl : c = 0 := by simpa [framesN] using hc
    exact ⟨0, [], by simp, rfl, torn_nil, by simp, by simp [framesN], by simp [framesN]⟩
  | cons r rs ih =>
    intro c h1 hc
    by_cases hlt : c < (frameN r).length
    · refine ⟨0, (frameN r ++ framesN rs).take c, by simp, ?_, torn_cut (h1 r (by simp)) hlt, ?_, by simp [framesN], ?_⟩
      · rw [framesN_cons]; simp [framesN]
      · intro _
        rw [Nat.zero_add, List.take_succ_cons, List.take_zero, framesN_cons, framesN_nil, List.append_nil]
        exact hlt
      · rw [List.length_take, List.length_append]; simp [framesN]; omega
    · rw [framesN_cons, List.length_append] at hc
      obtain ⟨i, m, hi, e, ht, hn, hle, heq⟩ := ih (c - (frameN r).length) (fun x hx => h1 x (by simp [hx])) (by omega)
      refine ⟨i + 1, m, by simp; omega, ?_, ht, ?_, ?_, ?_⟩
      · rw [framesN_cons, List.take_succ_cons, framesN_cons, List.take_append, List.take_of_length_le (by omega), e, List.append_assoc]
      · intro hl
        rw [List.length_cons] at hl
        have := hn (by omega)
        rw [List.take_succ_cons, framesN_cons, List.length_append]
        omega
      · rw [List.take_succ_cons, framesN_cons, List.length_append]; omega
      · rw [List.take_succ_cons, framesN_cons, List.length_append]; omega

/-- What a whole frame is, by its number and its sum. -/
theorem frame_of {l : List Nat} {v a : Nat} (h8 : ∀ x ∈ l, x < 256) (hr : readN l = (v, a, 0)) (hle : a + v ≤ l.length) (p t : List Nat) (hpt : (l.drop a).take v = p ++ t) (ht4 : t.length = 4) (ht : t = le4 (crcOf p)) :
    l = frameN p ++ l.drop (a + v) ∧ p.length + 4 = v ∧ (frameN p).length = a + v := by
  obtain ⟨ha, hal, htake, hv⟩ := readN_inv h8 hr
  have hl := congrArg List.length hpt
  rw [List.length_take, List.length_drop, List.length_append] at hl
  have hp : p.length + 4 = v := by omega
  have e : frameN p = l.take (a + v) := by
    unfold frameN sealed
    rw [hp, ← ht, ← hpt, ← htake, List.take_add]
  refine ⟨?_, hp, ?_⟩
  · rw [e, List.take_append_drop]
  · rw [frameN_len, hp, ← ha]

end Go.Proofs.Ytilocedppkmikaa
