/-
  What the law of entries put and taken leans on: footprints that are paths, bytes of many entries, an In beside a map that is turned.
-/
import Derived.Test.YtpdfakjopeldmaaGreatDoorZDSame
import Derived.Test.YtpdfakjopeldmaaGreatDoorZDZEq
import Derived.Test.YtpdfakjopeldmaaGreatDoorZDZEntry
import Derived.Test.YtpdfakjopeldmaaGreatDoorMgL
namespace Go.Proofs.YtpdfakjopeldmaaGreatDoor
open Go.ChangeShapes Go.WideShapes Go.ChangeAt Go.RowKit Go.Maps Go.WideMaps
set_option linter.unusedVariables false

/-- Footprints that are paths. -/
def RightL (l : List Nt) : Prop := ∀ n ∈ l, right (L n.foot) = true
theorem keyed_right {c : K} (h : keyed c = true) : right (L (keyF c)) = true := by
  unfold keyed at h
  unfold keyF
  unfold footK at *
  by_cases hc : (rightK c && h0 c.kind) = true
  · rw [if_pos hc]
    simp only [Bool.and_eq_true] at hc
    obtain ⟨hr, hk⟩ := hc
    unfold rightK areIn at hr
    simp only [Bool.and_eq_true] at hr
    obtain ⟨_, ⟨⟨⟨⟨hi0, _⟩, hi2⟩, _⟩, _⟩, _⟩ := hr
    unfold in0 at hi0
    unfold in2 at hi2
    rw [hk] at hi0
    by_cases h2' : h2 c.kind = true
    · rw [if_pos h2']
      rw [h2'] at hi2
      simpa using hi2
    · rw [if_neg h2']
      simpa using hi0
  · rw [if_neg hc] at h
    cases h
theorem noteL_right {l : List Nt} (hl : RightL l) (c : K) (r s q : Int) : RightL (noteL l c r s q) := by
  unfold noteL
  split
  · next h =>
    simp only [Bool.and_eq_true] at h
    intro n hn
    rcases List.mem_append.1 hn with hn | hn
    · exact hl n hn
    · rw [List.mem_singleton.1 hn]
      exact keyed_right h.1
  · exact hl
theorem stepL_right {l : List Nt} (hl : RightL l) (o : OpV) : RightL (stepL l o) := by
  unfold stepL
  split
  · exact noteL_right hl _ _ _ _
  · split
    · unfold addL
      split
      · next ho =>
        intro n hn
        rcases List.mem_append.1 hn with hn | hn
        · exact hl n hn
        · rw [List.mem_singleton.1 hn]
          unfold okE at ho
          rw [Bool.and_eq_true] at ho
          exact ho.1
      · exact hl
    · exact hl
theorem playL_right : ∀ (os : List OpV) {l : List Nt}, RightL l → RightL (playL l os)
  | [], _, hl => hl
  | o :: os, l, hl => playL_right os (l := stepL l o) (stepL_right hl o)
theorem RightL.nil : RightL [] := fun n h => by simp at h
/-- What is listed of fair notes may be put, and taken. -/
theorem listed_ok {l : List Nt} {ks : List KeyT} (h : EntK l ks) (hl : AllFair l) (hr : RightL l) : ∀ n ∈ ks.map (mkE l), Fair n ∧ right (L n.foot) = true := fun n hn => by
  obtain ⟨y, hy, rfl⟩ := List.mem_map.1 hn
  have ht := (h.2 y).1 hy
  refine ⟨mkE_fair hl ht, ?_⟩
  obtain ⟨nt, hm, e1, _⟩ := told_iff.1 ht
  have := hr nt hm
  rw [e1] at this
  exact this
theorem Fair.came {n : Nt} (h : Fair n) : Came n := ⟨h.2.1, h.2.2.1, h.2.2.2.1, h.2.2.2.2⟩
theorem addL_ok {l : List Nt} {n : Nt} (h : Fair n) (hr : right (L n.foot) = true) : addL l n = l ++ [n] ∧ errE n = 0 := by
  have : okE n = true := by unfold okE; rw [hr, h.1]; rfl
  constructor
  · unfold addL; rw [if_pos this]
  · unfold errE; rw [if_pos this]

/-- The bytes of entries, one behind the other. -/
def encL (l : List Nt) : List Nat := l.flatMap encN
theorem encL_byte (l : List Nt) : ∀ x ∈ encL l, x < 256 := fun x hx => by
  obtain ⟨n, _, hn⟩ := List.mem_flatMap.1 hx
  exact encN_byte n x hn
theorem encL_len : ∀ {l : List Nt}, (∀ n ∈ l, Fair n) → (encL l).length ≤ l.length * 300
  | [], _ => Nat.le_refl _
  | n :: l, h => by
    have h1 := encN_len (h n (by simp))
    have h2 := encL_len (l := l) fun m hm => h m (by simp [hm])
    simp only [encL, List.flatMap_cons, List.length_append, List.length_cons] at *
    omega
theorem encL_snoc (l : List Nt) (n : Nt) : encL (l ++ [n]) = encL l ++ encN n := by simp [encL]
theorem encL_cons (n : Nt) (l : List Nt) : encL (n :: l) = encN n ++ encL l := by simp [encL]
theorem encL_drop {l : List Nt} {j : Nat} (hj : j < l.length) : encL (l.drop j) = encN l[j] ++ encL (l.drop (j + 1)) := by rw [List.drop_eq_getElem_cons hj, encL_cons]
theorem encL_take {l : List Nt} {j : Nat} (hj : j < l.length) : encL (l.take (j + 1)) = encL (l.take j) ++ encN l[j] := by rw [List.take_succ_eq_append_getElem hj, encL_snoc]

/-- An In stands where a map is turned. -/
theorem InAt.beside {w w' : World} {g y my : Nat} {M : List Nt} {l : List Nat} {e : Nat} (h : InAt w g l e) (hy : Ix w y my M) (hg : w.grownBy w' (some my)) (hne : g ≠ my) : InAt w' g l e := by
  obtain ⟨A, c, hk, h1, h2, h3, h4⟩ := h
  refine ⟨A, c, hk.grown hg (by simp; omega), h1, h2, h3, fun j x hj => ?_⟩
  obtain ⟨b, o, hA, hb, hc⟩ := h4 j x hj
  refine ⟨b, o, hA, hb, ?_⟩
  rw [← hc]
  have hlt := hk.lt
  refine World.cell?_of_block (w := w) (hg.block b (by omega) ?_)
  intro e1
  injection e1 with e1
  subst e1
  obtain ⟨_, ⟨D, ⟨es, clock, hm, _⟩, _⟩, _⟩ := hy
  simp [World.cell?, hm] at hc
/-- A list's block, and what it holds. -/
theorem listed_at {w : World} {b : Nat} {cs : Array Value} {l : List Nt} (hb : Blk w b 41 cs) (h : ∀ (j : Nat) (v : Value), (flatN l)[j]? = some v → cs[j]? = some v) {j : Nat} (hj : j < l.length) : w.rangeAt b (j * 10) (ntC l[j]) := fun i v hv => by
  have hi : i < 10 := by have := (List.getElem?_eq_some_iff.1 hv).1; exact this
  rw [hb.cell (j * 10 + i)]
  exact h _ v (by rw [flatN_get hj hi]; exact hv)

end Go.Proofs.YtpdfakjopeldmaaGreatDoor
