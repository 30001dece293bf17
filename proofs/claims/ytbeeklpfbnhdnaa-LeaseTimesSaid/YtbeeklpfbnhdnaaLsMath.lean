/-
  Sessions and what was told in them, as lists: sorted, looked up, put in (no program).
-/
import Derived.Test.YtbeeklpfbnhdnaaEMath
namespace Go.Proofs.Ytbeeklpfbnhdnaa
open Go.ChangeShapes Go.WideShapes Go.ChangeAt Go.RowKit
set_option linter.unusedVariables false

/-- An answer. -/
structure AnL where
  e : Int
  n : Int
  g : Bool
abbrev ToldL := List (Int × AnL)
/-- A session; m: the map of its answers. -/
structure SeL where
  num : Int
  foot : ByteArray
  opn : Bool
  dead : Bool
  dl : Int
  ttl : Int
  told : ToldL
  m : Option Nat

def isKL (u : Int) (f : ByteArray) (s : SeL) : Bool := decide (s.num = u ∧ s.foot = f)
theorem isKL_iff {u : Int} {f : ByteArray} {s : SeL} : isKL u f s = true ↔ s.num = u ∧ s.foot = f := by simp [isKL]
theorem isKL_self (s : SeL) : isKL s.num s.foot s = true := isKL_iff.2 ⟨rfl, rfl⟩
def findL (l : List SeL) (u : Int) (f : ByteArray) : Option SeL := l.find? (isKL u f)
def zeroL (u : Int) (f : ByteArray) : SeL := ⟨u, f, false, false, 0, 0, [], none⟩
def getL (l : List SeL) (u : Int) (f : ByteArray) : SeL := (findL l u f).getD (zeroL u f)
theorem findL_key {l : List SeL} {u : Int} {f : ByteArray} {s : SeL} (h : findL l u f = some s) : s.num = u ∧ s.foot = f := isKL_iff.1 (List.find?_some h)
theorem findL_mem {l : List SeL} {u : Int} {f : ByteArray} {s : SeL} (h : findL l u f = some s) : s ∈ l := List.mem_of_find?_eq_some h
theorem getL_key (l : List SeL) (u : Int) (f : ByteArray) : (getL l u f).num = u ∧ (getL l u f).foot = f := by
  unfold getL
  cases h : findL l u f with
  | none => exact ⟨rfl, rfl⟩
  | some s => exact findL_key h
theorem findL_isSome {l : List SeL} {u : Int} {f : ByteArray} : (findL l u f).isSome = true ↔ ∃ s ∈ l, s.num = u ∧ s.foot = f := by
  unfold findL
  rw [List.find?_isSome]
  simp only [isKL_iff]
/-- Bytes' order. -/
def ltF (f g : ByteArray) : Bool := decide (f.data.toList < g.data.toList)
/-- Sessions' order: by number, then by footprint. -/
def ltK (u : Int) (f : ByteArray) (v : Int) (g : ByteArray) : Bool := decide (u < v) || (decide (u = v) && ltF f g)
theorem ltF_irr (f : ByteArray) : ltF f f = false := by unfold ltF; simp [List.lt_irrefl]
theorem ltK_irr (u : Int) (f : ByteArray) : ltK u f u f = false := by unfold ltK; simp [ltF_irr]
theorem ltF_trans {f g h : ByteArray} (h1 : ltF f g = true) (h2 : ltF g h = true) : ltF f h = true := by
  unfold ltF at *
  rw [decide_eq_true_eq] at *
  exact List.lt_trans h1 h2
theorem ltF_total {f g : ByteArray} (h : f ≠ g) : ltF f g = true ∨ ltF g f = true := by
  unfold ltF
  rw [decide_eq_true_eq, decide_eq_true_eq]
  have hne : f.data.toList ≠ g.data.toList := fun e => h (by cases f; cases g; simp at e; rw [e])
  rcases Decidable.em (f.data.toList < g.data.toList) with h1 | h1
  · exact .inl h1
  · rcases Decidable.em (g.data.toList < f.data.toList) with h2 | h2
    · exact .inr h2
    · exact absurd (List.le_antisymm h2 h1) hne
theorem ltK_trans {u v x : Int} {f g h : ByteArray} (h1 : ltK u f v g = true) (h2 : ltK v g x h = true) : ltK u f x h = true := by
  unfold ltK at *
  simp only [Bool.or_eq_true, Bool.and_eq_true, decide_eq_true_eq] at *
  rcases h1 with h1 | ⟨rfl, h1⟩
  · rcases h2 with h2 | ⟨rfl, h2⟩
    · left; omega
    · left; omega
  · rcases h2 with h2 | ⟨rfl, h2⟩
    · left; omega
    · right; exact ⟨rfl, ltF_trans h1 h2⟩
theorem ltK_total {u v : Int} {f g : ByteArray} (h : ¬ (u = v ∧ f = g)) : ltK u f v g = true ∨ ltK v g u f = true := by
  unfold ltK
  simp only [Bool.or_eq_true, Bool.and_eq_true, decide_eq_true_eq]
  rcases Int.lt_trichotomy u v with h1 | h1 | h1
  · exact .inl (.inl h1)
  · subst h1
    rcases ltF_total (f := f) (g := g) (fun e => h ⟨rfl, e⟩) with h2 | h2
    · exact .inl (.inr ⟨rfl, h2⟩)
    · exact .inr (.inr ⟨rfl, h2⟩)
  · exact .inr (.inl h1)
/-- A session is put in: in its place, or in its stead. -/
def putL (s : SeL) : List SeL → List SeL
  | [] => [s]
  | x :: l => if x.num = s.num ∧ x.foot = s.foot then s :: l else if ltK x.num x.foot s.num s.foot = true then x :: putL s l else s :: x :: l
theorem findL_put (s : SeL) (u : Int) (f : ByteArray) : ∀ l : List SeL, findL (putL s l) u f = if s.num = u ∧ s.foot = f then some s else findL l u f
  | [] => by
    unfold putL findL
    simp only [List.find?_cons, List.find?_nil]
    by_cases h : s.num = u ∧ s.foot = f
    · rw [if_pos h, (isKL_iff (s := s)).2 h]
    · rw [if_neg h]
      have : isKL u f s = false := by simpa [isKL] using h
      rw [this]
  | x :: l => by
    have ih := findL_put s u f l
    unfold putL
    unfold findL at *
    by_cases h : s.num = u ∧ s.foot = f
    · rw [if_pos h] at ih ⊢
      have hs : isKL u f s = true := isKL_iff.2 h
      split
      · rw [List.find?_cons, hs]
      · split
        · next h2 h3 =>
          rw [List.find?_cons]
          have : isKL u f x = false := by
            cases hx : isKL u f x
            · rfl
            · obtain ⟨a, b⟩ := isKL_iff.1 hx
              exact absurd ⟨a.trans h.1.symm, b.trans h.2.symm⟩ h2
          rw [this]
          exact ih
        · rw [List.find?_cons, hs]
    · rw [if_neg h] at ih ⊢
      have hs : isKL u f s = false := by simpa [isKL] using h
      split
      · next h2 =>
        have hx : isKL u f x = false := by
          cases hx : isKL u f x
          · rfl
          · obtain ⟨a, b⟩ := isKL_iff.1 hx
            exact absurd ⟨h2.1.symm.trans a, h2.2.symm.trans b⟩ h
        rw [List.find?_cons, List.find?_cons, hs, hx]
      · split
        · rw [List.find?_cons, List.find?_cons]
          cases isKL u f x
          · exact ih
          · rfl
        · rw [List.find?_cons, hs]
theorem mem_putL {s x : SeL} : ∀ {l : List SeL}, x ∈ putL s l → x = s ∨ x ∈ l
  | [], h => by unfold putL at h; simpa using h
  | y :: l, h => by
    unfold putL at h
    split at h
    · rcases List.mem_cons.1 h with h | h
      · exact .inl h
      · exact .inr (List.mem_cons_of_mem _ h)
    · split at h
      · rcases List.mem_cons.1 h with h | h
        · exact .inr (by rw [h]; simp)
        · rcases mem_putL h with h | h
          · exact .inl h
          · exact .inr (List.mem_cons_of_mem _ h)
      · rcases List.mem_cons.1 h with h | h
        · exact .inl h
        · exact .inr h
/-- Sessions that rise. -/
def RiseL (l : List SeL) : Prop := l.Pairwise fun a b => ltK a.num a.foot b.num b.foot = true
theorem RiseL.put {s : SeL} : ∀ {l : List SeL}, RiseL l → RiseL (putL s l)
  | [], _ => by unfold putL RiseL; simp
  | x :: l, h => by
    unfold RiseL at h
    obtain ⟨h1, h2⟩ := List.pairwise_cons.1 h
    unfold putL
    split
    · next he => exact List.pairwise_cons.2 ⟨fun y hy => by rw [← he.1, ← he.2]; exact h1 y hy, h2⟩
    · next he =>
      split
      · next hl =>
        refine List.pairwise_cons.2 ⟨fun y hy => ?_, RiseL.put h2⟩
        rcases mem_putL hy with rfl | hy
        · exact hl
        · exact h1 y hy
      · next hl =>
        have hl2 : ltK s.num s.foot x.num x.foot = true := by
          rcases ltK_total he with h3 | h3
          · exact absurd h3 hl
          · exact h3
        refine List.pairwise_cons.2 ⟨fun y hy => ?_, h⟩
        rcases List.mem_cons.1 hy with rfl | hy
        · exact hl2
        · exact ltK_trans hl2 (h1 y hy)
theorem RiseL.one {l : List SeL} (h : RiseL l) {a b : SeL} (ha : a ∈ l) (hb : b ∈ l) (hk : a.num = b.num ∧ a.foot = b.foot) : a = b := by
  induction l with
  | nil => cases ha
  | cons x l ih =>
    obtain ⟨h1, h2⟩ := List.pairwise_cons.1 h
    rcases List.mem_cons.1 ha with rfl | ha2
    · rcases List.mem_cons.1 hb with rfl | hb
      · rfl
      · have := h1 b hb
        rw [hk.1, hk.2, ltK_irr] at this
        cases this
    · rcases List.mem_cons.1 hb with rfl | hb
      · have := h1 a ha2
        rw [hk.1, hk.2, ltK_irr] at this
        cases this
      · exact ih h2 ha2 hb
theorem RiseL.find {l : List SeL} (h : RiseL l) {s : SeL} (hs : s ∈ l) : findL l s.num s.foot = some s := by
  cases hf : findL l s.num s.foot with
  | none =>
    have : (findL l s.num s.foot).isSome = true := findL_isSome.2 ⟨s, hs, rfl, rfl⟩
    rw [hf] at this; cases this
  | some t =>
    obtain ⟨a, b⟩ := findL_key hf
    rw [h.one (findL_mem hf) hs ⟨a, b⟩]

/-- How many of a footprint are open. -/
def openL (l : List SeL) (f : ByteArray) : Nat := l.countP fun s => s.opn && decide (s.foot = f)

/-- An answer, looked up; one more, put in its place. -/
def saidL (t : ToldL) (r : Int) : Option AnL := (t.find? fun p => decide (p.1 = r)).map (·.2)
def tellT (t : ToldL) (r : Int) (a : AnL) : ToldL := t.takeWhile (fun p => decide (p.1 < r)) ++ (r, a) :: t.dropWhile fun p => decide (p.1 < r)
theorem tellT_len (t : ToldL) (r : Int) (a : AnL) : (tellT t r a).length = t.length + 1 := by
  unfold tellT
  have h : (t.takeWhile (fun p => decide (p.1 < r))).length + (t.dropWhile fun p => decide (p.1 < r)).length = t.length := by
    rw [← List.length_append, List.takeWhile_append_dropWhile]
  simp only [List.length_append, List.length_cons]
  omega
theorem saidL_isSome {t : ToldL} {r : Int} : (saidL t r).isSome = true ↔ ∃ p ∈ t, p.1 = r := by
  unfold saidL
  rw [Option.isSome_map, List.find?_isSome]
  simp
theorem mem_tellT {t : ToldL} {r : Int} {a : AnL} {p : Int × AnL} : p ∈ tellT t r a ↔ p = (r, a) ∨ p ∈ t := by
  unfold tellT
  have h : p ∈ t ↔ p ∈ t.takeWhile (fun p => decide (p.1 < r)) ∨ p ∈ t.dropWhile fun p => decide (p.1 < r) := by
    rw [← List.mem_append, List.takeWhile_append_dropWhile]
  rw [h, List.mem_append, List.mem_cons]
  constructor
  · rintro (h | h | h)
    · exact .inr (.inl h)
    · exact .inl h
    · exact .inr (.inr h)
  · rintro (h | h | h)
    · exact .inr (.inl h)
    · exact .inl h
    · exact .inr (.inr h)
/-- Answers that rise. -/
def RiseT (t : ToldL) : Prop := t.Pairwise fun p q => p.1 < q.1
theorem RiseT.one {t : ToldL} (h : RiseT t) {p q : Int × AnL} (hp : p ∈ t) (hq : q ∈ t) (he : p.1 = q.1) : p = q := by
  induction t with
  | nil => cases hp
  | cons x t ih =>
    obtain ⟨h1, h2⟩ := List.pairwise_cons.1 h
    rcases List.mem_cons.1 hp with rfl | hp2
    · rcases List.mem_cons.1 hq with rfl | hq
      · rfl
      · have := h1 q hq; omega
    · rcases List.mem_cons.1 hq with rfl | hq
      · have := h1 p hp2; omega
      · exact ih h2 hp2 hq
theorem RiseT.said {t : ToldL} (h : RiseT t) {r : Int} {a : AnL} : saidL t r = some a ↔ (r, a) ∈ t := by
  unfold saidL
  constructor
  · intro h1
    obtain ⟨p, hp, rfl⟩ := Option.map_eq_some_iff.1 h1
    have h2 := List.mem_of_find?_eq_some hp
    have h3 := List.find?_some hp
    simp at h3
    subst h3
    exact h2
  · intro h1
    have h2 : (t.find? fun p => decide (p.1 = r)).isSome = true := by rw [List.find?_isSome]; exact ⟨_, h1, by simp⟩
    obtain ⟨p, hp⟩ := Option.isSome_iff_exists.1 h2
    have h3 := List.find?_some hp
    simp at h3
    rw [hp, h.one (List.mem_of_find?_eq_some hp) h1 h3]
    rfl
theorem RiseT.tell {t : ToldL} (h : RiseT t) {r : Int} (a : AnL) (hn : saidL t r = none) : RiseT (tellT t r a) := by
  have hno : ∀ p ∈ t, p.1 ≠ r := fun p hp e => by
    have : (saidL t r).isSome = true := saidL_isSome.2 ⟨p, hp, e⟩
    rw [hn] at this; cases this
  clear hn
  unfold RiseT tellT at *
  induction t with
  | nil => simp
  | cons x t ih =>
    obtain ⟨h1, h2⟩ := List.pairwise_cons.1 h
    have ih' := ih h2 (fun p hp => hno p (List.mem_cons_of_mem _ hp))
    by_cases hx : x.1 < r
    · rw [List.takeWhile_cons_of_pos (by simpa using hx), List.dropWhile_cons_of_pos (by simpa using hx), List.cons_append]
      refine List.pairwise_cons.2 ⟨fun p hp => ?_, ih'⟩
      rcases mem_tellT.1 (show p ∈ tellT t r a from hp) with rfl | hp
      · exact hx
      · exact h1 p hp
    · rw [List.takeWhile_cons_of_neg (by simpa using hx), List.dropWhile_cons_of_neg (by simpa using hx), List.nil_append]
      have hxr := hno x (by simp)
      refine List.pairwise_cons.2 ⟨fun p hp => ?_, h⟩
      rcases List.mem_cons.1 hp with rfl | hp
      · show r < p.1
        omega
      · have := h1 p hp
        show r < p.1
        omega
theorem saidL_tell {t : ToldL} (h : RiseT t) {r : Int} (a : AnL) (hn : saidL t r = none) (q : Int) : saidL (tellT t r a) q = if q = r then some a else saidL t q := by
  have h2 := h.tell a hn
  by_cases e : q = r
  · subst e
    rw [if_pos rfl]
    exact h2.said.2 (mem_tellT.2 (.inl rfl))
  · rw [if_neg e]
    cases hs : saidL t q with
    | some b => exact h2.said.2 (mem_tellT.2 (.inr (h.said.1 hs)))
    | none =>
      cases hs2 : saidL (tellT t r a) q with
      | none => rfl
      | some b =>
        rcases mem_tellT.1 (h2.said.1 hs2) with h3 | h3
        · injection h3 with h3; exact absurd h3 e
        · rw [h.said.2 h3] at hs; cases hs

end Go.Proofs.Ytbeeklpfbnhdnaa
