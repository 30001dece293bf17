/-
  The order of keys is one: lists that rise by it and hold the same are one.
-/
import Derived.Test.YtpdfakjopeldmaaGreatDoorZDCmp
import Derived.Test.YtpdfakjopeldmaaGreatDoorMgE
import Derived.Test.YtpdfakjopeldmaaGreatDoorPMathC
namespace Go.Proofs.YtpdfakjopeldmaaGreatDoor
open Go.ChangeShapes Go.WideShapes Go.ChangeAt Go.RowKit Go.Maps Go.WideMaps Go.Shelf Go.Sort
set_option linter.unusedVariables false

abbrev KeyT : Type := ByteArray × Int
instance : Inhabited KeyT := ⟨(⟨#[]⟩, 0)⟩
def cmpP (x y : KeyT) : Int := cmpK x.1 x.2 y.1 y.2

theorem intC : IsCmp Lib.compareInt := by
  constructor
  · intro a b; unfold Lib.compareInt; split
    · exact Or.inl rfl
    · split
      · exact Or.inr (Or.inr rfl)
      · exact Or.inr (Or.inl rfl)
  · intro a b; unfold Lib.compareInt; split <;> split <;> (try split) <;> omega
  · intro a b; unfold Lib.compareInt; split
    · constructor <;> intro h <;> omega
    · split <;> constructor <;> intro h <;> omega
  · intro a b c; unfold Lib.compareInt; intro h1 h2; split at h1 <;> split at h2 <;> (try split at h1) <;> (try split at h2) <;> split <;> (try split) <;> omega

theorem or_le (p q : Int) : orK p q ≤ 0 ↔ p < 0 ∨ (p = 0 ∧ q ≤ 0) := by unfold orK; split <;> constructor <;> intro h <;> omega

theorem cmpP_cmp : IsCmp cmpP := by
  have hb : ∀ a b : ByteArray, Lib.compareBytes a.data.toList b.data.toList = textC a.data.toList b.data.toList := fun a b => compareBytes_eq _ _
  have ext : ∀ a b : ByteArray, a.data.toList = b.data.toList → a = b := fun a b h => by
    cases a; cases b; simp at h; rw [h]
  constructor
  · intro x y
    unfold cmpP cmpK
    rw [hb]
    unfold orK
    split
    · exact intC.three _ _
    · exact textC_cmp.three _ _
  · intro x y
    unfold cmpP cmpK
    rw [hb, hb, textC_cmp.swap x.1.data.toList, intC.swap x.2]
    unfold orK
    by_cases h : textC x.1.data.toList y.1.data.toList = 0
    · rw [if_pos (by omega), if_pos h]
    · rw [if_neg (by omega), if_neg h]
  · intro x y
    unfold cmpP cmpK
    rw [hb]
    constructor
    · intro h
      unfold orK at h
      split at h
      · next h0 =>
        have h1 := ext _ _ ((textC_cmp.same _ _).1 h0)
        have h2 := (intC.same _ _).1 h
        exact Prod.ext h1 h2
      · next h0 => exact absurd h h0
    · rintro rfl
      unfold orK
      rw [if_pos ((textC_cmp.same _ _).2 rfl)]
      exact (intC.same _ _).2 rfl
  · intro x y z h1 h2
    unfold cmpP cmpK at *
    rw [hb] at *
    rw [or_le] at *
    have sw := textC_cmp.swap x.1.data.toList y.1.data.toList
    have sw2 := textC_cmp.swap y.1.data.toList z.1.data.toList
    have t := textC_cmp.trans x.1.data.toList y.1.data.toList z.1.data.toList
    have same1 := textC_cmp.same x.1.data.toList z.1.data.toList
    have same2 := textC_cmp.same x.1.data.toList y.1.data.toList
    have same3 := textC_cmp.same y.1.data.toList z.1.data.toList
    have t2 := intC.trans x.2 y.2 z.2
    rcases h1 with h1 | ⟨h1, h1b⟩
    · left
      have h3 : textC x.1.data.toList z.1.data.toList ≤ 0 := t (by omega) (by omega)
      rcases Int.lt_or_eq_of_le h3 with h4 | h4
      · exact h4
      · have h5 := same1.1 h4
        rw [← h5] at h2 sw2
        omega
    · rcases h2 with h2 | ⟨h2, h2b⟩
      · left
        have h5 := same2.1 h1
        rw [h5]; exact h2
      · right
        have h5 := same2.1 h1
        rw [h5]
        exact ⟨h2, t2 h1b h2b⟩

theorem cmpP_lt {x y z : KeyT} (h1 : cmpP x y < 0) (h2 : cmpP y z < 0) : cmpP x z < 0 := by
  have h3 := cmpP_cmp.trans x y z (by omega) (by omega)
  rcases Int.lt_or_eq_of_le h3 with h4 | h4
  · exact h4
  · have h5 := (cmpP_cmp.same x z).1 h4
    subst h5
    have := cmpP_cmp.swap x y
    omega
theorem cmpP_self (x : KeyT) : cmpP x x = 0 := (cmpP_cmp.same x x).2 rfl
/-- Rising by key. -/
def Rises (l : List KeyT) : Prop := l.Pairwise fun a b => cmpP a b < 0
theorem rises_ext : ∀ {a b : List KeyT}, Rises a → Rises b → (∀ x, x ∈ a ↔ x ∈ b) → a = b
  | [], [], _, _, _ => rfl
  | [], y :: b, _, _, h => absurd ((h y).2 (by simp)) (by simp)
  | x :: a, [], _, _, h => absurd ((h x).1 (by simp)) (by simp)
  | x :: a, y :: b, ha, hb, h => by
    unfold Rises at ha hb
    rw [List.pairwise_cons] at ha hb
    have e : x = y := by
      rcases List.mem_cons.1 ((h x).1 (by simp)) with h1 | h1
      · exact h1
      · rcases List.mem_cons.1 ((h y).2 (by simp)) with h2 | h2
        · exact h2.symm
        · have h3 := ha.1 y h2
          have h4 := hb.1 x h1
          have := cmpP_cmp.swap x y
          omega
    subst e
    rw [rises_ext ha.2 hb.2 fun z => ?_]
    constructor
    · intro hz
      rcases List.mem_cons.1 ((h z).1 (by simp [hz])) with h1 | h1
      · subst h1
        have := ha.1 z hz
        rw [cmpP_self] at this
        omega
      · exact h1
    · intro hz
      rcases List.mem_cons.1 ((h z).2 (by simp [hz])) with h1 | h1
      · subst h1
        have := hb.1 z hz
        rw [cmpP_self] at this
        omega
      · exact h1

/-- What is listed of a key. -/
def mkE (l : List Nt) (y : KeyT) : Nt := ⟨y.1, y.2, attOf l y.1 y.2⟩
def encE (l : List Nt) (y : KeyT) : List Value := ntC (mkE l y)

end Go.Proofs.YtpdfakjopeldmaaGreatDoor
