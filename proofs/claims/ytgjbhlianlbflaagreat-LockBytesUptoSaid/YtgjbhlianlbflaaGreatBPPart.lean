/-
  A part's bytes: contracts of path.isPartRune, isPart, isPatternPart and moothillref04.letter.
-/
import Derived.Test.YtgjbhlianlbflaaGreatRows
import Derived.Test.YtgjbhlianlbflaaGreatBFrame
import Derived.Test.YtgjbhlianlbflaaGreatBPMath
import Derived.WalkKit
import Derived.WalkSpells
import Derived.WalkLawsBesides
import Derived.Laws.RangeAny
import Derived.LoopTactic
namespace Go.Proofs.YtgjbhlianlbflaaGreat
open Go.ChangeShapes Go.WideShapes Go.ChangeAt Go.RowKit
def L (s : ByteArray) : List UInt8 := s.data.toList
theorem L_length (s : ByteArray) : (L s).length = s.size := Array.length_toList
theorem L_inj {s t : ByteArray} : L s = L t ↔ s = t := by
  constructor
  · intro h
    cases s; cases t
    simp only [L] at h
    congr 1
    exact Array.ext' h
  · rintro rfl; rfl
theorem L_get (s : ByteArray) (k : Nat) (h : k < s.size) : (L s)[k]'(by rw [L_length]; exact h) = s[k] := rfl
def letterI (c : Int) : Bool := decide (97 ≤ c ∧ c ≤ 122 ∨ 48 ≤ c ∧ c ≤ 57 ∨ c = 45 ∨ c = 95)
theorem letterI_u8 (c : UInt8) : letterI (c.toNat : Int) = letter c := by
  rw [Bool.eq_iff_iff]
  simp only [letterI, letter, decide_eq_true_eq, Bool.or_eq_true, Bool.and_eq_true, beq_iff_eq, UInt8.le_iff_toNat_le, ← UInt8.toNat_inj]
  simp only [UInt8.reduceToNat]
  omega
theorem letterI_high {c : Int} (h : 128 ≤ c) : letterI c = false := by
  unfold letterI
  rw [decide_eq_false_iff_not]
  omega
set_option maxHeartbeats 400000 in
theorem rune_any (c : Int) (w : World) : Calls Tryz.prog 96 #[.int .i32 c] w fun e w' => e = .returned (.bool (letterI c)) ∧ w = w' := by
  by_cases h1 : 97 ≤ c ∧ c ≤ 122
  · obtain ⟨h1, h2⟩ := h1
    have hh : letterI c = true := by unfold letterI; rw [decide_eq_true_iff]; omega
    have H := hid hh
    clear hh
    go_enter Tryz.func96, Tryz.ntmps96
    go_wp2
    go_ret
    exact ⟨ret_bool H.out.symm, rfl⟩
  · have hs : ((decide (97 ≤ c)) = true ∧ decide (c ≤ 122) = false) ∨ decide (97 ≤ c) = false := by
      by_cases h : 97 ≤ c
      · exact .inl ⟨by simpa using h, by simp; omega⟩
      · exact .inr (by simp; omega)
    by_cases h2 : 48 ≤ c ∧ c ≤ 57
    · obtain ⟨h2, h3⟩ := h2
      have hh : letterI c = true := by unfold letterI; rw [decide_eq_true_iff]; omega
      have H := hid hh
      clear hh
      have hs : decide (97 ≤ c) = false := by simp; omega
      go_enter Tryz.func96, Tryz.ntmps96
      go_wp2
      go_ret
      exact ⟨ret_bool H.out.symm, rfl⟩
    · have ht : (decide (48 ≤ c) = true ∧ decide (c ≤ 57) = false) ∨ decide (48 ≤ c) = false := by
        by_cases h : 48 ≤ c
        · exact .inl ⟨by simpa using h, by simp; omega⟩
        · exact .inr (by simp; omega)
      by_cases h4 : c = 45
      · subst h4
        go_enter Tryz.func96, Tryz.ntmps96
        go_wp2
        go_ret
        exact ⟨rfl, rfl⟩
      · by_cases h5 : c = 95
        · subst h5
          go_enter Tryz.func96, Tryz.ntmps96
          go_wp2
          go_ret
          exact ⟨rfl, rfl⟩
        · have hh : letterI c = false := by unfold letterI; rw [decide_eq_false_iff_not]; omega
          have H := hid hh
          have e4 : (c == 45) = false := by simpa using h4
          have e5 : (c == 95) = false := by simpa using h5
          clear hh h1 h2 h4 h5
          rcases hs with ⟨a1, a2⟩ | a1 <;> rcases ht with ⟨b1, b2⟩ | b1
          all_goals
            go_enter Tryz.func96, Tryz.ntmps96
            go_wp2
            go_ret
            exact ⟨ret_bool H.out.symm, rfl⟩
set_option maxHeartbeats 400000 in
theorem letter_any (c : Int) (w : World) : Calls Tryz.prog 142 #[.int .u8 c] w fun e w' => e = .returned (.bool (letterI c)) ∧ w = w' := by
  by_cases h1 : 97 ≤ c ∧ c ≤ 122
  · obtain ⟨h1, h2⟩ := h1
    have hh : letterI c = true := by unfold letterI; rw [decide_eq_true_iff]; omega
    have H := hid hh
    clear hh
    go_enter Tryz.func142, Tryz.ntmps142
    go_wp2
    go_ret
    exact ⟨ret_bool H.out.symm, rfl⟩
  · have hs : ((decide (97 ≤ c)) = true ∧ decide (c ≤ 122) = false) ∨ decide (97 ≤ c) = false := by
      by_cases h : 97 ≤ c
      · exact .inl ⟨by simpa using h, by simp; omega⟩
      · exact .inr (by simp; omega)
    by_cases h2 : 48 ≤ c ∧ c ≤ 57
    · obtain ⟨h2, h3⟩ := h2
      have hh : letterI c = true := by unfold letterI; rw [decide_eq_true_iff]; omega
      have H := hid hh
      clear hh
      have hs : decide (97 ≤ c) = false := by simp; omega
      go_enter Tryz.func142, Tryz.ntmps142
      go_wp2
      go_ret
      exact ⟨ret_bool H.out.symm, rfl⟩
    · have ht : (decide (48 ≤ c) = true ∧ decide (c ≤ 57) = false) ∨ decide (48 ≤ c) = false := by
        by_cases h : 48 ≤ c
        · exact .inl ⟨by simpa using h, by simp; omega⟩
        · exact .inr (by simp; omega)
      by_cases h4 : c = 45
      · subst h4
        go_enter Tryz.func142, Tryz.ntmps142
        go_wp2
        go_ret
        exact ⟨rfl, rfl⟩
      · by_cases h5 : c = 95
        · subst h5
          go_enter Tryz.func142, Tryz.ntmps142
          go_wp2
          go_ret
          exact ⟨rfl, rfl⟩
        · have hh : letterI c = false := by unfold letterI; rw [decide_eq_false_iff_not]; omega
          have H := hid hh
          have e4 : (c == 45) = false := by simpa using h4
          have e5 : (c == 95) = false := by simpa using h5
          clear hh h1 h2 h4 h5
          rcases hs with ⟨a1, a2⟩ | a1 <;> rcases ht with ⟨b1, b2⟩ | b1
          all_goals
            go_enter Tryz.func142, Tryz.ntmps142
            go_wp2
            go_ret
            exact ⟨ret_bool H.out.symm, rfl⟩
theorem isPart_fail {s : ByteArray} {pos : Nat} (h : pos < s.size) (hl : letter (s[pos]'h) = false) : isPart (L s) = false := by
  rw [← Bool.not_eq_true, isPart_iff]
  rintro ⟨_, h2⟩
  have := List.all_eq_true.1 h2 (s[pos]'h) (by rw [← L_get s pos h]; exact List.getElem_mem _)
  rw [hl] at this; cases this
theorem rune_letter (s : ByteArray) (pos : Nat) (h : pos < s.size) :
    letterI ((Utf8.decode s pos).1 : Int) = letter (s[pos]'h) ∧ (letter (s[pos]'h) = true → (Utf8.decode s pos).2 = 1) := by
  by_cases ha : (s[pos]'h).toNat < 128
  · rw [decode_ascii s pos h ha]
    exact ⟨letterI_u8 _, fun _ => rfl⟩
  · have h1 := decode_high s pos h (by omega)
    have h2 : letter (s[pos]'h) = false := by
      rw [← letterI_u8]
      exact letterI_high (by omega)
    rw [h2, letterI_high (by omega)]
    exact ⟨rfl, fun h => (by cases h)⟩
theorem isPart_all {s : ByteArray} (h : ∀ (j : Nat) (hj : j < s.size), letter (s[j]'hj) = true) : isPart (L s) = !(L s).isEmpty := by
  have : (L s).all letter = true := by
    rw [List.all_eq_true]
    intro x hx
    obtain ⟨j, hj, rfl⟩ := List.getElem_of_mem hx
    rw [L_length] at hj
    exact h j hj
  rw [isPart, this, Bool.and_true]
def IsIter (s : ByteArray) (w w' : World) : Prop := ∃ pos, w' = w.iter s pos
theorem IsIter.below {s : ByteArray} {w w' : World} (h : IsIter s w w') : Below w.heap.size w w' := by
  obtain ⟨pos, rfl⟩ := h
  exact (Below.refl _ _).alloc (Nat.le_refl _) _
set_option maxRecDepth 1000000 in
set_option maxHeartbeats 400000 in
theorem part_iter (s : ByteArray) (w : World) :
    Calls Tryz.prog 71 #[.string s] w fun e w' => e = .returned (.bool (isPart (L s))) ∧ IsIter s w w' := by
  go_enter Tryz.func71, Tryz.ntmps71
  go_wp2
  go_loopw [4] (fun _ w' => ∃ (pos : Nat), w' = w.iter s pos ∧ pos ≤ s.size ∧ Hid (∀ (j : Nat) (hj : j < s.size), j < pos → letter (s[j]'hj) = true)) (fun _ w' => s.size - w'.iterPos w.heap.size)
  case atStart => exact ⟨0, rfl, Nat.zero_le _, hid (fun j _ h => absurd h (Nat.not_lt_zero _))⟩
  case round =>
    obtain ⟨pos, rfl, hle, H⟩ := hrel
    by_cases hp : pos < s.size
    · have hnx : ∀ ty, (Instr.next (.pointer (some ⟨w.heap.size, 0, none⟩)) true ty).run Tryz.prog (w.iter s pos) = _ := fun ty => run_next_any w s pos ty hp
      have hrl := rune_letter s pos hp
      by_cases hl : letter (s[pos]'hp) = true
      · have h1 : letterI ((Utf8.decode s pos).1 : Int) = true := hrl.1.trans hl
        have h2 : Hid ((Utf8.decode s pos).2 = 1) := hid (hrl.2 hl)
        have H1 := hid h1
        clear hrl h1
        go_wp2_with (go_at_call 96; refine (rune_any _ _).mono ?_; rintro e w' ⟨rfl, rfl⟩; rw [H1.out])
        go_roundw
        case rel =>
          refine ⟨pos + 1, by rw [h2.out], by omega, hid (fun j hj hlt => ?_)⟩
          by_cases hjp : j = pos
          · subst hjp; exact hl
          · exact H.out j hj (by omega)
        case measure => simp [h2.out]; omega
      · have hl : letter (s[pos]'hp) = false := by simpa using hl
        have h1 : letterI ((Utf8.decode s pos).1 : Int) = false := hrl.1.trans hl
        have H1 := hid h1
        have HF := hid (isPart_fail hp hl)
        clear hrl h1 hl
        go_wp2_with (go_at_call 96; refine (rune_any _ _).mono ?_; rintro e w' ⟨rfl, rfl⟩; rw [H1.out])
        go_ret
        exact ⟨ret_bool HF.out.symm, _, rfl⟩
    · have hnx : ∀ ty, (Instr.next (.pointer (some ⟨w.heap.size, 0, none⟩)) true ty).run Tryz.prog (w.iter s pos) = _ := fun ty => run_next_end w s pos ty hp
      have HA := hid (isPart_all (s := s) (fun j hj => H.out j hj (by omega)))
      go_wp2
      go_ret
      refine ⟨ret_bool ?_, _, rfl⟩
      rw [HA.out]
      cases s with
      | mk d => cases h : d.toList <;> simp [L, ByteArray.toList_eq, h]
theorem toList_L (s : ByteArray) : s.toList = L s := ByteArray.toList_eq s
def Asks (v : Value) (w : World) (e : Ending) (w' : World) : Prop := e = .returned v ∧ Below w.heap.size w w'
theorem part_any (s : ByteArray) (w : World) : Calls Tryz.prog 71 #[.string s] w (Asks (.bool (isPart (L s))) w) :=
  (part_iter s w).mono fun _ _ ⟨he, hi⟩ => ⟨he, hi.below⟩
end Go.Proofs.YtgjbhlianlbflaaGreat
