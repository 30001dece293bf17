/-
  A message's text by value, and what is read off one: no walk in it.
-/
import Derived.Test.YtohffiehmmcgbaaGreatDoorXYuKind
import Derived.Test.YtohffiehmmcgbaaGreatDoorXYBase
import Derived.Test.YtohffiehmmcgbaaGreatDoorXJuTextsLaw
namespace Go.Proofs.YtohffiehmmcgbaaGreatDoor
open Go.ChangeShapes Go.WideShapes Go.ChangeAt Go.RowKit Go.Lib
set_option linter.unusedVariables false
set_option linter.unusedSimpArgs false
def toT (a b : Int) : List UInt8 := itoa a ++ 62 :: itoa b
def saysL (k : Int) (ok : Bool) : List UInt8 := if replyB k then (if ok then [121, 101, 115] else [110, 111]) else [97, 115, 107, 115]
def headsU (m : Ms) : List (List UInt8) := [msgL m.k.toNat, toT m.a m.b, textOf m.r m.s, balT m.bal.toNat]
def partsM (m : Ms) : List (List UInt8) := if m.k = 6 then headsU m ++ [saysL m.k m.ok] else (headsU m ++ [saysL m.k m.ok]) ++ [textJ m.x]
def textM (m : Ms) : List UInt8 := Lib.join (partsM m) [32]
def headU (m : Ms) : List UInt8 := msgL m.k.toNat ++ 32 :: (toT m.a m.b ++ 32 :: (textOf m.r m.s ++ 32 :: (balT m.bal.toNat ++ 32 :: saysL m.k m.ok)))
theorem head_textU (m : Ms) : textM m = headU m ++ (if m.k = 6 then [] else 32 :: textJ m.x) := by
  unfold textM partsM headU headsU
  by_cases h : m.k = 6
  · rw [if_pos h, if_pos h]
    simp only [List.cons_append, List.nil_append, join_more, Lib.join_one, List.append_nil, List.append_assoc]
  · rw [if_neg h, if_neg h]
    simp only [List.cons_append, List.nil_append, join_more, Lib.join_one, List.append_assoc]
theorem msgL_no32 (n : Nat) (h : n < 8) : ∀ d ∈ msgL n, d ≠ 32 := by
  have e : n = 0 ∨ n = 1 ∨ n = 2 ∨ n = 3 ∨ n = 4 ∨ n = 5 ∨ n = 6 ∨ n = 7 := by omega
  rcases e with rfl | rfl | rfl | rfl | rfl | rfl | rfl | rfl <;> decide
theorem msgL_len (n : Nat) (h : n < 8) : (msgL n).length ≤ 12 := by
  have e : n = 0 ∨ n = 1 ∨ n = 2 ∨ n = 3 ∨ n = 4 ∨ n = 5 ∨ n = 6 ∨ n = 7 := by omega
  rcases e with rfl | rfl | rfl | rfl | rfl | rfl | rfl | rfl <;> decide
theorem toT_no32 (a b : Int) : ∀ d ∈ toT a b, d ≠ 32 := by
  intro d hd
  unfold toT at hd
  rcases List.mem_append.1 hd with h | h
  · exact itoa_none a 32 (by decide) (by decide) d h
  · rcases List.mem_cons.1 h with rfl | h
    · decide
    · exact itoa_none b 32 (by decide) (by decide) d h
theorem saysL_no32 (k : Int) (ok : Bool) : ∀ d ∈ saysL k ok, d ≠ 32 := by
  unfold saysL
  cases replyB k <;> cases ok <;> decide
theorem saysL_len (k : Int) (ok : Bool) : (saysL k ok).length ≤ 4 := by
  unfold saysL
  cases replyB k <;> cases ok <;> decide
def wordsM (s : ByteArray) : List ByteArray := splitB ⟨#[32]⟩ 0 (min 6 (s.size + 1) - 1) s
theorem wordsM_len (s : ByteArray) : (wordsM s).length ≤ min 6 (s.size + 1) := by
  have h := splitB_length_le ⟨#[32]⟩ 0 (min 6 (s.size + 1) - 1) s
  unfold wordsM
  omega
theorem pM_size (s : ByteArray) (i : Nat) : (pB (wordsM s) i).size ≤ s.size := by
  unfold pB
  cases h : (wordsM s)[i]? with
  | none => exact Nat.zero_le _
  | some p => exact splitB_size _ _ s p (List.mem_of_getElem? h)
theorem wordsM_sb (s : ByteArray) : (wordsM s).map Sb = splitK [32] 0 (min 6 (s.size + 1) - 1) (Sb s) := splitB_data ⟨#[32]⟩ 0 _ s
theorem wordsM_five {s : ByteArray} {A B C D E : List UInt8} (hs : Sb s = Lib.join [A, B, C, D, E] [32]) (hA : ∀ d ∈ A, d ≠ 32) (hB : ∀ d ∈ B, d ≠ 32) (hC : ∀ d ∈ C, d ≠ 32) (hD : ∀ d ∈ D, d ≠ 32) (hE : ∀ d ∈ E, d ≠ 32) : (wordsM s).map Sb = [A, B, C, D, E] := by
  rw [wordsM_sb, hs]
  have hl : 4 ≤ s.size := by
    rw [← Sb_length, hs, join_more, join_more, join_more, join_more]
    simp only [List.length_append, List.length_cons]
    omega
  exact split_join [A, B, C, D] E _ (by intro p hp; simp at hp; rcases hp with rfl | rfl | rfl | rfl; exact hA; exact hB; exact hC; exact hD) (.inr ⟨by simp only [List.length_cons, List.length_nil]; omega, hE⟩)
theorem wordsM_six {s : ByteArray} {A B C D E F : List UInt8} (hs : Sb s = Lib.join [A, B, C, D, E, F] [32]) (hA : ∀ d ∈ A, d ≠ 32) (hB : ∀ d ∈ B, d ≠ 32) (hC : ∀ d ∈ C, d ≠ 32) (hD : ∀ d ∈ D, d ≠ 32) (hE : ∀ d ∈ E, d ≠ 32) : (wordsM s).map Sb = [A, B, C, D, E, F] := by
  rw [wordsM_sb, hs]
  have hl : 5 ≤ s.size := by
    rw [← Sb_length, hs, join_more, join_more, join_more, join_more, join_more]
    simp only [List.length_append, List.length_cons]
    omega
  exact split_join [A, B, C, D, E] F _ (by intro p hp; simp at hp; rcases hp with rfl | rfl | rfl | rfl | rfl; exact hA; exact hB; exact hC; exact hD; exact hE) (.inl (by simp only [List.length_cons, List.length_nil]; omega))
def KnownJ (t : ByteArray) (y : J) : Prop := ∃ x : J, GuessJ (wordsJ t) x ∧ ((rightJ x = true ∧ textJ x = Sb t ∧ y = x) ∨ (¬ (rightJ x = true ∧ textJ x = Sb t) ∧ y = zeroJ))
theorem known_text {t : ByteArray} {y z : J} (h : KnownJ t y) (hok : okJ z) (hK : okK z.c) (hr : rightJ z = true) (ht : Sb t = textJ z) : eqJ y z = true := by
  obtain ⟨x, hg, ⟨h1, h2, rfl⟩ | ⟨hn, rfl⟩⟩ := h
  · exact guess_text hok hK hr ht hg
  · have he := guess_text hok hK hr ht hg
    refine absurd ⟨(rightJ_congr he).trans hr, ?_⟩ hn
    rw [ht]
    refine textJ_congr he fun h => ?_
    exact (right_ok hg.1 ((rightJ_congr he).trans hr) h).2
theorem known_none {t : ByteArray} {y : J} (h : KnownJ t y) (ht : Sb t = []) : y = zeroJ := by
  obtain ⟨x, hg, ⟨h1, h2, rfl⟩ | ⟨hn, rfl⟩⟩ := h
  · exfalso
    rw [ht, head_textJ] at h2
    have := congrArg List.length h2
    unfold headT at this
    simp only [List.length_append, List.length_cons, List.length_nil] at this
    omega
  · rfl
theorem known_ok {t : ByteArray} {y : J} (h : KnownJ t y) : okJ y ∧ okK y.c ∧ y.c.foot.size ≤ 100000 ∧ y.c.path.size ≤ 100000 := by
  obtain ⟨x, hg, ⟨h1, h2, rfl⟩ | ⟨hn, rfl⟩⟩ := h
  · exact ⟨hg.1, hg.2.1, hg.2.2.1⟩
  · exact ⟨⟨by decide, by decide⟩, zeroK_ok, by decide, by decide⟩
def GuessM (P : List ByteArray) (m : Ms) : Prop :=
  (0 ≤ m.bal ∧ m.bal < 4294967296) ∧ m.k = kindM (Sb (pB P 0)) ∧ m.ok = decide (pB P 4 = ⟨#[121, 101, 115]⟩) ∧ (∀ a b : Nat, a ≤ 6 → b ≤ 6 → Sb (pB P 1) = toT a b → m.a = a ∧ m.b = b) ∧
  (m.r, m.s) = (nameOf (Sb (pB P 2))).1 ∧ m.bal = ((ballotOf (Sb (pB P 3))).1 : Nat) ∧ KnownJ (pB P 5) m.x
theorem eqM_of {m n : Ms} (h1 : m.k = n.k) (h2 : m.a = n.a) (h3 : m.b = n.b) (h4 : m.r = n.r) (h5 : m.s = n.s) (h6 : m.bal = n.bal) (h7 : m.ok = n.ok) (h8 : eqJ m.x n.x = true) : eqM m n = true := by
  unfold eqM
  simp [h1, h2, h3, h4, h5, h6, h7, h8]
theorem eqJ_sym {x y : J} (h : eqJ x y = true) : eqJ y x = true := by
  unfold eqJ at *
  simp only [Bool.and_eq_true, beq_iff_eq, decide_eq_true_eq] at *
  obtain ⟨⟨h1, h2⟩, h3, h4, h5, h6, h7, h8⟩ := h
  exact ⟨⟨h1.symm, h2.symm⟩, h3.symm, h4.symm, h5.symm, h6.symm, h7.symm, eqA_sym h8⟩
theorem rightM_ok {m : Ms} (hr : rightM m = true) (h : replyB m.k = false) : m.ok = false := by
  unfold rightM knownB lastB at hr
  rw [h] at hr
  by_cases h6 : m.k = 6
  · rw [if_pos h6] at hr
    simp only [Bool.and_eq_true, Bool.not_eq_true'] at hr
    exact hr.2.1
  · rw [if_neg h6] at hr
    simp only [Bool.false_or, Bool.and_eq_true, Bool.not_eq_true'] at hr
    exact hr.2.2.1
theorem says_yes {m : Ms} {p : ByteArray} (hr : rightM m = true) (hp : Sb p = saysL m.k m.ok) : decide (p = ⟨#[121, 101, 115]⟩) = m.ok := by
  have e : (decide (p = ⟨#[121, 101, 115]⟩) = true) ↔ saysL m.k m.ok = [121, 101, 115] := by
    rw [decide_eq_true_eq, ← hp]
    exact ⟨fun h => by rw [h]; rfl, fun h => Sb_inj.1 (by rw [h]; rfl)⟩
  unfold saysL at e
  cases hk : replyB m.k
  · rw [rightM_ok hr hk, Bool.eq_false_iff]
    intro h
    have := e.1 h
    rw [hk] at this
    simp at this
  · rw [hk] at e
    cases ho : m.ok
    · rw [Bool.eq_false_iff]
      intro h
      have := e.1 h
      rw [ho] at this
      simp at this
    · exact e.2 (by rw [ho]; rfl)
theorem guessM_text {s : ByteArray} {m n : Ms} (hok : okM n) (hr : rightM n = true) (hs : Sb s = textM n) (hg : GuessM (wordsM s) m) : eqM m n = true := by
  obtain ⟨k, a, b, r, q, v, hk, ha, hb, hrr, hq, hv, hk0, hk8, ha6, hb6, hr7, hq10, hv32, hvb, h6, hn6⟩ := rightM_in hok hr
  have HY := fun p => says_yes (m := n) (p := p) hr
  have HOJ := hok.2
  obtain ⟨nk, na, nb, nr, nq, nv, nok, nx⟩ := n
  simp only at hk ha hb hrr hq hv h6 hn6 HY HOJ
  subst hk ha hb hrr hq hv
  obtain ⟨_, g0, g4, g1, g2, g3, g5⟩ := hg
  have hnm : nameB (r : Int) (q : Int) = true := by unfold nameB; exact decide_eq_true ⟨by omega, by omega, by omega, by omega⟩
  unfold textM partsM headsU at hs
  simp only [Int.toNat_natCast] at hs
  have key : ∀ R : List (List UInt8), (wordsM s).map Sb = [msgL k, toT a b, textOf r q, balT v, saysL k nok] ++ R → m.k = k ∧ m.ok = nok ∧ (m.a = a ∧ m.b = b) ∧ (m.r = r ∧ m.s = q) ∧ m.bal = v := by
    intro R hw
    refine ⟨?_, ?_, ?_, ?_, ?_⟩
    · rw [g0, pB_sb, hw]
      exact kindM_at rfl hk8
    · rw [g4]
      exact HY _ (by rw [pB_sb, hw]; rfl)
    · exact g1 a b ha6 hb6 (by rw [pB_sb, hw]; rfl)
    · rw [pB_sb, hw] at g2
      have h1 : (m.r, m.s) = (nameOf (textOf r q)).1 := g2
      rw [name_text hnm] at h1
      injection h1 with h1 h2
      exact ⟨h1, h2⟩
    · rw [pB_sb, hw] at g3
      have h1 : m.bal = ((ballotOf (balT v)).1 : Nat) := g3
      rw [ballot_text hv32 hvb] at h1
      exact h1
  by_cases h : k = 6
  · subst h
    rw [if_pos (by omega)] at hs
    have hw := wordsM_five hs (msgL_no32 _ (by omega)) (toT_no32 _ _) (textOf_no32 _ _) (balT_no32 _) (saysL_no32 _ _)
    obtain ⟨e1, e2, ⟨e3, e4⟩, ⟨e5, e6⟩, e7⟩ := key [] (by rw [hw]; rfl)
    have hz := known_none g5 (by rw [pB_sb, hw]; rfl)
    exact eqM_of e1 e3 e4 e5 e6 e7 e2 (by rw [hz]; exact eqJ_sym (h6 rfl).2)
  · rw [if_neg (by omega)] at hs
    have hw := wordsM_six hs (msgL_no32 _ (by omega)) (toT_no32 _ _) (textOf_no32 _ _) (balT_no32 _) (saysL_no32 _ _)
    obtain ⟨e1, e2, ⟨e3, e4⟩, ⟨e5, e6⟩, e7⟩ := key [textJ nx] (by rw [hw]; rfl)
    exact eqM_of e1 e3 e4 e5 e6 e7 e2 (known_text g5 HOJ.1 HOJ.2 (hn6 h) (by rw [pB_sb, hw]; rfl))
theorem textM_size {m : Ms} {t : ByteArray} (hok : okM m) (hr : rightM m = true) (ht : Sb t = textM m) (hz : m.k ≠ 6 → (textJ m.x).length ≤ 8000) : t.size ≤ 9000 := by
  have hh : (headU m).length ≤ 300 := by
    obtain ⟨k, a, b, r, q, v, hk, ha, hb, hrr, hq, hv, hk0, hk8, ha6, hb6, hr7, hq10, hv32, hvb, h6, hn6⟩ := rightM_in hok hr
    have l0 := msgL_len m.k.toNat (by omega)
    have l1 := itoa_len21 m.a (by omega) (by omega)
    have l2 := itoa_len21 m.b (by omega) (by omega)
    have l3 := textOf_len (a := m.r) (b := m.s) (by omega) (by omega) (by omega) (by omega)
    have l4 := balT_len m.bal.toNat (by omega)
    have l5 := saysL_len m.k m.ok
    unfold headU toT
    simp only [List.length_append, List.length_cons]
    omega
  have h := congrArg List.length ht
  rw [Sb_length, head_textU, List.length_append] at h
  by_cases h6 : m.k = 6
  · rw [if_pos h6] at h
    simp at h
    omega
  · rw [if_neg h6, List.length_cons] at h
    have := hz h6
    omega
end Go.Proofs.YtohffiehmmcgbaaGreatDoor
