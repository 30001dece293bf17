/-
  Contracts of package wire's In: Byte, Truth, Short, Fixed.
-/
import Derived.Test.YtfpmmajgnijboaaIn
import Derived.Test.YtfpmmajgnijboaaNRead
import Derived.Test.YtfpmmajgnijboaaNBytes
namespace Go.Proofs.Ytfpmmajgnijboaa
open Go.ChangeShapes Go.WideShapes Go.ChangeAt Go.RowKit

/-- What a taking does: what is left then, the error, the thing. -/
def sByte (l : List Nat) (e : Nat) : List Nat × Nat × Nat := match l with
  | [] => ([], firstE e 20, 0)
  | b :: t => (t, e, b)
def sTruth (l : List Nat) (e : Nat) : List Nat × Nat × Bool := match l with
  | [] => ([], firstE e 20, false)
  | b :: t => if b ≤ 1 then (t, e, decide (b = 1)) else ([], 10, false)
def sShort (l : List Nat) (e most : Nat) : List Nat × Nat × Nat :=
  if (readN l).2.2 = 0 then (if most < (readN l).1 then ([], 12, 0) else (l.drop (readN l).2.1, e, (readN l).1)) else ([], firstE e (readN l).2.2, 0)
def sFixed (l : List Nat) (e : Nat) : List Nat × Nat × Nat := if l.length < 8 then ([], firstE e 20, 0) else (l.drop 8, e, numN (l.take 8))

theorem readAt_zero (l : List Nat) : ∀ (i n : Nat), (readAt i n l).2.2 ≠ 0 → (readAt i n l).1 = 0 ∧ (readAt i n l).2.1 = 0 := by
  induction l with
  | nil => intro i n _; exact ⟨rfl, rfl⟩
  | cons c r ih =>
    intro i n h
    rw [readAt] at h ⊢
    split
    · exact ⟨rfl, rfl⟩
    · split
      · rename_i h1 h2
        rw [if_neg h1, if_pos h2] at h
        exact ih _ _ h
      · split
        · exact ⟨rfl, rfl⟩
        · rename_i h1 h2 h3
          rw [if_neg h1, if_neg h2, if_neg h3] at h
          exact absurd rfl h
theorem readN_zero {l : List Nat} (h : (readN l).2.2 ≠ 0) : readN l = (0, 0, (readN l).2.2) := by
  obtain ⟨h1, h2⟩ := readAt_zero l 0 0 h
  have e : readN l = ((readN l).1, (readN l).2.1, (readN l).2.2) := rfl
  rw [e]
  show ((readAt 0 0 l).1, (readAt 0 0 l).2.1, (readN l).2.2) = _
  rw [h1, h2]
theorem readN_ne {l : List Nat} (h : (readN l).2.2 = 0) : l ≠ [] := by
  rintro rfl
  exact absurd h (by decide)

theorem firstE_pos {e x : Nat} (h : 0 < x) : 0 < firstE e x := by unfold firstE; split <;> omega
theorem leftE_nil {e x : Nat} {l : List Nat} (h : 0 < x) (hl : e ≠ 0 → l = []) : leftE e x l = [] := by
  unfold leftE
  split
  · rfl
  · exact hl (by omega)
theorem leftE_zero (e : Nat) (l : List Nat) : leftE e 0 l = l := by simp [leftE]
theorem firstE_zero (e : Nat) : firstE e 0 = e := by unfold firstE; split <;> omega
theorem firstE_none (x : Nat) : firstE 0 x = x := rfl

/-- Where there is an error, nothing is left. -/
def Fine (l : List Nat) (e : Nat) : Prop := e ≠ 0 → l = []

abbrev Gives (v : Value) (g : Nat) (r : List Nat × Nat) (w : World) := Turns (fun en => en = .returned v) g r.1 r.2 w

theorem fine_zero {l : List Nat} {e : Nat} (hf : Fine l e) (hl : l ≠ []) : e = 0 := by
  rcases Nat.eq_zero_or_pos e with h0 | h0
  · exact h0
  · exact absurd (hf (by omega)) hl

set_option maxRecDepth 100000 in
set_option maxHeartbeats 400000 in
theorem short_err (g : Nat) (l : List Nat) (e z : Nat) (most : Int) (w : World) (hm0 : 0 ≤ most) (h : InAt w g l e) (hf : Fine l e) (hl : l.length ≤ 9223372036854775807) (h8 : ∀ x ∈ l, x < 256) (hr : readN l = (0, 0, z)) (hz : 0 < z) :
    Calls Try.prog 30 #[.pointer (some ⟨g, 0, none⟩), .int .u64 most] w (Turns (fun en => en = .returned (.int .u64 0)) g [] (firstE e z) w) := by
  have HI := hid h
  have HR := hid hr
  have H8 := hid h8
  have HF := hid hf
  have hp : 0 < firstE e z := firstE_pos hz
  obtain ⟨A, c, hb, h1, h2, h3, h4⟩ := h
  have HS : Hid (Sees .u8 w A l) := hid (h4.sees (Nat.le_of_lt hb.lt))
  obtain ⟨c0, c1, f0, f1⟩ := blk2 hb
  clear hb h1 h4 hr h8 hf
  go_enter Try.func30, Try.ntmps30
  go_wp2_with fail
  with_reducible refine (readshort_any A l c _ hl H8.out HS.out).mono ?_
  rintro en w1 ⟨rfl, rfl⟩
  rw [HR.out]
  go_wp2_with fail
  with_reducible refine (fail_any g l e z _ _ HI.out (by omega)).mono ?_
  rintro en w1 ⟨rfl, hin, hg⟩
  rw [leftE_nil hz HF.out] at hin
  have HT := hid hin
  have HG := hid hg
  clear hin hg c0 c1 f0 f1 h2 h3 HS HI
  go_wp2_with fail
  with_reducible refine (take_ok g [] (firstE e z) 0 _ _ HT.out (by omega) (by simp)).mono ?_
  rintro en w2 ⟨⟨A1, rfl, _, _⟩, hin, hg⟩
  have HT2 : Hid (InAt w2 g [] (firstE e z)) := hid hin
  have HG2 := hid (HG.out.trans hg)
  clear hin hg
  go_wp2_with fail
  with_reducible refine (failed_yes g [] (firstE e z) _ HT2.out hp).mono ?_
  rintro en w3 ⟨rfl, rfl⟩
  go_wp2
  go_ret
  exact ⟨rfl, HT2.out, HG2.out⟩

set_option maxRecDepth 100000 in
set_option maxHeartbeats 400000 in
theorem short_high (g : Nat) (l : List Nat) (v n : Nat) (most : Nat) (w : World) (h : InAt w g l 0) (hl : l.length ≤ 9223372036854775807) (h8 : ∀ x ∈ l, x < 256) (hr : readN l = (v, n, 0)) (hm : most < v) :
    Calls Try.prog 30 #[.pointer (some ⟨g, 0, none⟩), .int .u64 (most : Int)] w (Turns (fun en => en = .returned (.int .u64 0)) g [] 12 w) := by
  have HI := hid h
  have HR := hid hr
  have H8 := hid h8
  have hn : 0 < n := by have := (readN_inv h8 hr).1; have := shortN_pos v; omega
  obtain ⟨A, c, hb, h1, h2, h3, h4⟩ := h
  have HS : Hid (Sees .u8 w A l) := hid (h4.sees (Nat.le_of_lt hb.lt))
  obtain ⟨c0, c1, f0, f1⟩ := blk2 hb
  clear hb h1 h4 hr h8
  go_enter Try.func30, Try.ntmps30
  go_wp2_with fail
  with_reducible refine (readshort_any A l c _ hl H8.out HS.out).mono ?_
  rintro en w1 ⟨rfl, rfl⟩
  rw [HR.out]
  go_wp2_with fail
  with_reducible refine (fail_any g l 0 0 _ _ HI.out (by omega)).mono ?_
  rintro en w1 ⟨rfl, hin, hg⟩
  rw [leftE_zero, firstE_zero] at hin
  have HT := hid hin
  have HG := hid hg
  clear hin hg c0 c1 f0 f1 h2 h3 HS HI
  go_wp2_with fail
  with_reducible refine (fail_any g l 0 12 _ _ HT.out (by omega)).mono ?_
  rintro en w2 ⟨rfl, hin, hg⟩
  rw [leftE_nil (by omega) (fun h => absurd rfl h), firstE_none] at hin
  have HT2 := hid hin
  have HG2 := hid (HG.out.trans hg)
  clear hin hg HT HG
  go_wp2_with fail
  with_reducible refine (take_no g [] 12 n _ _ HT2.out (by omega) (by simpa using hn)).mono ?_
  rintro en w3 ⟨rfl, hin, hg⟩
  have HT3 : Hid (InAt w3 g [] 12) := hid hin
  have HG3 := hid (HG2.out.trans hg)
  clear hin hg
  go_wp2_with fail
  with_reducible refine (failed_yes g [] 12 _ HT3.out (by omega)).mono ?_
  rintro en w4 ⟨rfl, rfl⟩
  go_wp2
  go_ret
  exact ⟨rfl, HT3.out, HG3.out⟩

set_option maxRecDepth 100000 in
set_option maxHeartbeats 400000 in
theorem short_fits (g : Nat) (l : List Nat) (v n : Nat) (most : Int) (w : World) (h : InAt w g l 0) (hl : l.length ≤ 9223372036854775807) (h8 : ∀ x ∈ l, x < 256) (hr : readN l = (v, n, 0)) (hm : (v : Int) ≤ most) :
    Calls Try.prog 30 #[.pointer (some ⟨g, 0, none⟩), .int .u64 most] w (Turns (fun en => en = .returned (.int .u64 (v : Int))) g (l.drop n) 0 w) := by
  have HI := hid h
  have HR := hid hr
  have H8 := hid h8
  have hn : n ≤ l.length := (readN_inv h8 hr).2.1
  obtain ⟨A, c, hb, h1, h2, h3, h4⟩ := h
  have HS : Hid (Sees .u8 w A l) := hid (h4.sees (Nat.le_of_lt hb.lt))
  obtain ⟨c0, c1, f0, f1⟩ := blk2 hb
  clear hb h1 h4 hr h8
  go_enter Try.func30, Try.ntmps30
  go_wp2_with fail
  with_reducible refine (readshort_any A l c _ hl H8.out HS.out).mono ?_
  rintro en w1 ⟨rfl, rfl⟩
  rw [HR.out]
  go_wp2_with fail
  with_reducible refine (fail_any g l 0 0 _ _ HI.out (by omega)).mono ?_
  rintro en w1 ⟨rfl, hin, hg⟩
  rw [leftE_zero, firstE_zero] at hin
  have HT := hid hin
  have HG := hid hg
  clear hin hg c0 c1 f0 f1 h2 h3 HS HI
  go_wp2_with fail
  with_reducible refine (take_ok g l 0 n _ _ HT.out (by omega) hn).mono ?_
  rintro en w3 ⟨⟨A1, rfl, _, _⟩, hin, hg⟩
  have HT3 := hid hin
  have HG3 := hid (HG.out.trans hg)
  clear hin hg
  go_wp2_with fail
  with_reducible refine (failed_no g (l.drop n) _ HT3.out).mono ?_
  rintro en w4 ⟨rfl, rfl⟩
  go_wp2
  go_ret
  exact ⟨rfl, HT3.out, HG3.out⟩

theorem inshort_any (g : Nat) (l : List Nat) (e most : Nat) (a : Int) (l' : List Nat) (e' v : Nat) (w : World) (h : InAt w g l e) (hf : Fine l e) (h8 : ∀ x ∈ l, x < 256) (hl : l.length ≤ 9223372036854775807) (ha : a = (most : Int)) (hs : sShort l e most = (l', e', v)) :
    Calls Try.prog 30 #[.pointer (some ⟨g, 0, none⟩), .int .u64 a] w (Turns (fun en => en = .returned (.int .u64 (v : Int))) g l' e' w) := by
  subst ha
  unfold sShort at hs
  by_cases hz : (readN l).2.2 = 0
  · rw [if_pos hz] at hs
    obtain rfl := fine_zero hf (readN_ne hz)
    have hr : readN l = ((readN l).1, (readN l).2.1, 0) := by rw [← hz]
    by_cases hm : most < (readN l).1
    · rw [if_pos hm] at hs
      simp only [Prod.mk.injEq] at hs
      obtain ⟨rfl, rfl, rfl⟩ := hs
      exact short_high g l _ _ most w h hl h8 hr hm
    · rw [if_neg hm] at hs
      simp only [Prod.mk.injEq] at hs
      obtain ⟨rfl, rfl, rfl⟩ := hs
      exact short_fits g l _ _ _ w h hl h8 hr (by omega)
  · rw [if_neg hz] at hs
    simp only [Prod.mk.injEq] at hs
    obtain ⟨rfl, rfl, rfl⟩ := hs
    exact short_err g l e _ _ w (by omega) h hf hl h8 (readN_zero hz) (by omega)

end Go.Proofs.Ytfpmmajgnijboaa
