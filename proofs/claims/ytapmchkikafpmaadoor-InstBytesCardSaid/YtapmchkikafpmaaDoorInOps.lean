/-
  Contracts of package wire's In: Byte, Truth, Short, Fixed.
-/
import Derived.Test.YtapmchkikafpmaaDoorIn
import Derived.Test.YtapmchkikafpmaaDoorNRead
import Derived.Test.YtapmchkikafpmaaDoorNBytes
namespace Go.Proofs.YtapmchkikafpmaaDoor
open Go.ChangeShapes Go.WideShapes Go.ChangeAt Go.RowKit

/-- What a taking does: what is left then, the error, the thing. -/
def sByte (l : List Nat) (e : Nat) : List Nat × Nat × Nat := match l with
  | [] => ([], firstE e 20, 0)
  | b :: t => (t, e, b)
def sTruth (l : List Nat) (e : Nat) : List Nat × Nat × Bool := match l with
  | [] => ([], firstE e 20, false)
  | b :: t => if b ≤ 1 then (t, e, decide (b = 1)) else ([], 10, false)
def sShort (l : List Nat) (e most : Nat) : List Nat × Nat × Nat :=
  if (readN l).2.2 = 0 then (if most < (readN l).1 then ([], 12, 0) else (l.drop (readN l).2.1, e, (readN l).1)) else ([], firstE e (readN l).2.2, 0)
def sFixed (l : List Nat) (e : Nat) : List Nat × Nat × Nat := if l.length < 8 then ([], firstE e 20, 0) else (l.drop 8, e, numN (l.take 8))

theorem readAt_zero (l : List Nat) : ∀ (i n : Nat), (readAt i n l).2.2 ≠ 0 → (readAt i n l).1 = 0 ∧ (readAt i n l).2.1 = 0 := by
  induction l with
  | nil => intro i n _; exact ⟨rfl, rfl⟩
  | cons c r ih =>
    intro i n h
    rw [readAt] at h ⊢
    split
    · exact ⟨rfl, rfl⟩
    · split
      · rename_i h1 h2
        rw [if_neg h1, if_pos h2] at h
        exact ih _ _ h
      · split
        · exact ⟨rfl, rfl⟩
        · rename_i h1 h2 h3
          rw [if_neg h1, if_neg h2, if_neg h3] at h
          exact absurd rfl h
theorem readN_zero {l : List Nat} (h : (readN l).2.2 ≠ 0) : readN l = (0, 0, (readN l).2.2) := by
  obtain ⟨h1, h2⟩ := readAt_zero l 0 0 h
  have e : readN l = ((readN l).1, (readN l).2.1, (readN l).2.2) := rfl
  rw [e]
  show ((readAt 0 0 l).1, (readAt 0 0 l).2.1, (readN l).2.2) = _
  rw [h1, h2]
theorem readN_ne {l : List Nat} (h : (readN l).2.2 = 0) : l ≠ [] := by
  rintro rfl
  exact absurd h (by decide)

theorem firstE_pos {e x : Nat} (h : 0 < x) : 0 < firstE e x := by unfold firstE; split <;> omega
theorem leftE_nil {e x : Nat} {l : List Nat} (h : 0 < x) (hl : e ≠ 0 → l = []) : leftE e x l = [] := by
  unfold leftE
  split
  · rfl
  · exact hl (by omega)
theorem leftE_zero (e : Nat) (l : List Nat) : leftE e 0 l = l := by simp [leftE]
theorem firstE_zero (e : Nat) : firstE e 0 = e := by unfold firstE; split <;> omega
theorem firstE_none (x : Nat) : firstE 0 x = x := rfl

/-- Where there is an error, nothing is left. -/
def Fine (l : List Nat) (e : Nat) : Prop := e ≠ 0 → l = []

abbrev Gives (v : Value) (g : Nat) (r : List Nat × Nat) (w : World) := Turns (fun en => en = .returned v) g r.1 r.2 w

set_option maxRecDepth 100000 in
set_option maxHeartbeats 400000 in
theorem byte_none (g : Nat) (e : Nat) (w : World) (h : InAt w g [] e) :
    Calls Tryd.prog 28 #[.pointer (some ⟨g, 0, none⟩)] w (Turns (fun en => en = .returned (.int .u8 0)) g [] (firstE e 20) w) := by
  have HI := hid h
  have hp : 0 < firstE e 20 := firstE_pos (by omega)
  clear h
  go_enter Tryd.func28, Tryd.ntmps28
  go_wp2_with fail
  with_reducible refine (take_no g [] e 1 _ _ HI.out (by omega) (by simp)).mono ?_
  rintro en w1 ⟨rfl, hin, hg⟩
  have HT : Hid (InAt w1 g [] (firstE e 20)) := hid (by rw [leftE] at hin; simpa using hin)
  have HG := hid hg
  clear hin hg
  go_wp2_with fail
  with_reducible refine (failed_yes g [] (firstE e 20) _ HT.out hp).mono ?_
  rintro en w2 ⟨rfl, rfl⟩
  go_wp2
  go_ret
  exact ⟨rfl, HT.out, HG.out⟩

set_option maxRecDepth 100000 in
set_option maxHeartbeats 400000 in
theorem byte_some (g : Nat) (b : Nat) (t : List Nat) (w : World) (h : InAt w g (b :: t) 0) :
    Calls Tryd.prog 28 #[.pointer (some ⟨g, 0, none⟩)] w (Turns (fun en => en = .returned (.int .u8 (b : Int))) g t 0 w) := by
  have HI := hid h
  clear h
  go_enter Tryd.func28, Tryd.ntmps28
  go_wp2_with fail
  with_reducible refine (take_ok g (b :: t) 0 1 _ _ HI.out (by omega) (by simp)).mono ?_
  rintro en w1 ⟨⟨A1, rfl, _, hs⟩, hin, hg⟩
  obtain ⟨b', o, rfl, _, hc⟩ := hs 0 b (by simp)
  have HT : Hid (InAt w1 g t 0) := hid hin
  have HG := hid hg
  have hc' : w1.cell? ⟨b', o, none⟩ = some (.int .u8 (b : Int)) := hc
  clear hin hg hs hc
  go_wp2_with fail
  with_reducible refine (failed_no g t _ HT.out).mono ?_
  rintro en w2 ⟨rfl, rfl⟩
  go_wp2
  go_ret
  exact ⟨rfl, HT.out, HG.out⟩

theorem byte_any (g : Nat) (l : List Nat) (e : Nat) (l' : List Nat) (e' v : Nat) (w : World) (h : InAt w g l e) (hf : Fine l e) (hs : sByte l e = (l', e', v)) :
    Calls Tryd.prog 28 #[.pointer (some ⟨g, 0, none⟩)] w (Turns (fun en => en = .returned (.int .u8 (v : Int))) g l' e' w) := by
  cases l with
  | nil =>
    simp only [sByte, Prod.mk.injEq] at hs
    obtain ⟨rfl, rfl, rfl⟩ := hs
    exact byte_none g e w h
  | cons b t =>
    obtain rfl : e = 0 := by
      rcases Nat.eq_zero_or_pos e with h0 | h0
      · exact h0
      · exact absurd (hf (by omega)) (by simp)
    simp only [sByte, Prod.mk.injEq] at hs
    obtain ⟨rfl, rfl, rfl⟩ := hs
    exact byte_some g b t w h

set_option maxRecDepth 100000 in
set_option maxHeartbeats 400000 in
theorem truth_any (g : Nat) (l : List Nat) (e : Nat) (l' : List Nat) (e' : Nat) (v : Bool) (w : World) (h : InAt w g l e) (hf : Fine l e) (h8 : ∀ x ∈ l, x < 256) (hs : sTruth l e = (l', e', v)) :
    Calls Tryd.prog 31 #[.pointer (some ⟨g, 0, none⟩)] w (Turns (fun en => en = .returned (.bool v)) g l' e' w) := by
  cases l with
  | nil =>
    simp only [sTruth, Prod.mk.injEq] at hs
    obtain ⟨rfl, rfl, rfl⟩ := hs
    have HI := hid h
    clear h h8 hf
    go_enter Tryd.func31, Tryd.ntmps31
    go_wp2_with fail
    with_reducible refine (byte_none g e _ HI.out).mono ?_
    rintro en w1 ⟨rfl, hin, hg⟩
    have HT := hid hin
    have HG := hid hg
    clear hin hg
    go_wp2
    go_ret
    exact ⟨rfl, HT.out, HG.out⟩
  | cons b t =>
    obtain rfl : e = 0 := by
      rcases Nat.eq_zero_or_pos e with h0 | h0
      · exact h0
      · exact absurd (hf (by omega)) (by simp)
    have hb : b < 256 := h8 b (by simp)
    have HI := hid h
    clear h h8 hf
    by_cases h2 : 2 ≤ b
    · rw [sTruth, if_neg (by omega)] at hs
      simp only [Prod.mk.injEq] at hs
      obtain ⟨rfl, rfl, rfl⟩ := hs
      have hb1 : ((b : Int) == 1) = false := by rw [beq_eq_false_iff_ne]; omega
      have hb2 : ((b : Int) != 0) = true := by rw [bne_iff_ne]; omega
      have hb3 : ((b : Int) != 1) = true := by rw [bne_iff_ne]; omega
      go_enter Tryd.func31, Tryd.ntmps31
      go_wp2_with fail
      with_reducible refine (byte_some g b t _ HI.out).mono ?_
      rintro en w1 ⟨rfl, hin, hg⟩
      have HT := hid hin
      have HG := hid hg
      clear hin hg
      go_wp2_with fail
      with_reducible refine (fail_any g t 0 10 _ _ HT.out (by omega)).mono ?_
      rintro en w2 ⟨rfl, hin, hg⟩
      have HT2 := hid hin
      have HG2 := hid (HG.out.trans hg)
      clear hin hg
      go_wp2
      go_ret
      exact ⟨rfl, HT2.out, HG2.out⟩
    · rw [sTruth, if_pos (by omega)] at hs
      simp only [Prod.mk.injEq] at hs
      obtain ⟨rfl, rfl, rfl⟩ := hs
      by_cases h0 : b = 0
      · subst h0
        go_enter Tryd.func31, Tryd.ntmps31
        go_wp2_with fail
        with_reducible refine (byte_some g 0 t _ HI.out).mono ?_
        rintro en w1 ⟨rfl, hin, hg⟩
        have HT := hid hin
        have HG := hid hg
        clear hin hg
        go_wp2
        go_ret
        exact ⟨rfl, HT.out, HG.out⟩
      · obtain rfl : b = 1 := by omega
        go_enter Tryd.func31, Tryd.ntmps31
        go_wp2_with fail
        with_reducible refine (byte_some g 1 t _ HI.out).mono ?_
        rintro en w1 ⟨rfl, hin, hg⟩
        have HT := hid hin
        have HG := hid hg
        clear hin hg
        go_wp2
        go_ret
        exact ⟨rfl, HT.out, HG.out⟩


/-- Read of too few, at the literal. -/
theorem read_short8 (A : Option Addr) (len ca : Nat) (w : World) (hl : len < 8) :
    Calls Tryd.prog 75 #[.slice A len ca, .int .i64 8] w (Tells (0, 0, 20) w) := read_short A len ca 8 w (by omega) (by omega) hl
/-- Read of eight bytes that are all there is. -/
theorem read_eight (b o : Nat) (l : List Nat) (w : World) (hl : l.length = 8) (hx : ∀ x ∈ l, x < 256) (hA : Sees .u8 w (some ⟨b, o, none⟩) l) :
    Calls Tryd.prog 75 #[.slice (some ⟨b, o, none⟩) 8 8, .int .i64 8] w (Tells (numN l, 8, 0) w) := by
  have h := read_any b o l 8 8 w (by omega) (by omega) (by omega) (by omega) hx hA
  rw [List.take_of_length_le (by omega), hl] at h
  exact h

theorem fine_zero {l : List Nat} {e : Nat} (hf : Fine l e) (hl : l ≠ []) : e = 0 := by
  rcases Nat.eq_zero_or_pos e with h0 | h0
  · exact h0
  · exact absurd (hf (by omega)) hl

set_option maxRecDepth 100000 in
set_option maxHeartbeats 400000 in
theorem short_err (g : Nat) (l : List Nat) (e z : Nat) (most : Int) (w : World) (hm0 : 0 ≤ most) (h : InAt w g l e) (hf : Fine l e) (hl : l.length ≤ 9223372036854775807) (h8 : ∀ x ∈ l, x < 256) (hr : readN l = (0, 0, z)) (hz : 0 < z) :
    Calls Tryd.prog 48 #[.pointer (some ⟨g, 0, none⟩), .int .u64 most] w (Turns (fun en => en = .returned (.int .u64 0)) g [] (firstE e z) w) := by
  have HI := hid h
  have HR := hid hr
  have H8 := hid h8
  have HF := hid hf
  have hp : 0 < firstE e z := firstE_pos hz
  obtain ⟨A, c, hb, h1, h2, h3, h4⟩ := h
  have HS : Hid (Sees .u8 w A l) := hid (h4.sees (Nat.le_of_lt hb.lt))
  obtain ⟨c0, c1, f0, f1⟩ := blk2 hb
  clear hb h1 h4 hr h8 hf
  go_enter Tryd.func48, Tryd.ntmps48
  go_wp2_with fail
  with_reducible refine (readshort_any A l c _ hl H8.out HS.out).mono ?_
  rintro en w1 ⟨rfl, rfl⟩
  rw [HR.out]
  go_wp2_with fail
  with_reducible refine (fail_any g l e z _ _ HI.out (by omega)).mono ?_
  rintro en w1 ⟨rfl, hin, hg⟩
  rw [leftE_nil hz HF.out] at hin
  have HT := hid hin
  have HG := hid hg
  clear hin hg c0 c1 f0 f1 h2 h3 HS HI
  go_wp2_with fail
  with_reducible refine (take_ok g [] (firstE e z) 0 _ _ HT.out (by omega) (by simp)).mono ?_
  rintro en w2 ⟨⟨A1, rfl, _, _⟩, hin, hg⟩
  have HT2 : Hid (InAt w2 g [] (firstE e z)) := hid hin
  have HG2 := hid (HG.out.trans hg)
  clear hin hg
  go_wp2_with fail
  with_reducible refine (failed_yes g [] (firstE e z) _ HT2.out hp).mono ?_
  rintro en w3 ⟨rfl, rfl⟩
  go_wp2
  go_ret
  exact ⟨rfl, HT2.out, HG2.out⟩

set_option maxRecDepth 100000 in
set_option maxHeartbeats 400000 in
theorem short_high (g : Nat) (l : List Nat) (v n : Nat) (most : Nat) (w : World) (h : InAt w g l 0) (hl : l.length ≤ 9223372036854775807) (h8 : ∀ x ∈ l, x < 256) (hr : readN l = (v, n, 0)) (hm : most < v) :
    Calls Tryd.prog 48 #[.pointer (some ⟨g, 0, none⟩), .int .u64 (most : Int)] w (Turns (fun en => en = .returned (.int .u64 0)) g [] 12 w) := by
  have HI := hid h
  have HR := hid hr
  have H8 := hid h8
  have hn : 0 < n := by have := (readN_inv h8 hr).1; have := shortN_pos v; omega
  obtain ⟨A, c, hb, h1, h2, h3, h4⟩ := h
  have HS : Hid (Sees .u8 w A l) := hid (h4.sees (Nat.le_of_lt hb.lt))
  obtain ⟨c0, c1, f0, f1⟩ := blk2 hb
  clear hb h1 h4 hr h8
  go_enter Tryd.func48, Tryd.ntmps48
  go_wp2_with fail
  with_reducible refine (readshort_any A l c _ hl H8.out HS.out).mono ?_
  rintro en w1 ⟨rfl, rfl⟩
  rw [HR.out]
  go_wp2_with fail
  with_reducible refine (fail_any g l 0 0 _ _ HI.out (by omega)).mono ?_
  rintro en w1 ⟨rfl, hin, hg⟩
  rw [leftE_zero, firstE_zero] at hin
  have HT := hid hin
  have HG := hid hg
  clear hin hg c0 c1 f0 f1 h2 h3 HS HI
  go_wp2_with fail
  with_reducible refine (fail_any g l 0 12 _ _ HT.out (by omega)).mono ?_
  rintro en w2 ⟨rfl, hin, hg⟩
  rw [leftE_nil (by omega) (fun h => absurd rfl h), firstE_none] at hin
  have HT2 := hid hin
  have HG2 := hid (HG.out.trans hg)
  clear hin hg HT HG
  go_wp2_with fail
  with_reducible refine (take_no g [] 12 n _ _ HT2.out (by omega) (by simpa using hn)).mono ?_
  rintro en w3 ⟨rfl, hin, hg⟩
  have HT3 : Hid (InAt w3 g [] 12) := hid hin
  have HG3 := hid (HG2.out.trans hg)
  clear hin hg
  go_wp2_with fail
  with_reducible refine (failed_yes g [] 12 _ HT3.out (by omega)).mono ?_
  rintro en w4 ⟨rfl, rfl⟩
  go_wp2
  go_ret
  exact ⟨rfl, HT3.out, HG3.out⟩

set_option maxRecDepth 100000 in
set_option maxHeartbeats 400000 in
theorem short_fits (g : Nat) (l : List Nat) (v n : Nat) (most : Int) (w : World) (h : InAt w g l 0) (hl : l.length ≤ 9223372036854775807) (h8 : ∀ x ∈ l, x < 256) (hr : readN l = (v, n, 0)) (hm : (v : Int) ≤ most) :
    Calls Tryd.prog 48 #[.pointer (some ⟨g, 0, none⟩), .int .u64 most] w (Turns (fun en => en = .returned (.int .u64 (v : Int))) g (l.drop n) 0 w) := by
  have HI := hid h
  have HR := hid hr
  have H8 := hid h8
  have hn : n ≤ l.length := (readN_inv h8 hr).2.1
  obtain ⟨A, c, hb, h1, h2, h3, h4⟩ := h
  have HS : Hid (Sees .u8 w A l) := hid (h4.sees (Nat.le_of_lt hb.lt))
  obtain ⟨c0, c1, f0, f1⟩ := blk2 hb
  clear hb h1 h4 hr h8
  go_enter Tryd.func48, Tryd.ntmps48
  go_wp2_with fail
  with_reducible refine (readshort_any A l c _ hl H8.out HS.out).mono ?_
  rintro en w1 ⟨rfl, rfl⟩
  rw [HR.out]
  go_wp2_with fail
  with_reducible refine (fail_any g l 0 0 _ _ HI.out (by omega)).mono ?_
  rintro en w1 ⟨rfl, hin, hg⟩
  rw [leftE_zero, firstE_zero] at hin
  have HT := hid hin
  have HG := hid hg
  clear hin hg c0 c1 f0 f1 h2 h3 HS HI
  go_wp2_with fail
  with_reducible refine (take_ok g l 0 n _ _ HT.out (by omega) hn).mono ?_
  rintro en w3 ⟨⟨A1, rfl, _, _⟩, hin, hg⟩
  have HT3 := hid hin
  have HG3 := hid (HG.out.trans hg)
  clear hin hg
  go_wp2_with fail
  with_reducible refine (failed_no g (l.drop n) _ HT3.out).mono ?_
  rintro en w4 ⟨rfl, rfl⟩
  go_wp2
  go_ret
  exact ⟨rfl, HT3.out, HG3.out⟩

theorem inshort_any (g : Nat) (l : List Nat) (e most : Nat) (a : Int) (l' : List Nat) (e' v : Nat) (w : World) (h : InAt w g l e) (hf : Fine l e) (h8 : ∀ x ∈ l, x < 256) (hl : l.length ≤ 9223372036854775807) (ha : a = (most : Int)) (hs : sShort l e most = (l', e', v)) :
    Calls Tryd.prog 48 #[.pointer (some ⟨g, 0, none⟩), .int .u64 a] w (Turns (fun en => en = .returned (.int .u64 (v : Int))) g l' e' w) := by
  subst ha
  unfold sShort at hs
  by_cases hz : (readN l).2.2 = 0
  · rw [if_pos hz] at hs
    obtain rfl := fine_zero hf (readN_ne hz)
    have hr : readN l = ((readN l).1, (readN l).2.1, 0) := by rw [← hz]
    by_cases hm : most < (readN l).1
    · rw [if_pos hm] at hs
      simp only [Prod.mk.injEq] at hs
      obtain ⟨rfl, rfl, rfl⟩ := hs
      exact short_high g l _ _ most w h hl h8 hr hm
    · rw [if_neg hm] at hs
      simp only [Prod.mk.injEq] at hs
      obtain ⟨rfl, rfl, rfl⟩ := hs
      exact short_fits g l _ _ _ w h hl h8 hr (by omega)
  · rw [if_neg hz] at hs
    simp only [Prod.mk.injEq] at hs
    obtain ⟨rfl, rfl, rfl⟩ := hs
    exact short_err g l e _ _ w (by omega) h hf hl h8 (readN_zero hz) (by omega)

set_option maxRecDepth 100000 in
set_option maxHeartbeats 400000 in
theorem fixed_none (g : Nat) (l : List Nat) (e : Nat) (w : World) (h : InAt w g l e) (hf : Fine l e) (hk : l.length < 8) :
    Calls Tryd.prog 66 #[.pointer (some ⟨g, 0, none⟩)] w (Turns (fun en => en = .returned (.int .u64 0)) g [] (firstE e 20) w) := by
  have HI := hid h
  have HF := hid hf
  clear h hf
  go_enter Tryd.func66, Tryd.ntmps66
  go_wp2_with fail
  with_reducible refine (take_no g l e 8 _ _ HI.out (by omega) hk).mono ?_
  rintro en w1 ⟨rfl, hin, hg⟩
  rw [leftE_nil (by omega) HF.out] at hin
  have HT := hid hin
  have HG := hid hg
  clear hin hg
  go_wp2_with fail
  with_reducible refine (read_short8 none 0 0 _ (by omega)).mono ?_
  rintro en w2 ⟨rfl, rfl⟩
  go_wp2
  go_ret
  exact ⟨rfl, HT.out, HG.out⟩

set_option maxRecDepth 100000 in
set_option maxHeartbeats 400000 in
theorem fixed_some (g : Nat) (l : List Nat) (w : World) (h : InAt w g l 0) (h8 : ∀ x ∈ l, x < 256) (hk : 8 ≤ l.length) :
    Calls Tryd.prog 66 #[.pointer (some ⟨g, 0, none⟩)] w (Turns (fun en => en = .returned (.int .u64 (numN (l.take 8) : Int))) g (l.drop 8) 0 w) := by
  have HI := hid h
  have H8 := hid h8
  clear h h8
  go_enter Tryd.func66, Tryd.ntmps66
  go_wp2_with fail
  with_reducible refine (take_ok g l 0 8 _ _ HI.out (by omega) hk).mono ?_
  rintro en w1 ⟨⟨A1, rfl, _, hs⟩, hin, hg⟩
  have hlen : (l.take 8).length = 8 := by rw [List.length_take]; omega
  have HT := hid hin
  have HG := hid hg
  obtain ⟨b, o, rfl⟩ : ∃ b o, A1 = some ⟨b, o, none⟩ := by
    obtain ⟨b, o, h, _, _⟩ := hs 0 ((l.take 8)[0]'(by omega)) (List.getElem?_eq_getElem (by omega))
    exact ⟨b, o, h⟩
  have HR := hid (read_eight b o (l.take 8) w1 hlen (fun x hx => H8.out x (List.mem_of_mem_take hx)) (hs.sees (Nat.le_of_lt HT.out.lt)))
  rw [hlen]
  clear hin hg hs hlen
  go_wp2_with fail
  with_reducible refine HR.out.mono ?_
  rintro en w2 ⟨rfl, rfl⟩
  go_wp2
  go_ret
  exact ⟨rfl, HT.out, HG.out⟩

theorem infixed_any (g : Nat) (l : List Nat) (e : Nat) (l' : List Nat) (e' v : Nat) (w : World) (h : InAt w g l e) (hf : Fine l e) (h8 : ∀ x ∈ l, x < 256) (hs : sFixed l e = (l', e', v)) :
    Calls Tryd.prog 66 #[.pointer (some ⟨g, 0, none⟩)] w (Turns (fun en => en = .returned (.int .u64 (v : Int))) g l' e' w) := by
  unfold sFixed at hs
  by_cases hk : l.length < 8
  · rw [if_pos hk] at hs
    simp only [Prod.mk.injEq] at hs
    obtain ⟨rfl, rfl, rfl⟩ := hs
    exact fixed_none g l e w h hf hk
  · rw [if_neg hk] at hs
    simp only [Prod.mk.injEq] at hs
    obtain ⟨rfl, rfl, rfl⟩ := hs
    obtain rfl := fine_zero hf (by rintro rfl; exact hk (by simp))
    exact fixed_some g l w h h8 (by omega)

end Go.Proofs.YtapmchkikafpmaaDoor
