/-
  Contracts of package wire's In: Left, Failed, Fail, End, take.
-/
import Derived.Test.YtpdfakjopeldmaaGreatDoorHeld
import Derived.Test.YtpdfakjopeldmaaGreatDoorBase
import Derived.Test.YtpdfakjopeldmaaGreatDoorMgO
import Derived.Test.YtpdfakjopeldmaaGreatDoorMgA
import Derived.Deep.Cut
import Derived.Test.YtpdfakjopeldmaaGreatDoorZKEnc
namespace Go.Proofs.YtpdfakjopeldmaaGreatDoor
open Go.ChangeShapes Go.WideShapes Go.ChangeAt Go.RowKit

/-- An In at block g: what is left, and the error. -/
def InAt (w : World) (g : Nat) (l : List Nat) (e : Nat) : Prop :=
  ∃ A c, Blk w g 84 #[.slice A l.length c, .int .i64 (e : Int)] ∧ (A = none → c = 0) ∧ l.length ≤ c ∧ c ≤ 9223372036854775807 ∧ Held g w A l

theorem InAt.lt {w : World} {g : Nat} {l : List Nat} {e : Nat} (h : InAt w g l e) : g < w.heap.size := by
  obtain ⟨A, c, hb, _⟩ := h
  exact hb.lt
theorem InAt.keep {w w' : World} {g : Nat} {l : List Nat} {e : Nat} (h : InAt w g l e) (hb : Below (g + 1) w w') : InAt w' g l e := by
  obtain ⟨A, c, hk, h1, h2, h3, h4⟩ := h
  exact ⟨A, c, hk.below hb (by omega), h1, h2, h3, h4.below (hb.mono (by omega))⟩
theorem InAt.grown {w w' : World} {g r : Nat} {l : List Nat} {e : Nat} (h : InAt w g l e) (hb : w.grownBy w' (some r)) (hr : g < r) : InAt w' g l e :=
  h.keep (below_only hb (by omega) h.lt)

theorem blk2 {w : World} {g : Nat} {T : TypeId} {a b : Value} (h : Blk w g T #[a, b]) :
    w.cell? ⟨g, 0, none⟩ = some a ∧ w.cell? ⟨g, 1, none⟩ = some b ∧ w.frozen? ⟨g, 0, none⟩ = false ∧ w.frozen? ⟨g, 1, none⟩ = false :=
  ⟨(h.cell 0).trans rfl, (h.cell 1).trans rfl, h.frozen 0, h.frozen 1⟩

set_option maxRecDepth 100000 in
set_option maxHeartbeats 400000 in
theorem left_any (g : Nat) (l : List Nat) (e : Nat) (w : World) (h : InAt w g l e) :
    Calls Tryz.prog 38 #[.pointer (some ⟨g, 0, none⟩)] w fun en w' => en = .returned (.int .i64 (l.length : Int)) ∧ w = w' := by
  obtain ⟨A, c, hb, h1, h2, h3, h4⟩ := h
  have H4 := hid h4
  obtain ⟨c0, c1, f0, f1⟩ := blk2 hb
  clear hb h1 h4
  go_enter Tryz.func38, Tryz.ntmps38
  go_wp2
  go_ret
  exact ⟨rfl, rfl⟩

set_option maxRecDepth 100000 in
set_option maxHeartbeats 400000 in
theorem failed_as (b : Bool) (g : Nat) (l : List Nat) (e : Nat) (w : World) (h : InAt w g l e) (hb : b = ((e : Int) != 0)) :
    Calls Tryz.prog 37 #[.pointer (some ⟨g, 0, none⟩)] w fun en w' => en = .returned (.bool b) ∧ w = w' := by
  obtain ⟨A, c, hk, h1, h2, h3, h4⟩ := h
  obtain ⟨c0, c1, f0, f1⟩ := blk2 hk
  have HB := hid hb
  clear hk h1 h4 hb
  go_enter Tryz.func37, Tryz.ntmps37
  go_wp2
  go_ret
  exact ⟨ret_bool HB.out.symm, rfl⟩

theorem failed_no (g : Nat) (l : List Nat) (w : World) (h : InAt w g l 0) :
    Calls Tryz.prog 37 #[.pointer (some ⟨g, 0, none⟩)] w fun en w' => en = .returned (.bool false) ∧ w = w' := failed_as false g l 0 w h (by simp)
theorem failed_yes (g : Nat) (l : List Nat) (e : Nat) (w : World) (h : InAt w g l e) (he : 0 < e) :
    Calls Tryz.prog 37 #[.pointer (some ⟨g, 0, none⟩)] w fun en w' => en = .returned (.bool true) ∧ w = w' :=
  failed_as true g l e w h (by have h1 : ((e : Int) != 0) = true := by { rw [bne_iff_ne]; omega }; exact h1.symm)

/-- The first error stays. -/
def firstE (e x : Nat) : Nat := if e = 0 then x else e
def leftE (e x : Nat) (l : List Nat) : List Nat := if e = 0 ∧ 0 < x then [] else l

/-- What a call that turns an In leaves, beside what it tells. -/
def Turns (P : Ending → Prop) (g : Nat) (l : List Nat) (e : Nat) (w : World) (en : Ending) (w' : World) : Prop := P en ∧ InAt w' g l e ∧ w.grownBy w' (some g)

theorem fail_step {w : World} {g : Nat} {x : Nat} {A : Option Addr} {n c : Nat} (hb : Blk w g 84 #[.slice A n c, .int .i64 0]) :
    InAt ((w.setCell ⟨g, 1, none⟩ (.int .i64 (x : Int))).setCell ⟨g, 0, none⟩ (.slice none 0 0)) g [] x ∧ w.grownBy ((w.setCell ⟨g, 1, none⟩ (.int .i64 (x : Int))).setCell ⟨g, 0, none⟩ (.slice none 0 0)) (some g) := by
  refine ⟨⟨none, 0, ?_, fun _ => rfl, Nat.le_refl _, by omega, Held.nil _ _ _⟩, only_setCell (p := ⟨g, 0, none⟩) (only_setCell (p := ⟨g, 1, none⟩) (World.grownBy.refl _ _) (.inl rfl) _) (.inl rfl) _⟩
  have h := (hb.set_ 1 (.int .i64 (x : Int))).set_ 0 (.slice none 0 0)
  exact h

set_option maxRecDepth 100000 in
set_option maxHeartbeats 400000 in
theorem fail_any (g : Nat) (l : List Nat) (e x : Nat) (a : Int) (w : World) (h : InAt w g l e) (ha : a = (x : Int)) :
    Calls Tryz.prog 36 #[.pointer (some ⟨g, 0, none⟩), .int .i64 a] w (Turns (fun en => en = .returned (.tuple #[])) g (leftE e x l) (firstE e x) w) := by
  subst ha
  by_cases he : e = 0
  · subst he
    by_cases hx : x = 0
    · subst hx
      have H : Hid (Turns (fun en => en = .returned (.tuple #[])) g (leftE 0 0 l) (firstE 0 0) w (.returned (.tuple #[])) w) := hid ⟨rfl, h, World.grownBy.refl _ _⟩
      have HI := hid h
      clear h
      go_enter Tryz.func36, Tryz.ntmps36
      go_wp2_with ((go_at_call 37; ((with_reducible refine (failed_no g l _ HI.out).mono ?_); rintro e w' ⟨rfl, rfl⟩)))
      go_end0
      exact H.out
    · have HI := hid h
      obtain ⟨A, c, hk, h1, h2, h3, h4⟩ := h
      have H : Hid (Turns (fun en => en = .returned (.tuple #[])) g (leftE 0 x l) (firstE 0 x) w (.returned (.tuple #[])) ((w.setCell ⟨g, 1, none⟩ (.int .i64 (x : Int))).setCell ⟨g, 0, none⟩ (.slice none 0 0))) := hid (by
        have := fail_step (x := x) hk
        refine ⟨rfl, ?_, this.2⟩
        rw [leftE, firstE, if_pos ⟨rfl, by omega⟩, if_pos rfl]
        exact this.1)
      obtain ⟨c0, c1, f0, f1⟩ := blk2 hk
      clear hk h1 h4
      go_enter Tryz.func36, Tryz.ntmps36
      go_wp2_with ((go_at_call 37; ((with_reducible refine (failed_no g l _ HI.out).mono ?_); rintro e w' ⟨rfl, rfl⟩)))
      go_end0
      exact H.out
  · have H : Hid (Turns (fun en => en = .returned (.tuple #[])) g (leftE e x l) (firstE e x) w (.returned (.tuple #[])) w) := hid ⟨rfl, by rw [leftE, firstE, if_neg (by omega), if_neg he]; exact h, World.grownBy.refl _ _⟩
    have HI := hid h
    have he' : 0 < e := by omega
    clear h
    go_enter Tryz.func36, Tryz.ntmps36
    go_wp2_with ((go_at_call 37; ((with_reducible refine (failed_yes g l e _ HI.out he').mono ?_); rintro e w' ⟨rfl, rfl⟩)))
    go_end0
    exact H.out

/-- What a taking tells: a slice of its own length, with no room. -/
def Cuts (l : List Nat) (g : Nat) (w' : World) (en : Ending) : Prop := ∃ A1, en = .returned (.slice A1 l.length l.length) ∧ (A1 = none → l.length = 0) ∧ Held g w' A1 l

set_option maxRecDepth 100000 in
set_option maxHeartbeats 400000 in
theorem take_ok (g : Nat) (l : List Nat) (e k : Nat) (a : Int) (w : World) (h : InAt w g l e) (ha : a = (k : Int)) (hk : k ≤ l.length) :
    Calls Tryz.prog 60 #[.pointer (some ⟨g, 0, none⟩), .int .i64 a] w (fun en w' => Cuts (l.take k) g w' en ∧ InAt w' g (l.drop k) e ∧ w.grownBy w' (some g)) := by
  subst ha
  obtain ⟨i0, hi, hz0, hz1, hz2⟩ := info_parts info_u8
  obtain ⟨A, c, hb, h1, h2, h3, h4⟩ := h
  obtain ⟨A1, s1, n1, l1⟩ := cut_front (P := Tryz.prog) 48 5 i0 Tryz.underlying48 hi hk h2 h4 h1
  obtain ⟨A2, s2, n2, l2⟩ := cut_rest (P := Tryz.prog) 48 5 i0 Tryz.underlying48 hi hz1 rfl hk h2 h4 h1
  have H : Hid (Cuts (l.take k) g (w.setCell ⟨g, 0, none⟩ (.slice A2 (l.length - k) (c - k))) (.returned (.slice A1 k k)) ∧ InAt (w.setCell ⟨g, 0, none⟩ (.slice A2 (l.length - k) (c - k))) g (l.drop k) e ∧ w.grownBy (w.setCell ⟨g, 0, none⟩ (.slice A2 (l.length - k) (c - k))) (some g)) := hid (by
    have hbe : Below g w (w.setCell ⟨g, 0, none⟩ (.slice A2 (l.length - k) (c - k))) := Below.setCell (p := ⟨g, 0, none⟩) (Below.refl _ _) (Nat.le_refl _) _
    have hl : (l.take k).length = k := by rw [List.length_take]; omega
    refine ⟨⟨A1, by rw [hl], by rw [hl]; exact n1, l1.below hbe⟩, ⟨A2, c - k, ?_, n2, by rw [List.length_drop]; omega, by omega, l2.below hbe⟩, only_setCell (p := ⟨g, 0, none⟩) (World.grownBy.refl _ _) (.inl rfl) _⟩
    have := hb.set_ 0 (.slice A2 (l.length - k) (c - k))
    rw [List.length_drop]
    exact this)
  obtain ⟨c0, c1, f0, f1⟩ := blk2 hb
  have hlen : l.length ≤ 9223372036854775807 := by omega
  clear hb h1 h4 l1 l2 n1 n2 hz0 hz1 hz2 hi
  go_enter Tryz.func60, Tryz.ntmps60
  go_wp2
  go_ret
  exact H.out

set_option maxRecDepth 100000 in
set_option maxHeartbeats 400000 in
theorem take_no (g : Nat) (l : List Nat) (e k : Nat) (a : Int) (w : World) (h : InAt w g l e) (ha : a = (k : Int)) (hk : l.length < k) :
    Calls Tryz.prog 60 #[.pointer (some ⟨g, 0, none⟩), .int .i64 a] w (Turns (fun en => en = .returned (.slice none 0 0)) g (leftE e 20 l) (firstE e 20) w) := by
  subst ha
  have HI := hid h
  obtain ⟨A, c, hb, h1, h2, h3, h4⟩ := h
  obtain ⟨c0, c1, f0, f1⟩ := blk2 hb
  clear hb h1 h4
  go_enter Tryz.func60, Tryz.ntmps60
  go_wp2_with ((go_at_call 36; ((with_reducible refine (fail_any g l e 20 _ _ HI.out (by omega)).mono ?_); rintro en w1 ⟨rfl, hin, hg⟩; have HT := hid hin; have HG := hid hg; clear hin hg)))
  go_ret
  exact ⟨rfl, HT.out, HG.out⟩

/-- The error at the end. -/
def endE (l : List Nat) (e : Nat) : Nat := if l = [] then e else 21

set_option maxRecDepth 100000 in
set_option maxHeartbeats 400000 in
theorem end_any (g : Nat) (l : List Nat) (e : Nat) (w : World) (h : InAt w g l e) :
    Calls Tryz.prog 15 #[.pointer (some ⟨g, 0, none⟩)] w fun en w' => en = .returned (.int .i64 (endE l e : Int)) ∧ w = w' := by
  have HI := hid h
  obtain ⟨A, c, hb, h1, h2, h3, h4⟩ := h
  obtain ⟨c0, c1, f0, f1⟩ := blk2 hb
  clear hb h1 h4
  by_cases hl : l = []
  · subst hl
    have HE : Hid (endE [] e = e) := hid rfl
    go_enter Tryz.func15, Tryz.ntmps15
    go_wp2_with ((go_at_call 38; ((with_reducible refine (left_any g [] e _ HI.out).mono ?_); rintro e w' ⟨rfl, rfl⟩)))
    go_ret
    exact ⟨ret_num (by rw [HE.out]), rfl⟩
  · have hpos : 0 < l.length := List.length_pos_iff.2 hl
    have HE : Hid (endE l e = 21) := hid (by rw [endE, if_neg hl])
    clear hl
    go_enter Tryz.func15, Tryz.ntmps15
    go_wp2_with ((go_at_call 38; ((with_reducible refine (left_any g l e _ HI.out).mono ?_); rintro e w' ⟨rfl, rfl⟩)))
    go_ret
    exact ⟨ret_num (by rw [HE.out]; rfl), rfl⟩

end Go.Proofs.YtpdfakjopeldmaaGreatDoor

/-
  Contracts of package wire's In: Byte, Truth, Short, Fixed.
-/
namespace Go.Proofs.YtpdfakjopeldmaaGreatDoor
open Go.ChangeShapes Go.WideShapes Go.ChangeAt Go.RowKit

/-- What a taking does: what is left then, the error, the thing. -/
def sByte (l : List Nat) (e : Nat) : List Nat × Nat × Nat := match l with
  | [] => ([], firstE e 20, 0)
  | b :: t => (t, e, b)
def sTruth (l : List Nat) (e : Nat) : List Nat × Nat × Bool := match l with
  | [] => ([], firstE e 20, false)
  | b :: t => if b ≤ 1 then (t, e, decide (b = 1)) else ([], 10, false)
def sShort (l : List Nat) (e most : Nat) : List Nat × Nat × Nat :=
  if (readN l).2.2 = 0 then (if most < (readN l).1 then ([], 12, 0) else (l.drop (readN l).2.1, e, (readN l).1)) else ([], firstE e (readN l).2.2, 0)
def sFixed (l : List Nat) (e : Nat) : List Nat × Nat × Nat := if l.length < 8 then ([], firstE e 20, 0) else (l.drop 8, e, numN (l.take 8))

theorem readAt_zero (l : List Nat) : ∀ (i n : Nat), (readAt i n l).2.2 ≠ 0 → (readAt i n l).1 = 0 ∧ (readAt i n l).2.1 = 0 := by
  induction l with
  | nil => intro i n _; exact ⟨rfl, rfl⟩
  | cons c r ih =>
    intro i n h
    rw [readAt] at h ⊢
    split
    · exact ⟨rfl, rfl⟩
    · split
      · rename_i h1 h2
        rw [if_neg h1, if_pos h2] at h
        exact ih _ _ h
      · split
        · exact ⟨rfl, rfl⟩
        · rename_i h1 h2 h3
          rw [if_neg h1, if_neg h2, if_neg h3] at h
          exact absurd rfl h
theorem readN_zero {l : List Nat} (h : (readN l).2.2 ≠ 0) : readN l = (0, 0, (readN l).2.2) := by
  obtain ⟨h1, h2⟩ := readAt_zero l 0 0 h
  have e : readN l = ((readN l).1, (readN l).2.1, (readN l).2.2) := rfl
  rw [e]
  show ((readAt 0 0 l).1, (readAt 0 0 l).2.1, (readN l).2.2) = _
  rw [h1, h2]
theorem readN_ne {l : List Nat} (h : (readN l).2.2 = 0) : l ≠ [] := by
  rintro rfl
  exact absurd h (by decide)

theorem firstE_pos {e x : Nat} (h : 0 < x) : 0 < firstE e x := by unfold firstE; split <;> omega
theorem leftE_nil {e x : Nat} {l : List Nat} (h : 0 < x) (hl : e ≠ 0 → l = []) : leftE e x l = [] := by
  unfold leftE
  split
  · rfl
  · exact hl (by omega)
theorem leftE_zero (e : Nat) (l : List Nat) : leftE e 0 l = l := by simp [leftE]
theorem firstE_zero (e : Nat) : firstE e 0 = e := by unfold firstE; split <;> omega
theorem firstE_none (x : Nat) : firstE 0 x = x := rfl

/-- Where there is an error, nothing is left. -/
def Fine (l : List Nat) (e : Nat) : Prop := e ≠ 0 → l = []

abbrev Gives (v : Value) (g : Nat) (r : List Nat × Nat) (w : World) := Turns (fun en => en = .returned v) g r.1 r.2 w

/-- Read of too few, at the literal. -/
theorem read_short8 (A : Option Addr) (len ca : Nat) (w : World) (hl : len < 8) :
    Calls Tryz.prog 61 #[.slice A len ca, .int .i64 8] w (Tells (0, 0, 20) w) := read_short A len ca 8 w (by omega) (by omega) hl
/-- Read of eight bytes that are all there is. -/
theorem read_eight (b o : Nat) (l : List Nat) (w : World) (hl : l.length = 8) (hx : ∀ x ∈ l, x < 256) (hA : Sees .u8 w (some ⟨b, o, none⟩) l) :
    Calls Tryz.prog 61 #[.slice (some ⟨b, o, none⟩) 8 8, .int .i64 8] w (Tells (numN l, 8, 0) w) := by
  have h := read_any b o l 8 8 w (by omega) (by omega) (by omega) (by omega) hx hA
  rw [List.take_of_length_le (by omega), hl] at h
  exact h

theorem fine_zero {l : List Nat} {e : Nat} (hf : Fine l e) (hl : l ≠ []) : e = 0 := by
  rcases Nat.eq_zero_or_pos e with h0 | h0
  · exact h0
  · exact absurd (hf (by omega)) hl

set_option maxRecDepth 100000 in
set_option maxHeartbeats 400000 in
theorem short_err (g : Nat) (l : List Nat) (e z : Nat) (most : Int) (w : World) (hm0 : 0 ≤ most) (h : InAt w g l e) (hf : Fine l e) (hl : l.length ≤ 9223372036854775807) (h8 : ∀ x ∈ l, x < 256) (hr : readN l = (0, 0, z)) (hz : 0 < z) :
    Calls Tryz.prog 59 #[.pointer (some ⟨g, 0, none⟩), .int .u64 most] w (Turns (fun en => en = .returned (.int .u64 0)) g [] (firstE e z) w) := by
  have HI := hid h
  have HR := hid hr
  have H8 := hid h8
  have HF := hid hf
  have hp : 0 < firstE e z := firstE_pos hz
  obtain ⟨A, c, hb, h1, h2, h3, h4⟩ := h
  have HS : Hid (Sees .u8 w A l) := hid (h4.sees (Nat.le_of_lt hb.lt))
  obtain ⟨c0, c1, f0, f1⟩ := blk2 hb
  clear hb h1 h4 hr h8 hf
  go_enter Tryz.func59, Tryz.ntmps59
  go_wp2_with fail
  with_reducible refine (readshort_any A l c _ hl H8.out HS.out).mono ?_
  rintro en w1 ⟨rfl, rfl⟩
  rw [HR.out]
  go_wp2_with fail
  with_reducible refine (fail_any g l e z _ _ HI.out (by omega)).mono ?_
  rintro en w1 ⟨rfl, hin, hg⟩
  rw [leftE_nil hz HF.out] at hin
  have HT := hid hin
  have HG := hid hg
  clear hin hg c0 c1 f0 f1 h2 h3 HS HI
  go_wp2_with fail
  with_reducible refine (take_ok g [] (firstE e z) 0 _ _ HT.out (by omega) (by simp)).mono ?_
  rintro en w2 ⟨⟨A1, rfl, _, _⟩, hin, hg⟩
  have HT2 : Hid (InAt w2 g [] (firstE e z)) := hid hin
  have HG2 := hid (HG.out.trans hg)
  clear hin hg
  go_wp2_with fail
  with_reducible refine (failed_yes g [] (firstE e z) _ HT2.out hp).mono ?_
  rintro en w3 ⟨rfl, rfl⟩
  go_wp2
  go_ret
  exact ⟨rfl, HT2.out, HG2.out⟩

set_option maxRecDepth 100000 in
set_option maxHeartbeats 400000 in
theorem short_high (g : Nat) (l : List Nat) (v n : Nat) (most : Nat) (w : World) (h : InAt w g l 0) (hl : l.length ≤ 9223372036854775807) (h8 : ∀ x ∈ l, x < 256) (hr : readN l = (v, n, 0)) (hm : most < v) :
    Calls Tryz.prog 59 #[.pointer (some ⟨g, 0, none⟩), .int .u64 (most : Int)] w (Turns (fun en => en = .returned (.int .u64 0)) g [] 12 w) := by
  have HI := hid h
  have HR := hid hr
  have H8 := hid h8
  have hn : 0 < n := by have := (readN_inv h8 hr).1; have := shortN_pos v; omega
  obtain ⟨A, c, hb, h1, h2, h3, h4⟩ := h
  have HS : Hid (Sees .u8 w A l) := hid (h4.sees (Nat.le_of_lt hb.lt))
  obtain ⟨c0, c1, f0, f1⟩ := blk2 hb
  clear hb h1 h4 hr h8
  go_enter Tryz.func59, Tryz.ntmps59
  go_wp2_with fail
  with_reducible refine (readshort_any A l c _ hl H8.out HS.out).mono ?_
  rintro en w1 ⟨rfl, rfl⟩
  rw [HR.out]
  go_wp2_with fail
  with_reducible refine (fail_any g l 0 0 _ _ HI.out (by omega)).mono ?_
  rintro en w1 ⟨rfl, hin, hg⟩
  rw [leftE_zero, firstE_zero] at hin
  have HT := hid hin
  have HG := hid hg
  clear hin hg c0 c1 f0 f1 h2 h3 HS HI
  go_wp2_with fail
  with_reducible refine (fail_any g l 0 12 _ _ HT.out (by omega)).mono ?_
  rintro en w2 ⟨rfl, hin, hg⟩
  rw [leftE_nil (by omega) (fun h => absurd rfl h), firstE_none] at hin
  have HT2 := hid hin
  have HG2 := hid (HG.out.trans hg)
  clear hin hg HT HG
  go_wp2_with fail
  with_reducible refine (take_no g [] 12 n _ _ HT2.out (by omega) (by simpa using hn)).mono ?_
  rintro en w3 ⟨rfl, hin, hg⟩
  have HT3 : Hid (InAt w3 g [] 12) := hid hin
  have HG3 := hid (HG2.out.trans hg)
  clear hin hg
  go_wp2_with fail
  with_reducible refine (failed_yes g [] 12 _ HT3.out (by omega)).mono ?_
  rintro en w4 ⟨rfl, rfl⟩
  go_wp2
  go_ret
  exact ⟨rfl, HT3.out, HG3.out⟩

set_option maxRecDepth 100000 in
set_option maxHeartbeats 400000 in
theorem short_fits (g : Nat) (l : List Nat) (v n : Nat) (most : Int) (w : World) (h : InAt w g l 0) (hl : l.length ≤ 9223372036854775807) (h8 : ∀ x ∈ l, x < 256) (hr : readN l = (v, n, 0)) (hm : (v : Int) ≤ most) :
    Calls Tryz.prog 59 #[.pointer (some ⟨g, 0, none⟩), .int .u64 most] w (Turns (fun en => en = .returned (.int .u64 (v : Int))) g (l.drop n) 0 w) := by
  have HI := hid h
  have HR := hid hr
  have H8 := hid h8
  have hn : n ≤ l.length := (readN_inv h8 hr).2.1
  obtain ⟨A, c, hb, h1, h2, h3, h4⟩ := h
  have HS : Hid (Sees .u8 w A l) := hid (h4.sees (Nat.le_of_lt hb.lt))
  obtain ⟨c0, c1, f0, f1⟩ := blk2 hb
  clear hb h1 h4 hr h8
  go_enter Tryz.func59, Tryz.ntmps59
  go_wp2_with fail
  with_reducible refine (readshort_any A l c _ hl H8.out HS.out).mono ?_
  rintro en w1 ⟨rfl, rfl⟩
  rw [HR.out]
  go_wp2_with fail
  with_reducible refine (fail_any g l 0 0 _ _ HI.out (by omega)).mono ?_
  rintro en w1 ⟨rfl, hin, hg⟩
  rw [leftE_zero, firstE_zero] at hin
  have HT := hid hin
  have HG := hid hg
  clear hin hg c0 c1 f0 f1 h2 h3 HS HI
  go_wp2_with fail
  with_reducible refine (take_ok g l 0 n _ _ HT.out (by omega) hn).mono ?_
  rintro en w3 ⟨⟨A1, rfl, _, _⟩, hin, hg⟩
  have HT3 := hid hin
  have HG3 := hid (HG.out.trans hg)
  clear hin hg
  go_wp2_with fail
  with_reducible refine (failed_no g (l.drop n) _ HT3.out).mono ?_
  rintro en w4 ⟨rfl, rfl⟩
  go_wp2
  go_ret
  exact ⟨rfl, HT3.out, HG3.out⟩

theorem inshort_any (g : Nat) (l : List Nat) (e most : Nat) (a : Int) (l' : List Nat) (e' v : Nat) (w : World) (h : InAt w g l e) (hf : Fine l e) (h8 : ∀ x ∈ l, x < 256) (hl : l.length ≤ 9223372036854775807) (ha : a = (most : Int)) (hs : sShort l e most = (l', e', v)) :
    Calls Tryz.prog 59 #[.pointer (some ⟨g, 0, none⟩), .int .u64 a] w (Turns (fun en => en = .returned (.int .u64 (v : Int))) g l' e' w) := by
  subst ha
  unfold sShort at hs
  by_cases hz : (readN l).2.2 = 0
  · rw [if_pos hz] at hs
    obtain rfl := fine_zero hf (readN_ne hz)
    have hr : readN l = ((readN l).1, (readN l).2.1, 0) := by rw [← hz]
    by_cases hm : most < (readN l).1
    · rw [if_pos hm] at hs
      simp only [Prod.mk.injEq] at hs
      obtain ⟨rfl, rfl, rfl⟩ := hs
      exact short_high g l _ _ most w h hl h8 hr hm
    · rw [if_neg hm] at hs
      simp only [Prod.mk.injEq] at hs
      obtain ⟨rfl, rfl, rfl⟩ := hs
      exact short_fits g l _ _ _ w h hl h8 hr (by omega)
  · rw [if_neg hz] at hs
    simp only [Prod.mk.injEq] at hs
    obtain ⟨rfl, rfl, rfl⟩ := hs
    exact short_err g l e _ _ w (by omega) h hf hl h8 (readN_zero hz) (by omega)

set_option maxRecDepth 100000 in
set_option maxHeartbeats 400000 in
theorem fixed_none (g : Nat) (l : List Nat) (e : Nat) (w : World) (h : InAt w g l e) (hf : Fine l e) (hk : l.length < 8) :
    Calls Tryz.prog 34 #[.pointer (some ⟨g, 0, none⟩)] w (Turns (fun en => en = .returned (.int .u64 0)) g [] (firstE e 20) w) := by
  have HI := hid h
  have HF := hid hf
  clear h hf
  go_enter Tryz.func34, Tryz.ntmps34
  go_wp2_with fail
  with_reducible refine (take_no g l e 8 _ _ HI.out (by omega) hk).mono ?_
  rintro en w1 ⟨rfl, hin, hg⟩
  rw [leftE_nil (by omega) HF.out] at hin
  have HT := hid hin
  have HG := hid hg
  clear hin hg
  go_wp2_with fail
  with_reducible refine (read_short8 none 0 0 _ (by omega)).mono ?_
  rintro en w2 ⟨rfl, rfl⟩
  go_wp2
  go_ret
  exact ⟨rfl, HT.out, HG.out⟩

set_option maxRecDepth 100000 in
set_option maxHeartbeats 400000 in
theorem fixed_some (g : Nat) (l : List Nat) (w : World) (h : InAt w g l 0) (h8 : ∀ x ∈ l, x < 256) (hk : 8 ≤ l.length) :
    Calls Tryz.prog 34 #[.pointer (some ⟨g, 0, none⟩)] w (Turns (fun en => en = .returned (.int .u64 (numN (l.take 8) : Int))) g (l.drop 8) 0 w) := by
  have HI := hid h
  have H8 := hid h8
  clear h h8
  go_enter Tryz.func34, Tryz.ntmps34
  go_wp2_with fail
  with_reducible refine (take_ok g l 0 8 _ _ HI.out (by omega) hk).mono ?_
  rintro en w1 ⟨⟨A1, rfl, _, hs⟩, hin, hg⟩
  have hlen : (l.take 8).length = 8 := by rw [List.length_take]; omega
  have HT := hid hin
  have HG := hid hg
  obtain ⟨b, o, rfl⟩ : ∃ b o, A1 = some ⟨b, o, none⟩ := by
    obtain ⟨b, o, h, _, _⟩ := hs 0 ((l.take 8)[0]'(by omega)) (List.getElem?_eq_getElem (by omega))
    exact ⟨b, o, h⟩
  have HR := hid (read_eight b o (l.take 8) w1 hlen (fun x hx => H8.out x (List.mem_of_mem_take hx)) (hs.sees (Nat.le_of_lt HT.out.lt)))
  rw [hlen]
  clear hin hg hs hlen
  go_wp2_with fail
  with_reducible refine HR.out.mono ?_
  rintro en w2 ⟨rfl, rfl⟩
  go_wp2
  go_ret
  exact ⟨rfl, HT.out, HG.out⟩

theorem infixed_any (g : Nat) (l : List Nat) (e : Nat) (l' : List Nat) (e' v : Nat) (w : World) (h : InAt w g l e) (hf : Fine l e) (h8 : ∀ x ∈ l, x < 256) (hs : sFixed l e = (l', e', v)) :
    Calls Tryz.prog 34 #[.pointer (some ⟨g, 0, none⟩)] w (Turns (fun en => en = .returned (.int .u64 (v : Int))) g l' e' w) := by
  unfold sFixed at hs
  by_cases hk : l.length < 8
  · rw [if_pos hk] at hs
    simp only [Prod.mk.injEq] at hs
    obtain ⟨rfl, rfl, rfl⟩ := hs
    exact fixed_none g l e w h hf hk
  · rw [if_neg hk] at hs
    simp only [Prod.mk.injEq] at hs
    obtain ⟨rfl, rfl, rfl⟩ := hs
    obtain rfl := fine_zero hf (by rintro rfl; exact hk (by simp))
    exact fixed_some g l w h h8 (by omega)

end Go.Proofs.YtpdfakjopeldmaaGreatDoor

/-
  Contracts of package wire's NewIn and In.Text.
-/
namespace Go.Proofs.YtpdfakjopeldmaaGreatDoor
open Go.ChangeShapes Go.WideShapes Go.ChangeAt Go.RowKit

/-- What NewIn hands back. -/
def News (l : List Nat) (w : World) (en : Ending) (w' : World) : Prop := ∃ g, en = .returned (.pointer (some ⟨g, 0, none⟩)) ∧ InAt w' g l 0 ∧ Below w.heap.size w w' ∧ w.heap.size ≤ g

theorem makes_in {l : List Nat} {w w1 : World} {s : Value} (hown : w1.ownsRow w.heap.size 5 1 s l.length (l.map bv)) (hb : Below w.heap.size w w1) :
    News l w (.returned (.pointer (some ⟨w1.heap.size, 0, none⟩))) (w1.alloc (.cells #[s, .int .i64 0] 84)) := by
  have hsz := hb.size
  refine ⟨w1.heap.size, rfl, ?_, hb.alloc hsz _, hsz⟩
  have hbl := Blk.new w1 84 #[s, .int .i64 0]
  have hal : Below w1.heap.size w1 (w1.alloc (.cells #[s, .int .i64 0] 84)) := (Below.refl _ _).alloc (Nat.le_refl _) _
  rcases hown.2 with ⟨rfl, h0⟩ | ⟨g, cap, cur, rfl, _, _, hc, hm, _, _⟩
  · have : l = [] := List.eq_nil_of_length_eq_zero h0
    subst this
    exact ⟨none, 0, hbl, fun _ => rfl, Nat.le_refl _, by omega, Held.nil _ _ _⟩
  · exact ⟨_, cap, hbl, fun h => (by cases h), hc, by unfold maxLen at hm; omega, ((Sees.of_own hown).held).below hal⟩

set_option maxRecDepth 100000 in
set_option maxHeartbeats 400000 in
theorem newin_any (A : Option Addr) (l : List Nat) (n c : Nat) (w : World) (hn : l.length = n) (hl : n ≤ 140737488355328) (hc : A = none → c = 0) (hA : Sees .u8 w A l) :
    Calls Tryz.prog 11 #[.slice A n c] w (News l w) := by
  have HA := hid hA
  have HN := hid hn
  have HC := hid hc
  clear hA hn hc
  go_enter Tryz.func11, Tryz.ntmps11
  go_wp2_with fail
  with_reducible refine (clone_any A l n c _ HN.out hl HC.out HA.out).mono ?_
  rintro en w1 ⟨s, rfl, hown, hb⟩
  obtain ⟨A1, c1, rfl, _, _, _⟩ := own_slice hown
  have HM := hid (makes_in hown hb)
  clear hown hb
  go_wp2
  go_ret
  exact HM.out

/-- A text that is taken: what is left then, the error, its bytes. -/
def sText (l : List Nat) (e most : Nat) : List Nat × Nat × List Nat :=
  if (sShort l e most).2.1 = 0 ∧ (sShort l e most).2.2 ≤ (sShort l e most).1.length then ((sShort l e most).1.drop (sShort l e most).2.2, 0, (sShort l e most).1.take (sShort l e most).2.2)
  else ([], firstE (sShort l e most).2.1 20, [])

theorem sShort_bad {l : List Nat} {e most : Nat} (h : (sShort l e most).2.1 ≠ 0) (hf : Fine l e) : (sShort l e most).1 = [] ∧ (sShort l e most).2.2 = 0 := by
  unfold sShort at h ⊢
  by_cases hz : (readN l).2.2 = 0
  · rw [if_pos hz] at h ⊢
    by_cases hm : most < (readN l).1
    · rw [if_pos hm]; exact ⟨rfl, rfl⟩
    · rw [if_neg hm] at h
      exact absurd (fine_zero hf (readN_ne hz)) h
  · rw [if_neg hz]; exact ⟨rfl, rfl⟩
theorem sShort_most {l : List Nat} {e most : Nat} : (sShort l e most).2.2 ≤ most := by
  unfold sShort
  split
  · split
    · exact Nat.zero_le _
    · show (readN l).1 ≤ most; omega
  · exact Nat.zero_le _
theorem sShort_in {l : List Nat} {e most : Nat} : ∀ x ∈ (sShort l e most).1, x ∈ l := by
  unfold sShort
  split
  · split
    · intro x hx; cases hx
    · intro x hx; exact List.mem_of_mem_drop hx
  · intro x hx; cases hx
theorem sShort_len {l : List Nat} {e most : Nat} : (sShort l e most).1.length ≤ l.length := by
  unfold sShort
  split
  · split
    · simp
    · show (l.drop _).length ≤ _; rw [List.length_drop]; omega
  · simp

set_option maxRecDepth 100000 in
set_option maxHeartbeats 400000 in
theorem text_ok (g : Nat) (l l1 : List Nat) (e most n : Nat) (a : Int) (w : World) (h : InAt w g l e) (hf : Fine l e) (h8 : ∀ x ∈ l, x < 256) (hl : l.length ≤ 9223372036854775807) (ha : a = (most : Int)) (hm : most ≤ 9223372036854775807) (hn : n ≤ most)
    (hs : sShort l e most = (l1, 0, n)) (hk : n ≤ l1.length) :
    Calls Tryz.prog 33 #[.pointer (some ⟨g, 0, none⟩), .int .i64 a] w (Turns (fun en => en = .returned (.string (strN (l1.take n)))) g (l1.drop n) 0 w) := by
  subst ha
  have HI := hid h
  have HF := hid hf
  have H8 := hid h8
  have HS := hid hs
  clear h hf h8 hs
  have hmx : ∀ (w : World) (ts : Array TypeId) (t : TypeId), (Builtin.max_ ts t #[.int .i64 (most : Int), .int .i64 0]).run Tryz.prog w = .ok (.int .i64 (most : Int)) w := fun w ts t => by
    simp [Builtin.max_, Builtin.max2]
    try omega
  have hcv := fun (w : World) (A : Option Addr) (hS : Sees .u8 w A (l1.take n)) => sees_convert hS (show (l1.take n).length = n by rw [List.length_take]; omega) n
  have HCV := hid hcv
  clear hcv
  go_enter Tryz.func33, Tryz.ntmps33
  go_wp2_with fail
  with_reducible refine (inshort_any g l e most _ l1 0 n _ HI.out HF.out H8.out hl (by omega) HS.out).mono ?_
  rintro en w1 ⟨rfl, hin, hg⟩
  have HT := hid hin
  have HG := hid hg
  clear hin hg hmx
  go_wp2_with fail
  with_reducible refine (take_ok g l1 0 n _ _ HT.out (by omega) hk).mono ?_
  rintro en w2 ⟨⟨A1, rfl, _, hs⟩, hin, hg⟩
  have HT2 := hid hin
  have HG2 := hid (HG.out.trans hg)
  have hl2 : (l1.take n).length = n := by rw [List.length_take]; omega
  have hc2 := HCV.out w2 A1 (hs.sees (Nat.le_of_lt HT2.out.lt))
  rw [hl2]
  clear hin hg hs hl2
  go_wp2
  go_ret
  exact ⟨rfl, HT2.out, HG2.out⟩

/-- The taking fails at the count, or there are too few bytes. -/
theorem text_no (g : Nat) (l l1 : List Nat) (e e1 most n : Nat) (a : Int) (w : World) (h : InAt w g l e) (hf : Fine l e) (h8 : ∀ x ∈ l, x < 256) (hl : l.length ≤ 9223372036854775807) (ha : a = (most : Int)) (hm : most ≤ 9223372036854775807) (hn : n ≤ most)
    (hs : sShort l e most = (l1, e1, n)) (hk : e1 ≠ 0 ∨ l1.length < n) :
    Calls Tryz.prog 33 #[.pointer (some ⟨g, 0, none⟩), .int .i64 a] w (Turns (fun en => en = .returned (.string (strN []))) g [] (firstE e1 20) w) := by
  subst ha
  have hbad : e1 ≠ 0 → l1 = [] ∧ n = 0 := fun h0 => by
    have := sShort_bad (l := l) (e := e) (most := most) (by rw [hs]; exact h0) hf
    rw [hs] at this
    exact this
  have HI := hid h
  have HF := hid hf
  have H8 := hid h8
  have HS := hid hs
  clear h hf h8 hs
  have hmx : ∀ (w : World) (ts : Array TypeId) (t : TypeId), (Builtin.max_ ts t #[.int .i64 (most : Int), .int .i64 0]).run Tryz.prog w = .ok (.int .i64 (most : Int)) w := fun w ts t => by
    simp [Builtin.max_, Builtin.max2]
    try omega
  have hcv := fun (w : World) (A : Option Addr) => sees_convert (w := w) (A := A) (l := []) (n := 0) (Sees.nil _ _ _) rfl 0
  by_cases h0 : e1 = 0
  · subst h0
    have hk' : l1.length < n := by
      rcases hk with h | h
      · exact absurd rfl h
      · exact h
    clear hk hbad
    go_enter Tryz.func33, Tryz.ntmps33
    go_wp2_with fail
    with_reducible refine (inshort_any g l e most _ l1 0 n _ HI.out HF.out H8.out hl (by omega) HS.out).mono ?_
    rintro en w1 ⟨rfl, hin, hg⟩
    have HT := hid hin
    have HG := hid hg
    clear hin hg hmx
    go_wp2_with fail
    with_reducible refine (take_no g l1 0 n _ _ HT.out (by omega) hk').mono ?_
    rintro en w2 ⟨rfl, hin, hg⟩
    rw [leftE_nil (by omega) (fun h => absurd rfl h)] at hin
    have HT2 := hid hin
    have HG2 := hid (HG.out.trans hg)
    clear hin hg
    go_wp2
    go_ret
    exact ⟨rfl, HT2.out, HG2.out⟩
  · obtain ⟨rfl, rfl⟩ := hbad h0
    have HE : Hid (firstE e1 20 = e1) := hid (by unfold firstE; rw [if_neg h0])
    clear hk hbad h0
    go_enter Tryz.func33, Tryz.ntmps33
    go_wp2_with fail
    with_reducible refine (inshort_any g l e most _ [] e1 0 _ HI.out HF.out H8.out hl (by omega) HS.out).mono ?_
    rintro en w1 ⟨rfl, hin, hg⟩
    have HT := hid hin
    have HG := hid hg
    clear hin hg hmx
    go_wp2_with fail
    with_reducible refine (take_ok g [] e1 0 _ _ HT.out (by omega) (by simp)).mono ?_
    rintro en w2 ⟨⟨A1, rfl, _, _⟩, hin, hg⟩
    have HT2 : Hid (InAt w2 g [] e1) := hid hin
    have HG2 := hid (HG.out.trans hg)
    clear hin hg
    go_wp2
    go_ret
    exact ⟨rfl, by rw [HE.out]; exact HT2.out, HG2.out⟩

theorem intext_any (g : Nat) (l : List Nat) (e most : Nat) (a : Int) (l' : List Nat) (e' : Nat) (s : List Nat) (w : World) (h : InAt w g l e) (hf : Fine l e) (h8 : ∀ x ∈ l, x < 256) (hl : l.length ≤ 9223372036854775807) (ha : a = (most : Int)) (hm : most ≤ 9223372036854775807) (hs : sText l e most = (l', e', s)) :
    Calls Tryz.prog 33 #[.pointer (some ⟨g, 0, none⟩), .int .i64 a] w (Turns (fun en => en = .returned (.string (strN s))) g l' e' w) := by
  have e3 : sShort l e most = ((sShort l e most).1, (sShort l e most).2.1, (sShort l e most).2.2) := rfl
  unfold sText at hs
  by_cases hc : (sShort l e most).2.1 = 0 ∧ (sShort l e most).2.2 ≤ (sShort l e most).1.length
  · rw [if_pos hc] at hs
    simp only [Prod.mk.injEq] at hs
    obtain ⟨rfl, rfl, rfl⟩ := hs
    rw [hc.1] at e3
    exact text_ok g l _ e most _ a w h hf h8 hl ha hm sShort_most e3 hc.2
  · rw [if_neg hc] at hs
    simp only [Prod.mk.injEq] at hs
    obtain ⟨rfl, rfl, rfl⟩ := hs
    exact text_no g l _ e _ most _ a w h hf h8 hl ha hm sShort_most e3 (by omega)

end Go.Proofs.YtpdfakjopeldmaaGreatDoor

/-
  Attributes off an In: what a taking does, number by number; package attr's Take.
-/
namespace Go.Proofs.YtpdfakjopeldmaaGreatDoor
open Go.ChangeShapes Go.WideShapes Go.ChangeAt Go.RowKit
set_option linter.unusedVariables false
set_option linter.unusedSimpArgs false

theorem only_setRow {a w : World} {g r : Nat} {cs : Array Value} (h : a.grownBy w (some g)) (hr : a.heap.size ≤ r) : a.grownBy (w.setRow r cs) (some g) :=
  ⟨h.os, h.tape, h.output, by simpa using h.size, fun i hi hne => (setRow_other w r i cs (by omega)).trans (h.block i hi hne)⟩
theorem InAt.setRow {w : World} {g r : Nat} {l : List Nat} {e : Nat} {cs : Array Value} (h : InAt w g l e) (hr : g < r) : InAt (w.setRow r cs) g l e := h.keep (below_setRow_ (Below.refl _ _) hr)
theorem InAt.setCell {w : World} {g r i : Nat} {l : List Nat} {e : Nat} {x : Value} (h : InAt w g l e) (hr : g < r) : InAt (w.setCell ⟨r, i, none⟩ x) g l e := h.keep (Below.setCell (p := ⟨r, i, none⟩) (Below.refl _ _) hr _)

/-- Behind the first number and j others: what is left, the error, the numbers. -/
def stA (l : List Nat) (e : Nat) : Nat → List Nat × Nat × (Nat → Int)
  | 0 => ((sShort l e 1073741824).1, (sShort l e 1073741824).2.1, upd (fun _ => 0) 0 ((sShort l e 1073741824).2.2 : Nat))
  | j + 1 => ((sShort (stA l e j).1 (stA l e j).2.1 1024).1, (sShort (stA l e j).1 (stA l e j).2.1 1024).2.1, upd (stA l e j).2.2 (1 + j) ((sShort (stA l e j).1 (stA l e j).2.1 1024).2.2 : Nat))
/-- What a taking does: what is left, the error, the numbers. -/
def endA (s : List Nat × Nat × (Nat → Int)) : List Nat × Nat × (Nat → Int) := (s.1, s.2.1, if s.2.1 = 0 then s.2.2 else fun _ => 0)
def sAttr (l : List Nat) (e : Nat) : List Nat × Nat × (Nat → Int) := endA (stA l e 7)
theorem sAttr_all (l : List Nat) (e : Nat) : (sAttr l e).1 = (stA l e 7).1 ∧ (sAttr l e).2.1 = (stA l e 7).2.1 ∧ (sAttr l e).2.2 = if (stA l e 7).2.1 = 0 then (stA l e 7).2.2 else fun _ => 0 := by
  unfold sAttr
  generalize stA l e 7 = s
  exact ⟨rfl, rfl, rfl⟩

theorem short_fine {l : List Nat} {e most : Nat} (hf : Fine l e) (h8 : ∀ x ∈ l, x < 256) : Fine (sShort l e most).1 (sShort l e most).2.1 ∧ (∀ x ∈ (sShort l e most).1, x < 256) ∧ (sShort l e most).1.length ≤ l.length :=
  ⟨fun h => (sShort_bad h hf).1, fun x hx => h8 x (sShort_in x hx), sShort_len⟩
theorem stA_fine {l : List Nat} {e : Nat} (hf : Fine l e) (h8 : ∀ x ∈ l, x < 256) : ∀ j, Fine (stA l e j).1 (stA l e j).2.1 ∧ (∀ x ∈ (stA l e j).1, x < 256) ∧ (stA l e j).1.length ≤ l.length
  | 0 => short_fine hf h8
  | j + 1 => by
    obtain ⟨h1, h2, h3⟩ := stA_fine hf h8 j
    obtain ⟨k1, k2, k3⟩ := short_fine (most := 1024) h1 h2
    exact ⟨k1, k2, Nat.le_trans k3 h3⟩
theorem sAttr_fine {l : List Nat} {e : Nat} (hf : Fine l e) (h8 : ∀ x ∈ l, x < 256) : Fine (sAttr l e).1 (sAttr l e).2.1 ∧ (∀ x ∈ (sAttr l e).1, x < 256) ∧ (sAttr l e).1.length ≤ l.length := by
  have h := stA_fine hf h8 7
  have h2 := sAttr_all l e
  generalize stA l e 7 = s at h h2
  rw [h2.1, h2.2.1]
  exact h

theorem first_row_a (v : Int) : (#[.int .i64 v, .int .i64 0, .int .i64 0, .int .i64 0, .int .i64 0, .int .i64 0, .int .i64 0, .int .i64 0] : Array Value) = rowA (upd (fun _ => 0) 0 v) := rfl

set_option maxRecDepth 100000 in
set_option maxHeartbeats 2000000 in
theorem attake_as (S : Nat → List Nat × Nat × (Nat → Int)) (g : Nat) (l : List Nat) (e : Nat) (l' : List Nat) (e' : Nat) (V : Nat → Int) (w : World) (h : InAt w g l e) (hf : Fine l e) (h8 : ∀ x ∈ l, x < 256) (hl : l.length ≤ 9223372036854775807)
    (hz : (S 0).1 = (sShort l e 1073741824).1 ∧ (S 0).2.1 = (sShort l e 1073741824).2.1 ∧ (S 0).2.2 = upd (fun _ => 0) 0 ((sShort l e 1073741824).2.2 : Nat))
    (hn : ∀ j, (S (j + 1)).1 = (sShort (S j).1 (S j).2.1 1024).1 ∧ (S (j + 1)).2.1 = (sShort (S j).1 (S j).2.1 1024).2.1 ∧ (S (j + 1)).2.2 = upd (S j).2.2 (1 + j) ((sShort (S j).1 (S j).2.1 1024).2.2 : Nat))
    (hfn : ∀ j, Fine (S j).1 (S j).2.1 ∧ (∀ x ∈ (S j).1, x < 256) ∧ (S j).1.length ≤ l.length) (hE : l' = (S 7).1 ∧ e' = (S 7).2.1 ∧ V = if (S 7).2.1 = 0 then (S 7).2.2 else fun _ => 0) :
    Calls Tryz.prog 35 #[.pointer (some ⟨g, 0, none⟩)] w (Turns (fun en => en = .returned (.agg (rowA V))) g l' e' w) := by
  obtain ⟨l1, e1, v1, hs1⟩ : ∃ l1 e1 v1, sShort l e 1073741824 = (l1, e1, v1) := ⟨_, _, _, rfl⟩
  have hm1 : v1 ≤ 1073741824 := by have := sShort_most (l := l) (e := e) (most := 1073741824); rw [hs1] at this; exact this
  rw [hs1] at hz
  have HS0 := hid hz
  have HNX := hid hn
  have HFN := hid hfn
  have HEN := hid hE
  have hgl := h.lt
  have HI0 := hid (h.keep ((Below.refl _ _).alloc (by omega) (.cells #[.int .i64 0, .int .i64 0, .int .i64 0, .int .i64 0, .int .i64 0, .int .i64 0, .int .i64 0, .int .i64 0] 39)))
  have HF := hid hf
  have H8 := hid h8
  have HS1 := hid hs1
  obtain ⟨k, hk⟩ : ∃ k, w.heap.size = k := ⟨_, rfl⟩
  have HK := hid hk
  have hgk : g < k := by omega
  clear h hf h8 hs1 hgl hz hn hfn hE
  go_enter Tryz.func35, Tryz.ntmps35
  go_wp2_with fail
  with_reducible refine (inshort_any g l e 1073741824 1073741824 l1 e1 v1 _ HI0.out HF.out H8.out hl rfl HS1.out).mono ?_
  rintro en w1 ⟨rfl, hi1, hg1⟩
  have HG1 := hid ((only_of_below ((Below.refl w.heap.size w).alloc (Nat.le_refl _) (.cells #[.int .i64 0, .int .i64 0, .int .i64 0, .int .i64 0, .int .i64 0, .int .i64 0, .int .i64 0, .int .i64 0] 39)) (some g)).trans hg1)
  have K1 := (Blk.new w 39 #[.int .i64 0, .int .i64 0, .int .i64 0, .int .i64 0, .int .i64 0, .int .i64 0, .int .i64 0, .int .i64 0]).grown hg1 (by simp; omega)
  rw [zeros_row] at K1
  rw [hk] at K1
  have K1 := hid K1
  have HI1 := hid hi1
  clear hi1 hg1 HI0 hk
  go_upto_region 2 with fail
  obtain ⟨W2, hW2⟩ : ∃ W2, w1.alloc (.cells #[.int .i64 (v1 : Int), .int .i64 0, .int .i64 0, .int .i64 0, .int .i64 0, .int .i64 0, .int .i64 0, .int .i64 0] 39) = W2 := ⟨_, rfl⟩
  rw [hW2]
  obtain ⟨M2, hb2⟩ := one_new hW2
  have hkm : k < w1.heap.size := K1.out.lt
  have K2 := hid (K1.out.below hb2.out K1.out.lt)
  have HI2 := hid (HI1.out.keep (hb2.out.mono HI1.out.lt))
  have HG2 := hid (only_below HG1.out hb2.out)
  obtain ⟨m, hm⟩ : ∃ m, w1.heap.size = m := ⟨_, rfl⟩
  rw [hm] at M2 hkm ⊢
  rw [first_row_a] at M2
  clear hW2 hb2 hm K1 HI1 HG1
  go_wp2_with fail
  go_loopw [9] (fun iv wr => ∃ j : Nat, j ≤ 7 ∧ iv = .int .i64 j ∧ Hid (Blk wr k 39 (rowA fun _ => 0)) ∧ Hid (Blk wr m 39 (rowA (S j).2.2)) ∧ Hid (InAt wr g (S j).1 (S j).2.1) ∧ Hid (w.grownBy wr (some g))) (fun iv _ => 7 - (intOf iv).toNat)
  case atStart => exact ⟨0, by omega, rfl, K2, hid (by rw [HS0.out.2.2]; exact M2.out), hid (by rw [HS0.out.1, HS0.out.2.1]; exact HI2.out), HG2⟩
  case round =>
    obtain ⟨j, hj, rfl, K, M, I, G⟩ := hrel
    have hfn := HFN.out j
    by_cases hlt : j < 7
    · have HR := hid (HNX.out j)
      obtain ⟨lj, hlj⟩ : ∃ x, (S j).1 = x := ⟨_, rfl⟩
      obtain ⟨ej, hej⟩ : ∃ x, (S j).2.1 = x := ⟨_, rfl⟩
      obtain ⟨F, hF⟩ : ∃ x, (S j).2.2 = x := ⟨_, rfl⟩
      rw [hlj, hej] at I hfn
      rw [hF] at M
      rw [hlj, hej, hF] at HR
      obtain ⟨l2, e2, v2, hs2⟩ : ∃ l2 e2 v2, sShort lj ej 1024 = (l2, e2, v2) := ⟨_, _, _, rfl⟩
      have hm2 : v2 ≤ 1024 := by have := sShort_most (l := lj) (e := ej) (most := 1024); rw [hs2] at this; exact this
      rw [hs2] at HR
      have HS := hid hs2
      have F1 := hid hfn.1
      have F2 := hid hfn.2.1
      have hl2 : lj.length ≤ 9223372036854775807 := Nat.le_trans hfn.2.2 hl
      clear hlj hej hF hs2 hfn
      go_wp2_with fail
      with_reducible refine (inshort_any g lj ej 1024 1024 l2 e2 v2 _ I.out F1.out F2.out hl2 rfl HS.out).mono ?_
      rintro en w3 ⟨rfl, hi, hg⟩
      have N0 := hid (K.out.grown hg (by simp; omega))
      have N1 := hid (M.out.grown hg (by simp; omega))
      have N2 := hid hi
      have N3 := hid (G.out.trans hg)
      clear hi hg
      have q0 := N1.out.att (i := 1 + j) (by omega)
      have q1 := N1.out.frozen (1 + j)
      have L0 := hid (N0.out.far (p := ⟨m, 1 + j, none⟩) (by simp <;> omega) (.int .i64 (v2 : Int)))
      have L1 := hid (N1.out.attSet (1 + j) (v2 : Int))
      have L2 := hid (N2.out.setCell (r := m) (i := 1 + j) (x := .int .i64 (v2 : Int)) (by omega))
      have L3 := hid (only_setCell (p := ⟨m, 1 + j, none⟩) N3.out (.inr (show w.heap.size ≤ m by have := HK.out; omega)) (.int .i64 (v2 : Int)))
      go_wp2
      go_roundw
      case rel => exact ⟨j + 1, by omega, by go_num, L0, hid (by rw [HR.out.2.2]; exact L1.out), hid (by rw [HR.out.1, HR.out.2.1]; exact L2.out), L3⟩
      case measure => simp only [intOf]; omega
    · have hj7 : j = 7 := by omega
      subst hj7
      have HR := HEN
      obtain ⟨lj, hlj⟩ : ∃ x, (S 7).1 = x := ⟨_, rfl⟩
      obtain ⟨ej, hej⟩ : ∃ x, (S 7).2.1 = x := ⟨_, rfl⟩
      obtain ⟨F, hF⟩ : ∃ x, (S 7).2.2 = x := ⟨_, rfl⟩
      rw [hlj, hej] at I
      rw [hF] at M
      rw [hlj, hej, hF] at HR
      clear hlj hej hF hfn
      by_cases h0 : ej = 0
      · subst h0
        have HV : Hid (V = F) := hid (by rw [HR.out.2.2]; simp)
        have Z1 := hid (len_attr F)
        have Z2 := hid (size_zero F)
        have Z3 := hid (rowA_one F)
        go_wp2_with fail
        with_reducible refine (failed_no g lj _ I.out).mono ?_
        rintro en w4 ⟨rfl, rfl⟩
        go_wp2_with (first
          | (with_reducible refine wpList_load_row (o := ⟨some 22, _, _, _, _, _⟩) rfl 39 (.tmp 3) rfl m rfl 39 (rowA F) (0, 0) _ M.out.heap Tryz.underlying39 rfl Z1.out ?_)
          | (with_reducible refine wpList_store_row (o := ⟨none, _, _, _, _, _⟩) rfl 39 (.tmp 2) (.tmp 22) rfl k (rowA F) rfl rfl 39 _ K.out.heap Z1.out Z2.out Z3.out ?_))
        exact bodyPost_ret (v := .agg (rowA F)) (results_cell_row (p := 2) (ty := 39) (by kernel_rfl) _ _ k 39 (rowA F) (0, 0) _ rfl (setRow_heap wr k _ (rowA F) _ _ K.out.heap) Tryz.underlying39 rfl Z1.out) rfl ⟨by rw [HV.out], by rw [HR.out.1, HR.out.2.1]; exact I.out.setRow hgk, only_setRow G.out (by have := HK.out; omega)⟩
      · have HV : Hid (V = fun _ => 0) := hid (by rw [HR.out.2.2]; simp [h0])
        have Z1 : Hid ((Tryz.prog.info? 39).map (·.size) = some (#[.int .i64 0, .int .i64 0, .int .i64 0, .int .i64 0, .int .i64 0, .int .i64 0, .int .i64 0, .int .i64 0] : Array Value).size) := hid info_attr
        have Z3 : Hid ((#[.int .i64 0, .int .i64 0, .int .i64 0, .int .i64 0, .int .i64 0, .int .i64 0, .int .i64 0, .int .i64 0] : Array Value).all (·.oneCell') = true) := hid (rowA_one fun _ => 0)
        go_wp2_with fail
        with_reducible refine (failed_yes g lj ej _ I.out (by omega)).mono ?_
        rintro en w4 ⟨rfl, rfl⟩
        clear h0
        go_wp2_with (first
          | (with_reducible refine wpList_store_row (o := ⟨none, _, _, _, _, _⟩) rfl 39 (.tmp 2) (.tmp 21) rfl k #[.int .i64 0, .int .i64 0, .int .i64 0, .int .i64 0, .int .i64 0, .int .i64 0, .int .i64 0, .int .i64 0] rfl rfl 39 _ K.out.heap Z1.out rfl Z3.out ?_))
        exact bodyPost_ret (v := .agg #[.int .i64 0, .int .i64 0, .int .i64 0, .int .i64 0, .int .i64 0, .int .i64 0, .int .i64 0, .int .i64 0]) (results_cell_row (p := 2) (ty := 39) (by kernel_rfl) _ _ k 39 #[.int .i64 0, .int .i64 0, .int .i64 0, .int .i64 0, .int .i64 0, .int .i64 0, .int .i64 0, .int .i64 0] (0, 0) _ rfl (setRow_heap wr k _ #[.int .i64 0, .int .i64 0, .int .i64 0, .int .i64 0, .int .i64 0, .int .i64 0, .int .i64 0, .int .i64 0] _ _ K.out.heap) Tryz.underlying39 rfl Z1.out) rfl ⟨by rw [HV.out]; rfl, by rw [HR.out.1, HR.out.2.1]; exact I.out.setRow hgk, only_setRow G.out (by have := HK.out; omega)⟩

theorem attake_any (g : Nat) (l : List Nat) (e : Nat) (l' : List Nat) (e' : Nat) (V : Nat → Int) (w : World) (h : InAt w g l e) (hf : Fine l e) (h8 : ∀ x ∈ l, x < 256) (hl : l.length ≤ 9223372036854775807) (hs : sAttr l e = (l', e', V)) :
    Calls Tryz.prog 35 #[.pointer (some ⟨g, 0, none⟩)] w (Turns (fun en => en = .returned (.agg (rowA V))) g l' e' w) := by
  obtain ⟨h1, h2, h3⟩ := sAttr_all l e
  rw [hs] at h1 h2 h3
  exact attake_as (stA l e) g l e l' e' V w h hf h8 hl ⟨rfl, rfl, rfl⟩ (fun j => ⟨rfl, rfl, rfl⟩) (stA_fine hf h8) ⟨h1, h2, h3⟩

end Go.Proofs.YtpdfakjopeldmaaGreatDoor

/-
  Attributes into an Out (package attr's Put).
-/
namespace Go.Proofs.YtpdfakjopeldmaaGreatDoor
open Go.ChangeShapes Go.WideShapes Go.ChangeAt Go.RowKit
set_option linter.unusedVariables false
set_option linter.unusedSimpArgs false

/-- The first number's bytes and j others'. -/
def putTo (F : Nat → Nat) : Nat → List Nat
  | 0 => shortN (F 0)
  | j + 1 => putTo F j ++ shortN (F (1 + j))
/-- What is written: right ones, or noughts. -/
def putF (f : Nat → Int) : Nat → Int := if okB f then f else fun _ => 0
def natA (f : Nat → Int) : Nat → Nat := fun i => (f i).toNat
theorem okB_zero : okB (fun _ => 0) = true := by decide
theorem putF_ok (f : Nat → Int) : okB (putF f) = true := by
  unfold putF
  by_cases h : okB f = true
  · rw [if_pos h]; exact h
  · rw [if_neg h]; exact okB_zero
theorem ok_nat {f : Nat → Int} (h : okB f = true) : (∀ i, i < 8 → f i = (natA f i : Int)) ∧ natA f 0 ≤ 1073741824 ∧ ∀ j, j < 7 → natA f (1 + j) ≤ 1024 := by
  obtain ⟨h0, h1⟩ := okB_iff.1 h
  refine ⟨fun i hi => ?_, by unfold natA; omega, fun j hj => by have := h1 j hj; unfold natA; rw [Nat.add_comm]; omega⟩
  unfold natA
  cases i with
  | zero => omega
  | succ i => have := h1 i (by omega); omega
theorem putTo_len {F : Nat → Nat} (h0 : F 0 ≤ 1073741824) (h : ∀ j, j < 7 → F (1 + j) ≤ 1024) : ∀ j, j ≤ 7 → (putTo F j).length ≤ 10 * (j + 1)
  | 0, _ => by unfold putTo; have := shortN_len10 (v := F 0) (by omega); omega
  | j + 1, hj => by
    have h1 := putTo_len h0 h j (by omega)
    have h2 := h j (by omega)
    have h3 := shortN_len10 (v := F (1 + j)) (by omega)
    unfold putTo
    rw [List.length_append]
    omega

def PutsA (base g : Nat) (l : List Nat) (w : World) (en : Ending) (w' : World) : Prop := en = .returned (.tuple #[]) ∧ OutAt w' base g l ∧ Below base w w' ∧ Stays g w w'
theorem OutAt.drew_ {w : World} {base g : Nat} {l : List Nat} (h : OutAt w base g l) : OutAt w.drew base g l := h.later (below_drew (Below.refl _ _))
theorem OutAt.glt {w : World} {base g : Nat} {l : List Nat} (h : OutAt w base g l) : g < w.heap.size := by
  obtain ⟨_, v, h1, _⟩ := h
  exact h1.lt

set_option maxRecDepth 100000 in
set_option maxHeartbeats 2000000 in
theorem attput_any (base g : Nat) (l : List Nat) (f : Nat → Int) (w : World) (h : OutAt w base g l) (hlen : l.length + 80 ≤ 140737488355328) :
    Calls Tryz.prog 28 #[.agg #[.int .i64 (f 0), .int .i64 (f 1), .int .i64 (f 2), .int .i64 (f 3), .int .i64 (f 4), .int .i64 (f 5), .int .i64 (f 6), .int .i64 (f 7)], .pointer (some ⟨g, 0, none⟩)] w (PutsA base g (l ++ putTo (natA (putF f)) 7) w) := by
  obtain ⟨o, ho⟩ : ∃ o, okB f = o := ⟨_, rfl⟩
  have HO := hid ho
  have HP : Hid (putF f = if o = true then f else fun _ => 0) := hid (by unfold putF; rw [ho])
  have HQ := hid (putF_ok f)
  obtain ⟨U, hU⟩ : ∃ U, putF f = U := ⟨_, rfl⟩
  rw [hU] at HP HQ
  rw [hU]
  clear ho hU
  have hB := h.base_le
  have hgl := h.glt
  have HI := hid h
  clear h
  go_enter Tryz.func28, Tryz.ntmps28
  go_upto_region 1 with fail
  obtain ⟨W, hW⟩ : ∃ W, w.alloc (.cells #[.int .i64 (f 0), .int .i64 (f 1), .int .i64 (f 2), .int .i64 (f 3), .int .i64 (f 4), .int .i64 (f 5), .int .i64 (f 6), .int .i64 (f 7)] 39) = W := ⟨_, rfl⟩
  rw [hW]
  obtain ⟨K0, KB⟩ := one_new hW
  rw [show #[.int .i64 (f 0), .int .i64 (f 1), .int .i64 (f 2), .int .i64 (f 3), .int .i64 (f 4), .int .i64 (f 5), .int .i64 (f 6), .int .i64 (f 7)] = rowA f from rfl] at K0
  obtain ⟨k, hk⟩ : ∃ k, w.heap.size = k := ⟨_, rfl⟩
  have HF : Hid (∀ W, Below k w W → OutAt W base g l ∧ Below base w W ∧ Stays g w W) := hid (fun W h => by
    rw [← hk] at h
    exact ⟨HI.out.later h, h.mono hB, Stays.of_below h⟩)
  rw [hk] at K0 KB hB hgl
  rw [hk]
  clear hW hk HI
  obtain ⟨c0, c1, c2, c3, c4, c5, c6, c7⟩ := K0.out.eight
  go_wp2_with fail
  clear c0 c1 c2 c3 c4 c5 c6 c7
  with_reducible refine (aright8 f _).mono ?_
  rw [HO.out]
  rintro e w1 ⟨rfl, hb1⟩
  have K1 := hid (K0.out.below hb1 K0.out.lt)
  have B1 := hid (KB.out.trans (hb1.mono (by have := K0.out.lt; omega)))
  clear hb1 K0 KB
  cases o
  case' false =>
    have Z1 : Hid ((Tryz.prog.info? 39).map (·.size) = some (#[.int .i64 0, .int .i64 0, .int .i64 0, .int .i64 0, .int .i64 0, .int .i64 0, .int .i64 0, .int .i64 0] : Array Value).size) := hid info_attr
    have Z2 : Hid ((rowA f).size = (#[.int .i64 0, .int .i64 0, .int .i64 0, .int .i64 0, .int .i64 0, .int .i64 0, .int .i64 0, .int .i64 0] : Array Value).size) := hid (rowA_size f)
    have Z3 : Hid ((#[.int .i64 0, .int .i64 0, .int .i64 0, .int .i64 0, .int .i64 0, .int .i64 0, .int .i64 0, .int .i64 0] : Array Value).all (·.oneCell') = true) := hid (rowA_one fun _ => 0)
    go_upto_region 3 with (with_reducible refine wpList_store_row (o := ⟨none, _, _, _, _, _⟩) rfl 39 (.tmp 2) (.tmp 9) rfl k #[.int .i64 0, .int .i64 0, .int .i64 0, .int .i64 0, .int .i64 0, .int .i64 0, .int .i64 0, .int .i64 0] rfl rfl 39 _ K1.out.heap Z1.out Z2.out Z3.out ?_)
    have HU : Hid ((fun _ => 0) = U) := hid (by rw [HP.out]; simp)
    obtain ⟨W2, hW2⟩ : ∃ W2, w1.setRow k #[.int .i64 0, .int .i64 0, .int .i64 0, .int .i64 0, .int .i64 0, .int .i64 0, .int .i64 0, .int .i64 0] = W2 := ⟨_, rfl⟩
    rw [hW2]
    have K2 : Hid (Blk W2 k 39 (rowA U)) := hid (by rw [← hW2, ← HU.out]; exact setRow_heap w1 k _ _ _ _ K1.out.heap)
    have B2 : Hid (Below k w W2) := hid (by rw [← hW2]; exact below_setRow_ B1.out (Nat.le_refl _))
    clear hW2 K1 B1 HU Z1 Z2 Z3
  case' true =>
    have HU : f = U := by rw [HP.out]; simp
    rw [HU] at K1
    go_upto_region 3 with fail
    clear HU
    obtain ⟨W2, hW2⟩ : ∃ W2, w1 = W2 := ⟨_, rfl⟩
    rw [hW2] at K1 B1 ⊢
    have K2 := K1
    have B2 := B1
    clear hW2 K1 B1
  all_goals
    obtain ⟨hn, hn0, hn1⟩ := ok_nat HQ.out
    have HNL := hid (putTo_len hn0 hn1)
    have HN := hid hn
    have HN1 := hid hn1
    obtain ⟨x, hx⟩ : ∃ x, natA U 0 = x := ⟨_, rfl⟩
    have HX : Hid (putTo (natA U) 0 = shortN x) := hid (by unfold putTo; rw [hx])
    have c0 := K2.out.att (i := 0) (by decide)
    rw [hn 0 (by decide), hx] at c0
    rw [hx] at hn0
    clear hn hn1 hx
    have HC : Hid (IntKind.u64.wrap (x : Int) = (x : Int)) := hid (by rw [IntKind.wrap_u64]; omega)
    have H2 := HF.out _ B2.out
    have O2 := hid H2.1
    have T2 := hid H2.2.1
    have S2 := hid H2.2.2
    clear H2
    go_wp2_with fail
    with_reducible refine (outshortk_any base g l x _ _ O2.out (by first | rfl | exact HC.out) (by omega) (by omega)).mono ?_
    rintro en w3 ⟨⟨rfl, ho, hb⟩, hs⟩
    have K3 := hid (hs.2 k _ _ (by omega) (by decide) K2.out)
    have O3 := hid ho
    have T3 := hid (T2.out.trans hb)
    have S3 := hid (S2.out.trans hs)
    clear ho hb hs K2 B2 O2 T2 S2 c0
    have MR := hid K3.out.range
    have H7 := hid (len_seven U)
    go_wp2_with (with_reducible refine wpList_load_mid (op := ⟨some 16, _, _, _, _, _⟩) rfl 37 (.tmp 15) rfl k 1 rfl (lsD U) _ MR.out Tryz.underlying37 rfl H7.out ?_)
    have HI : Hid (∀ j : Nat, j < 7 → (lsD U)[j]? = some (.int .i64 (natA U (1 + j) : Int))) := hid (fun j hj => by rw [lsD_get U hj, HN.out (j + 1) (by omega), Nat.add_comm])
    obtain ⟨ds, hds⟩ : ∃ ds, lsD U = ds := ⟨_, rfl⟩
    rw [hds] at HI
    rw [hds]
    clear hds MR H7 K3
    go_loopw [17] (fun iv wr => ∃ j : Nat, j ≤ 7 ∧ iv = .int .i64 j ∧ Hid (OutAt wr base g (l ++ putTo (natA U) j)) ∧ Hid (Below base w wr) ∧ Hid (Stays g w wr)) (fun iv _ => 7 - (intOf iv).toNat)
    case atStart => exact ⟨0, by omega, rfl, hid (by rw [HX.out]; exact O3.out), T3, S3⟩
    case round =>
      obtain ⟨j, hj, rfl, O, T, S⟩ := hrel
      by_cases hlt : j < 7
      · have hx := run_index_seven ds.toArray j _ hlt ((List.getElem?_toArray ..).trans (HI.out j hlt))
        have hy := HN1.out j hlt
        have hll := HNL.out j (by omega)
        have HR : Hid (putTo (natA U) (j + 1) = putTo (natA U) j ++ shortN (natA U (1 + j))) := hid rfl
        obtain ⟨y, hyy⟩ : ∃ y, natA U (1 + j) = y := ⟨_, rfl⟩
        obtain ⟨P, hP⟩ : ∃ P, putTo (natA U) j = P := ⟨_, rfl⟩
        rw [hyy] at hx hy HR
        rw [hP] at hll HR O
        have HL : Hid ((l ++ P).length + 10 ≤ 140737488355328) := hid (by rw [List.length_append]; omega)
        have HC : Hid (IntKind.u64.wrap (y : Int) = (y : Int)) := hid (by rw [IntKind.wrap_u64]; omega)
        clear hyy hP hll
        go_wp2_with fail
        with_reducible refine (outshortk_any base g (l ++ P) y _ _ O.out (by first | rfl | exact HC.out) (by omega) HL.out).mono ?_
        rintro en w4 ⟨⟨rfl, ho, hb⟩, hs⟩
        have O4 := hid ho
        have T4 := hid (T.out.trans hb)
        have S4 := hid (S.out.trans hs)
        clear ho hb hs
        go_wp2
        go_roundw
        case rel => exact ⟨j + 1, by omega, by go_num, hid (by rw [HR.out, ← List.append_assoc]; exact O4.out), T4, S4⟩
        case measure => simp only [intOf]; omega
      · have hj7 : j = 7 := by omega
        subst hj7
        obtain ⟨P, hP⟩ : ∃ P, putTo (natA U) 7 = P := ⟨_, rfl⟩
        rw [hP] at O ⊢
        have HPP := hid hP
        clear hP
        go_wp2
        go_end0
        exact ⟨rfl, O.out, T.out, S.out⟩

end Go.Proofs.YtpdfakjopeldmaaGreatDoor

/-
  A command's bytes read again, and what holds while a command is taken off an In.
-/
namespace Go.Proofs.YtpdfakjopeldmaaGreatDoor
open Go.ChangeShapes Go.WideShapes Go.ChangeAt Go.RowKit Go.Lib

theorem sByte_put (v : Nat) (r : List Nat) : sByte ([v] ++ r) 0 = (r, 0, v) := rfl
theorem sShort_put (v most : Nat) (r : List Nat) (hv : v < 18446744073709551616) (hm : v ≤ most) : sShort (shortN v ++ r) 0 most = (r, 0, v) := by
  unfold sShort
  rw [readN_short v r hv]
  simp only [if_true]
  rw [if_neg (by omega), List.drop_left]
theorem sFixed_put (v : Nat) (r : List Nat) (hv : v < 18446744073709551616) : sFixed (bytesN v 8 ++ r) 0 = (r, 0, v) := by
  have hl := bytesN_len 8 v
  unfold sFixed
  rw [if_neg (by simp [hl]), List.drop_left' hl, List.take_left' hl, numN_bytesN, Nat.mod_eq_of_lt (by omega)]
theorem sText_put (s : ByteArray) (r : List Nat) (most : Nat) (hm : s.size ≤ most) (hs : s.size < 18446744073709551616) : sText (textN s ++ r) 0 most = (r, 0, bytesOfS s) := by
  have h1 : sShort (textN s ++ r) 0 most = (bytesOfS s ++ r, 0, s.size) := by
    unfold textN
    rw [List.append_assoc]
    exact sShort_put s.size most (bytesOfS s ++ r) hs hm
  unfold sText
  rw [h1]
  have hl := bytesOfS_len s
  simp only [true_and]
  rw [if_pos (by rw [List.length_append]; omega), List.drop_left' hl, List.take_left' hl]

theorem fine0 (l : List Nat) : Fine l 0 := fun h => absurd rfl h
theorem textN_byte (s : ByteArray) : ∀ x ∈ textN s, x < 256 := by
  intro x hx
  rcases List.mem_append.1 hx with h | h
  · exact shortN_byte _ x h
  · exact bytesOfS_byte s x h
theorem textN_len (s : ByteArray) (h : s.size ≤ 64) : (textN s).length ≤ 74 := by
  unfold textN
  have h1 := shortN_len10 (show s.size < 18446744073709551616 by omega)
  rw [List.length_append, bytesOfS_len]; omega

theorem var_grown {P : Program} {w w' : World} {n : String} {cs : Array Value} {g : Nat} {row : Option Nat} (hg : P.globalNamed n = some g) (h : w.var? P n = some cs) (hlt : g < w.heap.size) (hne : some g ≠ row) (hb : w.grownBy w' row) : w'.var? P n = some cs := by
  unfold World.var? at h ⊢
  rw [hg] at h ⊢
  simp only [Option.bind_some] at h ⊢
  rw [hb.block g hlt hne]; exact h

/-- While a command, in a box of the call's own, is taken off the In at block g. -/
def TakeAt (w0 w : World) (g b : Nat) (c : K) (l : List Nat) : Prop := InAt w g l 0 ∧ Blk w b 27 (cellsOf c) ∧ w0.heap.size ≤ b ∧ w0.grownBy w (some g) ∧ PartsIs w ∧ 1 < g ∧ g < w0.heap.size
theorem TakeAt.start {w : World} {g : Nat} {l : List Nat} (h : InAt w g l 0) (hP : PartsIs w) (hg : 1 < g) (c : K) : TakeAt w (w.alloc (.cells (cellsOf c) 27)) g w.heap.size c l :=
  ⟨h.keep ((Below.refl _ _).alloc (by have := h.lt; omega) _), Blk.new _ _ _, Nat.le_refl _, only_of_below ((Below.refl _ _).alloc (Nat.le_refl _) _) _, hP.alloc _, hg, h.lt⟩
theorem TakeAt.parts {w0 w : World} {g b : Nat} {c : K} {l : List Nat} (h : TakeAt w0 w g b c l) : PartsIs w := h.2.2.2.2.1
theorem TakeAt.iat {w0 w : World} {g b : Nat} {c : K} {l : List Nat} (h : TakeAt w0 w g b c l) : InAt w g l 0 := h.1
theorem TakeAt.grown {w0 w : World} {g b : Nat} {c : K} {l : List Nat} (h : TakeAt w0 w g b c l) : w0.grownBy w (some g) := h.2.2.2.1
theorem TakeAt.blk {w0 w : World} {g b : Nat} {c : K} {l : List Nat} (h : TakeAt w0 w g b c l) : Blk w b 27 (cellsOf c) := h.2.1
theorem TakeAt.on {w0 w w' : World} {g b : Nat} {c : K} {l : List Nat} (h : TakeAt w0 w g b c l) (hb : Below w.heap.size w w') : TakeAt w0 w' g b c l :=
  ⟨h.1.keep (hb.mono h.1.lt), h.2.1.below hb h.2.1.lt, h.2.2.1, only_below h.2.2.2.1 hb, h.2.2.2.2.1.below hb, h.2.2.2.2.2⟩
theorem TakeAt.turn {w0 w w' : World} {g b : Nat} {c : K} {l l' : List Nat} (h : TakeAt w0 w g b c l) (hi : InAt w' g l' 0) (hb : w.grownBy w' (some g)) : TakeAt w0 w' g b c l' :=
  ⟨hi, h.2.1.grown hb (by have := h.2.2.1; have := h.2.2.2.2.2.2; intro e; injection e with e; omega), h.2.2.1, h.2.2.2.1.trans hb,
    var_grown gParts h.2.2.2.2.1 h.2.2.2.2.1.lt (by have := h.2.2.2.2.2.1; intro e; injection e with e; omega) hb, h.2.2.2.2.2⟩
theorem TakeAt.set_ {w0 w : World} {g b : Nat} {c : K} {l : List Nat} (h : TakeAt w0 w g b c l) (i : Nat) (u : Value) (c' : K) (hc : (cellsOf c).setIfInBounds i u = cellsOf c') : TakeAt w0 (w.setCell ⟨b, i, none⟩ u) g b c' l := by
  have hgb : g < b := Nat.lt_of_lt_of_le h.2.2.2.2.2.2 h.2.2.1
  have hB : Below (g + 1) w (w.setCell ⟨b, i, none⟩ u) := Below.setCell (p := ⟨b, i, none⟩) (Below.refl _ _) hgb u
  exact ⟨h.1.keep hB, hc ▸ h.2.1.set_ i u, h.2.2.1, only_setCell (p := ⟨b, i, none⟩) h.2.2.2.1 (.inr h.2.2.1) u, var_under gParts h.2.2.2.2.1 (by have := h.2.2.2.2.2.1; omega) hB, h.2.2.2.2.2⟩
theorem TakeAt.far {w0 w : World} {g b : Nat} {c : K} {l : List Nat} (h : TakeAt w0 w g b c l) {p : Addr} (hp : b ≠ p.block) (h0 : w0.heap.size ≤ p.block) (u : Value) : TakeAt w0 (w.setCell p u) g b c l := by
  have hgp : g < p.block := Nat.lt_of_lt_of_le h.2.2.2.2.2.2 h0
  have hB : Below (g + 1) w (w.setCell p u) := Below.setCell (p := p) (Below.refl _ _) hgp u
  exact ⟨h.1.keep hB, h.2.1.far hp u, h.2.2.1, only_setCell (p := p) h.2.2.2.1 (.inr h0) u, var_under gParts h.2.2.2.2.1 (by have := h.2.2.2.2.2.1; omega) hB, h.2.2.2.2.2⟩
theorem TakeAt.put {w0 w : World} {g b : Nat} {c : K} {l : List Nat} (h : TakeAt w0 w g b c l) (d : K) : TakeAt w0 (putK w b d) g b d l := by
  obtain ⟨k, u, f, q, s, m, n, t⟩ := c
  obtain ⟨k', u', f', q', s', m', n', t'⟩ := d
  exact (((((((h.set_ 0 (.int .i64 k') ⟨k', u, f, q, s, m, n, t⟩ rfl).set_ 1 (.int .u64 u') ⟨k', u', f, q, s, m, n, t⟩ rfl).set_ 2 (.string f') ⟨k', u', f', q, s, m, n, t⟩ rfl).set_ 3 (.int .u64 q') ⟨k', u', f', q', s, m, n, t⟩ rfl).set_ 4 (.string s') ⟨k', u', f', q', s', m, n, t⟩ rfl).set_ 5 (.int .i64 m') ⟨k', u', f', q', s', m', n, t⟩ rfl).set_ 6 (.int .u64 n') ⟨k', u', f', q', s', m', n', t⟩ rfl).set_ 7 (.int .i64 t') ⟨k', u', f', q', s', m', n', t'⟩ rfl

end Go.Proofs.YtpdfakjopeldmaaGreatDoor
