/-
  Contracts of package wire's In: Left, Failed, Fail, End, take.
-/
import Derived.Test.YtapmchkikafpmaaDoorHeld
import Derived.Test.YtapmchkikafpmaaDoorBase
namespace Go.Proofs.YtapmchkikafpmaaDoor
open Go.ChangeShapes Go.WideShapes Go.ChangeAt Go.RowKit

/-- An In at block g: what is left, and the error. -/
def InAt (w : World) (g : Nat) (l : List Nat) (e : Nat) : Prop :=
  ∃ A c, Blk w g 65 #[.slice A l.length c, .int .i64 (e : Int)] ∧ (A = none → c = 0) ∧ l.length ≤ c ∧ c ≤ 9223372036854775807 ∧ Held g w A l

theorem InAt.lt {w : World} {g : Nat} {l : List Nat} {e : Nat} (h : InAt w g l e) : g < w.heap.size := by
  obtain ⟨A, c, hb, _⟩ := h
  exact hb.lt
theorem InAt.keep {w w' : World} {g : Nat} {l : List Nat} {e : Nat} (h : InAt w g l e) (hb : Below (g + 1) w w') : InAt w' g l e := by
  obtain ⟨A, c, hk, h1, h2, h3, h4⟩ := h
  exact ⟨A, c, hk.below hb (by omega), h1, h2, h3, h4.below (hb.mono (by omega))⟩
theorem InAt.grown {w w' : World} {g r : Nat} {l : List Nat} {e : Nat} (h : InAt w g l e) (hb : w.grownBy w' (some r)) (hr : g < r) : InAt w' g l e :=
  h.keep (below_only hb (by omega) h.lt)

theorem blk2 {w : World} {g : Nat} {T : TypeId} {a b : Value} (h : Blk w g T #[a, b]) :
    w.cell? ⟨g, 0, none⟩ = some a ∧ w.cell? ⟨g, 1, none⟩ = some b ∧ w.frozen? ⟨g, 0, none⟩ = false ∧ w.frozen? ⟨g, 1, none⟩ = false :=
  ⟨(h.cell 0).trans rfl, (h.cell 1).trans rfl, h.frozen 0, h.frozen 1⟩

set_option maxRecDepth 100000 in
set_option maxHeartbeats 400000 in
theorem left_any (g : Nat) (l : List Nat) (e : Nat) (w : World) (h : InAt w g l e) :
    Calls Tryd.prog 15 #[.pointer (some ⟨g, 0, none⟩)] w fun en w' => en = .returned (.int .i64 (l.length : Int)) ∧ w = w' := by
  obtain ⟨A, c, hb, h1, h2, h3, h4⟩ := h
  have H4 := hid h4
  obtain ⟨c0, c1, f0, f1⟩ := blk2 hb
  clear hb h1 h4
  go_enter Tryd.func15, Tryd.ntmps15
  go_wp2
  go_ret
  exact ⟨rfl, rfl⟩

set_option maxRecDepth 100000 in
set_option maxHeartbeats 400000 in
theorem failed_as (b : Bool) (g : Nat) (l : List Nat) (e : Nat) (w : World) (h : InAt w g l e) (hb : b = ((e : Int) != 0)) :
    Calls Tryd.prog 34 #[.pointer (some ⟨g, 0, none⟩)] w fun en w' => en = .returned (.bool b) ∧ w = w' := by
  obtain ⟨A, c, hk, h1, h2, h3, h4⟩ := h
  obtain ⟨c0, c1, f0, f1⟩ := blk2 hk
  have HB := hid hb
  clear hk h1 h4 hb
  go_enter Tryd.func34, Tryd.ntmps34
  go_wp2
  go_ret
  exact ⟨ret_bool HB.out.symm, rfl⟩

theorem failed_no (g : Nat) (l : List Nat) (w : World) (h : InAt w g l 0) :
    Calls Tryd.prog 34 #[.pointer (some ⟨g, 0, none⟩)] w fun en w' => en = .returned (.bool false) ∧ w = w' := failed_as false g l 0 w h (by simp)
theorem failed_yes (g : Nat) (l : List Nat) (e : Nat) (w : World) (h : InAt w g l e) (he : 0 < e) :
    Calls Tryd.prog 34 #[.pointer (some ⟨g, 0, none⟩)] w fun en w' => en = .returned (.bool true) ∧ w = w' :=
  failed_as true g l e w h (by have h1 : ((e : Int) != 0) = true := by { rw [bne_iff_ne]; omega }; exact h1.symm)

/-- The first error stays. -/
def firstE (e x : Nat) : Nat := if e = 0 then x else e
def leftE (e x : Nat) (l : List Nat) : List Nat := if e = 0 ∧ 0 < x then [] else l

/-- What a call that turns an In leaves, beside what it tells. -/
def Turns (P : Ending → Prop) (g : Nat) (l : List Nat) (e : Nat) (w : World) (en : Ending) (w' : World) : Prop := P en ∧ InAt w' g l e ∧ w.grownBy w' (some g)

theorem fail_step {w : World} {g : Nat} {x : Nat} {A : Option Addr} {n c : Nat} (hb : Blk w g 65 #[.slice A n c, .int .i64 0]) :
    InAt ((w.setCell ⟨g, 1, none⟩ (.int .i64 (x : Int))).setCell ⟨g, 0, none⟩ (.slice none 0 0)) g [] x ∧ w.grownBy ((w.setCell ⟨g, 1, none⟩ (.int .i64 (x : Int))).setCell ⟨g, 0, none⟩ (.slice none 0 0)) (some g) := by
  refine ⟨⟨none, 0, ?_, fun _ => rfl, Nat.le_refl _, by omega, Held.nil _ _ _⟩, only_setCell (p := ⟨g, 0, none⟩) (only_setCell (p := ⟨g, 1, none⟩) (World.grownBy.refl _ _) (.inl rfl) _) (.inl rfl) _⟩
  have h := (hb.set_ 1 (.int .i64 (x : Int))).set_ 0 (.slice none 0 0)
  exact h

set_option maxRecDepth 100000 in
set_option maxHeartbeats 400000 in
theorem fail_any (g : Nat) (l : List Nat) (e x : Nat) (a : Int) (w : World) (h : InAt w g l e) (ha : a = (x : Int)) :
    Calls Tryd.prog 30 #[.pointer (some ⟨g, 0, none⟩), .int .i64 a] w (Turns (fun en => en = .returned (.tuple #[])) g (leftE e x l) (firstE e x) w) := by
  subst ha
  by_cases he : e = 0
  · subst he
    by_cases hx : x = 0
    · subst hx
      have H : Hid (Turns (fun en => en = .returned (.tuple #[])) g (leftE 0 0 l) (firstE 0 0) w (.returned (.tuple #[])) w) := hid ⟨rfl, h, World.grownBy.refl _ _⟩
      have HI := hid h
      clear h
      go_enter Tryd.func30, Tryd.ntmps30
      go_wp2_with ((go_at_call 34; ((with_reducible refine (failed_no g l _ HI.out).mono ?_); rintro e w' ⟨rfl, rfl⟩)))
      go_end0
      exact H.out
    · have HI := hid h
      obtain ⟨A, c, hk, h1, h2, h3, h4⟩ := h
      have H : Hid (Turns (fun en => en = .returned (.tuple #[])) g (leftE 0 x l) (firstE 0 x) w (.returned (.tuple #[])) ((w.setCell ⟨g, 1, none⟩ (.int .i64 (x : Int))).setCell ⟨g, 0, none⟩ (.slice none 0 0))) := hid (by
        have := fail_step (x := x) hk
        refine ⟨rfl, ?_, this.2⟩
        rw [leftE, firstE, if_pos ⟨rfl, by omega⟩, if_pos rfl]
        exact this.1)
      obtain ⟨c0, c1, f0, f1⟩ := blk2 hk
      clear hk h1 h4
      go_enter Tryd.func30, Tryd.ntmps30
      go_wp2_with ((go_at_call 34; ((with_reducible refine (failed_no g l _ HI.out).mono ?_); rintro e w' ⟨rfl, rfl⟩)))
      go_end0
      exact H.out
  · have H : Hid (Turns (fun en => en = .returned (.tuple #[])) g (leftE e x l) (firstE e x) w (.returned (.tuple #[])) w) := hid ⟨rfl, by rw [leftE, firstE, if_neg (by omega), if_neg he]; exact h, World.grownBy.refl _ _⟩
    have HI := hid h
    have he' : 0 < e := by omega
    clear h
    go_enter Tryd.func30, Tryd.ntmps30
    go_wp2_with ((go_at_call 34; ((with_reducible refine (failed_yes g l e _ HI.out he').mono ?_); rintro e w' ⟨rfl, rfl⟩)))
    go_end0
    exact H.out

/-- What a taking tells: a slice of its own length, with no room. -/
def Cuts (l : List Nat) (g : Nat) (w' : World) (en : Ending) : Prop := ∃ A1, en = .returned (.slice A1 l.length l.length) ∧ (A1 = none → l.length = 0) ∧ Held g w' A1 l

set_option maxRecDepth 100000 in
set_option maxHeartbeats 400000 in
theorem take_ok (g : Nat) (l : List Nat) (e k : Nat) (a : Int) (w : World) (h : InAt w g l e) (ha : a = (k : Int)) (hk : k ≤ l.length) :
    Calls Tryd.prog 49 #[.pointer (some ⟨g, 0, none⟩), .int .i64 a] w (fun en w' => Cuts (l.take k) g w' en ∧ InAt w' g (l.drop k) e ∧ w.grownBy w' (some g)) := by
  subst ha
  obtain ⟨i0, hi, hz0, hz1, hz2⟩ := info_parts info_u8
  obtain ⟨A, c, hb, h1, h2, h3, h4⟩ := h
  obtain ⟨A1, s1, n1, l1⟩ := cut_front (P := Tryd.prog) 39 5 i0 Tryd.underlying39 hi hk h2 h4 h1
  obtain ⟨A2, s2, n2, l2⟩ := cut_rest (P := Tryd.prog) 39 5 i0 Tryd.underlying39 hi hz1 rfl hk h2 h4 h1
  have H : Hid (Cuts (l.take k) g (w.setCell ⟨g, 0, none⟩ (.slice A2 (l.length - k) (c - k))) (.returned (.slice A1 k k)) ∧ InAt (w.setCell ⟨g, 0, none⟩ (.slice A2 (l.length - k) (c - k))) g (l.drop k) e ∧ w.grownBy (w.setCell ⟨g, 0, none⟩ (.slice A2 (l.length - k) (c - k))) (some g)) := hid (by
    have hbe : Below g w (w.setCell ⟨g, 0, none⟩ (.slice A2 (l.length - k) (c - k))) := Below.setCell (p := ⟨g, 0, none⟩) (Below.refl _ _) (Nat.le_refl _) _
    have hl : (l.take k).length = k := by rw [List.length_take]; omega
    refine ⟨⟨A1, by rw [hl], by rw [hl]; exact n1, l1.below hbe⟩, ⟨A2, c - k, ?_, n2, by rw [List.length_drop]; omega, by omega, l2.below hbe⟩, only_setCell (p := ⟨g, 0, none⟩) (World.grownBy.refl _ _) (.inl rfl) _⟩
    have := hb.set_ 0 (.slice A2 (l.length - k) (c - k))
    rw [List.length_drop]
    exact this)
  obtain ⟨c0, c1, f0, f1⟩ := blk2 hb
  have hlen : l.length ≤ 9223372036854775807 := by omega
  clear hb h1 h4 l1 l2 n1 n2 hz0 hz1 hz2 hi
  go_enter Tryd.func49, Tryd.ntmps49
  go_wp2
  go_ret
  exact H.out

set_option maxRecDepth 100000 in
set_option maxHeartbeats 400000 in
theorem take_no (g : Nat) (l : List Nat) (e k : Nat) (a : Int) (w : World) (h : InAt w g l e) (ha : a = (k : Int)) (hk : l.length < k) :
    Calls Tryd.prog 49 #[.pointer (some ⟨g, 0, none⟩), .int .i64 a] w (Turns (fun en => en = .returned (.slice none 0 0)) g (leftE e 20 l) (firstE e 20) w) := by
  subst ha
  have HI := hid h
  obtain ⟨A, c, hb, h1, h2, h3, h4⟩ := h
  obtain ⟨c0, c1, f0, f1⟩ := blk2 hb
  clear hb h1 h4
  go_enter Tryd.func49, Tryd.ntmps49
  go_wp2_with ((go_at_call 30; ((with_reducible refine (fail_any g l e 20 _ _ HI.out (by omega)).mono ?_); rintro en w1 ⟨rfl, hin, hg⟩; have HT := hid hin; have HG := hid hg; clear hin hg)))
  go_ret
  exact ⟨rfl, HT.out, HG.out⟩

/-- The error at the end. -/
def endE (l : List Nat) (e : Nat) : Nat := if l = [] then e else 21

set_option maxRecDepth 100000 in
set_option maxHeartbeats 400000 in
theorem end_any (g : Nat) (l : List Nat) (e : Nat) (w : World) (h : InAt w g l e) :
    Calls Tryd.prog 24 #[.pointer (some ⟨g, 0, none⟩)] w fun en w' => en = .returned (.int .i64 (endE l e : Int)) ∧ w = w' := by
  have HI := hid h
  obtain ⟨A, c, hb, h1, h2, h3, h4⟩ := h
  obtain ⟨c0, c1, f0, f1⟩ := blk2 hb
  clear hb h1 h4
  by_cases hl : l = []
  · subst hl
    have HE : Hid (endE [] e = e) := hid rfl
    go_enter Tryd.func24, Tryd.ntmps24
    go_wp2_with ((go_at_call 15; ((with_reducible refine (left_any g [] e _ HI.out).mono ?_); rintro e w' ⟨rfl, rfl⟩)))
    go_ret
    exact ⟨ret_num (by rw [HE.out]), rfl⟩
  · have hpos : 0 < l.length := List.length_pos_iff.2 hl
    have HE : Hid (endE l e = 21) := hid (by rw [endE, if_neg hl])
    clear hl
    go_enter Tryd.func24, Tryd.ntmps24
    go_wp2_with ((go_at_call 15; ((with_reducible refine (left_any g l e _ HI.out).mono ?_); rintro e w' ⟨rfl, rfl⟩)))
    go_ret
    exact ⟨ret_num (by rw [HE.out]; rfl), rfl⟩

end Go.Proofs.YtapmchkikafpmaaDoor
