/-
  Contracts of package wire's NewIn and In.Text.
-/
import Derived.Test.YtapmchkikafpmaaDoorInOps
import Derived.Test.YtapmchkikafpmaaDoorClone
namespace Go.Proofs.YtapmchkikafpmaaDoor
open Go.ChangeShapes Go.WideShapes Go.ChangeAt Go.RowKit

/-- What NewIn hands back. -/
def News (l : List Nat) (w : World) (en : Ending) (w' : World) : Prop := ∃ g, en = .returned (.pointer (some ⟨g, 0, none⟩)) ∧ InAt w' g l 0 ∧ Below w.heap.size w w' ∧ w.heap.size ≤ g

theorem makes_in {l : List Nat} {w w1 : World} {s : Value} (hown : w1.ownsRow w.heap.size 5 1 s l.length (l.map bv)) (hb : Below w.heap.size w w1) :
    News l w (.returned (.pointer (some ⟨w1.heap.size, 0, none⟩))) (w1.alloc (.cells #[s, .int .i64 0] 65)) := by
  have hsz := hb.size
  refine ⟨w1.heap.size, rfl, ?_, hb.alloc hsz _, hsz⟩
  have hbl := Blk.new w1 65 #[s, .int .i64 0]
  have hal : Below w1.heap.size w1 (w1.alloc (.cells #[s, .int .i64 0] 65)) := (Below.refl _ _).alloc (Nat.le_refl _) _
  rcases hown.2 with ⟨rfl, h0⟩ | ⟨g, cap, cur, rfl, _, _, hc, hm, _, _⟩
  · have : l = [] := List.eq_nil_of_length_eq_zero h0
    subst this
    exact ⟨none, 0, hbl, fun _ => rfl, Nat.le_refl _, by omega, Held.nil _ _ _⟩
  · exact ⟨_, cap, hbl, fun h => (by cases h), hc, by unfold maxLen at hm; omega, ((Sees.of_own hown).held).below hal⟩

set_option maxRecDepth 100000 in
set_option maxHeartbeats 400000 in
theorem newin_any (A : Option Addr) (l : List Nat) (n c : Nat) (w : World) (hn : l.length = n) (hl : n ≤ 140737488355328) (hc : A = none → c = 0) (hA : Sees .u8 w A l) :
    Calls Tryd.prog 13 #[.slice A n c] w (News l w) := by
  have HA := hid hA
  have HN := hid hn
  have HC := hid hc
  clear hA hn hc
  go_enter Tryd.func13, Tryd.ntmps13
  go_wp2_with fail
  with_reducible refine (clone_any A l n c _ HN.out hl HC.out HA.out).mono ?_
  rintro en w1 ⟨s, rfl, hown, hb⟩
  obtain ⟨A1, c1, rfl, _, _, _⟩ := own_slice hown
  have HM := hid (makes_in hown hb)
  clear hown hb
  go_wp2
  go_ret
  exact HM.out

/-- A text that is taken: what is left then, the error, its bytes. -/
def sText (l : List Nat) (e most : Nat) : List Nat × Nat × List Nat :=
  if (sShort l e most).2.1 = 0 ∧ (sShort l e most).2.2 ≤ (sShort l e most).1.length then ((sShort l e most).1.drop (sShort l e most).2.2, 0, (sShort l e most).1.take (sShort l e most).2.2)
  else ([], firstE (sShort l e most).2.1 20, [])

theorem sShort_bad {l : List Nat} {e most : Nat} (h : (sShort l e most).2.1 ≠ 0) (hf : Fine l e) : (sShort l e most).1 = [] ∧ (sShort l e most).2.2 = 0 := by
  unfold sShort at h ⊢
  by_cases hz : (readN l).2.2 = 0
  · rw [if_pos hz] at h ⊢
    by_cases hm : most < (readN l).1
    · rw [if_pos hm]; exact ⟨rfl, rfl⟩
    · rw [if_neg hm] at h
      exact absurd (fine_zero hf (readN_ne hz)) h
  · rw [if_neg hz]; exact ⟨rfl, rfl⟩
theorem sShort_most {l : List Nat} {e most : Nat} : (sShort l e most).2.2 ≤ most := by
  unfold sShort
  split
  · split
    · exact Nat.zero_le _
    · show (readN l).1 ≤ most; omega
  · exact Nat.zero_le _
theorem sShort_in {l : List Nat} {e most : Nat} : ∀ x ∈ (sShort l e most).1, x ∈ l := by
  unfold sShort
  split
  · split
    · intro x hx; cases hx
    · intro x hx; exact List.mem_of_mem_drop hx
  · intro x hx; cases hx
theorem sShort_len {l : List Nat} {e most : Nat} : (sShort l e most).1.length ≤ l.length := by
  unfold sShort
  split
  · split
    · simp
    · show (l.drop _).length ≤ _; rw [List.length_drop]; omega
  · simp

set_option maxRecDepth 100000 in
set_option maxHeartbeats 400000 in
theorem text_ok (g : Nat) (l l1 : List Nat) (e most n : Nat) (a : Int) (w : World) (h : InAt w g l e) (hf : Fine l e) (h8 : ∀ x ∈ l, x < 256) (hl : l.length ≤ 9223372036854775807) (ha : a = (most : Int)) (hm : most ≤ 9223372036854775807) (hn : n ≤ most)
    (hs : sShort l e most = (l1, 0, n)) (hk : n ≤ l1.length) :
    Calls Tryd.prog 67 #[.pointer (some ⟨g, 0, none⟩), .int .i64 a] w (Turns (fun en => en = .returned (.string (strN (l1.take n)))) g (l1.drop n) 0 w) := by
  subst ha
  have HI := hid h
  have HF := hid hf
  have H8 := hid h8
  have HS := hid hs
  clear h hf h8 hs
  have hmx : ∀ (w : World) (ts : Array TypeId) (t : TypeId), (Builtin.max_ ts t #[.int .i64 (most : Int), .int .i64 0]).run Tryd.prog w = .ok (.int .i64 (most : Int)) w := fun w ts t => by
    simp [Builtin.max_, Builtin.max2]
    try omega
  have hcv := fun (w : World) (A : Option Addr) (hS : Sees .u8 w A (l1.take n)) => sees_convert hS (show (l1.take n).length = n by rw [List.length_take]; omega) n
  have HCV := hid hcv
  clear hcv
  go_enter Tryd.func67, Tryd.ntmps67
  go_wp2_with fail
  with_reducible refine (inshort_any g l e most _ l1 0 n _ HI.out HF.out H8.out hl (by omega) HS.out).mono ?_
  rintro en w1 ⟨rfl, hin, hg⟩
  have HT := hid hin
  have HG := hid hg
  clear hin hg hmx
  go_wp2_with fail
  with_reducible refine (take_ok g l1 0 n _ _ HT.out (by omega) hk).mono ?_
  rintro en w2 ⟨⟨A1, rfl, _, hs⟩, hin, hg⟩
  have HT2 := hid hin
  have HG2 := hid (HG.out.trans hg)
  have hl2 : (l1.take n).length = n := by rw [List.length_take]; omega
  have hc2 := HCV.out w2 A1 (hs.sees (Nat.le_of_lt HT2.out.lt))
  rw [hl2]
  clear hin hg hs hl2
  go_wp2
  go_ret
  exact ⟨rfl, HT2.out, HG2.out⟩

/-- The taking fails at the count, or there are too few bytes. -/
theorem text_no (g : Nat) (l l1 : List Nat) (e e1 most n : Nat) (a : Int) (w : World) (h : InAt w g l e) (hf : Fine l e) (h8 : ∀ x ∈ l, x < 256) (hl : l.length ≤ 9223372036854775807) (ha : a = (most : Int)) (hm : most ≤ 9223372036854775807) (hn : n ≤ most)
    (hs : sShort l e most = (l1, e1, n)) (hk : e1 ≠ 0 ∨ l1.length < n) :
    Calls Tryd.prog 67 #[.pointer (some ⟨g, 0, none⟩), .int .i64 a] w (Turns (fun en => en = .returned (.string (strN []))) g [] (firstE e1 20) w) := by
  subst ha
  have hbad : e1 ≠ 0 → l1 = [] ∧ n = 0 := fun h0 => by
    have := sShort_bad (l := l) (e := e) (most := most) (by rw [hs]; exact h0) hf
    rw [hs] at this
    exact this
  have HI := hid h
  have HF := hid hf
  have H8 := hid h8
  have HS := hid hs
  clear h hf h8 hs
  have hmx : ∀ (w : World) (ts : Array TypeId) (t : TypeId), (Builtin.max_ ts t #[.int .i64 (most : Int), .int .i64 0]).run Tryd.prog w = .ok (.int .i64 (most : Int)) w := fun w ts t => by
    simp [Builtin.max_, Builtin.max2]
    try omega
  have hcv := fun (w : World) (A : Option Addr) => sees_convert (w := w) (A := A) (l := []) (n := 0) (Sees.nil _ _ _) rfl 0
  by_cases h0 : e1 = 0
  · subst h0
    have hk' : l1.length < n := by
      rcases hk with h | h
      · exact absurd rfl h
      · exact h
    clear hk hbad
    go_enter Tryd.func67, Tryd.ntmps67
    go_wp2_with fail
    with_reducible refine (inshort_any g l e most _ l1 0 n _ HI.out HF.out H8.out hl (by omega) HS.out).mono ?_
    rintro en w1 ⟨rfl, hin, hg⟩
    have HT := hid hin
    have HG := hid hg
    clear hin hg hmx
    go_wp2_with fail
    with_reducible refine (take_no g l1 0 n _ _ HT.out (by omega) hk').mono ?_
    rintro en w2 ⟨rfl, hin, hg⟩
    rw [leftE_nil (by omega) (fun h => absurd rfl h)] at hin
    have HT2 := hid hin
    have HG2 := hid (HG.out.trans hg)
    clear hin hg
    go_wp2
    go_ret
    exact ⟨rfl, HT2.out, HG2.out⟩
  · obtain ⟨rfl, rfl⟩ := hbad h0
    have HE : Hid (firstE e1 20 = e1) := hid (by unfold firstE; rw [if_neg h0])
    clear hk hbad h0
    go_enter Tryd.func67, Tryd.ntmps67
    go_wp2_with fail
    with_reducible refine (inshort_any g l e most _ [] e1 0 _ HI.out HF.out H8.out hl (by omega) HS.out).mono ?_
    rintro en w1 ⟨rfl, hin, hg⟩
    have HT := hid hin
    have HG := hid hg
    clear hin hg hmx
    go_wp2_with fail
    with_reducible refine (take_ok g [] e1 0 _ _ HT.out (by omega) (by simp)).mono ?_
    rintro en w2 ⟨⟨A1, rfl, _, _⟩, hin, hg⟩
    have HT2 : Hid (InAt w2 g [] e1) := hid hin
    have HG2 := hid (HG.out.trans hg)
    clear hin hg
    go_wp2
    go_ret
    exact ⟨rfl, by rw [HE.out]; exact HT2.out, HG2.out⟩

theorem intext_any (g : Nat) (l : List Nat) (e most : Nat) (a : Int) (l' : List Nat) (e' : Nat) (s : List Nat) (w : World) (h : InAt w g l e) (hf : Fine l e) (h8 : ∀ x ∈ l, x < 256) (hl : l.length ≤ 9223372036854775807) (ha : a = (most : Int)) (hm : most ≤ 9223372036854775807) (hs : sText l e most = (l', e', s)) :
    Calls Tryd.prog 67 #[.pointer (some ⟨g, 0, none⟩), .int .i64 a] w (Turns (fun en => en = .returned (.string (strN s))) g l' e' w) := by
  have e3 : sShort l e most = ((sShort l e most).1, (sShort l e most).2.1, (sShort l e most).2.2) := rfl
  unfold sText at hs
  by_cases hc : (sShort l e most).2.1 = 0 ∧ (sShort l e most).2.2 ≤ (sShort l e most).1.length
  · rw [if_pos hc] at hs
    simp only [Prod.mk.injEq] at hs
    obtain ⟨rfl, rfl, rfl⟩ := hs
    rw [hc.1] at e3
    exact text_ok g l _ e most _ a w h hf h8 hl ha hm sShort_most e3 hc.2
  · rw [if_neg hc] at hs
    simp only [Prod.mk.injEq] at hs
    obtain ⟨rfl, rfl, rfl⟩ := hs
    exact text_no g l _ e _ most _ a w h hf h8 hl ha hm sShort_most e3 (by omega)

end Go.Proofs.YtapmchkikafpmaaDoor
