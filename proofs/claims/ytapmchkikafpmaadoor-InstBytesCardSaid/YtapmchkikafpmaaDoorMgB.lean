/-
  What holds while a command is taken off any bytes: an In in any state; what each taking leaves.
-/
import Derived.Test.YtapmchkikafpmaaDoorKDec
import Derived.Test.YtapmchkikafpmaaDoorKBytes
import Derived.Test.YtapmchkikafpmaaDoorMWord
import Derived.Test.YtapmchkikafpmaaDoorInOps
import Derived.Test.YtapmchkikafpmaaDoorNew
import Derived.Test.YtapmchkikafpmaaDoorARight
import Derived.Deep.Cut
import Derived.Test.YtapmchkikafpmaaDoorOutK
import Derived.Test.YtapmchkikafpmaaDoorAEq
import Derived.Test.YtapmchkikafpmaaDoorMgA
namespace Go.Proofs.YtapmchkikafpmaaDoor
open Go.ChangeShapes Go.WideShapes Go.ChangeAt Go.RowKit Go.Lib
set_option linter.unusedVariables false

/-- What is left, and the error, of an In that bytes are in. -/
def Sound (l : List Nat) (e : Nat) : Prop := Fine l e ∧ (∀ x ∈ l, x < 256) ∧ l.length ≤ 9223372036854775807
theorem Sound.fine {l : List Nat} {e : Nat} (h : Sound l e) : Fine l e := h.1
theorem Sound.bytes {l : List Nat} {e : Nat} (h : Sound l e) : ∀ x ∈ l, x < 256 := h.2.1
theorem Sound.len {l : List Nat} {e : Nat} (h : Sound l e) : l.length ≤ 9223372036854775807 := h.2.2
theorem sound_nil (e : Nat) : Sound [] e := ⟨fun _ => rfl, fun x hx => (by cases hx), by simp⟩
theorem sound_fail {l : List Nat} {e x : Nat} (hx : 0 < x) (h : Sound l e) : Sound (leftE e x l) (firstE e x) := by
  have hn : leftE e x l = [] := leftE_nil hx (fun h0 => h.1 h0)
  rw [hn]; exact sound_nil _

theorem sByte_sound {l : List Nat} {e : Nat} {l' : List Nat} {e' v : Nat} (h : Sound l e) (hs : sByte l e = (l', e', v)) : Sound l' e' ∧ v < 256 := by
  cases l with
  | nil =>
    simp only [sByte, Prod.mk.injEq] at hs
    obtain ⟨rfl, rfl, rfl⟩ := hs
    exact ⟨sound_nil _, by omega⟩
  | cons b t =>
    have he := fine_zero h.1 (by simp)
    simp only [sByte, Prod.mk.injEq] at hs
    obtain ⟨rfl, rfl, rfl⟩ := hs
    refine ⟨⟨fun h0 => absurd he h0, fun x hx => h.2.1 x (List.mem_cons_of_mem _ hx), ?_⟩, h.2.1 b (by simp)⟩
    have := h.2.2
    simp at this
    omega
theorem sShort_sound {l : List Nat} {e most : Nat} {l' : List Nat} {e' v : Nat} (h : Sound l e) (hs : sShort l e most = (l', e', v)) : Sound l' e' ∧ v ≤ most := by
  have h1 := fun h0 => (sShort_bad (l := l) (e := e) (most := most) h0 h.1).1
  have h2 := sShort_in (l := l) (e := e) (most := most)
  have h3 := sShort_len (l := l) (e := e) (most := most)
  have h4 := sShort_most (l := l) (e := e) (most := most)
  rw [hs] at h1 h2 h3 h4
  exact ⟨⟨h1, fun x hx => h.2.1 x (h2 x hx), Nat.le_trans h3 h.2.2⟩, h4⟩
theorem sFixed_sound {l : List Nat} {e : Nat} {l' : List Nat} {e' v : Nat} (h : Sound l e) (hs : sFixed l e = (l', e', v)) : Sound l' e' ∧ v < 18446744073709551616 := by
  unfold sFixed at hs
  by_cases hk : l.length < 8
  · rw [if_pos hk] at hs
    simp only [Prod.mk.injEq] at hs
    obtain ⟨rfl, rfl, rfl⟩ := hs
    exact ⟨sound_nil _, by omega⟩
  · rw [if_neg hk] at hs
    simp only [Prod.mk.injEq] at hs
    obtain ⟨rfl, rfl, rfl⟩ := hs
    have he := fine_zero h.1 (by rintro rfl; simp at hk)
    refine ⟨⟨fun h0 => absurd he h0, fun x hx => h.2.1 x (List.mem_of_mem_drop hx), ?_⟩, ?_⟩
    · rw [List.length_drop]; have := h.2.2; omega
    · exact Nat.lt_of_lt_of_le (numN_lt l h.2.1 8) (by decide)
theorem sText_sound {l : List Nat} {e most : Nat} {l' : List Nat} {e' : Nat} {s : List Nat} (h : Sound l e) (hs : sText l e most = (l', e', s)) : Sound l' e' ∧ s.length ≤ most ∧ ∀ x ∈ s, x < 256 := by
  obtain ⟨l1, e1, v, h1⟩ : ∃ l1 e1 v, sShort l e most = (l1, e1, v) := ⟨_, _, _, rfl⟩
  obtain ⟨k1, k2⟩ := sShort_sound h h1
  unfold sText at hs
  rw [h1] at hs
  simp only at hs
  split at hs
  · rename_i hc
    simp only [Prod.mk.injEq] at hs
    obtain ⟨rfl, rfl, rfl⟩ := hs
    refine ⟨⟨fun h0 => absurd rfl h0, fun x hx => k1.2.1 x (List.mem_of_mem_drop hx), ?_⟩, ?_, fun x hx => k1.2.1 x (List.mem_of_mem_take hx)⟩
    · rw [List.length_drop]; have := k1.2.2; omega
    · rw [List.length_take]; omega
  · simp only [Prod.mk.injEq] at hs
    obtain ⟨rfl, rfl, rfl⟩ := hs
    exact ⟨sound_nil _, by simp, fun x hx => (by cases hx)⟩
theorem sTruth_sound {l : List Nat} {e : Nat} {l' : List Nat} {e' : Nat} {v : Bool} (h : Sound l e) (hs : sTruth l e = (l', e', v)) : Sound l' e' := by
  cases l with
  | nil =>
    simp only [sTruth, Prod.mk.injEq] at hs
    obtain ⟨rfl, rfl, rfl⟩ := hs
    exact sound_nil _
  | cons b t =>
    have he := fine_zero h.1 (by simp)
    simp only [sTruth] at hs
    split at hs
    · simp only [Prod.mk.injEq] at hs
      obtain ⟨rfl, rfl, rfl⟩ := hs
      refine ⟨fun h0 => absurd he h0, fun x hx => h.2.1 x (List.mem_cons_of_mem _ hx), ?_⟩
      have := h.2.2
      simp at this
      omega
    · simp only [Prod.mk.injEq] at hs
      obtain ⟨rfl, rfl, rfl⟩ := hs
      exact sound_nil _

set_option maxRecDepth 100000 in
set_option maxHeartbeats 400000 in
theorem takeanyE_any (g : Nat) (l : List Nat) (e : Nat) (l' : List Nat) (e' v : Nat) (w : World) (h : InAt w g l e) (hS : Sound l e) (hs : sShort l e 18446744073709551615 = (l', e', v)) :
    Calls Tryd.prog 68 #[.pointer (some ⟨g, 0, none⟩)] w (Turns (fun en => en = .returned (.int .u64 (v : Int))) g l' e' w) := by
  have HI := hid h
  have H8 := hid hS
  have HS := hid hs
  clear h hS hs
  go_enter Tryd.func68, Tryd.ntmps68
  go_wp2_with fail
  with_reducible refine (inshort_any g l e 18446744073709551615 18446744073709551615 l' e' v _ HI.out H8.out.fine H8.out.bytes H8.out.len rfl HS.out).mono ?_
  rintro en w1 ⟨rfl, hin, hg⟩
  have HT := hid hin
  have HG := hid hg
  clear hin hg
  go_wp2
  go_ret
  exact ⟨rfl, HT.out, HG.out⟩

/-- While a command, in a box of the call's own, is taken off the In at block g, in whatever state. -/
def TakeE (w0 w : World) (g b : Nat) (c : K) (l : List Nat) (e : Nat) : Prop := InAt w g l e ∧ Blk w b 30 (cellsOf c) ∧ w0.heap.size ≤ b ∧ w0.grownBy w (some g) ∧ PartsIs w ∧ 0 < g ∧ g < w0.heap.size
theorem TakeE.start {w : World} {g : Nat} {l : List Nat} {e : Nat} (h : InAt w g l e) (hP : PartsIs w) (hg : 0 < g) (c : K) : TakeE w (w.alloc (.cells (cellsOf c) 30)) g w.heap.size c l e :=
  ⟨h.keep ((Below.refl _ _).alloc (by have := h.lt; omega) _), Blk.new _ _ _, Nat.le_refl _, only_of_below ((Below.refl _ _).alloc (Nat.le_refl _) _) _, hP.alloc _, hg, h.lt⟩
theorem TakeE.parts {w0 w : World} {g b : Nat} {c : K} {l : List Nat} {e : Nat} (h : TakeE w0 w g b c l e) : PartsIs w := h.2.2.2.2.1
theorem TakeE.iat {w0 w : World} {g b : Nat} {c : K} {l : List Nat} {e : Nat} (h : TakeE w0 w g b c l e) : InAt w g l e := h.1
theorem TakeE.grown {w0 w : World} {g b : Nat} {c : K} {l : List Nat} {e : Nat} (h : TakeE w0 w g b c l e) : w0.grownBy w (some g) := h.2.2.2.1
theorem TakeE.blk {w0 w : World} {g b : Nat} {c : K} {l : List Nat} {e : Nat} (h : TakeE w0 w g b c l e) : Blk w b 30 (cellsOf c) := h.2.1
theorem TakeE.on {w0 w w' : World} {g b : Nat} {c : K} {l : List Nat} {e : Nat} (h : TakeE w0 w g b c l e) (hb : Below w.heap.size w w') : TakeE w0 w' g b c l e :=
  ⟨h.1.keep (hb.mono h.1.lt), h.2.1.below hb h.2.1.lt, h.2.2.1, only_below h.2.2.2.1 hb, h.2.2.2.2.1.below hb, h.2.2.2.2.2⟩
theorem TakeE.turn {w0 w w' : World} {g b : Nat} {c : K} {l l' : List Nat} {e e' : Nat} (h : TakeE w0 w g b c l e) (hi : InAt w' g l' e') (hb : w.grownBy w' (some g)) : TakeE w0 w' g b c l' e' :=
  ⟨hi, h.2.1.grown hb (by have := h.2.2.1; have := h.2.2.2.2.2.2; intro e; injection e with e; omega), h.2.2.1, h.2.2.2.1.trans hb,
    var_grown gParts h.2.2.2.2.1 h.2.2.2.2.1.lt (by have := h.2.2.2.2.2.1; intro e; injection e with e; omega) hb, h.2.2.2.2.2⟩
theorem TakeE.set_ {w0 w : World} {g b : Nat} {c : K} {l : List Nat} {e : Nat} (h : TakeE w0 w g b c l e) (i : Nat) (u : Value) (c' : K) (hc : (cellsOf c).setIfInBounds i u = cellsOf c') : TakeE w0 (w.setCell ⟨b, i, none⟩ u) g b c' l e := by
  have hgb : g < b := Nat.lt_of_lt_of_le h.2.2.2.2.2.2 h.2.2.1
  have hB : Below (g + 1) w (w.setCell ⟨b, i, none⟩ u) := Below.setCell (p := ⟨b, i, none⟩) (Below.refl _ _) hgb u
  exact ⟨h.1.keep hB, hc ▸ h.2.1.set_ i u, h.2.2.1, only_setCell (p := ⟨b, i, none⟩) h.2.2.2.1 (.inr h.2.2.1) u, var_under gParts h.2.2.2.2.1 (by have := h.2.2.2.2.2.1; omega) hB, h.2.2.2.2.2⟩
theorem TakeE.far {w0 w : World} {g b : Nat} {c : K} {l : List Nat} {e : Nat} (h : TakeE w0 w g b c l e) {p : Addr} (hp : b ≠ p.block) (h0 : w0.heap.size ≤ p.block) (u : Value) : TakeE w0 (w.setCell p u) g b c l e := by
  have hgp : g < p.block := Nat.lt_of_lt_of_le h.2.2.2.2.2.2 h0
  have hB : Below (g + 1) w (w.setCell p u) := Below.setCell (p := p) (Below.refl _ _) hgp u
  exact ⟨h.1.keep hB, h.2.1.far hp u, h.2.2.1, only_setCell (p := p) h.2.2.2.1 (.inr h0) u, var_under gParts h.2.2.2.2.1 (by have := h.2.2.2.2.2.1; omega) hB, h.2.2.2.2.2⟩
theorem TakeE.put {w0 w : World} {g b : Nat} {c : K} {l : List Nat} {e : Nat} (h : TakeE w0 w g b c l e) (d : K) : TakeE w0 (putK w b d) g b d l e := by
  obtain ⟨k, u, f, q, s, m, n, t⟩ := c
  obtain ⟨k', u', f', q', s', m', n', t'⟩ := d
  exact (((((((h.set_ 0 (.int .i64 k') ⟨k', u, f, q, s, m, n, t⟩ rfl).set_ 1 (.int .u64 u') ⟨k', u', f, q, s, m, n, t⟩ rfl).set_ 2 (.string f') ⟨k', u', f', q, s, m, n, t⟩ rfl).set_ 3 (.int .u64 q') ⟨k', u', f', q', s, m, n, t⟩ rfl).set_ 4 (.string s') ⟨k', u', f', q', s', m, n, t⟩ rfl).set_ 5 (.int .i64 m') ⟨k', u', f', q', s', m', n, t⟩ rfl).set_ 6 (.int .u64 n') ⟨k', u', f', q', s', m', n', t⟩ rfl).set_ 7 (.int .i64 t') ⟨k', u', f', q', s', m', n', t'⟩ rfl

end Go.Proofs.YtapmchkikafpmaaDoor

/-
  What a taking of a command does to any bytes: what is left, the error, the command; and that what is read is written as it was. No program but a string's bytes.
-/
namespace Go.Proofs.YtapmchkikafpmaaDoor
open Go.Lib
set_option linter.unusedVariables false
set_option linter.unusedSimpArgs false

/-! What is read is written as it was, thing by thing. -/
theorem firstE_zero_in {e x : Nat} (hx : 0 < x) : firstE e x ≠ 0 := by have := firstE_pos (e := e) hx; omega
theorem sByte_inv {l : List Nat} {e : Nat} {l' : List Nat} {v : Nat} (h : Sound l e) (hs : sByte l e = (l', 0, v)) : e = 0 ∧ l = [v] ++ l' := by
  cases l with
  | nil =>
    simp only [sByte, Prod.mk.injEq] at hs
    exact absurd hs.2.1 (firstE_zero_in (by omega))
  | cons b t =>
    simp only [sByte, Prod.mk.injEq] at hs
    obtain ⟨rfl, rfl, rfl⟩ := hs
    exact ⟨rfl, rfl⟩
theorem sTruth_inv {l : List Nat} {e : Nat} {l' : List Nat} {v : Bool} (h : Sound l e) (hs : sTruth l e = (l', 0, v)) : e = 0 ∧ l = [truthN v] ++ l' := by
  cases l with
  | nil =>
    simp only [sTruth, Prod.mk.injEq] at hs
    exact absurd hs.2.1 (firstE_zero_in (by omega))
  | cons b t =>
    simp only [sTruth] at hs
    split at hs
    · rename_i hb
      simp only [Prod.mk.injEq] at hs
      obtain ⟨rfl, rfl, rfl⟩ := hs
      refine ⟨rfl, ?_⟩
      have : b = 0 ∨ b = 1 := by omega
      rcases this with rfl | rfl <;> rfl
    · simp only [Prod.mk.injEq] at hs
      exact absurd hs.2.1 (by omega)
theorem sShort_inv {l : List Nat} {e most : Nat} {l' : List Nat} {v : Nat} (h : Sound l e) (hs : sShort l e most = (l', 0, v)) : e = 0 ∧ l = shortN v ++ l' ∧ v < 18446744073709551616 := by
  obtain ⟨a, b, c, hr⟩ : ∃ a b c, readN l = (a, b, c) := ⟨_, _, _, rfl⟩
  unfold sShort at hs
  rw [hr] at hs
  simp only at hs
  split at hs
  · rename_i hc
    split at hs
    · simp only [Prod.mk.injEq] at hs
      exact absurd hs.2.1 (by omega)
    · simp only [Prod.mk.injEq] at hs
      obtain ⟨rfl, rfl, rfl⟩ := hs
      subst hc
      obtain ⟨h1, h2, h3, h4⟩ := readN_inv h.2.1 hr
      refine ⟨rfl, ?_, h4⟩
      rw [← h3, List.take_append_drop]
  · simp only [Prod.mk.injEq] at hs
    exact absurd hs.2.1 (firstE_zero_in (by omega))
theorem bytesN_numN (n : Nat) : ∀ l : List Nat, l.length = n → (∀ x ∈ l, x < 256) → bytesN (numN l) n = l := by
  induction n with
  | zero => intro l hl _; rw [List.eq_nil_of_length_eq_zero hl]; rfl
  | succ n ih =>
    intro l hl h8
    have hne : l ≠ [] := by rintro rfl; simp at hl
    have hd := List.dropLast_concat_getLast hne
    have hc := h8 _ (List.getLast_mem hne)
    generalize l.getLast hne = c at hd hc
    have hi := ih l.dropLast (by rw [List.length_dropLast]; omega) (fun x hx => h8 x (List.dropLast_subset l hx))
    rw [← hd, numN_snoc, bytesN, show (numN l.dropLast * 256 + c) / 256 = numN l.dropLast by omega, show (numN l.dropLast * 256 + c) % 256 = c by omega, hi]
theorem sFixed_inv {l : List Nat} {e : Nat} {l' : List Nat} {v : Nat} (h : Sound l e) (hs : sFixed l e = (l', 0, v)) : e = 0 ∧ l = bytesN v 8 ++ l' := by
  unfold sFixed at hs
  split at hs
  · simp only [Prod.mk.injEq] at hs
    exact absurd hs.2.1 (firstE_zero_in (by omega))
  · rename_i hk
    simp only [Prod.mk.injEq] at hs
    obtain ⟨rfl, rfl, rfl⟩ := hs
    refine ⟨rfl, ?_⟩
    rw [bytesN_numN 8 (l.take 8) (by rw [List.length_take]; omega) (fun x hx => h.2.1 x (List.mem_of_mem_take hx)), List.take_append_drop]
theorem strN_size (s : List Nat) : (strN s).size = s.length := by unfold strN; rw [strOfNums_size]; simp
theorem bytesOfS_strN {s : List Nat} (h : ∀ x ∈ s, x < 256) : bytesOfS (strN s) = s := by
  unfold bytesOfS strN
  rw [strOfNums_data, List.map_map, List.map_map]
  conv => rhs; rw [← List.map_id s]
  apply List.map_congr_left
  intro x hx
  have := h x hx
  simp
  omega
theorem sText_inv {l : List Nat} {e most : Nat} {l' : List Nat} {s : List Nat} (h : Sound l e) (hs : sText l e most = (l', 0, s)) : e = 0 ∧ l = textN (strN s) ++ l' := by
  obtain ⟨l1, e1, v, h1⟩ : ∃ l1 e1 v, sShort l e most = (l1, e1, v) := ⟨_, _, _, rfl⟩
  obtain ⟨k1, k2⟩ := sShort_sound h h1
  unfold sText at hs
  rw [h1] at hs
  simp only at hs
  split at hs
  · rename_i hc
    obtain ⟨hc0, hc1⟩ := hc
    subst hc0
    simp only [Prod.mk.injEq] at hs
    obtain ⟨rfl, _, rfl⟩ := hs
    obtain ⟨i1, i2, _⟩ := sShort_inv h h1
    refine ⟨i1, ?_⟩
    have hl : (l1.take v).length = v := by rw [List.length_take]; omega
    unfold textN
    rw [strN_size, hl, bytesOfS_strN (fun x hx => k1.2.1 x (List.mem_of_mem_take hx)), List.append_assoc, List.take_append_drop]
    exact i2
  · simp only [Prod.mk.injEq] at hs
    exact absurd hs.2.1 (firstE_zero_in (by omega))

/-! Part by part. -/
def tk0 (k : Int) (l : List Nat) (e : Nat) : List Nat × Nat × Nat × List Nat :=
  if h0 k then ((sText (sFixed l e).1 (sFixed l e).2.1 64).1, (sText (sFixed l e).1 (sFixed l e).2.1 64).2.1, (sFixed l e).2.2, (sText (sFixed l e).1 (sFixed l e).2.1 64).2.2) else (l, e, 0, [])
def tk1 (k : Int) (l : List Nat) (e : Nat) : List Nat × Nat × Nat := if h1 k then sShort l e 18446744073709551615 else (l, e, 0)
def tk2 (k : Int) (l : List Nat) (e : Nat) : List Nat × Nat × List Nat := if h2 k then sText l e 64 else (l, e, [])
def tk3 (k : Int) (l : List Nat) (e : Nat) : List Nat × Nat × Nat := if h3 k then sByte l e else (l, e, 0)
def tk4 (k : Int) (l : List Nat) (e : Nat) : List Nat × Nat × Nat := if h4 k then sShort l e 18446744073709551615 else (l, e, 0)
def tk5 (k : Int) (l : List Nat) (e : Nat) : List Nat × Nat × Nat := if h5 k then sShort l e 1099511627776 else (l, e, 0)
/-- All parts of a kind. -/
def sParts (k : Int) (l : List Nat) (e : Nat) : List Nat × Nat × K :=
  match tk0 k l e with
  | (l1, e1, u, fb) => match tk1 k l1 e1 with
    | (l2, e2, q) => match tk2 k l2 e2 with
      | (l3, e3, pb) => match tk3 k l3 e3 with
        | (l4, e4, m) => match tk4 k l4 e4 with
          | (l5, e5, n) => match tk5 k l5 e5 with
            | (l6, e6, t) => (l6, e6, ⟨k, u, strN fb, q, strN pb, m, n, t⟩)
theorem sParts_split {k : Int} {l : List Nat} {e : Nat} {l' : List Nat} {e' : Nat} {c : K} (hs : sParts k l e = (l', e', c)) :
    ∃ l1 e1 l2 e2 l3 e3 l4 e4 l5 e5 u fb q pb m n t, tk0 k l e = (l1, e1, u, fb) ∧ tk1 k l1 e1 = (l2, e2, q) ∧ tk2 k l2 e2 = (l3, e3, pb) ∧ tk3 k l3 e3 = (l4, e4, m) ∧ tk4 k l4 e4 = (l5, e5, n) ∧ tk5 k l5 e5 = (l', e', t) ∧
      c = ⟨k, ((u : Nat) : Int), strN fb, ((q : Nat) : Int), strN pb, ((m : Nat) : Int), ((n : Nat) : Int), ((t : Nat) : Int)⟩ := by
  obtain ⟨l1, e1, u, fb, a0⟩ : ∃ a b c d, tk0 k l e = (a, b, c, d) := ⟨_, _, _, _, rfl⟩
  obtain ⟨l2, e2, q, a1⟩ : ∃ a b c, tk1 k l1 e1 = (a, b, c) := ⟨_, _, _, rfl⟩
  obtain ⟨l3, e3, pb, a2⟩ : ∃ a b c, tk2 k l2 e2 = (a, b, c) := ⟨_, _, _, rfl⟩
  obtain ⟨l4, e4, m, a3⟩ : ∃ a b c, tk3 k l3 e3 = (a, b, c) := ⟨_, _, _, rfl⟩
  obtain ⟨l5, e5, n, a4⟩ : ∃ a b c, tk4 k l4 e4 = (a, b, c) := ⟨_, _, _, rfl⟩
  obtain ⟨l6, e6, t, a5⟩ : ∃ a b c, tk5 k l5 e5 = (a, b, c) := ⟨_, _, _, rfl⟩
  unfold sParts at hs
  simp only [a0, a1, a2, a3, a4, a5, Prod.mk.injEq] at hs
  obtain ⟨rfl, rfl, rfl⟩ := hs
  exact ⟨l1, e1, l2, e2, l3, e3, l4, e4, l5, e5, u, fb, q, pb, m, n, t, a0, a1, a2, a3, a4, a5, rfl⟩

theorem tk0_sound {k : Int} {l : List Nat} {e : Nat} {l' : List Nat} {e' u : Nat} {s : List Nat} (h : Sound l e) (hs : tk0 k l e = (l', e', u, s)) :
    Sound l' e' ∧ u < 18446744073709551616 ∧ s.length ≤ 64 ∧ (e' = 0 → e = 0 ∧ l = (if h0 k then bytesN u 8 ++ textN (strN s) else []) ++ l') := by
  obtain ⟨l1, e1, v, a1⟩ : ∃ a b c, sFixed l e = (a, b, c) := ⟨_, _, _, rfl⟩
  obtain ⟨l2, e2, t, a2⟩ : ∃ a b c, sText l1 e1 64 = (a, b, c) := ⟨_, _, _, rfl⟩
  unfold tk0 at hs
  cases hk : h0 k
  · simp only [hk, Bool.false_eq_true, if_false, Prod.mk.injEq] at hs
    obtain ⟨rfl, rfl, rfl, rfl⟩ := hs
    exact ⟨h, by omega, by simp, fun h => ⟨h, by simp⟩⟩
  · simp only [hk, if_true, a1, a2, Prod.mk.injEq] at hs
    obtain ⟨rfl, rfl, rfl, rfl⟩ := hs
    obtain ⟨k1, k2⟩ := sFixed_sound h a1
    obtain ⟨m1, m2, m3⟩ := sText_sound k1 a2
    refine ⟨m1, k2, m2, fun h0 => ?_⟩
    subst h0
    obtain ⟨i1, i2⟩ := sText_inv k1 a2
    subst i1
    obtain ⟨j1, j2⟩ := sFixed_inv h a1
    exact ⟨j1, by rw [if_pos rfl, j2, i2, List.append_assoc]⟩
theorem tk1_sound {k : Int} {l : List Nat} {e : Nat} {l' : List Nat} {e' u : Nat} (h : Sound l e) (hs : tk1 k l e = (l', e', u)) :
    Sound l' e' ∧ u < 18446744073709551616 ∧ (e' = 0 → e = 0 ∧ l = (if h1 k then shortN u else []) ++ l') := by
  unfold tk1 at hs
  cases hk : h1 k
  · simp only [hk, Bool.false_eq_true, if_false, Prod.mk.injEq] at hs
    obtain ⟨rfl, rfl, rfl⟩ := hs
    exact ⟨h, by omega, fun h => ⟨h, by simp⟩⟩
  · simp only [hk, if_true] at hs
    obtain ⟨k1, k2⟩ := sShort_sound h hs
    refine ⟨k1, by omega, fun h0 => ?_⟩
    subst h0
    obtain ⟨i1, i2, _⟩ := sShort_inv h hs
    exact ⟨i1, by rw [if_pos rfl]; exact i2⟩
theorem tk2_sound {k : Int} {l : List Nat} {e : Nat} {l' : List Nat} {e' : Nat} {s : List Nat} (h : Sound l e) (hs : tk2 k l e = (l', e', s)) :
    Sound l' e' ∧ s.length ≤ 64 ∧ (e' = 0 → e = 0 ∧ l = (if h2 k then textN (strN s) else []) ++ l') := by
  unfold tk2 at hs
  cases hk : h2 k
  · simp only [hk, Bool.false_eq_true, if_false, Prod.mk.injEq] at hs
    obtain ⟨rfl, rfl, rfl⟩ := hs
    exact ⟨h, by simp, fun h => ⟨h, by simp⟩⟩
  · simp only [hk, if_true] at hs
    obtain ⟨k1, k2, _⟩ := sText_sound h hs
    refine ⟨k1, k2, fun h0 => ?_⟩
    subst h0
    obtain ⟨i1, i2⟩ := sText_inv h hs
    exact ⟨i1, by rw [if_pos rfl]; exact i2⟩
theorem tk3_sound {k : Int} {l : List Nat} {e : Nat} {l' : List Nat} {e' u : Nat} (h : Sound l e) (hs : tk3 k l e = (l', e', u)) :
    Sound l' e' ∧ u < 256 ∧ (e' = 0 → e = 0 ∧ l = (if h3 k then [u] else []) ++ l') := by
  unfold tk3 at hs
  cases hk : h3 k
  · simp only [hk, Bool.false_eq_true, if_false, Prod.mk.injEq] at hs
    obtain ⟨rfl, rfl, rfl⟩ := hs
    exact ⟨h, by omega, fun h => ⟨h, by simp⟩⟩
  · simp only [hk, if_true] at hs
    obtain ⟨k1, k2⟩ := sByte_sound h hs
    refine ⟨k1, k2, fun h0 => ?_⟩
    subst h0
    obtain ⟨i1, i2⟩ := sByte_inv h hs
    exact ⟨i1, by rw [if_pos rfl]; exact i2⟩
theorem tk4_sound {k : Int} {l : List Nat} {e : Nat} {l' : List Nat} {e' u : Nat} (h : Sound l e) (hs : tk4 k l e = (l', e', u)) :
    Sound l' e' ∧ u < 18446744073709551616 ∧ (e' = 0 → e = 0 ∧ l = (if h4 k then shortN u else []) ++ l') := by
  unfold tk4 at hs
  cases hk : h4 k
  · simp only [hk, Bool.false_eq_true, if_false, Prod.mk.injEq] at hs
    obtain ⟨rfl, rfl, rfl⟩ := hs
    exact ⟨h, by omega, fun h => ⟨h, by simp⟩⟩
  · simp only [hk, if_true] at hs
    obtain ⟨k1, k2⟩ := sShort_sound h hs
    refine ⟨k1, by omega, fun h0 => ?_⟩
    subst h0
    obtain ⟨i1, i2, _⟩ := sShort_inv h hs
    exact ⟨i1, by rw [if_pos rfl]; exact i2⟩
theorem tk5_sound {k : Int} {l : List Nat} {e : Nat} {l' : List Nat} {e' u : Nat} (h : Sound l e) (hs : tk5 k l e = (l', e', u)) :
    Sound l' e' ∧ u ≤ 1099511627776 ∧ (e' = 0 → e = 0 ∧ l = (if h5 k then shortN u else []) ++ l') := by
  unfold tk5 at hs
  cases hk : h5 k
  · simp only [hk, Bool.false_eq_true, if_false, Prod.mk.injEq] at hs
    obtain ⟨rfl, rfl, rfl⟩ := hs
    exact ⟨h, by omega, fun h => ⟨h, by simp⟩⟩
  · simp only [hk, if_true] at hs
    obtain ⟨k1, k2⟩ := sShort_sound h hs
    refine ⟨k1, k2, fun h0 => ?_⟩
    subst h0
    obtain ⟨i1, i2, _⟩ := sShort_inv h hs
    exact ⟨i1, by rw [if_pos rfl]; exact i2⟩

/-- A right command's bytes behind its kind. -/
def body (c : K) : List Nat := e0 c ++ (e1 c ++ (e2 c ++ (e3 c ++ (e4 c ++ e5 c))))
theorem enc_body (c : K) : enc c = c.kind.toNat :: body c := rfl

theorem sParts_sound {k : Int} {l : List Nat} {e : Nat} {l' : List Nat} {e' : Nat} {c : K} (hk : 0 ≤ k ∧ k < 256) (h : Sound l e) (hs : sParts k l e = (l', e', c)) :
    Sound l' e' ∧ okK c ∧ c.kind = k ∧ c.foot.size ≤ 64 ∧ c.path.size ≤ 64 ∧ (e' = 0 → e = 0 ∧ l = body c ++ l') := by
  obtain ⟨l1, e1, l2, e2, l3, e3, l4, e4, l5, e5, u, fb, q, pb, m, n, t, a0, a1, a2, a3, a4, a5, rfl⟩ := sParts_split hs
  obtain ⟨s0, b0, d0, i0⟩ := tk0_sound h a0
  obtain ⟨s1, b1, i1⟩ := tk1_sound s0 a1
  obtain ⟨s2, b2, i2⟩ := tk2_sound s1 a2
  obtain ⟨s3, b3, i3⟩ := tk3_sound s2 a3
  obtain ⟨s4, b4, i4⟩ := tk4_sound s3 a4
  obtain ⟨s5, b5, i5⟩ := tk5_sound s4 a5
  refine ⟨s5, ⟨by simp only; omega, by simp only; omega, by simp only; omega, by simp only; omega, by simp only; omega, by simp only; omega⟩, rfl, by simp only [strN_size]; exact d0, by simp only [strN_size]; exact b2, fun h0 => ?_⟩
  obtain ⟨z5, j5⟩ := i5 h0
  obtain ⟨z4, j4⟩ := i4 z5
  obtain ⟨z3, j3⟩ := i3 z4
  obtain ⟨z2, j2⟩ := i2 z3
  obtain ⟨z1, j1⟩ := i1 z2
  obtain ⟨z0, j0⟩ := i0 z1
  refine ⟨z0, ?_⟩
  rw [j0, j1, j2, j3, j4, j5]
  simp only [body, Proofs.YtapmchkikafpmaaDoor.e0, Proofs.YtapmchkikafpmaaDoor.e1, Proofs.YtapmchkikafpmaaDoor.e2, Proofs.YtapmchkikafpmaaDoor.e3, Proofs.YtapmchkikafpmaaDoor.e4, Proofs.YtapmchkikafpmaaDoor.e5, Int.toNat_natCast, List.append_assoc]

/-- What a taking does: behind the kind; behind the parts; at the end. -/
def kindE (l : List Nat) (e : Nat) : List Nat × Nat := if 8 < (sByte l e).2.2 then (leftE (sByte l e).2.1 22 (sByte l e).1, firstE (sByte l e).2.1 22) else ((sByte l e).1, (sByte l e).2.1)
def partsE (l : List Nat) (e : Nat) : List Nat × Nat × K := sParts ((sByte l e).2.2 : Nat) (kindE l e).1 (kindE l e).2
def lastE (s : List Nat × Nat × K) : List Nat × Nat × K :=
  if rightK s.2.2 then (s.1, s.2.1, if s.2.1 = 0 then s.2.2 else ⟨0, 0, ⟨#[]⟩, 0, ⟨#[]⟩, 0, 0, 0⟩) else (leftE s.2.1 10 s.1, firstE s.2.1 10, ⟨0, 0, ⟨#[]⟩, 0, ⟨#[]⟩, 0, 0, 0⟩)
def sCmd (l : List Nat) (e : Nat) : List Nat × Nat × K := lastE (partsE l e)

theorem kind_no {k : Int} (h : isK k = false) (l : List Nat) (e : Nat) : sParts k l e = (l, e, ⟨k, 0, ⟨#[]⟩, 0, ⟨#[]⟩, 0, 0, 0⟩) := by
  have hk : ¬ (1 ≤ k ∧ k ≤ 8) := by unfold isK at h; rw [decide_eq_false_iff_not] at h; omega
  have g0 : h0 k = false := decide_eq_false (by omega)
  have g1 : h1 k = false := decide_eq_false (by omega)
  have g2 : h2 k = false := decide_eq_false (by omega)
  have g3 : h3 k = false := decide_eq_false (by omega)
  have g4 : h4 k = false := decide_eq_false (by omega)
  have g5 : h5 k = false := decide_eq_false (by omega)
  unfold sParts tk0 tk1 tk2 tk3 tk4 tk5
  simp only [g0, g1, g2, g3, g4, g5, Bool.false_eq_true, if_false]
  rfl
theorem rightK_kind {c : K} (h : isK c.kind = false) : rightK c = false := by unfold rightK; rw [h]; rfl
theorem right_none : rightK ⟨0, 0, ⟨#[]⟩, 0, ⟨#[]⟩, 0, 0, 0⟩ = true := by decide

/-- Where the taking of a command leaves an In, and what it tells. -/
theorem sCmd_sound {l : List Nat} {e : Nat} {l' : List Nat} {e' : Nat} {c : K} (h : Sound l e) (hs : sCmd l e = (l', e', c)) :
    Sound l' e' ∧ okK c ∧ c.foot.size ≤ 64 ∧ c.path.size ≤ 64 ∧ rightK c = true ∧ (e' = 0 → e = 0 ∧ l = enc c ++ l') := by
  obtain ⟨l1, e1, b, hb⟩ : ∃ a b c, sByte l e = (a, b, c) := ⟨_, _, _, rfl⟩
  obtain ⟨s1, b1⟩ := sByte_sound h hb
  obtain ⟨l2, e2, h2⟩ : ∃ a b, kindE l e = (a, b) := ⟨_, _, rfl⟩
  obtain ⟨l3, e3, d, h3⟩ : ∃ x y z, sParts (b : Int) l2 e2 = (x, y, z) := ⟨_, _, _, rfl⟩
  have hk : kindE l e = if 8 < b then (leftE e1 22 l1, firstE e1 22) else (l1, e1) := by unfold kindE; rw [hb]
  have s2 : Sound l2 e2 := by
    rw [h2] at hk
    split at hk
    · simp only [Prod.mk.injEq] at hk
      obtain ⟨rfl, rfl⟩ := hk
      exact sound_fail (by omega) s1
    · simp only [Prod.mk.injEq] at hk
      obtain ⟨rfl, rfl⟩ := hk
      exact s1
  obtain ⟨s3, ok3, k3, f3, p3, i3⟩ := sParts_sound (by omega) s2 h3
  have hz : okK ⟨0, 0, ⟨#[]⟩, 0, ⟨#[]⟩, 0, 0, 0⟩ := ⟨by simp, by simp, by simp, by simp, by simp, by simp⟩
  have hp : partsE l e = (l3, e3, d) := by unfold partsE; rw [hb, h2]; exact h3
  unfold sCmd at hs
  rw [hp] at hs
  unfold lastE at hs
  simp only at hs
  cases hr : rightK d
  · rw [hr] at hs
    simp only [Bool.false_eq_true, if_false, Prod.mk.injEq] at hs
    obtain ⟨rfl, rfl, rfl⟩ := hs
    exact ⟨sound_fail (by omega) s3, hz, by decide, by decide, right_none, fun h0 => absurd h0 (firstE_zero_in (by omega))⟩
  · rw [hr] at hs
    simp only [if_true, Prod.mk.injEq] at hs
    obtain ⟨rfl, rfl, rfl⟩ := hs
    by_cases h0 : e3 = 0
    · rw [if_pos h0]
      refine ⟨s3, ok3, f3, p3, hr, fun _ => ?_⟩
      obtain ⟨z2, j3⟩ := i3 h0
      rw [h2] at hk
      split at hk
      · simp only [Prod.mk.injEq] at hk
        exact absurd (hk.2.symm.trans z2) (firstE_zero_in (by omega))
      · simp only [Prod.mk.injEq] at hk
        obtain ⟨rfl, rfl⟩ := hk
        subst z2
        obtain ⟨z, j⟩ := sByte_inv h hb
        refine ⟨z, ?_⟩
        rw [enc_body, k3, Int.toNat_natCast, j, j3]
        rfl
    · rw [if_neg h0]
      exact ⟨s3, hz, by decide, by decide, right_none, fun h => absurd h h0⟩

/-- Off a right command's bytes. -/
theorem sParts_put (c : K) (more : List Nat) (ho : okK c) (hr : rightK c = true) : sParts c.kind (body c ++ more) 0 = (more, 0, c) := by
  obtain ⟨r1, r2, r3, r4, r5⟩ := right_in c ho hr
  obtain ⟨o1, o2, o3, _⟩ := ho
  have he : c = own c := by
    unfold rightK at hr
    simp only [Bool.and_eq_true, decide_eq_true_eq] at hr
    exact hr.1.2
  have a0 : tk0 c.kind (e0 c ++ (e1 c ++ (e2 c ++ (e3 c ++ (e4 c ++ (e5 c ++ more)))))) 0 = (e1 c ++ (e2 c ++ (e3 c ++ (e4 c ++ (e5 c ++ more)))), 0, (own c).num.toNat, bytesOfS (own c).foot) := by
    unfold tk0 e0 own
    cases h0 c.kind
    · simp [bytesOfS]
    · simp only [if_true]
      rw [List.append_assoc, sFixed_put _ _ (by omega)]
      simp only
      rw [sText_put _ _ 64 r4 (by omega)]
  have a1 : tk1 c.kind (e1 c ++ (e2 c ++ (e3 c ++ (e4 c ++ (e5 c ++ more))))) 0 = (e2 c ++ (e3 c ++ (e4 c ++ (e5 c ++ more))), 0, (own c).req.toNat) := by
    unfold tk1 e1 own
    cases h1 c.kind
    · simp
    · simp only [if_true]
      exact sShort_put _ _ _ (by omega) (by omega)
  have a2 : tk2 c.kind (e2 c ++ (e3 c ++ (e4 c ++ (e5 c ++ more)))) 0 = (e3 c ++ (e4 c ++ (e5 c ++ more)), 0, bytesOfS (own c).path) := by
    unfold tk2 e2 own
    cases h2 c.kind
    · simp [bytesOfS]
    · simp only [if_true]
      exact sText_put _ _ 64 r5 (by omega)
  have a3 : tk3 c.kind (e3 c ++ (e4 c ++ (e5 c ++ more))) 0 = (e4 c ++ (e5 c ++ more), 0, (own c).mode.toNat) := by
    unfold tk3 e3 own
    cases h3 c.kind
    · simp
    · simp only [if_true]
      exact sByte_put _ _
  have a4 : tk4 c.kind (e4 c ++ (e5 c ++ more)) 0 = (e5 c ++ more, 0, (own c).n.toNat) := by
    unfold tk4 e4 own
    cases h4 c.kind
    · simp
    · simp only [if_true]
      exact sShort_put _ _ _ (by omega) (by omega)
  have a5 : tk5 c.kind (e5 c ++ more) 0 = (more, 0, (own c).time.toNat) := by
    unfold tk5 e5 own
    cases h5 c.kind
    · simp
    · simp only [if_true]
      exact sShort_put _ _ _ (by omega) (by omega)
  have hb : body c ++ more = e0 c ++ (e1 c ++ (e2 c ++ (e3 c ++ (e4 c ++ (e5 c ++ more))))) := by unfold body; simp only [List.append_assoc]
  rw [hb]
  unfold sParts
  simp only [a0, a1, a2, a3, a4, a5, strN_bytesOfS]
  rw [← he]
  simp only [Prod.mk.injEq, true_and]
  obtain ⟨k, u, f, q, s, m, n, t⟩ := c
  simp only [K.mk.injEq, true_and, and_true] at *
  refine ⟨by omega, by omega, by omega, by omega, by omega⟩
theorem sCmd_put (c : K) (more : List Nat) (ho : okK c) (hr : rightK c = true) : sCmd (enc c ++ more) 0 = (more, 0, c) := by
  obtain ⟨r1, _⟩ := right_in c ho hr
  have hb : sByte (enc c ++ more) 0 = (body c ++ more, 0, c.kind.toNat) := rfl
  have hk : kindE (enc c ++ more) 0 = (body c ++ more, 0) := by
    unfold kindE
    rw [hb]
    simp only
    rw [if_neg (by omega)]
  have hp : partsE (enc c ++ more) 0 = (more, 0, c) := by
    unfold partsE
    rw [hb, hk]
    simp only
    rw [Int.toNat_of_nonneg r1.1]
    exact sParts_put c more ho hr
  unfold sCmd
  rw [hp]
  unfold lastE
  simp [hr]

theorem enc_byteK (c : K) (ho : okK c) (hr : rightK c = true) : ∀ x ∈ enc c, x < 256 := by
  obtain ⟨r1, r2, r3, r4, r5⟩ := right_in c ho hr
  intro x hx
  unfold enc e0 e1 e2 e3 e4 e5 at hx
  simp only [List.mem_cons, List.mem_append] at hx
  rcases hx with rfl | hx | hx | hx | hx | hx | hx
  · omega
  · split at hx
    · rcases List.mem_append.1 hx with h | h
      · exact bytesN_byte 8 _ x h
      · exact textN_byte _ x h
    · cases hx
  · split at hx
    · exact shortN_byte _ x hx
    · cases hx
  · split at hx
    · exact textN_byte _ x hx
    · cases hx
  · split at hx
    · rw [List.mem_singleton.1 hx]; omega
    · cases hx
  · split at hx
    · exact shortN_byte _ x hx
    · cases hx
  · split at hx
    · exact shortN_byte _ x hx
    · cases hx


end Go.Proofs.YtapmchkikafpmaaDoor

/-
  Contracts of taking a name, and a ballot (package mark), off an In.
-/
namespace Go.Proofs.YtapmchkikafpmaaDoor
open Go.ChangeShapes Go.WideShapes Go.ChangeAt Go.RowKit

theorem InAt.put2 {w : World} {g : Nat} {l : List Nat} {e : Nat} (h : InAt w g l e) {r : Nat} (hr : g < r) (a b : Value) : InAt ((w.setCell ⟨r, 0, none⟩ a).setCell ⟨r, 1, none⟩ b) g l e :=
  h.keep (Below.setCell (p := ⟨r, 1, none⟩) (Below.setCell (p := ⟨r, 0, none⟩) (Below.refl _ _) hr _) hr _)
theorem only_put2 {a w : World} {g r : Nat} (h : a.grownBy w (some g)) (hr : a.heap.size ≤ r) (x y : Value) : a.grownBy ((w.setCell ⟨r, 0, none⟩ x).setCell ⟨r, 1, none⟩ y) (some g) :=
  only_setCell (p := ⟨r, 1, none⟩) (only_setCell (p := ⟨r, 0, none⟩) h (.inr hr) x) (.inr hr) y

/-- What a taking of a name does: what is left, the error, the name. -/
def midName (l : List Nat) (e : Nat) : List Nat × Nat := if 6 < (sByte l e).2.2 then (leftE (sByte l e).2.1 12 (sByte l e).1, firstE (sByte l e).2.1 12) else ((sByte l e).1, (sByte l e).2.1)
def endName (l : List Nat) (e : Nat) : List Nat × Nat × Nat := sShort (midName l e).1 (midName l e).2 1023
def sName (l : List Nat) (e : Nat) : List Nat × Nat × Nat × Nat :=
  ((endName l e).1, (endName l e).2.1, if (endName l e).2.1 = 0 then ((sByte l e).2.2, (endName l e).2.2) else (0, 0))
/-- What a taking of a ballot does: what is left, the error, the ballot. -/
def sBallot (l : List Nat) (e : Nat) : List Nat × Nat × Nat :=
  if ballotB (sShort l e 4294967295).2.2 then sShort l e 4294967295 else (leftE (sShort l e 4294967295).2.1 60 (sShort l e 4294967295).1, firstE (sShort l e 4294967295).2.1 60, 0)

theorem sByte_fine {l : List Nat} {e : Nat} (hf : Fine l e) (h8 : ∀ x ∈ l, x < 256) : Fine (sByte l e).1 (sByte l e).2.1 ∧ (∀ x ∈ (sByte l e).1, x < 256) ∧ (sByte l e).1.length ≤ l.length ∧ (sByte l e).2.2 < 256 ∧ (6 < (sByte l e).2.2 → (sByte l e).2.1 = 0) := by
  cases l with
  | nil => exact ⟨fun _ => rfl, fun x hx => by simp [sByte] at hx, Nat.le_refl _, by simp [sByte], fun h => by simp [sByte] at h⟩
  | cons b t =>
    have he := fine_zero hf (by simp)
    subst he
    exact ⟨fun h => absurd rfl h, fun x hx => h8 x (List.mem_cons_of_mem _ hx), by simp [sByte], h8 b (by simp), fun _ => rfl⟩
theorem leftE_fine {l : List Nat} {e x : Nat} (hx : 0 < x) (hf : Fine l e) : Fine (leftE e x l) (firstE e x) := fun _ => leftE_nil hx (fun h => hf h)
theorem leftE_in {l : List Nat} {e x : Nat} : ∀ y ∈ leftE e x l, y ∈ l := by
  unfold leftE; split
  · intro y hy; cases hy
  · exact fun y hy => hy
theorem leftE_len {l : List Nat} {e x : Nat} : (leftE e x l).length ≤ l.length := by
  unfold leftE; split
  · simp
  · exact Nat.le_refl _
theorem midName_fine {l : List Nat} {e : Nat} (hf : Fine l e) (h8 : ∀ x ∈ l, x < 256) : Fine (midName l e).1 (midName l e).2 ∧ (∀ x ∈ (midName l e).1, x < 256) ∧ (midName l e).1.length ≤ l.length := by
  obtain ⟨h1, h2, h3, _, _⟩ := sByte_fine hf h8
  unfold midName
  split
  · exact ⟨leftE_fine (by decide) h1, fun x hx => h2 x (leftE_in x hx), Nat.le_trans leftE_len h3⟩
  · exact ⟨h1, h2, h3⟩
theorem sShort_fine {l : List Nat} {e most : Nat} (hf : Fine l e) : Fine (sShort l e most).1 (sShort l e most).2.1 := fun h => (sShort_bad h hf).1
theorem sName_fine {l : List Nat} {e : Nat} (hf : Fine l e) (h8 : ∀ x ∈ l, x < 256) : Fine (sName l e).1 (sName l e).2.1 ∧ (∀ x ∈ (sName l e).1, x < 256) ∧ (sName l e).1.length ≤ l.length := by
  obtain ⟨h1, h2, h3⟩ := midName_fine hf h8
  exact ⟨sShort_fine h1, fun x hx => h2 x (sShort_in x hx), Nat.le_trans sShort_len h3⟩

/-- The contracts of a taking, by what the functions tell. -/
theorem byte_is (g : Nat) (l : List Nat) (e : Nat) (w : World) (h : InAt w g l e) (hf : Fine l e) :
    Calls Tryd.prog 28 #[.pointer (some ⟨g, 0, none⟩)] w (Turns (fun en => en = .returned (.int .u8 ((sByte l e).2.2 : Int))) g (sByte l e).1 (sByte l e).2.1 w) :=
  byte_any g l e _ _ _ w h hf rfl
theorem short_is (g : Nat) (l : List Nat) (e most : Nat) (a : Int) (w : World) (h : InAt w g l e) (hf : Fine l e) (h8 : ∀ x ∈ l, x < 256) (hl : l.length ≤ 9223372036854775807) (ha : a = (most : Int)) :
    Calls Tryd.prog 48 #[.pointer (some ⟨g, 0, none⟩), .int .u64 a] w (Turns (fun en => en = .returned (.int .u64 ((sShort l e most).2.2 : Int))) g (sShort l e most).1 (sShort l e most).2.1 w) :=
  inshort_any g l e most a _ _ _ w h hf h8 hl ha rfl

set_option maxRecDepth 100000 in
set_option maxHeartbeats 400000 in
theorem takeid_as (g : Nat) (l : List Nat) (e : Nat) (l1 l2 l3 : List Nat) (e1 e2 e3 r s : Nat) (w : World) (h : InAt w g l e) (hf : Fine l e) (hb : sByte l e = (l1, e1, r)) (hr : r < 256)
    (hm : (if 6 < r then (leftE e1 12 l1, firstE e1 12) else (l1, e1)) = (l2, e2)) (hs : sShort l2 e2 1023 = (l3, e3, s)) (hf2 : Fine l2 e2) (h2 : ∀ x ∈ l2, x < 256) (hl2 : l2.length ≤ 9223372036854775807) :
    Calls Tryd.prog 26 #[.pointer (some ⟨g, 0, none⟩)] w (Turns (fun en => en = .returned (if e3 = 0 then nm r s else nm 0 0)) g l3 e3 w) := by
  have hs1 : s ≤ 1023 := by have := sShort_most (l := l2) (e := e2) (most := 1023); rw [hs] at this; exact this
  obtain ⟨x, hx⟩ : ∃ x, repB (r : Int) = x := ⟨_, rfl⟩
  have HX := hid hx
  have HI := hid h
  have hgl := h.lt
  have HI0 := hid (h.keep ((Below.refl _ _).alloc (by omega) (.cells #[.int .i64 0, .int .i64 0] 23)))
  have HF := hid hf
  have HB := hid hb
  have HS := hid hs
  have HF2 := hid hf2
  have H2 := hid h2
  have HM := hid hm
  clear hx h hf hb hs hf2 h2 hm
  go_enter Tryd.func26, Tryd.ntmps26
  go_wp2_with fail
  with_reducible refine (byte_any g l e l1 e1 r _ HI0.out HF.out HB.out).mono ?_
  rintro en w1 ⟨rfl, hi1, hg1⟩
  have HG1 := hid ((only_of_below ((Below.refl w.heap.size w).alloc (Nat.le_refl _) (.cells #[.int .i64 0, .int .i64 0] 23)) (some g)).trans hg1)
  have K1 := hid ((Blk.new w 23 #[.int .i64 0, .int .i64 0]).grown hg1 (by simp; omega))
  have HI1 := hid hi1
  clear hi1 hg1 HI0
  cases x
  · have h6 : 6 < r := by have := HX.out; unfold repB at this; rw [decide_eq_false_iff_not] at this; omega
    have hm1 : leftE e1 12 l1 = l2 ∧ firstE e1 12 = e2 := by have := HM.out; rw [if_pos h6] at this; simpa using this
    have HL := hid hm1.1
    have HE := hid hm1.2
    have h0 : e3 ≠ 0 := by
      intro h0
      have hp := firstE_pos (e := e1) (x := 12) (by decide)
      rw [hm1.2] at hp
      have hn : l2 = [] := HF2.out (by omega)
      have := HS.out
      subst hn
      unfold sShort at this
      rw [if_neg (show ¬ (readN ([] : List Nat)).2.2 = 0 by decide)] at this
      simp only [Prod.mk.injEq] at this
      have h4 := firstE_pos (e := e2) (x := (readN ([] : List Nat)).2.2) (by decide)
      omega
    clear hm1
    go_wp2_with fail
    with_reducible refine (isreplica_any r _).mono ?_
    rintro en w2 ⟨rfl, rfl⟩
    rw [HX.out]
    go_wp2_with fail
    with_reducible refine (fail_any g l1 e1 12 12 _ HI1.out rfl).mono ?_
    rw [HL.out, HE.out]
    rintro en w2 ⟨rfl, hi2, hg2⟩
    have HG2 := hid (HG1.out.trans hg2)
    have K2 := hid (K1.out.grown hg2 (by simp; omega))
    have HI2 := hid hi2
    clear hi2 hg2 HI1 K1 HG1
    go_wp2_with fail
    with_reducible refine (inshort_any g l2 e2 1023 1023 l3 e3 s _ HI2.out HF2.out H2.out hl2 rfl HS.out).mono ?_
    rintro en w3 ⟨rfl, hi3, hg3⟩
    have HG3 := hid (HG2.out.trans hg3)
    have K3 := hid (K2.out.grown hg3 (by simp; omega))
    have HI3 := hid hi3
    clear hi3 hg3 HI2 K2 HG2
    go_wp2_with fail
    with_reducible refine (failed_yes g l3 e3 _ HI3.out (by omega)).mono ?_
    rintro en w4 ⟨rfl, rfl⟩
    obtain ⟨⟨c0, c1⟩, f0, f1⟩ := blkn K3.out
    go_wp2
    refine bodyPost_ret (v := nm 0 0) (by simp [results, Tryd.results26, go_sem, c0, c1]) rfl ⟨rfl, HI3.out.put2 hgl _ _, only_put2 HG3.out (Nat.le_refl _) _ _⟩
  · have h6 : ¬ 6 < r := by have := HX.out; unfold repB at this; rw [decide_eq_true_eq] at this; omega
    have hm1 : l1 = l2 ∧ e1 = e2 := by have := HM.out; rw [if_neg h6] at this; simpa using this
    obtain ⟨rfl, rfl⟩ := hm1
    clear HM
    go_wp2_with fail
    with_reducible refine (isreplica_any r _).mono ?_
    rintro en w2 ⟨rfl, rfl⟩
    rw [HX.out]
    go_wp2_with fail
    with_reducible refine (inshort_any g l1 e1 1023 1023 l3 e3 s _ HI1.out HF2.out H2.out hl2 rfl HS.out).mono ?_
    rintro en w3 ⟨rfl, hi3, hg3⟩
    have HG3 := hid (HG1.out.trans hg3)
    have K3 := hid (K1.out.grown hg3 (by simp; omega))
    have HI3 := hid hi3
    clear hi3 hg3 HI1 K1 HG1
    by_cases h0 : e3 = 0
    · subst h0
      go_wp2_with fail
      with_reducible refine (failed_no g l3 _ HI3.out).mono ?_
      rintro en w4 ⟨rfl, rfl⟩
      obtain ⟨⟨c0, c1⟩, f0, f1⟩ := blkn K3.out
      go_wp2
      refine bodyPost_ret (v := nm r s) (by simp [results, Tryd.results26, go_sem, c0, c1]) rfl ⟨rfl, HI3.out.put2 hgl _ _, only_put2 HG3.out (Nat.le_refl _) _ _⟩
    · go_wp2_with fail
      with_reducible refine (failed_yes g l3 e3 _ HI3.out (by omega)).mono ?_
      rintro en w4 ⟨rfl, rfl⟩
      obtain ⟨⟨c0, c1⟩, f0, f1⟩ := blkn K3.out
      go_wp2
      refine bodyPost_ret (v := nm 0 0) (by simp [results, Tryd.results26, go_sem, c0, c1]) rfl ⟨rfl, HI3.out.put2 hgl _ _, only_put2 HG3.out (Nat.le_refl _) _ _⟩

theorem takeid_any (g : Nat) (l : List Nat) (e : Nat) (l' : List Nat) (e' r s : Nat) (w : World) (h : InAt w g l e) (hf : Fine l e) (h8 : ∀ x ∈ l, x < 256) (hl : l.length ≤ 9223372036854775807) (hs : sName l e = (l', e', r, s)) :
    Calls Tryd.prog 26 #[.pointer (some ⟨g, 0, none⟩)] w (Turns (fun en => en = .returned (nm r s)) g l' e' w) := by
  obtain ⟨h1, h2, h3, h4, h5⟩ := sByte_fine hf h8
  obtain ⟨m1, m2, m3⟩ := midName_fine hf h8
  have hc := takeid_as g l e (sByte l e).1 (midName l e).1 (endName l e).1 (sByte l e).2.1 (midName l e).2 (endName l e).2.1 (sByte l e).2.2 (endName l e).2.2 w h hf rfl h4 rfl rfl m1 m2 (by omega)
  unfold sName at hs
  simp only [Prod.mk.injEq] at hs
  obtain ⟨rfl, rfl, hv⟩ := hs
  refine hc.mono fun en w' hh => ⟨?_, hh.2⟩
  have h6 := hh.1
  dsimp only at h6
  rw [h6]
  split at hv <;> rename_i c
  · rw [if_pos c]; simp only [Prod.mk.injEq] at hv; rw [hv.1, hv.2]
  · rw [if_neg c]; simp only [Prod.mk.injEq] at hv; obtain ⟨rfl, rfl⟩ := hv; rfl

theorem ballot0 : ballotB 0 = true := by decide

set_option maxRecDepth 100000 in
set_option maxHeartbeats 400000 in
theorem takeballot_any (g : Nat) (l : List Nat) (e : Nat) (l' : List Nat) (e' v' : Nat) (w : World) (h : InAt w g l e) (hf : Fine l e) (h8 : ∀ x ∈ l, x < 256) (hl : l.length ≤ 9223372036854775807) (hs : sBallot l e = (l', e', v')) :
    Calls Tryd.prog 27 #[.pointer (some ⟨g, 0, none⟩)] w (Turns (fun en => en = .returned (.int .u32 (v' : Int))) g l' e' w) := by
  obtain ⟨l1, e1, v, hv⟩ : ∃ l1 e1 v, sShort l e 4294967295 = (l1, e1, v) := ⟨_, _, _, rfl⟩
  have hm : v ≤ 4294967295 := by have := sShort_most (l := l) (e := e) (most := 4294967295); rw [hv] at this; exact this
  have hbad : e1 ≠ 0 → l1 = [] ∧ v = 0 := by intro h0; have := sShort_bad (l := l) (e := e) (most := 4294967295) (by rw [hv]; exact h0) hf; rw [hv] at this; exact this
  have HI := hid h
  have HF := hid hf
  have H8 := hid h8
  have HV := hid hv
  have HBAD := hid hbad
  have HS := hid hs
  obtain ⟨x, hx⟩ : ∃ x, ballotB v = x := ⟨_, rfl⟩
  have HX := hid hx
  clear h hf h8 hv hs hx hbad
  go_enter Tryd.func27, Tryd.ntmps27
  go_wp2_with fail
  with_reducible refine (inshort_any g l e 4294967295 4294967295 l1 e1 v _ HI.out HF.out H8.out hl rfl HV.out).mono ?_
  rintro en w1 ⟨rfl, hi1, hg1⟩
  have HI1 := hid hi1
  have HG1 := hid hg1
  clear hi1 hg1
  cases x
  · have he1 : e1 = 0 := by
      rcases Decidable.em (e1 = 0) with h0 | h0
      · exact h0
      · have := (HBAD.out h0).2; subst this; have := HX.out; rw [ballot0] at this; cases this
    have hs2 : leftE e1 60 l1 = l' ∧ firstE e1 60 = e' ∧ v' = 0 := by
      have := HS.out
      unfold sBallot at this
      rw [HV.out] at this
      simp only [HX.out, Bool.false_eq_true, if_false, Prod.mk.injEq] at this
      exact ⟨this.1, this.2.1, this.2.2.symm⟩
    have HL := hid hs2.1
    have HE := hid hs2.2.1
    obtain rfl := hs2.2.2
    have hp : 0 < e' := by rw [← hs2.2.1]; exact firstE_pos (by decide)
    clear hs2 HBAD HS
    go_wp2_with fail
    with_reducible refine (ballotright_any v _ (by omega)).mono ?_
    rintro en w2 ⟨rfl, rfl⟩
    rw [HX.out]
    go_wp2_with fail
    with_reducible refine (fail_any g l1 e1 60 60 _ HI1.out rfl).mono ?_
    rw [HL.out, HE.out]
    rintro en w2 ⟨rfl, hi2, hg2⟩
    have HG2 := hid (HG1.out.trans hg2)
    have HI2 := hid hi2
    clear hi2 hg2
    go_wp2_with fail
    with_reducible refine (failed_yes g l' e' _ HI2.out hp).mono ?_
    rintro en w4 ⟨rfl, rfl⟩
    go_wp2
    go_ret
    exact ⟨rfl, HI2.out, HG2.out⟩
  · have hs2 : l1 = l' ∧ e1 = e' ∧ v = v' := by
      have := HS.out
      unfold sBallot at this
      rw [HV.out] at this
      simp only [HX.out, if_true, Prod.mk.injEq] at this
      exact this
    obtain ⟨rfl, rfl, rfl⟩ := hs2
    clear HS
    go_wp2_with fail
    with_reducible refine (ballotright_any v _ (by omega)).mono ?_
    rintro en w2 ⟨rfl, rfl⟩
    rw [HX.out]
    by_cases h0 : e1 = 0
    · subst h0
      go_wp2_with fail
      with_reducible refine (failed_no g l1 _ HI1.out).mono ?_
      rintro en w4 ⟨rfl, rfl⟩
      go_wp2
      go_ret
      exact ⟨rfl, HI1.out, HG1.out⟩
    · obtain rfl := (HBAD.out h0).2
      go_wp2_with fail
      with_reducible refine (failed_yes g l1 e1 _ HI1.out (by omega)).mono ?_
      rintro en w4 ⟨rfl, rfl⟩
      go_wp2
      go_ret
      exact ⟨rfl, HI1.out, HG1.out⟩

end Go.Proofs.YtapmchkikafpmaaDoor

/-
  Attributes off an In: what a taking does, number by number; package attr's Take.
-/
namespace Go.Proofs.YtapmchkikafpmaaDoor
open Go.ChangeShapes Go.WideShapes Go.ChangeAt Go.RowKit
set_option linter.unusedVariables false
set_option linter.unusedSimpArgs false

theorem only_setRow {a w : World} {g r : Nat} {cs : Array Value} (h : a.grownBy w (some g)) (hr : a.heap.size ≤ r) : a.grownBy (w.setRow r cs) (some g) :=
  ⟨h.os, h.tape, h.output, by simpa using h.size, fun i hi hne => (setRow_other w r i cs (by omega)).trans (h.block i hi hne)⟩
theorem InAt.setRow {w : World} {g r : Nat} {l : List Nat} {e : Nat} {cs : Array Value} (h : InAt w g l e) (hr : g < r) : InAt (w.setRow r cs) g l e := h.keep (below_setRow_ (Below.refl _ _) hr)
theorem InAt.setCell {w : World} {g r i : Nat} {l : List Nat} {e : Nat} {x : Value} (h : InAt w g l e) (hr : g < r) : InAt (w.setCell ⟨r, i, none⟩ x) g l e := h.keep (Below.setCell (p := ⟨r, i, none⟩) (Below.refl _ _) hr _)

/-- Behind the first number and j others: what is left, the error, the numbers. -/
def stA (l : List Nat) (e : Nat) : Nat → List Nat × Nat × (Nat → Int)
  | 0 => ((sShort l e 1073741824).1, (sShort l e 1073741824).2.1, upd (fun _ => 0) 0 ((sShort l e 1073741824).2.2 : Nat))
  | j + 1 => ((sShort (stA l e j).1 (stA l e j).2.1 1024).1, (sShort (stA l e j).1 (stA l e j).2.1 1024).2.1, upd (stA l e j).2.2 (1 + j) ((sShort (stA l e j).1 (stA l e j).2.1 1024).2.2 : Nat))
/-- What a taking does: what is left, the error, the numbers. -/
def endA (s : List Nat × Nat × (Nat → Int)) : List Nat × Nat × (Nat → Int) := (s.1, s.2.1, if s.2.1 = 0 then s.2.2 else fun _ => 0)
def sAttr (l : List Nat) (e : Nat) : List Nat × Nat × (Nat → Int) := endA (stA l e 7)
theorem sAttr_all (l : List Nat) (e : Nat) : (sAttr l e).1 = (stA l e 7).1 ∧ (sAttr l e).2.1 = (stA l e 7).2.1 ∧ (sAttr l e).2.2 = if (stA l e 7).2.1 = 0 then (stA l e 7).2.2 else fun _ => 0 := by
  unfold sAttr
  generalize stA l e 7 = s
  exact ⟨rfl, rfl, rfl⟩

theorem short_fine {l : List Nat} {e most : Nat} (hf : Fine l e) (h8 : ∀ x ∈ l, x < 256) : Fine (sShort l e most).1 (sShort l e most).2.1 ∧ (∀ x ∈ (sShort l e most).1, x < 256) ∧ (sShort l e most).1.length ≤ l.length :=
  ⟨fun h => (sShort_bad h hf).1, fun x hx => h8 x (sShort_in x hx), sShort_len⟩
theorem stA_fine {l : List Nat} {e : Nat} (hf : Fine l e) (h8 : ∀ x ∈ l, x < 256) : ∀ j, Fine (stA l e j).1 (stA l e j).2.1 ∧ (∀ x ∈ (stA l e j).1, x < 256) ∧ (stA l e j).1.length ≤ l.length
  | 0 => short_fine hf h8
  | j + 1 => by
    obtain ⟨h1, h2, h3⟩ := stA_fine hf h8 j
    obtain ⟨k1, k2, k3⟩ := short_fine (most := 1024) h1 h2
    exact ⟨k1, k2, Nat.le_trans k3 h3⟩
theorem sAttr_fine {l : List Nat} {e : Nat} (hf : Fine l e) (h8 : ∀ x ∈ l, x < 256) : Fine (sAttr l e).1 (sAttr l e).2.1 ∧ (∀ x ∈ (sAttr l e).1, x < 256) ∧ (sAttr l e).1.length ≤ l.length := by
  have h := stA_fine hf h8 7
  have h2 := sAttr_all l e
  generalize stA l e 7 = s at h h2
  rw [h2.1, h2.2.1]
  exact h

theorem first_row_a (v : Int) : (#[.int .i64 v, .int .i64 0, .int .i64 0, .int .i64 0, .int .i64 0, .int .i64 0, .int .i64 0, .int .i64 0] : Array Value) = rowA (upd (fun _ => 0) 0 v) := rfl

set_option maxRecDepth 100000 in
set_option maxHeartbeats 2000000 in
theorem attake_as (S : Nat → List Nat × Nat × (Nat → Int)) (g : Nat) (l : List Nat) (e : Nat) (l' : List Nat) (e' : Nat) (V : Nat → Int) (w : World) (h : InAt w g l e) (hf : Fine l e) (h8 : ∀ x ∈ l, x < 256) (hl : l.length ≤ 9223372036854775807)
    (hz : (S 0).1 = (sShort l e 1073741824).1 ∧ (S 0).2.1 = (sShort l e 1073741824).2.1 ∧ (S 0).2.2 = upd (fun _ => 0) 0 ((sShort l e 1073741824).2.2 : Nat))
    (hn : ∀ j, (S (j + 1)).1 = (sShort (S j).1 (S j).2.1 1024).1 ∧ (S (j + 1)).2.1 = (sShort (S j).1 (S j).2.1 1024).2.1 ∧ (S (j + 1)).2.2 = upd (S j).2.2 (1 + j) ((sShort (S j).1 (S j).2.1 1024).2.2 : Nat))
    (hfn : ∀ j, Fine (S j).1 (S j).2.1 ∧ (∀ x ∈ (S j).1, x < 256) ∧ (S j).1.length ≤ l.length) (hE : l' = (S 7).1 ∧ e' = (S 7).2.1 ∧ V = if (S 7).2.1 = 0 then (S 7).2.2 else fun _ => 0) :
    Calls Tryd.prog 33 #[.pointer (some ⟨g, 0, none⟩)] w (Turns (fun en => en = .returned (.agg (rowA V))) g l' e' w) := by
  obtain ⟨l1, e1, v1, hs1⟩ : ∃ l1 e1 v1, sShort l e 1073741824 = (l1, e1, v1) := ⟨_, _, _, rfl⟩
  have hm1 : v1 ≤ 1073741824 := by have := sShort_most (l := l) (e := e) (most := 1073741824); rw [hs1] at this; exact this
  rw [hs1] at hz
  have HS0 := hid hz
  have HNX := hid hn
  have HFN := hid hfn
  have HEN := hid hE
  have hgl := h.lt
  have HI0 := hid (h.keep ((Below.refl _ _).alloc (by omega) (.cells #[.int .i64 0, .int .i64 0, .int .i64 0, .int .i64 0, .int .i64 0, .int .i64 0, .int .i64 0, .int .i64 0] 33)))
  have HF := hid hf
  have H8 := hid h8
  have HS1 := hid hs1
  obtain ⟨k, hk⟩ : ∃ k, w.heap.size = k := ⟨_, rfl⟩
  have HK := hid hk
  have hgk : g < k := by omega
  clear h hf h8 hs1 hgl hz hn hfn hE
  go_enter Tryd.func33, Tryd.ntmps33
  go_wp2_with fail
  with_reducible refine (inshort_any g l e 1073741824 1073741824 l1 e1 v1 _ HI0.out HF.out H8.out hl rfl HS1.out).mono ?_
  rintro en w1 ⟨rfl, hi1, hg1⟩
  have HG1 := hid ((only_of_below ((Below.refl w.heap.size w).alloc (Nat.le_refl _) (.cells #[.int .i64 0, .int .i64 0, .int .i64 0, .int .i64 0, .int .i64 0, .int .i64 0, .int .i64 0, .int .i64 0] 33)) (some g)).trans hg1)
  have K1 := (Blk.new w 33 #[.int .i64 0, .int .i64 0, .int .i64 0, .int .i64 0, .int .i64 0, .int .i64 0, .int .i64 0, .int .i64 0]).grown hg1 (by simp; omega)
  rw [zeros_row] at K1
  rw [hk] at K1
  have K1 := hid K1
  have HI1 := hid hi1
  clear hi1 hg1 HI0 hk
  go_upto_region 2 with fail
  obtain ⟨W2, hW2⟩ : ∃ W2, w1.alloc (.cells #[.int .i64 (v1 : Int), .int .i64 0, .int .i64 0, .int .i64 0, .int .i64 0, .int .i64 0, .int .i64 0, .int .i64 0] 33) = W2 := ⟨_, rfl⟩
  rw [hW2]
  obtain ⟨M2, hb2⟩ := one_new hW2
  have hkm : k < w1.heap.size := K1.out.lt
  have K2 := hid (K1.out.below hb2.out K1.out.lt)
  have HI2 := hid (HI1.out.keep (hb2.out.mono HI1.out.lt))
  have HG2 := hid (only_below HG1.out hb2.out)
  obtain ⟨m, hm⟩ : ∃ m, w1.heap.size = m := ⟨_, rfl⟩
  rw [hm] at M2 hkm ⊢
  rw [first_row_a] at M2
  clear hW2 hb2 hm K1 HI1 HG1
  go_wp2_with fail
  go_loopw [9] (fun iv wr => ∃ j : Nat, j ≤ 7 ∧ iv = .int .i64 j ∧ Hid (Blk wr k 33 (rowA fun _ => 0)) ∧ Hid (Blk wr m 33 (rowA (S j).2.2)) ∧ Hid (InAt wr g (S j).1 (S j).2.1) ∧ Hid (w.grownBy wr (some g))) (fun iv _ => 7 - (intOf iv).toNat)
  case atStart => exact ⟨0, by omega, rfl, K2, hid (by rw [HS0.out.2.2]; exact M2.out), hid (by rw [HS0.out.1, HS0.out.2.1]; exact HI2.out), HG2⟩
  case round =>
    obtain ⟨j, hj, rfl, K, M, I, G⟩ := hrel
    have hfn := HFN.out j
    by_cases hlt : j < 7
    · have HR := hid (HNX.out j)
      obtain ⟨lj, hlj⟩ : ∃ x, (S j).1 = x := ⟨_, rfl⟩
      obtain ⟨ej, hej⟩ : ∃ x, (S j).2.1 = x := ⟨_, rfl⟩
      obtain ⟨F, hF⟩ : ∃ x, (S j).2.2 = x := ⟨_, rfl⟩
      rw [hlj, hej] at I hfn
      rw [hF] at M
      rw [hlj, hej, hF] at HR
      obtain ⟨l2, e2, v2, hs2⟩ : ∃ l2 e2 v2, sShort lj ej 1024 = (l2, e2, v2) := ⟨_, _, _, rfl⟩
      have hm2 : v2 ≤ 1024 := by have := sShort_most (l := lj) (e := ej) (most := 1024); rw [hs2] at this; exact this
      rw [hs2] at HR
      have HS := hid hs2
      have F1 := hid hfn.1
      have F2 := hid hfn.2.1
      have hl2 : lj.length ≤ 9223372036854775807 := Nat.le_trans hfn.2.2 hl
      clear hlj hej hF hs2 hfn
      go_wp2_with fail
      with_reducible refine (inshort_any g lj ej 1024 1024 l2 e2 v2 _ I.out F1.out F2.out hl2 rfl HS.out).mono ?_
      rintro en w3 ⟨rfl, hi, hg⟩
      have N0 := hid (K.out.grown hg (by simp; omega))
      have N1 := hid (M.out.grown hg (by simp; omega))
      have N2 := hid hi
      have N3 := hid (G.out.trans hg)
      clear hi hg
      have q0 := N1.out.att (i := 1 + j) (by omega)
      have q1 := N1.out.frozen (1 + j)
      have L0 := hid (N0.out.far (p := ⟨m, 1 + j, none⟩) (by simp <;> omega) (.int .i64 (v2 : Int)))
      have L1 := hid (N1.out.attSet (1 + j) (v2 : Int))
      have L2 := hid (N2.out.setCell (r := m) (i := 1 + j) (x := .int .i64 (v2 : Int)) (by omega))
      have L3 := hid (only_setCell (p := ⟨m, 1 + j, none⟩) N3.out (.inr (show w.heap.size ≤ m by have := HK.out; omega)) (.int .i64 (v2 : Int)))
      go_wp2
      go_roundw
      case rel => exact ⟨j + 1, by omega, by go_num, L0, hid (by rw [HR.out.2.2]; exact L1.out), hid (by rw [HR.out.1, HR.out.2.1]; exact L2.out), L3⟩
      case measure => simp only [intOf]; omega
    · have hj7 : j = 7 := by omega
      subst hj7
      have HR := HEN
      obtain ⟨lj, hlj⟩ : ∃ x, (S 7).1 = x := ⟨_, rfl⟩
      obtain ⟨ej, hej⟩ : ∃ x, (S 7).2.1 = x := ⟨_, rfl⟩
      obtain ⟨F, hF⟩ : ∃ x, (S 7).2.2 = x := ⟨_, rfl⟩
      rw [hlj, hej] at I
      rw [hF] at M
      rw [hlj, hej, hF] at HR
      clear hlj hej hF hfn
      by_cases h0 : ej = 0
      · subst h0
        have HV : Hid (V = F) := hid (by rw [HR.out.2.2]; simp)
        have Z1 := hid (len_attr F)
        have Z2 := hid (size_zero F)
        have Z3 := hid (rowA_one F)
        go_wp2_with fail
        with_reducible refine (failed_no g lj _ I.out).mono ?_
        rintro en w4 ⟨rfl, rfl⟩
        go_wp2_with (first
          | (with_reducible refine wpList_load_row (o := ⟨some 22, _, _, _, _, _⟩) rfl 33 (.tmp 3) rfl m rfl 33 (rowA F) (0, 0) _ M.out.heap Tryd.underlying33 rfl Z1.out ?_)
          | (with_reducible refine wpList_store_row (o := ⟨none, _, _, _, _, _⟩) rfl 33 (.tmp 2) (.tmp 22) rfl k (rowA F) rfl rfl 33 _ K.out.heap Z1.out Z2.out Z3.out ?_))
        exact bodyPost_ret (v := .agg (rowA F)) (results_cell_row (p := 2) (ty := 33) (by kernel_rfl) _ _ k 33 (rowA F) (0, 0) _ rfl (setRow_heap wr k _ (rowA F) _ _ K.out.heap) Tryd.underlying33 rfl Z1.out) rfl ⟨by rw [HV.out], by rw [HR.out.1, HR.out.2.1]; exact I.out.setRow hgk, only_setRow G.out (by have := HK.out; omega)⟩
      · have HV : Hid (V = fun _ => 0) := hid (by rw [HR.out.2.2]; simp [h0])
        have Z1 : Hid ((Tryd.prog.info? 33).map (·.size) = some (#[.int .i64 0, .int .i64 0, .int .i64 0, .int .i64 0, .int .i64 0, .int .i64 0, .int .i64 0, .int .i64 0] : Array Value).size) := hid info_attr
        have Z3 : Hid ((#[.int .i64 0, .int .i64 0, .int .i64 0, .int .i64 0, .int .i64 0, .int .i64 0, .int .i64 0, .int .i64 0] : Array Value).all (·.oneCell') = true) := hid (rowA_one fun _ => 0)
        go_wp2_with fail
        with_reducible refine (failed_yes g lj ej _ I.out (by omega)).mono ?_
        rintro en w4 ⟨rfl, rfl⟩
        clear h0
        go_wp2_with (first
          | (with_reducible refine wpList_store_row (o := ⟨none, _, _, _, _, _⟩) rfl 33 (.tmp 2) (.tmp 21) rfl k #[.int .i64 0, .int .i64 0, .int .i64 0, .int .i64 0, .int .i64 0, .int .i64 0, .int .i64 0, .int .i64 0] rfl rfl 33 _ K.out.heap Z1.out rfl Z3.out ?_))
        exact bodyPost_ret (v := .agg #[.int .i64 0, .int .i64 0, .int .i64 0, .int .i64 0, .int .i64 0, .int .i64 0, .int .i64 0, .int .i64 0]) (results_cell_row (p := 2) (ty := 33) (by kernel_rfl) _ _ k 33 #[.int .i64 0, .int .i64 0, .int .i64 0, .int .i64 0, .int .i64 0, .int .i64 0, .int .i64 0, .int .i64 0] (0, 0) _ rfl (setRow_heap wr k _ #[.int .i64 0, .int .i64 0, .int .i64 0, .int .i64 0, .int .i64 0, .int .i64 0, .int .i64 0, .int .i64 0] _ _ K.out.heap) Tryd.underlying33 rfl Z1.out) rfl ⟨by rw [HV.out]; rfl, by rw [HR.out.1, HR.out.2.1]; exact I.out.setRow hgk, only_setRow G.out (by have := HK.out; omega)⟩

theorem attake_any (g : Nat) (l : List Nat) (e : Nat) (l' : List Nat) (e' : Nat) (V : Nat → Int) (w : World) (h : InAt w g l e) (hf : Fine l e) (h8 : ∀ x ∈ l, x < 256) (hl : l.length ≤ 9223372036854775807) (hs : sAttr l e = (l', e', V)) :
    Calls Tryd.prog 33 #[.pointer (some ⟨g, 0, none⟩)] w (Turns (fun en => en = .returned (.agg (rowA V))) g l' e' w) := by
  obtain ⟨h1, h2, h3⟩ := sAttr_all l e
  rw [hs] at h1 h2 h3
  exact attake_as (stA l e) g l e l' e' V w h hf h8 hl ⟨rfl, rfl, rfl⟩ (fun j => ⟨rfl, rfl, rfl⟩) (stA_fine hf h8) ⟨h1, h2, h3⟩

end Go.Proofs.YtapmchkikafpmaaDoor

/-
  Attributes into an Out (package attr's Put).
-/
namespace Go.Proofs.YtapmchkikafpmaaDoor
open Go.ChangeShapes Go.WideShapes Go.ChangeAt Go.RowKit
set_option linter.unusedVariables false
set_option linter.unusedSimpArgs false

/-- The first number's bytes and j others'. -/
def putTo (F : Nat → Nat) : Nat → List Nat
  | 0 => shortN (F 0)
  | j + 1 => putTo F j ++ shortN (F (1 + j))
/-- What is written: right ones, or noughts. -/
def putF (f : Nat → Int) : Nat → Int := if okB f then f else fun _ => 0
def natA (f : Nat → Int) : Nat → Nat := fun i => (f i).toNat
theorem okB_zero : okB (fun _ => 0) = true := by decide
theorem putF_ok (f : Nat → Int) : okB (putF f) = true := by
  unfold putF
  by_cases h : okB f = true
  · rw [if_pos h]; exact h
  · rw [if_neg h]; exact okB_zero
theorem ok_nat {f : Nat → Int} (h : okB f = true) : (∀ i, i < 8 → f i = (natA f i : Int)) ∧ natA f 0 ≤ 1073741824 ∧ ∀ j, j < 7 → natA f (1 + j) ≤ 1024 := by
  obtain ⟨h0, h1⟩ := okB_iff.1 h
  refine ⟨fun i hi => ?_, by unfold natA; omega, fun j hj => by have := h1 j hj; unfold natA; rw [Nat.add_comm]; omega⟩
  unfold natA
  cases i with
  | zero => omega
  | succ i => have := h1 i (by omega); omega
theorem putTo_len {F : Nat → Nat} (h0 : F 0 ≤ 1073741824) (h : ∀ j, j < 7 → F (1 + j) ≤ 1024) : ∀ j, j ≤ 7 → (putTo F j).length ≤ 10 * (j + 1)
  | 0, _ => by unfold putTo; have := shortN_len10 (v := F 0) (by omega); omega
  | j + 1, hj => by
    have h1 := putTo_len h0 h j (by omega)
    have h2 := h j (by omega)
    have h3 := shortN_len10 (v := F (1 + j)) (by omega)
    unfold putTo
    rw [List.length_append]
    omega

def PutsA (base g : Nat) (l : List Nat) (w : World) (en : Ending) (w' : World) : Prop := en = .returned (.tuple #[]) ∧ OutAt w' base g l ∧ Below base w w' ∧ Stays g w w'
theorem OutAt.drew_ {w : World} {base g : Nat} {l : List Nat} (h : OutAt w base g l) : OutAt w.drew base g l := h.later (below_drew (Below.refl _ _))
theorem OutAt.glt {w : World} {base g : Nat} {l : List Nat} (h : OutAt w base g l) : g < w.heap.size := by
  obtain ⟨_, v, h1, _⟩ := h
  exact h1.lt

set_option maxRecDepth 100000 in
set_option maxHeartbeats 2000000 in
theorem attput_any (base g : Nat) (l : List Nat) (f : Nat → Int) (w : World) (h : OutAt w base g l) (hlen : l.length + 80 ≤ 140737488355328) :
    Calls Tryd.prog 46 #[.agg #[.int .i64 (f 0), .int .i64 (f 1), .int .i64 (f 2), .int .i64 (f 3), .int .i64 (f 4), .int .i64 (f 5), .int .i64 (f 6), .int .i64 (f 7)], .pointer (some ⟨g, 0, none⟩)] w (PutsA base g (l ++ putTo (natA (putF f)) 7) w) := by
  obtain ⟨o, ho⟩ : ∃ o, okB f = o := ⟨_, rfl⟩
  have HO := hid ho
  have HP : Hid (putF f = if o = true then f else fun _ => 0) := hid (by unfold putF; rw [ho])
  have HQ := hid (putF_ok f)
  obtain ⟨U, hU⟩ : ∃ U, putF f = U := ⟨_, rfl⟩
  rw [hU] at HP HQ
  rw [hU]
  clear ho hU
  have hB := h.base_le
  have hgl := h.glt
  have HI := hid h
  clear h
  go_enter Tryd.func46, Tryd.ntmps46
  go_upto_region 1 with fail
  obtain ⟨W, hW⟩ : ∃ W, w.alloc (.cells #[.int .i64 (f 0), .int .i64 (f 1), .int .i64 (f 2), .int .i64 (f 3), .int .i64 (f 4), .int .i64 (f 5), .int .i64 (f 6), .int .i64 (f 7)] 33) = W := ⟨_, rfl⟩
  rw [hW]
  obtain ⟨K0, KB⟩ := one_new hW
  rw [show #[.int .i64 (f 0), .int .i64 (f 1), .int .i64 (f 2), .int .i64 (f 3), .int .i64 (f 4), .int .i64 (f 5), .int .i64 (f 6), .int .i64 (f 7)] = rowA f from rfl] at K0
  obtain ⟨k, hk⟩ : ∃ k, w.heap.size = k := ⟨_, rfl⟩
  have HF : Hid (∀ W, Below k w W → OutAt W base g l ∧ Below base w W ∧ Stays g w W) := hid (fun W h => by
    rw [← hk] at h
    exact ⟨HI.out.later h, h.mono hB, Stays.of_below h⟩)
  rw [hk] at K0 KB hB hgl
  rw [hk]
  clear hW hk HI
  obtain ⟨c0, c1, c2, c3, c4, c5, c6, c7⟩ := K0.out.eight
  go_wp2_with fail
  clear c0 c1 c2 c3 c4 c5 c6 c7
  with_reducible refine (aright8 f _).mono ?_
  rw [HO.out]
  rintro e w1 ⟨rfl, hb1⟩
  have K1 := hid (K0.out.below hb1 K0.out.lt)
  have B1 := hid (KB.out.trans (hb1.mono (by have := K0.out.lt; omega)))
  clear hb1 K0 KB
  cases o
  case' false =>
    have Z1 : Hid ((Tryd.prog.info? 33).map (·.size) = some (#[.int .i64 0, .int .i64 0, .int .i64 0, .int .i64 0, .int .i64 0, .int .i64 0, .int .i64 0, .int .i64 0] : Array Value).size) := hid info_attr
    have Z2 : Hid ((rowA f).size = (#[.int .i64 0, .int .i64 0, .int .i64 0, .int .i64 0, .int .i64 0, .int .i64 0, .int .i64 0, .int .i64 0] : Array Value).size) := hid (rowA_size f)
    have Z3 : Hid ((#[.int .i64 0, .int .i64 0, .int .i64 0, .int .i64 0, .int .i64 0, .int .i64 0, .int .i64 0, .int .i64 0] : Array Value).all (·.oneCell') = true) := hid (rowA_one fun _ => 0)
    go_upto_region 3 with (with_reducible refine wpList_store_row (o := ⟨none, _, _, _, _, _⟩) rfl 33 (.tmp 2) (.tmp 9) rfl k #[.int .i64 0, .int .i64 0, .int .i64 0, .int .i64 0, .int .i64 0, .int .i64 0, .int .i64 0, .int .i64 0] rfl rfl 33 _ K1.out.heap Z1.out Z2.out Z3.out ?_)
    have HU : Hid ((fun _ => 0) = U) := hid (by rw [HP.out]; simp)
    obtain ⟨W2, hW2⟩ : ∃ W2, w1.setRow k #[.int .i64 0, .int .i64 0, .int .i64 0, .int .i64 0, .int .i64 0, .int .i64 0, .int .i64 0, .int .i64 0] = W2 := ⟨_, rfl⟩
    rw [hW2]
    have K2 : Hid (Blk W2 k 33 (rowA U)) := hid (by rw [← hW2, ← HU.out]; exact setRow_heap w1 k _ _ _ _ K1.out.heap)
    have B2 : Hid (Below k w W2) := hid (by rw [← hW2]; exact below_setRow_ B1.out (Nat.le_refl _))
    clear hW2 K1 B1 HU Z1 Z2 Z3
  case' true =>
    have HU : f = U := by rw [HP.out]; simp
    rw [HU] at K1
    go_upto_region 3 with fail
    clear HU
    obtain ⟨W2, hW2⟩ : ∃ W2, w1 = W2 := ⟨_, rfl⟩
    rw [hW2] at K1 B1 ⊢
    have K2 := K1
    have B2 := B1
    clear hW2 K1 B1
  all_goals
    obtain ⟨hn, hn0, hn1⟩ := ok_nat HQ.out
    have HNL := hid (putTo_len hn0 hn1)
    have HN := hid hn
    have HN1 := hid hn1
    obtain ⟨x, hx⟩ : ∃ x, natA U 0 = x := ⟨_, rfl⟩
    have HX : Hid (putTo (natA U) 0 = shortN x) := hid (by unfold putTo; rw [hx])
    have c0 := K2.out.att (i := 0) (by decide)
    rw [hn 0 (by decide), hx] at c0
    rw [hx] at hn0
    clear hn hn1 hx
    have HC : Hid (IntKind.u64.wrap (x : Int) = (x : Int)) := hid (by rw [IntKind.wrap_u64]; omega)
    have H2 := HF.out _ B2.out
    have O2 := hid H2.1
    have T2 := hid H2.2.1
    have S2 := hid H2.2.2
    clear H2
    go_wp2_with fail
    with_reducible refine (outshortk_any base g l x _ _ O2.out (by first | rfl | exact HC.out) (by omega) (by omega)).mono ?_
    rintro en w3 ⟨⟨rfl, ho, hb⟩, hs⟩
    have K3 := hid (hs.2 k _ _ (by omega) (by decide) K2.out)
    have O3 := hid ho
    have T3 := hid (T2.out.trans hb)
    have S3 := hid (S2.out.trans hs)
    clear ho hb hs K2 B2 O2 T2 S2 c0
    have MR := hid K3.out.range
    have H7 := hid (len_seven U)
    go_wp2_with (with_reducible refine wpList_load_mid (op := ⟨some 16, _, _, _, _, _⟩) rfl 31 (.tmp 15) rfl k 1 rfl (lsD U) _ MR.out Tryd.underlying31 rfl H7.out ?_)
    have HI : Hid (∀ j : Nat, j < 7 → (lsD U)[j]? = some (.int .i64 (natA U (1 + j) : Int))) := hid (fun j hj => by rw [lsD_get U hj, HN.out (j + 1) (by omega), Nat.add_comm])
    obtain ⟨ds, hds⟩ : ∃ ds, lsD U = ds := ⟨_, rfl⟩
    rw [hds] at HI
    rw [hds]
    clear hds MR H7 K3
    go_loopw [17] (fun iv wr => ∃ j : Nat, j ≤ 7 ∧ iv = .int .i64 j ∧ Hid (OutAt wr base g (l ++ putTo (natA U) j)) ∧ Hid (Below base w wr) ∧ Hid (Stays g w wr)) (fun iv _ => 7 - (intOf iv).toNat)
    case atStart => exact ⟨0, by omega, rfl, hid (by rw [HX.out]; exact O3.out), T3, S3⟩
    case round =>
      obtain ⟨j, hj, rfl, O, T, S⟩ := hrel
      by_cases hlt : j < 7
      · have hx := run_index_seven ds.toArray j _ hlt ((List.getElem?_toArray ..).trans (HI.out j hlt))
        have hy := HN1.out j hlt
        have hll := HNL.out j (by omega)
        have HR : Hid (putTo (natA U) (j + 1) = putTo (natA U) j ++ shortN (natA U (1 + j))) := hid rfl
        obtain ⟨y, hyy⟩ : ∃ y, natA U (1 + j) = y := ⟨_, rfl⟩
        obtain ⟨P, hP⟩ : ∃ P, putTo (natA U) j = P := ⟨_, rfl⟩
        rw [hyy] at hx hy HR
        rw [hP] at hll HR O
        have HL : Hid ((l ++ P).length + 10 ≤ 140737488355328) := hid (by rw [List.length_append]; omega)
        have HC : Hid (IntKind.u64.wrap (y : Int) = (y : Int)) := hid (by rw [IntKind.wrap_u64]; omega)
        clear hyy hP hll
        go_wp2_with fail
        with_reducible refine (outshortk_any base g (l ++ P) y _ _ O.out (by first | rfl | exact HC.out) (by omega) HL.out).mono ?_
        rintro en w4 ⟨⟨rfl, ho, hb⟩, hs⟩
        have O4 := hid ho
        have T4 := hid (T.out.trans hb)
        have S4 := hid (S.out.trans hs)
        clear ho hb hs
        go_wp2
        go_roundw
        case rel => exact ⟨j + 1, by omega, by go_num, hid (by rw [HR.out, ← List.append_assoc]; exact O4.out), T4, S4⟩
        case measure => simp only [intOf]; omega
      · have hj7 : j = 7 := by omega
        subst hj7
        obtain ⟨P, hP⟩ : ∃ P, putTo (natA U) 7 = P := ⟨_, rfl⟩
        rw [hP] at O ⊢
        have HPP := hid hP
        clear hP
        go_wp2
        go_end0
        exact ⟨rfl, O.out, T.out, S.out⟩

end Go.Proofs.YtapmchkikafpmaaDoor

/-
  What a taking of a state does to any bytes: what is left, the error, the state; that what is read is written as it was, and what is written is read. No program but a string's bytes.
-/
namespace Go.Proofs.YtapmchkikafpmaaDoor
open Go.Lib
set_option linter.unusedVariables false
set_option linter.unusedSimpArgs false

/-! Names, ballots, attributes. -/
theorem sName_sound {l : List Nat} {e : Nat} {l' : List Nat} {e' r s : Nat} (h : Sound l e) (hs : sName l e = (l', e', r, s)) : Sound l' e' ∧ (e' = 0 → e = 0 ∧ l = ([r] ++ shortN s) ++ l') := by
  obtain ⟨l1, e1, b, h1⟩ : ∃ x y z, sByte l e = (x, y, z) := ⟨_, _, _, rfl⟩
  obtain ⟨s1, b1⟩ := sByte_sound h h1
  obtain ⟨l2, e2, h2⟩ : ∃ x y, midName l e = (x, y) := ⟨_, _, rfl⟩
  obtain ⟨l3, e3, v, h3⟩ : ∃ x y z, sShort l2 e2 1023 = (x, y, z) := ⟨_, _, _, rfl⟩
  have hm : (if 6 < b then (leftE e1 12 l1, firstE e1 12) else (l1, e1)) = (l2, e2) := by rw [← h2]; unfold midName; rw [h1]
  have he : endName l e = (l3, e3, v) := by unfold endName; rw [h2]; exact h3
  have s2 : Sound l2 e2 ∧ (6 < b → e2 ≠ 0) ∧ (¬ 6 < b → l1 = l2 ∧ e1 = e2) := by
    split at hm
    · rename_i hb
      simp only [Prod.mk.injEq] at hm
      obtain ⟨rfl, rfl⟩ := hm
      exact ⟨sound_fail (by omega) s1, fun _ => firstE_zero_in (by omega), fun hn => absurd hb hn⟩
    · rename_i hn
      simp only [Prod.mk.injEq] at hm
      obtain ⟨rfl, rfl⟩ := hm
      exact ⟨s1, fun h => absurd h hn, fun _ => ⟨rfl, rfl⟩⟩
  obtain ⟨s3, b3⟩ := sShort_sound s2.1 h3
  unfold sName at hs
  rw [he, h1] at hs
  simp only [Prod.mk.injEq] at hs
  obtain ⟨rfl, rfl, hv⟩ := hs
  refine ⟨s3, fun h0 => ?_⟩
  subst h0
  rw [if_pos rfl] at hv
  simp only [Prod.mk.injEq] at hv
  obtain ⟨rfl, rfl⟩ := hv
  obtain ⟨z2, j2, _⟩ := sShort_inv s2.1 h3
  have hb : ¬ 6 < b := fun hb => s2.2.1 hb z2
  obtain ⟨rfl, rfl⟩ := s2.2.2 hb
  subst z2
  obtain ⟨z, j⟩ := sByte_inv h h1
  exact ⟨z, by rw [j, j2, List.append_assoc]⟩
theorem sName_put (a b : Nat) (r : List Nat) (ha : a < 7) (hb : b < 1024) : sName (([a] ++ shortN b) ++ r) 0 = (r, 0, a, b) := by
  have h1 : sByte (([a] ++ shortN b) ++ r) 0 = (shortN b ++ r, 0, a) := rfl
  have h2 : midName (([a] ++ shortN b) ++ r) 0 = (shortN b ++ r, 0) := by unfold midName; rw [h1, if_neg (by show ¬ 6 < a; omega)]
  have h3 : endName (([a] ++ shortN b) ++ r) 0 = (r, 0, b) := by unfold endName; rw [h2]; exact sShort_put b 1023 r (by omega) (by omega)
  unfold sName
  rw [h3, h1]
  rfl
theorem sBallot_sound {l : List Nat} {e : Nat} {l' : List Nat} {e' v : Nat} (h : Sound l e) (hs : sBallot l e = (l', e', v)) : Sound l' e' ∧ v < 4294967296 ∧ (e' = 0 → e = 0 ∧ l = shortN v ++ l') := by
  obtain ⟨l1, e1, b, h1⟩ : ∃ x y z, sShort l e 4294967295 = (x, y, z) := ⟨_, _, _, rfl⟩
  obtain ⟨s1, b1⟩ := sShort_sound h h1
  unfold sBallot at hs
  rw [h1] at hs
  simp only at hs
  split at hs
  · simp only [Prod.mk.injEq] at hs
    obtain ⟨rfl, rfl, rfl⟩ := hs
    refine ⟨s1, by omega, fun h0 => ?_⟩
    subst h0
    obtain ⟨z, j, _⟩ := sShort_inv h h1
    exact ⟨z, j⟩
  · simp only [Prod.mk.injEq] at hs
    obtain ⟨rfl, rfl, rfl⟩ := hs
    exact ⟨sound_fail (by omega) s1, by omega, fun h0 => absurd h0 (firstE_zero_in (by omega))⟩
theorem sBallot_put (v : Nat) (r : List Nat) (hv : v < 4294967296) (hb : ballotB v = true) : sBallot (shortN v ++ r) 0 = (r, 0, v) := by
  have h := sShort_put v 4294967295 r (by omega) (by omega)
  unfold sBallot
  rw [h, if_pos hb]
theorem sTruth_put (t : Bool) (r : List Nat) : sTruth ([truthN t] ++ r) 0 = (r, 0, t) := by cases t <;> rfl
theorem stA_put {F : Nat → Nat} (h0 : F 0 ≤ 1073741824) (h : ∀ j, j < 7 → F (1 + j) ≤ 1024) : ∀ (j : Nat) (r : List Nat), j ≤ 7 → ∃ V, stA (putTo F j ++ r) 0 j = (r, 0, V) ∧ ∀ i, i ≤ j → V i = (F i : Nat)
  | 0, r, _ => by
    refine ⟨upd (fun _ => 0) 0 (F 0 : Nat), ?_, fun i hi => ?_⟩
    · unfold stA putTo
      rw [sShort_put (F 0) 1073741824 r (by omega) h0]
    · obtain rfl : i = 0 := by omega
      simp [upd]
  | j + 1, r, hj => by
    obtain ⟨V, ih, hV⟩ := stA_put h0 h j (shortN (F (1 + j)) ++ r) (by omega)
    have h1 := h j (by omega)
    refine ⟨upd V (1 + j) (F (1 + j) : Nat), ?_, fun i hi => ?_⟩
    · unfold stA putTo
      rw [List.append_assoc, ih]
      simp only
      rw [sShort_put (F (1 + j)) 1024 r (by omega) h1]
    · unfold upd
      by_cases h : i = 1 + j
      · rw [if_pos h, h]
      · rw [if_neg h]; exact hV i (by omega)
theorem sAttr_put (f : Nat → Int) (r : List Nat) (h : okB f = true) : ∃ V, sAttr (putTo (natA f) 7 ++ r) 0 = (r, 0, V) ∧ eqA V f = true := by
  obtain ⟨hn, h0, h1⟩ := ok_nat h
  obtain ⟨V, hs, hV⟩ := stA_put h0 h1 7 r (Nat.le_refl _)
  refine ⟨V, ?_, eqA_iff.2 fun i hi => ?_⟩
  · unfold sAttr
    rw [hs]
    rfl
  · rw [hV i (by omega), ← hn i hi]
theorem putTo_congr {F G : Nat → Nat} : ∀ j, (∀ i, i ≤ j → F i = G i) → putTo F j = putTo G j
  | 0, h => by unfold putTo; rw [h 0 (Nat.le_refl _)]
  | j + 1, h => by unfold putTo; rw [putTo_congr j (fun i hi => h i (by omega)), h (1 + j) (by omega)]
theorem stA_sound {l : List Nat} {e : Nat} (h : Sound l e) (j : Nat) : Sound (stA l e j).1 (stA l e j).2.1 := by
  obtain ⟨a, b, c⟩ := stA_fine h.fine h.bytes j
  exact ⟨a, b, Nat.le_trans c h.len⟩
theorem stA_inv {l : List Nat} {e : Nat} (h : Sound l e) : ∀ j, (stA l e j).2.1 = 0 → e = 0 ∧ l = putTo (natA (stA l e j).2.2) j ++ (stA l e j).1
  | 0, h0 => by
    obtain ⟨l1, e1, v, h1⟩ : ∃ x y z, sShort l e 1073741824 = (x, y, z) := ⟨_, _, _, rfl⟩
    unfold stA at h0 ⊢
    rw [h1] at h0 ⊢
    simp only at h0 ⊢
    subst h0
    obtain ⟨z, j, _⟩ := sShort_inv h h1
    refine ⟨z, ?_⟩
    rw [j]
    unfold putTo natA upd
    simp
  | j + 1, h0 => by
    have hS := stA_sound h j
    have ih := stA_inv h j
    obtain ⟨l0, e0, V, hj⟩ : ∃ x y z, stA l e j = (x, y, z) := ⟨_, _, _, rfl⟩
    rw [hj] at hS ih
    simp only at hS ih
    obtain ⟨l1, e1, v, h1⟩ : ∃ x y z, sShort l0 e0 1024 = (x, y, z) := ⟨_, _, _, rfl⟩
    unfold stA at h0 ⊢
    rw [hj] at h0 ⊢
    simp only at h0 ⊢
    rw [h1] at h0 ⊢
    simp only at h0 ⊢
    subst h0
    obtain ⟨z, k, _⟩ := sShort_inv hS h1
    obtain ⟨z2, k2⟩ := ih z
    refine ⟨z2, ?_⟩
    have hc : putTo (natA (upd V (1 + j) (v : Nat))) j = putTo (natA V) j := putTo_congr j fun i hi => by
      unfold natA upd
      rw [if_neg (by omega)]
    unfold putTo
    rw [hc, k2, k, List.append_assoc]
    unfold natA upd
    simp
theorem sAttr_sound {l : List Nat} {e : Nat} {l' : List Nat} {e' : Nat} {V : Nat → Int} (h : Sound l e) (hs : sAttr l e = (l', e', V)) : Sound l' e' ∧ (e' = 0 → e = 0 ∧ l = putTo (natA V) 7 ++ l') := by
  have h1 := stA_sound h 7
  have h2 := stA_inv h 7
  obtain ⟨k1, k2, k3⟩ := sAttr_all l e
  rw [hs] at k1 k2 k3
  simp only at k1 k2 k3
  generalize stA l e 7 = st at h1 h2 k1 k2 k3
  obtain ⟨a, b, c⟩ := st
  simp only at h1 h2 k1 k2 k3
  subst k1 k2
  refine ⟨h1, fun h0 => ?_⟩
  rw [if_pos h0] at k3
  subst k3
  exact h2 h0

/-- A state's bytes. -/
def encJ (x : J) : List Nat := ((([x.r.toNat] ++ shortN x.s.toNat) ++ shortN x.bal.toNat) ++ [x.st.toNat]) ++ (if x.st = 0 then [] else ((shortN x.vote.toNat ++ [truthN x.same]) ++ enc x.c) ++ putTo (natA x.f) 7)

/-- What a taking does: the head; the value, or none; the end. -/
def valE (b : Nat) (l : List Nat) (e : Nat) : List Nat × Nat × Nat × Bool × K × (Nat → Int) :=
  if b = 0 then (l, e, 0, false, zeroK, fun _ => 0) else
    match sBallot l e with
    | (l5, e5, vt) => match sTruth l5 e5 with
      | (l6, e6, sm) => match sCmd l6 e6 with
        | (l7, e7, c) => match sAttr l7 e7 with
          | (l8, e8, V) => (l8, e8, vt, sm, c, V)
def statE (b : Nat) (l : List Nat) (e : Nat) : List Nat × Nat := if 3 < b then (leftE e 22 l, firstE e 22) else (l, e)
def lastJ (s : List Nat × Nat × J) : List Nat × Nat × J :=
  if rightJ s.2.2 then (s.1, s.2.1, if s.2.1 = 0 then s.2.2 else zeroJ) else (leftE s.2.1 10 s.1, firstE s.2.1 10, zeroJ)
def sInst (l : List Nat) (e : Nat) : List Nat × Nat × J :=
  match sName l e with
  | (l1, e1, r, s) => match sBallot l1 e1 with
    | (l2, e2, v) => match sByte l2 e2 with
      | (l3, e3, b) => match statE b l3 e3 with
        | (l4, e4) => match valE b l4 e4 with
          | (l8, e8, vt, sm, c, V) => lastJ (l8, e8, ⟨r, s, b, v, vt, sm, c, V⟩)
theorem sInst_eq {l l1 l2 l3 l4 l8 : List Nat} {e e1 e2 e3 e4 e8 r s v b vt : Nat} {sm : Bool} {c : K} {V : Nat → Int} (h1 : sName l e = (l1, e1, r, s)) (h2 : sBallot l1 e1 = (l2, e2, v)) (h3 : sByte l2 e2 = (l3, e3, b)) (h4 : statE b l3 e3 = (l4, e4)) (h5 : valE b l4 e4 = (l8, e8, vt, sm, c, V)) :
    sInst l e = lastJ (l8, e8, ⟨((r : Nat) : Int), ((s : Nat) : Int), ((b : Nat) : Int), ((v : Nat) : Int), ((vt : Nat) : Int), sm, c, V⟩) := by
  unfold sInst
  simp only [h1, h2, h3, h4, h5]
theorem statE_sound {b : Nat} {l : List Nat} {e : Nat} {l' : List Nat} {e' : Nat} (h : Sound l e) (hs : statE b l e = (l', e')) : Sound l' e' ∧ (e' = 0 → e = 0 ∧ l = l' ∧ b ≤ 3) := by
  unfold statE at hs
  split at hs
  · simp only [Prod.mk.injEq] at hs
    obtain ⟨rfl, rfl⟩ := hs
    exact ⟨sound_fail (by omega) h, fun h0 => absurd h0 (firstE_zero_in (by omega))⟩
  · rename_i hn
    simp only [Prod.mk.injEq] at hs
    obtain ⟨rfl, rfl⟩ := hs
    exact ⟨h, fun h0 => ⟨h0, rfl, by omega⟩⟩
theorem zeroK_ok : okK zeroK := ⟨by simp, by simp, by simp, by simp, by simp, by simp⟩
theorem valE_some {b : Nat} {l : List Nat} {e : Nat} {l' : List Nat} {e' vt : Nat} {sm : Bool} {c : K} {V : Nat → Int} (hb : b ≠ 0) (hs : valE b l e = (l', e', vt, sm, c, V)) :
    ∃ l5 e5 l6 e6 l7 e7, sBallot l e = (l5, e5, vt) ∧ sTruth l5 e5 = (l6, e6, sm) ∧ sCmd l6 e6 = (l7, e7, c) ∧ sAttr l7 e7 = (l', e', V) := by
  obtain ⟨l5, e5, a, h5⟩ : ∃ x y z, sBallot l e = (x, y, z) := ⟨_, _, _, rfl⟩
  obtain ⟨l6, e6, d, h6⟩ : ∃ x y z, sTruth l5 e5 = (x, y, z) := ⟨_, _, _, rfl⟩
  obtain ⟨l7, e7, f, h7⟩ : ∃ x y z, sCmd l6 e6 = (x, y, z) := ⟨_, _, _, rfl⟩
  obtain ⟨l8, e8, g, h8⟩ : ∃ x y z, sAttr l7 e7 = (x, y, z) := ⟨_, _, _, rfl⟩
  unfold valE at hs
  rw [if_neg hb] at hs
  simp only [h5, h6, h7, h8, Prod.mk.injEq] at hs
  obtain ⟨rfl, rfl, rfl, rfl, rfl, rfl⟩ := hs
  exact ⟨l5, e5, l6, e6, l7, e7, h5, h6, h7, h8⟩
theorem valE_sound {b : Nat} {l : List Nat} {e : Nat} {l' : List Nat} {e' vt : Nat} {sm : Bool} {c : K} {V : Nat → Int} (h : Sound l e) (hs : valE b l e = (l', e', vt, sm, c, V)) :
    Sound l' e' ∧ vt < 4294967296 ∧ okK c ∧ c.foot.size ≤ 64 ∧ c.path.size ≤ 64 ∧ (e' = 0 → e = 0 ∧ l = (if b = 0 then [] else ((shortN vt ++ [truthN sm]) ++ enc c) ++ putTo (natA V) 7) ++ l') := by
  by_cases hb : b = 0
  · unfold valE at hs
    rw [if_pos hb] at hs
    simp only [Prod.mk.injEq] at hs
    obtain ⟨rfl, rfl, rfl, rfl, rfl, rfl⟩ := hs
    exact ⟨h, by omega, zeroK_ok, by decide, by decide, fun h0 => ⟨h0, by rw [if_pos hb]; rfl⟩⟩
  · obtain ⟨l5, e5, l6, e6, l7, e7, h5, h6, h7, h8⟩ := valE_some hb hs
    obtain ⟨s5, b5, i5⟩ := sBallot_sound h h5
    have s6 := sTruth_sound s5 h6
    obtain ⟨s7, ok7, f7, p7, _, i7⟩ := sCmd_sound s6 h7
    obtain ⟨s8, i8⟩ := sAttr_sound s7 h8
    refine ⟨s8, b5, ok7, f7, p7, fun h0 => ?_⟩
    obtain ⟨z8, j8⟩ := i8 h0
    obtain ⟨z7, j7⟩ := i7 z8
    subst z7
    obtain ⟨z6, j6⟩ := sTruth_inv s5 h6
    obtain ⟨z5, j5⟩ := i5 z6
    refine ⟨z5, ?_⟩
    rw [if_neg hb, j5, j6, j7, j8]
    simp only [List.append_assoc]

/-- Where the taking of a state leaves an In, and what it tells. -/
theorem sInst_sound {l : List Nat} {e : Nat} {l' : List Nat} {e' : Nat} {x : J} (h : Sound l e) (hs : sInst l e = (l', e', x)) :
    Sound l' e' ∧ okJ x ∧ okK x.c ∧ x.c.foot.size ≤ 64 ∧ x.c.path.size ≤ 64 ∧ (e' ≠ 0 → x = zeroJ) ∧ (e' = 0 → e = 0 ∧ rightJ x = true ∧ l = encJ x ++ l') := by
  obtain ⟨l1, e1, r, s, h1⟩ : ∃ x y z w, sName l e = (x, y, z, w) := ⟨_, _, _, _, rfl⟩
  obtain ⟨l2, e2, v, h2⟩ : ∃ x y z, sBallot l1 e1 = (x, y, z) := ⟨_, _, _, rfl⟩
  obtain ⟨l3, e3, b, h3⟩ : ∃ x y z, sByte l2 e2 = (x, y, z) := ⟨_, _, _, rfl⟩
  obtain ⟨l4, e4, h4⟩ : ∃ x y, statE b l3 e3 = (x, y) := ⟨_, _, rfl⟩
  obtain ⟨l8, e8, vt, sm, c, V, h8⟩ : ∃ a b' c d f g, valE b l4 e4 = (a, b', c, d, f, g) := ⟨_, _, _, _, _, _, rfl⟩
  obtain ⟨s1, i1⟩ := sName_sound h h1
  obtain ⟨s2, b2, i2⟩ := sBallot_sound s1 h2
  obtain ⟨s3, b3⟩ := sByte_sound s2 h3
  obtain ⟨s4, i4⟩ := statE_sound s3 h4
  obtain ⟨s8, b8, ok8, f8, p8, i8⟩ := valE_sound s4 h8
  have hz : okJ zeroJ := ⟨by simp [zeroJ], by simp [zeroJ]⟩
  rw [sInst_eq h1 h2 h3 h4 h8] at hs
  unfold lastJ at hs
  simp only at hs
  cases hr : rightJ ⟨((r : Nat) : Int), ((s : Nat) : Int), ((b : Nat) : Int), ((v : Nat) : Int), ((vt : Nat) : Int), sm, c, V⟩
  · rw [hr] at hs
    simp only [Bool.false_eq_true, if_false, Prod.mk.injEq] at hs
    obtain ⟨rfl, rfl, rfl⟩ := hs
    exact ⟨sound_fail (by omega) s8, hz, zeroK_ok, by decide, by decide, fun _ => rfl, fun h0 => absurd h0 (firstE_zero_in (by omega))⟩
  · rw [hr] at hs
    simp only [if_true, Prod.mk.injEq] at hs
    obtain ⟨rfl, rfl, hx⟩ := hs
    by_cases h0 : e8 = 0
    · rw [if_pos h0] at hx
      subst hx
      refine ⟨s8, ⟨by simp only; omega, by simp only; omega⟩, ok8, f8, p8, fun hn => absurd h0 hn, fun _ => ?_⟩
      obtain ⟨z4, j8⟩ := i8 h0
      obtain ⟨z3, j4, _⟩ := i4 z4
      subst z3
      obtain ⟨z2, j3⟩ := sByte_inv s2 h3
      obtain ⟨z1, j2⟩ := i2 z2
      obtain ⟨z0, j1⟩ := i1 z1
      refine ⟨z0, hr, ?_⟩
      unfold encJ
      simp only [Int.toNat_natCast]
      rw [j1, j2, j3, j4, j8]
      by_cases hb : b = 0
      · subst hb
        simp [List.append_assoc]
      · rw [if_neg hb, if_neg (by omega)]
        simp only [List.append_assoc]
    · rw [if_neg h0] at hx
      subst hx
      exact ⟨s8, hz, zeroK_ok, by decide, by decide, fun _ => rfl, fun h => absurd h h0⟩

/-- What a right state tells of its parts. -/
theorem rightJ_in {x : J} (hok : okJ x) (hr : rightJ x = true) : ∃ a b v u t : Nat, x.r = a ∧ x.s = b ∧ x.bal = v ∧ x.vote = u ∧ x.st = t ∧ a < 7 ∧ b < 1024 ∧ v < 4294967296 ∧ ballotB v = true ∧ u < 4294967296 ∧ ballotB u = true ∧ t ≤ 3 ∧
    (t ≠ 0 → rightK x.c = true ∧ okB x.f = true) ∧ (t = 0 → x.vote = 0 ∧ x.same = false ∧ x.c = zeroK ∧ ∀ i, i < 8 → x.f i = 0) := by
  unfold rightJ at hr
  simp only [Bool.and_eq_true] at hr
  obtain ⟨⟨hn, hb⟩, hv⟩ := hr
  obtain ⟨a, b, ha, hb2, ha7, hb10, _⟩ := name_in hn
  unfold balB at hb
  by_cases h0 : x.st = 0
  · rw [if_pos h0] at hv
    unfold eqJ emptyJ at hv
    simp only [Bool.and_eq_true, beq_iff_eq, decide_eq_true_eq, eqA_iff] at hv
    obtain ⟨_, _, _, h4, h5, h6, h7⟩ := hv
    refine ⟨a, b, x.bal.toNat, 0, 0, ha, hb2, by have := hok.1; omega, h4, h0, ha7, hb10, by have := hok.1; omega, hb, by omega, by decide, by omega, fun h => absurd rfl h, fun _ => ⟨h4, h5, h6, h7⟩⟩
  · rw [if_neg h0] at hv
    unfold valB statB balB at hv
    simp only [Bool.and_eq_true, decide_eq_true_eq] at hv
    obtain ⟨hs, ⟨⟨⟨⟨hv1, hv2⟩, hv3⟩, hv4⟩, hv5⟩⟩ := hv
    unfold ownB at hv5
    simp only [Bool.and_eq_true, decide_eq_true_eq] at hv5
    refine ⟨a, b, x.bal.toNat, x.vote.toNat, x.st.toNat, ha, hb2, by have := hok.1; omega, by have := hok.2; omega, by omega, ha7, hb10, by have := hok.1; omega, hb, by have := hok.2; omega, hv1, by omega, fun _ => ⟨hv4, hv5.1.1⟩, fun h => absurd h (by omega)⟩

theorem eqJ_self (x : J) : eqJ x x = true := by
  unfold eqJ
  simp [eqA_self]
theorem eqJ_of {x y : J} (h1 : x.r = y.r) (h2 : x.s = y.s) (h3 : x.st = y.st) (h4 : x.bal = y.bal) (h5 : x.vote = y.vote) (h6 : x.same = y.same) (h7 : x.c = y.c) (h8 : eqA x.f y.f = true) : eqJ x y = true := by
  unfold eqJ
  simp [h1, h2, h3, h4, h5, h6, h7, h8]
theorem eqA_sym {f g : Nat → Int} (h : eqA f g = true) : eqA g f = true := eqA_iff.2 fun i hi => (eqA_iff.1 h i hi).symm
theorem okB_congr {f g : Nat → Int} (h : eqA f g = true) : okB f = okB g := by
  have e := eqA_iff.1 h
  rw [Bool.eq_iff_iff, okB_iff, okB_iff, e 0 (by decide)]
  constructor
  · rintro ⟨a, b⟩
    exact ⟨a, fun i hi => by rw [← e (i + 1) (by omega)]; exact b i hi⟩
  · rintro ⟨a, b⟩
    exact ⟨a, fun i hi => by rw [e (i + 1) (by omega)]; exact b i hi⟩
theorem ownB_congr {f g : Nat → Int} (h : eqA f g = true) (r s : Int) : ownB f r s = ownB g r s := by
  unfold ownB
  rw [okB_congr h]
  cases hn : nameB r s
  · simp
  · obtain ⟨a, b, rfl, rfl, ha, _, _⟩ := name_in hn
    rw [Int.toNat_natCast, eqA_iff.1 h (1 + a) (by omega)]
theorem eqA_right {f g k : Nat → Int} (h : eqA f g = true) : eqA f k = eqA g k := by
  rw [Bool.eq_iff_iff, eqA_iff, eqA_iff]
  have e := eqA_iff.1 h
  constructor
  · intro a i hi; rw [← e i hi]; exact a i hi
  · intro a i hi; rw [e i hi]; exact a i hi
/-- A state with attributes that are the same at the eight places is right just alike. -/
theorem rightJ_att (x : J) (V : Nat → Int) (h : eqA V x.f = true) : rightJ ⟨x.r, x.s, x.st, x.bal, x.vote, x.same, x.c, V⟩ = rightJ x := by
  unfold rightJ valB eqJ emptyJ maySame
  simp only
  rw [eqA_right h, ownB_congr h]

/-- Off a right state's bytes. -/
theorem sInst_put (x : J) (more : List Nat) (hok : okJ x) (hK : okK x.c) (hr : rightJ x = true) : ∃ y, sInst (encJ x ++ more) 0 = (more, 0, y) ∧ eqJ y x = true := by
  obtain ⟨a, b, v, u, t, ha, hb, hv, hu, ht, ha7, hb10, hvv, hvb, huu, hub, ht3, hn0, h0⟩ := rightJ_in hok hr
  have hr2 := hr
  obtain ⟨r, s, st, bal, vote, same, c, f⟩ := x
  simp only at ha hb hv hu ht hn0 h0 hK
  subst ha hb hv hu ht
  have h1 : ∀ z, sName (([a] ++ shortN b) ++ z) 0 = (z, 0, a, b) := fun z => sName_put a b z ha7 hb10
  have h2 : ∀ z, sBallot (shortN v ++ z) 0 = (z, 0, v) := fun z => sBallot_put v z hvv hvb
  have h3 : ∀ z, sByte ([t] ++ z) 0 = (z, 0, t) := fun z => rfl
  have h4 : ∀ z, statE t z 0 = (z, 0) := fun z => by unfold statE; rw [if_neg (by omega)]
  have he : encJ ⟨a, b, t, v, u, same, c, f⟩ ++ more = ([a] ++ shortN b) ++ (shortN v ++ ([t] ++ ((if t = 0 then [] else ((shortN u ++ [truthN same]) ++ enc c) ++ putTo (natA f) 7) ++ more))) := by
    unfold encJ
    simp only [Int.toNat_natCast, List.append_assoc]
    by_cases hz : t = 0
    · subst hz; simp
    · rw [if_neg hz, if_neg (by omega)]
      try simp only [List.append_assoc]
  rw [he]
  by_cases hz : t = 0
  · subst hz
    obtain ⟨z1, z2, z3, z4⟩ := h0 rfl
    obtain rfl : u = 0 := by omega
    subst z2 z3
    have h5 : ∀ z, valE 0 z 0 = (z, 0, 0, false, zeroK, fun _ => 0) := fun z => rfl
    have hA : eqA (fun _ => 0) f = true := eqA_iff.2 fun i hi => (z4 i hi).symm
    refine ⟨⟨a, b, 0, v, 0, false, zeroK, fun _ => 0⟩, ?_, eqJ_of rfl rfl rfl rfl rfl rfl rfl hA⟩
    rw [if_pos rfl, List.nil_append, sInst_eq (h1 _) (h2 _) (h3 _) (h4 _) (h5 _)]
    have hR := (rightJ_att ⟨a, b, 0, v, 0, false, zeroK, f⟩ (fun _ => 0) hA).trans hr2
    unfold lastJ
    simp only [Int.natCast_zero] at hR ⊢
    rw [if_pos hR, if_pos True.intro]
  · obtain ⟨k1, k2⟩ := hn0 hz
    obtain ⟨V, kV, eV⟩ := sAttr_put f more k2
    have h5 : valE t ((((shortN u ++ [truthN same]) ++ enc c) ++ putTo (natA f) 7) ++ more) 0 = (more, 0, u, same, c, V) := by
      unfold valE
      rw [if_neg hz, show (((shortN u ++ [truthN same]) ++ enc c) ++ putTo (natA f) 7) ++ more = shortN u ++ ([truthN same] ++ (enc c ++ (putTo (natA f) 7 ++ more))) by simp only [List.append_assoc]]
      simp only [sBallot_put u _ huu hub, sTruth_put, sCmd_put c _ hK k1, kV]
    refine ⟨⟨a, b, t, v, u, same, c, V⟩, ?_, eqJ_of rfl rfl rfl rfl rfl rfl rfl eV⟩
    rw [if_neg hz, sInst_eq (h1 _) (h2 _) (h3 _) (h4 _) h5]
    have hR := (rightJ_att ⟨a, b, t, v, u, same, c, f⟩ V eV).trans hr2
    unfold lastJ
    simp only at hR ⊢
    rw [if_pos hR, if_pos True.intro]

end Go.Proofs.YtapmchkikafpmaaDoor

/-
  The contract of withTaken (package cmd), once for each class of kinds: off any bytes.
-/
namespace Go.Proofs.YtapmchkikafpmaaDoor
open Go.ChangeShapes Go.WideShapes Go.ChangeAt Go.RowKit Go.Lib
set_option linter.unusedSimpArgs false
set_option linter.unusedVariables false

set_option maxRecDepth 100000 in
set_option maxHeartbeats 2000000 in
theorem takenE_0 (g : Nat) (k : Int) (l0 : List Nat) (e0 : Nat) (w : World) (hP : PartsIs w) (hg : 0 < g) (hI : InAt w g l0 e0) (hS : Sound l0 e0) (hs : Sig k false false false false false false) :
    Calls Tryd.prog 51 #[val ⟨k, 0, ⟨#[]⟩, 0, ⟨#[]⟩, 0, 0, 0⟩, .pointer (some ⟨g, 0, none⟩)] w (Turns (fun en => en = .returned (val ⟨k, 0, ⟨#[]⟩, 0, ⟨#[]⟩, 0, 0, 0⟩)) g l0 e0 w) := by
  obtain ⟨s0, s1, s2, s3, s4, s5⟩ := hs
  have S0 := hid s0
  have S1 := hid s1
  have S2 := hid s2
  have S3 := hid s3
  have S4 := hid s4
  have S5 := hid s5
  have N0 := hid hS
  have A0 := hid ((TakeE.start hI hP hg ⟨k, 0, ⟨#[]⟩, 0, ⟨#[]⟩, 0, 0, 0⟩).on ((Below.refl _ _).alloc (Nat.le_refl _) (.cells (cellsOf ⟨0, 0, ⟨#[]⟩, 0, ⟨#[]⟩, 0, 0, 0⟩) 30)))
  have R0 : Hid (TakeE w ((w.alloc (.cells (cellsOf ⟨k, 0, ⟨#[]⟩, 0, ⟨#[]⟩, 0, 0, 0⟩) 30)).alloc (.cells (cellsOf ⟨0, 0, ⟨#[]⟩, 0, ⟨#[]⟩, 0, 0, 0⟩) 30)) g (w.heap.size + 1) ⟨0, 0, ⟨#[]⟩, 0, ⟨#[]⟩, 0, 0, 0⟩ l0 e0) := hid ⟨A0.out.1, by have h := Blk.new (w.alloc (.cells (cellsOf ⟨k, 0, ⟨#[]⟩, 0, ⟨#[]⟩, 0, 0, 0⟩) 30)) 30 (cellsOf ⟨0, 0, ⟨#[]⟩, 0, ⟨#[]⟩, 0, 0, 0⟩); simpa using h, by omega, A0.out.2.2.2.1, A0.out.2.2.2.2⟩
  clear s0 s1 s2 s3 s4 s5 hP hg hI hS
  go_enter Tryd.func51, Tryd.ntmps51
  go_wp2_with fail
  with_reducible refine (has_0 ⟨k, 0, ⟨#[]⟩, 0, ⟨#[]⟩, 0, 0, 0⟩ false _ S0.out A0.out.parts).mono ?_
  rintro e w1 ⟨rfl, hb⟩
  have A1 := hid (A0.out.on hb)
  have R1 := hid (R0.out.on hb)
  clear hb A0 R0
  obtain ⟨⟨c0, c1, c2, c3, c4, c5, c6, c7⟩, f0, f1, f2, f3, f4, f5, f6, f7⟩ := cells8 A1.out.2.1
  go_wp2_with fail
  with_reducible refine (has_1 ⟨k, 0, ⟨#[]⟩, 0, ⟨#[]⟩, 0, 0, 0⟩ false _ S1.out A1.out.parts).mono ?_
  rintro e w2 ⟨rfl, hb⟩
  have A2 := hid (A1.out.on hb)
  have R2 := hid (R1.out.on hb)
  clear hb A1 R1
  clear c0 c1 c2 c3 c4 c5 c6 c7 f0 f1 f2 f3 f4 f5 f6 f7
  obtain ⟨⟨c0, c1, c2, c3, c4, c5, c6, c7⟩, f0, f1, f2, f3, f4, f5, f6, f7⟩ := cells8 A2.out.2.1
  go_wp2_with fail
  with_reducible refine (has_2 ⟨k, 0, ⟨#[]⟩, 0, ⟨#[]⟩, 0, 0, 0⟩ false _ S2.out A2.out.parts).mono ?_
  rintro e w3 ⟨rfl, hb⟩
  have A3 := hid (A2.out.on hb)
  have R3 := hid (R2.out.on hb)
  clear hb A2 R2
  clear c0 c1 c2 c3 c4 c5 c6 c7 f0 f1 f2 f3 f4 f5 f6 f7
  obtain ⟨⟨c0, c1, c2, c3, c4, c5, c6, c7⟩, f0, f1, f2, f3, f4, f5, f6, f7⟩ := cells8 A3.out.2.1
  go_wp2_with fail
  with_reducible refine (has_3 ⟨k, 0, ⟨#[]⟩, 0, ⟨#[]⟩, 0, 0, 0⟩ false _ S3.out A3.out.parts).mono ?_
  rintro e w4 ⟨rfl, hb⟩
  have A4 := hid (A3.out.on hb)
  have R4 := hid (R3.out.on hb)
  clear hb A3 R3
  clear c0 c1 c2 c3 c4 c5 c6 c7 f0 f1 f2 f3 f4 f5 f6 f7
  obtain ⟨⟨c0, c1, c2, c3, c4, c5, c6, c7⟩, f0, f1, f2, f3, f4, f5, f6, f7⟩ := cells8 A4.out.2.1
  go_wp2_with fail
  with_reducible refine (has_4 ⟨k, 0, ⟨#[]⟩, 0, ⟨#[]⟩, 0, 0, 0⟩ false _ S4.out A4.out.parts).mono ?_
  rintro e w5 ⟨rfl, hb⟩
  have A5 := hid (A4.out.on hb)
  have R5 := hid (R4.out.on hb)
  clear hb A4 R4
  clear c0 c1 c2 c3 c4 c5 c6 c7 f0 f1 f2 f3 f4 f5 f6 f7
  obtain ⟨⟨c0, c1, c2, c3, c4, c5, c6, c7⟩, f0, f1, f2, f3, f4, f5, f6, f7⟩ := cells8 A5.out.2.1
  go_wp2_with fail
  with_reducible refine (has_5 ⟨k, 0, ⟨#[]⟩, 0, ⟨#[]⟩, 0, 0, 0⟩ false _ S5.out A5.out.parts).mono ?_
  rintro e w6 ⟨rfl, hb⟩
  have A6 := hid (A5.out.on hb)
  have R6 := hid (R5.out.on hb)
  clear hb A5 R5
  clear c0 c1 c2 c3 c4 c5 c6 c7 f0 f1 f2 f3 f4 f5 f6 f7
  obtain ⟨⟨c0, c1, c2, c3, c4, c5, c6, c7⟩, f0, f1, f2, f3, f4, f5, f6, f7⟩ := cells8 A6.out.2.1
  obtain ⟨⟨d0, d1, d2, d3, d4, d5, d6, d7⟩, g0, g1, g2, g3, g4, g5, g6, g7⟩ := cells8 R6.out.2.1
  have E := hid (R6.out.put ⟨k, 0, ⟨#[]⟩, 0, ⟨#[]⟩, 0, 0, 0⟩)
  clear R6 A6
  go_wp2
  refine bodyPost_ret (v := val ⟨k, 0, ⟨#[]⟩, 0, ⟨#[]⟩, 0, 0, 0⟩) (by simp [results, Tryd.results51, go_sem, d0, d1, d2, d3, d4, d5, d6, d7]) rfl ⟨rfl, E.out.iat, E.out.grown⟩

set_option maxRecDepth 100000 in
set_option maxHeartbeats 2000000 in
theorem takenE_1 (g : Nat) (k : Int) (l0 : List Nat) (e0 : Nat) (l1 : List Nat) (e1 : Nat) (l2 : List Nat) (e2 : Nat) (l3 : List Nat) (e3 : Nat) (l4 : List Nat) (e4 : Nat) (l5 : List Nat) (e5 : Nat) (un : Nat) (fb : List Nat) (qn : Nat) (nn : Nat) (tn : Nat) (w : World) (hP : PartsIs w) (hg : 0 < g) (hI : InAt w g l0 e0) (hS : Sound l0 e0) (hs : Sig k true true false false true true) (d0 : sFixed l0 e0 = (l1, e1, un)) (d1 : sText l1 e1 64 = (l2, e2, fb)) (d2 : sShort l2 e2 18446744073709551615 = (l3, e3, qn)) (d3 : sShort l3 e3 18446744073709551615 = (l4, e4, nn)) (d4 : sShort l4 e4 1099511627776 = (l5, e5, tn)) :
    Calls Tryd.prog 51 #[val ⟨k, 0, ⟨#[]⟩, 0, ⟨#[]⟩, 0, 0, 0⟩, .pointer (some ⟨g, 0, none⟩)] w (Turns (fun en => en = .returned (val ⟨k, (un : Int), strN fb, (qn : Int), ⟨#[]⟩, 0, (nn : Int), (tn : Int)⟩)) g l5 e5 w) := by
  obtain ⟨s0, s1, s2, s3, s4, s5⟩ := hs
  have S0 := hid s0
  have S1 := hid s1
  have S2 := hid s2
  have S3 := hid s3
  have S4 := hid s4
  have S5 := hid s5
  have N0 := hid hS
  have N1 : Hid (Sound l1 e1) := hid (sFixed_sound N0.out d0).1
  have D0 := hid d0
  have N2 : Hid (Sound l2 e2) := hid (sText_sound N1.out d1).1
  have D1 := hid d1
  have N3 : Hid (Sound l3 e3) := hid (sShort_sound N2.out d2).1
  have D2 := hid d2
  have N4 : Hid (Sound l4 e4) := hid (sShort_sound N3.out d3).1
  have D3 := hid d3
  have N5 : Hid (Sound l5 e5) := hid (sShort_sound N4.out d4).1
  have W3 : IntKind.i64.wrap (tn : Int) = tn := by have := (sShort_sound N4.out d4).2; rw [IntKind.wrap_i64]; omega
  have D4 := hid d4
  have A0 := hid ((TakeE.start hI hP hg ⟨k, 0, ⟨#[]⟩, 0, ⟨#[]⟩, 0, 0, 0⟩).on ((Below.refl _ _).alloc (Nat.le_refl _) (.cells (cellsOf ⟨0, 0, ⟨#[]⟩, 0, ⟨#[]⟩, 0, 0, 0⟩) 30)))
  have R0 : Hid (TakeE w ((w.alloc (.cells (cellsOf ⟨k, 0, ⟨#[]⟩, 0, ⟨#[]⟩, 0, 0, 0⟩) 30)).alloc (.cells (cellsOf ⟨0, 0, ⟨#[]⟩, 0, ⟨#[]⟩, 0, 0, 0⟩) 30)) g (w.heap.size + 1) ⟨0, 0, ⟨#[]⟩, 0, ⟨#[]⟩, 0, 0, 0⟩ l0 e0) := hid ⟨A0.out.1, by have h := Blk.new (w.alloc (.cells (cellsOf ⟨k, 0, ⟨#[]⟩, 0, ⟨#[]⟩, 0, 0, 0⟩) 30)) 30 (cellsOf ⟨0, 0, ⟨#[]⟩, 0, ⟨#[]⟩, 0, 0, 0⟩); simpa using h, by omega, A0.out.2.2.2.1, A0.out.2.2.2.2⟩
  clear s0 s1 s2 s3 s4 s5 hP hg hI hS d0 d1 d2 d3 d4
  go_enter Tryd.func51, Tryd.ntmps51
  go_wp2_with fail
  with_reducible refine (has_0 ⟨k, 0, ⟨#[]⟩, 0, ⟨#[]⟩, 0, 0, 0⟩ true _ S0.out A0.out.parts).mono ?_
  rintro e w1 ⟨rfl, hb⟩
  have A1 := hid (A0.out.on hb)
  have R1 := hid (R0.out.on hb)
  clear hb A0 R0
  obtain ⟨⟨c0, c1, c2, c3, c4, c5, c6, c7⟩, f0, f1, f2, f3, f4, f5, f6, f7⟩ := cells8 A1.out.2.1
  go_wp2_with fail
  with_reducible refine (infixed_any g l0 e0 l1 e1 un _ A1.out.iat N0.out.fine N0.out.bytes D0.out).mono ?_
  rintro en w2 ⟨rfl, hin, hgr⟩
  have A2t := hid (A1.out.turn hin hgr)
  have R2t := hid (R1.out.turn hin hgr)
  clear hin hgr A1 R1
  clear c0 c1 c2 c3 c4 c5 c6 c7 f0 f1 f2 f3 f4 f5 f6 f7
  obtain ⟨⟨c0, c1, c2, c3, c4, c5, c6, c7⟩, f0, f1, f2, f3, f4, f5, f6, f7⟩ := cells8 A2t.out.2.1
  have A2 := hid (A2t.out.set_ 1 (.int .u64 (un : Int)) ⟨k, (un : Int), ⟨#[]⟩, 0, ⟨#[]⟩, 0, 0, 0⟩ rfl)
  have R2 := hid (R2t.out.far (p := ⟨w.heap.size, 1, none⟩) (by simp) (Nat.le_refl _) (.int .u64 (un : Int)))
  clear A2t R2t
  go_wp2_with fail
  with_reducible refine (intext_any g l1 e1 64 64 l2 e2 fb _ A2.out.iat N1.out.fine N1.out.bytes N1.out.len rfl (by decide) D1.out).mono ?_
  rintro en w3 ⟨rfl, hin, hgr⟩
  have A3t := hid (A2.out.turn hin hgr)
  have R3t := hid (R2.out.turn hin hgr)
  clear hin hgr A2 R2
  clear c0 c1 c2 c3 c4 c5 c6 c7 f0 f1 f2 f3 f4 f5 f6 f7
  obtain ⟨⟨c0, c1, c2, c3, c4, c5, c6, c7⟩, f0, f1, f2, f3, f4, f5, f6, f7⟩ := cells8 A3t.out.2.1
  have A3 := hid (A3t.out.set_ 2 (.string (strN fb)) ⟨k, (un : Int), strN fb, 0, ⟨#[]⟩, 0, 0, 0⟩ rfl)
  have R3 := hid (R3t.out.far (p := ⟨w.heap.size, 2, none⟩) (by simp) (Nat.le_refl _) (.string (strN fb)))
  clear A3t R3t
  go_wp2_with fail
  with_reducible refine (has_1 ⟨k, (un : Int), strN fb, 0, ⟨#[]⟩, 0, 0, 0⟩ true _ S1.out A3.out.parts).mono ?_
  rintro e w4 ⟨rfl, hb⟩
  have A4 := hid (A3.out.on hb)
  have R4 := hid (R3.out.on hb)
  clear hb A3 R3
  clear c0 c1 c2 c3 c4 c5 c6 c7 f0 f1 f2 f3 f4 f5 f6 f7
  obtain ⟨⟨c0, c1, c2, c3, c4, c5, c6, c7⟩, f0, f1, f2, f3, f4, f5, f6, f7⟩ := cells8 A4.out.2.1
  go_wp2_with fail
  with_reducible refine (takeanyE_any g l2 e2 l3 e3 qn _ A4.out.iat N2.out D2.out).mono ?_
  rintro en w5 ⟨rfl, hin, hgr⟩
  have A5t := hid (A4.out.turn hin hgr)
  have R5t := hid (R4.out.turn hin hgr)
  clear hin hgr A4 R4
  clear c0 c1 c2 c3 c4 c5 c6 c7 f0 f1 f2 f3 f4 f5 f6 f7
  obtain ⟨⟨c0, c1, c2, c3, c4, c5, c6, c7⟩, f0, f1, f2, f3, f4, f5, f6, f7⟩ := cells8 A5t.out.2.1
  have A5 := hid (A5t.out.set_ 3 (.int .u64 (qn : Int)) ⟨k, (un : Int), strN fb, (qn : Int), ⟨#[]⟩, 0, 0, 0⟩ rfl)
  have R5 := hid (R5t.out.far (p := ⟨w.heap.size, 3, none⟩) (by simp) (Nat.le_refl _) (.int .u64 (qn : Int)))
  clear A5t R5t
  go_wp2_with fail
  with_reducible refine (has_2 ⟨k, (un : Int), strN fb, (qn : Int), ⟨#[]⟩, 0, 0, 0⟩ false _ S2.out A5.out.parts).mono ?_
  rintro e w6 ⟨rfl, hb⟩
  have A6 := hid (A5.out.on hb)
  have R6 := hid (R5.out.on hb)
  clear hb A5 R5
  clear c0 c1 c2 c3 c4 c5 c6 c7 f0 f1 f2 f3 f4 f5 f6 f7
  obtain ⟨⟨c0, c1, c2, c3, c4, c5, c6, c7⟩, f0, f1, f2, f3, f4, f5, f6, f7⟩ := cells8 A6.out.2.1
  go_wp2_with fail
  with_reducible refine (has_3 ⟨k, (un : Int), strN fb, (qn : Int), ⟨#[]⟩, 0, 0, 0⟩ false _ S3.out A6.out.parts).mono ?_
  rintro e w7 ⟨rfl, hb⟩
  have A7 := hid (A6.out.on hb)
  have R7 := hid (R6.out.on hb)
  clear hb A6 R6
  clear c0 c1 c2 c3 c4 c5 c6 c7 f0 f1 f2 f3 f4 f5 f6 f7
  obtain ⟨⟨c0, c1, c2, c3, c4, c5, c6, c7⟩, f0, f1, f2, f3, f4, f5, f6, f7⟩ := cells8 A7.out.2.1
  go_wp2_with fail
  with_reducible refine (has_4 ⟨k, (un : Int), strN fb, (qn : Int), ⟨#[]⟩, 0, 0, 0⟩ true _ S4.out A7.out.parts).mono ?_
  rintro e w8 ⟨rfl, hb⟩
  have A8 := hid (A7.out.on hb)
  have R8 := hid (R7.out.on hb)
  clear hb A7 R7
  clear c0 c1 c2 c3 c4 c5 c6 c7 f0 f1 f2 f3 f4 f5 f6 f7
  obtain ⟨⟨c0, c1, c2, c3, c4, c5, c6, c7⟩, f0, f1, f2, f3, f4, f5, f6, f7⟩ := cells8 A8.out.2.1
  go_wp2_with fail
  with_reducible refine (takeanyE_any g l3 e3 l4 e4 nn _ A8.out.iat N3.out D3.out).mono ?_
  rintro en w9 ⟨rfl, hin, hgr⟩
  have A9t := hid (A8.out.turn hin hgr)
  have R9t := hid (R8.out.turn hin hgr)
  clear hin hgr A8 R8
  clear c0 c1 c2 c3 c4 c5 c6 c7 f0 f1 f2 f3 f4 f5 f6 f7
  obtain ⟨⟨c0, c1, c2, c3, c4, c5, c6, c7⟩, f0, f1, f2, f3, f4, f5, f6, f7⟩ := cells8 A9t.out.2.1
  have A9 := hid (A9t.out.set_ 6 (.int .u64 (nn : Int)) ⟨k, (un : Int), strN fb, (qn : Int), ⟨#[]⟩, 0, (nn : Int), 0⟩ rfl)
  have R9 := hid (R9t.out.far (p := ⟨w.heap.size, 6, none⟩) (by simp) (Nat.le_refl _) (.int .u64 (nn : Int)))
  clear A9t R9t
  go_wp2_with fail
  with_reducible refine (has_5 ⟨k, (un : Int), strN fb, (qn : Int), ⟨#[]⟩, 0, (nn : Int), 0⟩ true _ S5.out A9.out.parts).mono ?_
  rintro e w10 ⟨rfl, hb⟩
  have A10 := hid (A9.out.on hb)
  have R10 := hid (R9.out.on hb)
  clear hb A9 R9
  clear c0 c1 c2 c3 c4 c5 c6 c7 f0 f1 f2 f3 f4 f5 f6 f7
  obtain ⟨⟨c0, c1, c2, c3, c4, c5, c6, c7⟩, f0, f1, f2, f3, f4, f5, f6, f7⟩ := cells8 A10.out.2.1
  go_wp2_with fail
  with_reducible refine (inshort_any g l4 e4 1099511627776 1099511627776 l5 e5 tn _ A10.out.iat N4.out.fine N4.out.bytes N4.out.len rfl D4.out).mono ?_
  rintro en w11 ⟨rfl, hin, hgr⟩
  have A11t := hid (A10.out.turn hin hgr)
  have R11t := hid (R10.out.turn hin hgr)
  clear hin hgr A10 R10
  clear c0 c1 c2 c3 c4 c5 c6 c7 f0 f1 f2 f3 f4 f5 f6 f7
  obtain ⟨⟨c0, c1, c2, c3, c4, c5, c6, c7⟩, f0, f1, f2, f3, f4, f5, f6, f7⟩ := cells8 A11t.out.2.1
  have A11 := hid (A11t.out.set_ 7 (.int .i64 (tn : Int)) ⟨k, (un : Int), strN fb, (qn : Int), ⟨#[]⟩, 0, (nn : Int), (tn : Int)⟩ rfl)
  have R11 := hid (R11t.out.far (p := ⟨w.heap.size, 7, none⟩) (by simp) (Nat.le_refl _) (.int .i64 (tn : Int)))
  clear A11t R11t
  obtain ⟨⟨d0, d1, d2, d3, d4, d5, d6, d7⟩, g0, g1, g2, g3, g4, g5, g6, g7⟩ := cells8 R11.out.2.1
  have E := hid (R11.out.put ⟨k, (un : Int), strN fb, (qn : Int), ⟨#[]⟩, 0, (nn : Int), (tn : Int)⟩)
  clear R11 A11
  go_wp2
  refine bodyPost_ret (v := val ⟨k, (un : Int), strN fb, (qn : Int), ⟨#[]⟩, 0, (nn : Int), (tn : Int)⟩) (by simp [results, Tryd.results51, go_sem, d0, d1, d2, d3, d4, d5, d6, d7]) rfl ⟨rfl, E.out.iat, E.out.grown⟩

set_option maxRecDepth 100000 in
set_option maxHeartbeats 2000000 in
theorem takenE_2 (g : Nat) (k : Int) (l0 : List Nat) (e0 : Nat) (l1 : List Nat) (e1 : Nat) (l2 : List Nat) (e2 : Nat) (l3 : List Nat) (e3 : Nat) (un : Nat) (fb : List Nat) (qn : Nat) (w : World) (hP : PartsIs w) (hg : 0 < g) (hI : InAt w g l0 e0) (hS : Sound l0 e0) (hs : Sig k true true false false false false) (d0 : sFixed l0 e0 = (l1, e1, un)) (d1 : sText l1 e1 64 = (l2, e2, fb)) (d2 : sShort l2 e2 18446744073709551615 = (l3, e3, qn)) :
    Calls Tryd.prog 51 #[val ⟨k, 0, ⟨#[]⟩, 0, ⟨#[]⟩, 0, 0, 0⟩, .pointer (some ⟨g, 0, none⟩)] w (Turns (fun en => en = .returned (val ⟨k, (un : Int), strN fb, (qn : Int), ⟨#[]⟩, 0, 0, 0⟩)) g l3 e3 w) := by
  obtain ⟨s0, s1, s2, s3, s4, s5⟩ := hs
  have S0 := hid s0
  have S1 := hid s1
  have S2 := hid s2
  have S3 := hid s3
  have S4 := hid s4
  have S5 := hid s5
  have N0 := hid hS
  have N1 : Hid (Sound l1 e1) := hid (sFixed_sound N0.out d0).1
  have D0 := hid d0
  have N2 : Hid (Sound l2 e2) := hid (sText_sound N1.out d1).1
  have D1 := hid d1
  have N3 : Hid (Sound l3 e3) := hid (sShort_sound N2.out d2).1
  have D2 := hid d2
  have A0 := hid ((TakeE.start hI hP hg ⟨k, 0, ⟨#[]⟩, 0, ⟨#[]⟩, 0, 0, 0⟩).on ((Below.refl _ _).alloc (Nat.le_refl _) (.cells (cellsOf ⟨0, 0, ⟨#[]⟩, 0, ⟨#[]⟩, 0, 0, 0⟩) 30)))
  have R0 : Hid (TakeE w ((w.alloc (.cells (cellsOf ⟨k, 0, ⟨#[]⟩, 0, ⟨#[]⟩, 0, 0, 0⟩) 30)).alloc (.cells (cellsOf ⟨0, 0, ⟨#[]⟩, 0, ⟨#[]⟩, 0, 0, 0⟩) 30)) g (w.heap.size + 1) ⟨0, 0, ⟨#[]⟩, 0, ⟨#[]⟩, 0, 0, 0⟩ l0 e0) := hid ⟨A0.out.1, by have h := Blk.new (w.alloc (.cells (cellsOf ⟨k, 0, ⟨#[]⟩, 0, ⟨#[]⟩, 0, 0, 0⟩) 30)) 30 (cellsOf ⟨0, 0, ⟨#[]⟩, 0, ⟨#[]⟩, 0, 0, 0⟩); simpa using h, by omega, A0.out.2.2.2.1, A0.out.2.2.2.2⟩
  clear s0 s1 s2 s3 s4 s5 hP hg hI hS d0 d1 d2
  go_enter Tryd.func51, Tryd.ntmps51
  go_wp2_with fail
  with_reducible refine (has_0 ⟨k, 0, ⟨#[]⟩, 0, ⟨#[]⟩, 0, 0, 0⟩ true _ S0.out A0.out.parts).mono ?_
  rintro e w1 ⟨rfl, hb⟩
  have A1 := hid (A0.out.on hb)
  have R1 := hid (R0.out.on hb)
  clear hb A0 R0
  obtain ⟨⟨c0, c1, c2, c3, c4, c5, c6, c7⟩, f0, f1, f2, f3, f4, f5, f6, f7⟩ := cells8 A1.out.2.1
  go_wp2_with fail
  with_reducible refine (infixed_any g l0 e0 l1 e1 un _ A1.out.iat N0.out.fine N0.out.bytes D0.out).mono ?_
  rintro en w2 ⟨rfl, hin, hgr⟩
  have A2t := hid (A1.out.turn hin hgr)
  have R2t := hid (R1.out.turn hin hgr)
  clear hin hgr A1 R1
  clear c0 c1 c2 c3 c4 c5 c6 c7 f0 f1 f2 f3 f4 f5 f6 f7
  obtain ⟨⟨c0, c1, c2, c3, c4, c5, c6, c7⟩, f0, f1, f2, f3, f4, f5, f6, f7⟩ := cells8 A2t.out.2.1
  have A2 := hid (A2t.out.set_ 1 (.int .u64 (un : Int)) ⟨k, (un : Int), ⟨#[]⟩, 0, ⟨#[]⟩, 0, 0, 0⟩ rfl)
  have R2 := hid (R2t.out.far (p := ⟨w.heap.size, 1, none⟩) (by simp) (Nat.le_refl _) (.int .u64 (un : Int)))
  clear A2t R2t
  go_wp2_with fail
  with_reducible refine (intext_any g l1 e1 64 64 l2 e2 fb _ A2.out.iat N1.out.fine N1.out.bytes N1.out.len rfl (by decide) D1.out).mono ?_
  rintro en w3 ⟨rfl, hin, hgr⟩
  have A3t := hid (A2.out.turn hin hgr)
  have R3t := hid (R2.out.turn hin hgr)
  clear hin hgr A2 R2
  clear c0 c1 c2 c3 c4 c5 c6 c7 f0 f1 f2 f3 f4 f5 f6 f7
  obtain ⟨⟨c0, c1, c2, c3, c4, c5, c6, c7⟩, f0, f1, f2, f3, f4, f5, f6, f7⟩ := cells8 A3t.out.2.1
  have A3 := hid (A3t.out.set_ 2 (.string (strN fb)) ⟨k, (un : Int), strN fb, 0, ⟨#[]⟩, 0, 0, 0⟩ rfl)
  have R3 := hid (R3t.out.far (p := ⟨w.heap.size, 2, none⟩) (by simp) (Nat.le_refl _) (.string (strN fb)))
  clear A3t R3t
  go_wp2_with fail
  with_reducible refine (has_1 ⟨k, (un : Int), strN fb, 0, ⟨#[]⟩, 0, 0, 0⟩ true _ S1.out A3.out.parts).mono ?_
  rintro e w4 ⟨rfl, hb⟩
  have A4 := hid (A3.out.on hb)
  have R4 := hid (R3.out.on hb)
  clear hb A3 R3
  clear c0 c1 c2 c3 c4 c5 c6 c7 f0 f1 f2 f3 f4 f5 f6 f7
  obtain ⟨⟨c0, c1, c2, c3, c4, c5, c6, c7⟩, f0, f1, f2, f3, f4, f5, f6, f7⟩ := cells8 A4.out.2.1
  go_wp2_with fail
  with_reducible refine (takeanyE_any g l2 e2 l3 e3 qn _ A4.out.iat N2.out D2.out).mono ?_
  rintro en w5 ⟨rfl, hin, hgr⟩
  have A5t := hid (A4.out.turn hin hgr)
  have R5t := hid (R4.out.turn hin hgr)
  clear hin hgr A4 R4
  clear c0 c1 c2 c3 c4 c5 c6 c7 f0 f1 f2 f3 f4 f5 f6 f7
  obtain ⟨⟨c0, c1, c2, c3, c4, c5, c6, c7⟩, f0, f1, f2, f3, f4, f5, f6, f7⟩ := cells8 A5t.out.2.1
  have A5 := hid (A5t.out.set_ 3 (.int .u64 (qn : Int)) ⟨k, (un : Int), strN fb, (qn : Int), ⟨#[]⟩, 0, 0, 0⟩ rfl)
  have R5 := hid (R5t.out.far (p := ⟨w.heap.size, 3, none⟩) (by simp) (Nat.le_refl _) (.int .u64 (qn : Int)))
  clear A5t R5t
  go_wp2_with fail
  with_reducible refine (has_2 ⟨k, (un : Int), strN fb, (qn : Int), ⟨#[]⟩, 0, 0, 0⟩ false _ S2.out A5.out.parts).mono ?_
  rintro e w6 ⟨rfl, hb⟩
  have A6 := hid (A5.out.on hb)
  have R6 := hid (R5.out.on hb)
  clear hb A5 R5
  clear c0 c1 c2 c3 c4 c5 c6 c7 f0 f1 f2 f3 f4 f5 f6 f7
  obtain ⟨⟨c0, c1, c2, c3, c4, c5, c6, c7⟩, f0, f1, f2, f3, f4, f5, f6, f7⟩ := cells8 A6.out.2.1
  go_wp2_with fail
  with_reducible refine (has_3 ⟨k, (un : Int), strN fb, (qn : Int), ⟨#[]⟩, 0, 0, 0⟩ false _ S3.out A6.out.parts).mono ?_
  rintro e w7 ⟨rfl, hb⟩
  have A7 := hid (A6.out.on hb)
  have R7 := hid (R6.out.on hb)
  clear hb A6 R6
  clear c0 c1 c2 c3 c4 c5 c6 c7 f0 f1 f2 f3 f4 f5 f6 f7
  obtain ⟨⟨c0, c1, c2, c3, c4, c5, c6, c7⟩, f0, f1, f2, f3, f4, f5, f6, f7⟩ := cells8 A7.out.2.1
  go_wp2_with fail
  with_reducible refine (has_4 ⟨k, (un : Int), strN fb, (qn : Int), ⟨#[]⟩, 0, 0, 0⟩ false _ S4.out A7.out.parts).mono ?_
  rintro e w8 ⟨rfl, hb⟩
  have A8 := hid (A7.out.on hb)
  have R8 := hid (R7.out.on hb)
  clear hb A7 R7
  clear c0 c1 c2 c3 c4 c5 c6 c7 f0 f1 f2 f3 f4 f5 f6 f7
  obtain ⟨⟨c0, c1, c2, c3, c4, c5, c6, c7⟩, f0, f1, f2, f3, f4, f5, f6, f7⟩ := cells8 A8.out.2.1
  go_wp2_with fail
  with_reducible refine (has_5 ⟨k, (un : Int), strN fb, (qn : Int), ⟨#[]⟩, 0, 0, 0⟩ false _ S5.out A8.out.parts).mono ?_
  rintro e w9 ⟨rfl, hb⟩
  have A9 := hid (A8.out.on hb)
  have R9 := hid (R8.out.on hb)
  clear hb A8 R8
  clear c0 c1 c2 c3 c4 c5 c6 c7 f0 f1 f2 f3 f4 f5 f6 f7
  obtain ⟨⟨c0, c1, c2, c3, c4, c5, c6, c7⟩, f0, f1, f2, f3, f4, f5, f6, f7⟩ := cells8 A9.out.2.1
  obtain ⟨⟨d0, d1, d2, d3, d4, d5, d6, d7⟩, g0, g1, g2, g3, g4, g5, g6, g7⟩ := cells8 R9.out.2.1
  have E := hid (R9.out.put ⟨k, (un : Int), strN fb, (qn : Int), ⟨#[]⟩, 0, 0, 0⟩)
  clear R9 A9
  go_wp2
  refine bodyPost_ret (v := val ⟨k, (un : Int), strN fb, (qn : Int), ⟨#[]⟩, 0, 0, 0⟩) (by simp [results, Tryd.results51, go_sem, d0, d1, d2, d3, d4, d5, d6, d7]) rfl ⟨rfl, E.out.iat, E.out.grown⟩

set_option maxRecDepth 100000 in
set_option maxHeartbeats 2000000 in
theorem takenE_3 (g : Nat) (k : Int) (l0 : List Nat) (e0 : Nat) (l1 : List Nat) (e1 : Nat) (l2 : List Nat) (e2 : Nat) (l3 : List Nat) (e3 : Nat) (l4 : List Nat) (e4 : Nat) (un : Nat) (fb : List Nat) (qn : Nat) (tn : Nat) (w : World) (hP : PartsIs w) (hg : 0 < g) (hI : InAt w g l0 e0) (hS : Sound l0 e0) (hs : Sig k true true false false false true) (d0 : sFixed l0 e0 = (l1, e1, un)) (d1 : sText l1 e1 64 = (l2, e2, fb)) (d2 : sShort l2 e2 18446744073709551615 = (l3, e3, qn)) (d3 : sShort l3 e3 1099511627776 = (l4, e4, tn)) :
    Calls Tryd.prog 51 #[val ⟨k, 0, ⟨#[]⟩, 0, ⟨#[]⟩, 0, 0, 0⟩, .pointer (some ⟨g, 0, none⟩)] w (Turns (fun en => en = .returned (val ⟨k, (un : Int), strN fb, (qn : Int), ⟨#[]⟩, 0, 0, (tn : Int)⟩)) g l4 e4 w) := by
  obtain ⟨s0, s1, s2, s3, s4, s5⟩ := hs
  have S0 := hid s0
  have S1 := hid s1
  have S2 := hid s2
  have S3 := hid s3
  have S4 := hid s4
  have S5 := hid s5
  have N0 := hid hS
  have N1 : Hid (Sound l1 e1) := hid (sFixed_sound N0.out d0).1
  have D0 := hid d0
  have N2 : Hid (Sound l2 e2) := hid (sText_sound N1.out d1).1
  have D1 := hid d1
  have N3 : Hid (Sound l3 e3) := hid (sShort_sound N2.out d2).1
  have D2 := hid d2
  have N4 : Hid (Sound l4 e4) := hid (sShort_sound N3.out d3).1
  have W3 : IntKind.i64.wrap (tn : Int) = tn := by have := (sShort_sound N3.out d3).2; rw [IntKind.wrap_i64]; omega
  have D3 := hid d3
  have A0 := hid ((TakeE.start hI hP hg ⟨k, 0, ⟨#[]⟩, 0, ⟨#[]⟩, 0, 0, 0⟩).on ((Below.refl _ _).alloc (Nat.le_refl _) (.cells (cellsOf ⟨0, 0, ⟨#[]⟩, 0, ⟨#[]⟩, 0, 0, 0⟩) 30)))
  have R0 : Hid (TakeE w ((w.alloc (.cells (cellsOf ⟨k, 0, ⟨#[]⟩, 0, ⟨#[]⟩, 0, 0, 0⟩) 30)).alloc (.cells (cellsOf ⟨0, 0, ⟨#[]⟩, 0, ⟨#[]⟩, 0, 0, 0⟩) 30)) g (w.heap.size + 1) ⟨0, 0, ⟨#[]⟩, 0, ⟨#[]⟩, 0, 0, 0⟩ l0 e0) := hid ⟨A0.out.1, by have h := Blk.new (w.alloc (.cells (cellsOf ⟨k, 0, ⟨#[]⟩, 0, ⟨#[]⟩, 0, 0, 0⟩) 30)) 30 (cellsOf ⟨0, 0, ⟨#[]⟩, 0, ⟨#[]⟩, 0, 0, 0⟩); simpa using h, by omega, A0.out.2.2.2.1, A0.out.2.2.2.2⟩
  clear s0 s1 s2 s3 s4 s5 hP hg hI hS d0 d1 d2 d3
  go_enter Tryd.func51, Tryd.ntmps51
  go_wp2_with fail
  with_reducible refine (has_0 ⟨k, 0, ⟨#[]⟩, 0, ⟨#[]⟩, 0, 0, 0⟩ true _ S0.out A0.out.parts).mono ?_
  rintro e w1 ⟨rfl, hb⟩
  have A1 := hid (A0.out.on hb)
  have R1 := hid (R0.out.on hb)
  clear hb A0 R0
  obtain ⟨⟨c0, c1, c2, c3, c4, c5, c6, c7⟩, f0, f1, f2, f3, f4, f5, f6, f7⟩ := cells8 A1.out.2.1
  go_wp2_with fail
  with_reducible refine (infixed_any g l0 e0 l1 e1 un _ A1.out.iat N0.out.fine N0.out.bytes D0.out).mono ?_
  rintro en w2 ⟨rfl, hin, hgr⟩
  have A2t := hid (A1.out.turn hin hgr)
  have R2t := hid (R1.out.turn hin hgr)
  clear hin hgr A1 R1
  clear c0 c1 c2 c3 c4 c5 c6 c7 f0 f1 f2 f3 f4 f5 f6 f7
  obtain ⟨⟨c0, c1, c2, c3, c4, c5, c6, c7⟩, f0, f1, f2, f3, f4, f5, f6, f7⟩ := cells8 A2t.out.2.1
  have A2 := hid (A2t.out.set_ 1 (.int .u64 (un : Int)) ⟨k, (un : Int), ⟨#[]⟩, 0, ⟨#[]⟩, 0, 0, 0⟩ rfl)
  have R2 := hid (R2t.out.far (p := ⟨w.heap.size, 1, none⟩) (by simp) (Nat.le_refl _) (.int .u64 (un : Int)))
  clear A2t R2t
  go_wp2_with fail
  with_reducible refine (intext_any g l1 e1 64 64 l2 e2 fb _ A2.out.iat N1.out.fine N1.out.bytes N1.out.len rfl (by decide) D1.out).mono ?_
  rintro en w3 ⟨rfl, hin, hgr⟩
  have A3t := hid (A2.out.turn hin hgr)
  have R3t := hid (R2.out.turn hin hgr)
  clear hin hgr A2 R2
  clear c0 c1 c2 c3 c4 c5 c6 c7 f0 f1 f2 f3 f4 f5 f6 f7
  obtain ⟨⟨c0, c1, c2, c3, c4, c5, c6, c7⟩, f0, f1, f2, f3, f4, f5, f6, f7⟩ := cells8 A3t.out.2.1
  have A3 := hid (A3t.out.set_ 2 (.string (strN fb)) ⟨k, (un : Int), strN fb, 0, ⟨#[]⟩, 0, 0, 0⟩ rfl)
  have R3 := hid (R3t.out.far (p := ⟨w.heap.size, 2, none⟩) (by simp) (Nat.le_refl _) (.string (strN fb)))
  clear A3t R3t
  go_wp2_with fail
  with_reducible refine (has_1 ⟨k, (un : Int), strN fb, 0, ⟨#[]⟩, 0, 0, 0⟩ true _ S1.out A3.out.parts).mono ?_
  rintro e w4 ⟨rfl, hb⟩
  have A4 := hid (A3.out.on hb)
  have R4 := hid (R3.out.on hb)
  clear hb A3 R3
  clear c0 c1 c2 c3 c4 c5 c6 c7 f0 f1 f2 f3 f4 f5 f6 f7
  obtain ⟨⟨c0, c1, c2, c3, c4, c5, c6, c7⟩, f0, f1, f2, f3, f4, f5, f6, f7⟩ := cells8 A4.out.2.1
  go_wp2_with fail
  with_reducible refine (takeanyE_any g l2 e2 l3 e3 qn _ A4.out.iat N2.out D2.out).mono ?_
  rintro en w5 ⟨rfl, hin, hgr⟩
  have A5t := hid (A4.out.turn hin hgr)
  have R5t := hid (R4.out.turn hin hgr)
  clear hin hgr A4 R4
  clear c0 c1 c2 c3 c4 c5 c6 c7 f0 f1 f2 f3 f4 f5 f6 f7
  obtain ⟨⟨c0, c1, c2, c3, c4, c5, c6, c7⟩, f0, f1, f2, f3, f4, f5, f6, f7⟩ := cells8 A5t.out.2.1
  have A5 := hid (A5t.out.set_ 3 (.int .u64 (qn : Int)) ⟨k, (un : Int), strN fb, (qn : Int), ⟨#[]⟩, 0, 0, 0⟩ rfl)
  have R5 := hid (R5t.out.far (p := ⟨w.heap.size, 3, none⟩) (by simp) (Nat.le_refl _) (.int .u64 (qn : Int)))
  clear A5t R5t
  go_wp2_with fail
  with_reducible refine (has_2 ⟨k, (un : Int), strN fb, (qn : Int), ⟨#[]⟩, 0, 0, 0⟩ false _ S2.out A5.out.parts).mono ?_
  rintro e w6 ⟨rfl, hb⟩
  have A6 := hid (A5.out.on hb)
  have R6 := hid (R5.out.on hb)
  clear hb A5 R5
  clear c0 c1 c2 c3 c4 c5 c6 c7 f0 f1 f2 f3 f4 f5 f6 f7
  obtain ⟨⟨c0, c1, c2, c3, c4, c5, c6, c7⟩, f0, f1, f2, f3, f4, f5, f6, f7⟩ := cells8 A6.out.2.1
  go_wp2_with fail
  with_reducible refine (has_3 ⟨k, (un : Int), strN fb, (qn : Int), ⟨#[]⟩, 0, 0, 0⟩ false _ S3.out A6.out.parts).mono ?_
  rintro e w7 ⟨rfl, hb⟩
  have A7 := hid (A6.out.on hb)
  have R7 := hid (R6.out.on hb)
  clear hb A6 R6
  clear c0 c1 c2 c3 c4 c5 c6 c7 f0 f1 f2 f3 f4 f5 f6 f7
  obtain ⟨⟨c0, c1, c2, c3, c4, c5, c6, c7⟩, f0, f1, f2, f3, f4, f5, f6, f7⟩ := cells8 A7.out.2.1
  go_wp2_with fail
  with_reducible refine (has_4 ⟨k, (un : Int), strN fb, (qn : Int), ⟨#[]⟩, 0, 0, 0⟩ false _ S4.out A7.out.parts).mono ?_
  rintro e w8 ⟨rfl, hb⟩
  have A8 := hid (A7.out.on hb)
  have R8 := hid (R7.out.on hb)
  clear hb A7 R7
  clear c0 c1 c2 c3 c4 c5 c6 c7 f0 f1 f2 f3 f4 f5 f6 f7
  obtain ⟨⟨c0, c1, c2, c3, c4, c5, c6, c7⟩, f0, f1, f2, f3, f4, f5, f6, f7⟩ := cells8 A8.out.2.1
  go_wp2_with fail
  with_reducible refine (has_5 ⟨k, (un : Int), strN fb, (qn : Int), ⟨#[]⟩, 0, 0, 0⟩ true _ S5.out A8.out.parts).mono ?_
  rintro e w9 ⟨rfl, hb⟩
  have A9 := hid (A8.out.on hb)
  have R9 := hid (R8.out.on hb)
  clear hb A8 R8
  clear c0 c1 c2 c3 c4 c5 c6 c7 f0 f1 f2 f3 f4 f5 f6 f7
  obtain ⟨⟨c0, c1, c2, c3, c4, c5, c6, c7⟩, f0, f1, f2, f3, f4, f5, f6, f7⟩ := cells8 A9.out.2.1
  go_wp2_with fail
  with_reducible refine (inshort_any g l3 e3 1099511627776 1099511627776 l4 e4 tn _ A9.out.iat N3.out.fine N3.out.bytes N3.out.len rfl D3.out).mono ?_
  rintro en w10 ⟨rfl, hin, hgr⟩
  have A10t := hid (A9.out.turn hin hgr)
  have R10t := hid (R9.out.turn hin hgr)
  clear hin hgr A9 R9
  clear c0 c1 c2 c3 c4 c5 c6 c7 f0 f1 f2 f3 f4 f5 f6 f7
  obtain ⟨⟨c0, c1, c2, c3, c4, c5, c6, c7⟩, f0, f1, f2, f3, f4, f5, f6, f7⟩ := cells8 A10t.out.2.1
  have A10 := hid (A10t.out.set_ 7 (.int .i64 (tn : Int)) ⟨k, (un : Int), strN fb, (qn : Int), ⟨#[]⟩, 0, 0, (tn : Int)⟩ rfl)
  have R10 := hid (R10t.out.far (p := ⟨w.heap.size, 7, none⟩) (by simp) (Nat.le_refl _) (.int .i64 (tn : Int)))
  clear A10t R10t
  obtain ⟨⟨d0, d1, d2, d3, d4, d5, d6, d7⟩, g0, g1, g2, g3, g4, g5, g6, g7⟩ := cells8 R10.out.2.1
  have E := hid (R10.out.put ⟨k, (un : Int), strN fb, (qn : Int), ⟨#[]⟩, 0, 0, (tn : Int)⟩)
  clear R10 A10
  go_wp2
  refine bodyPost_ret (v := val ⟨k, (un : Int), strN fb, (qn : Int), ⟨#[]⟩, 0, 0, (tn : Int)⟩) (by simp [results, Tryd.results51, go_sem, d0, d1, d2, d3, d4, d5, d6, d7]) rfl ⟨rfl, E.out.iat, E.out.grown⟩

set_option maxRecDepth 100000 in
set_option maxHeartbeats 2000000 in
theorem takenE_4 (g : Nat) (k : Int) (l0 : List Nat) (e0 : Nat) (l1 : List Nat) (e1 : Nat) (l2 : List Nat) (e2 : Nat) (l3 : List Nat) (e3 : Nat) (l4 : List Nat) (e4 : Nat) (l5 : List Nat) (e5 : Nat) (un : Nat) (fb : List Nat) (qn : Nat) (pb : List Nat) (mn : Nat) (w : World) (hP : PartsIs w) (hg : 0 < g) (hI : InAt w g l0 e0) (hS : Sound l0 e0) (hs : Sig k true true true true false false) (d0 : sFixed l0 e0 = (l1, e1, un)) (d1 : sText l1 e1 64 = (l2, e2, fb)) (d2 : sShort l2 e2 18446744073709551615 = (l3, e3, qn)) (d3 : sText l3 e3 64 = (l4, e4, pb)) (d4 : sByte l4 e4 = (l5, e5, mn)) :
    Calls Tryd.prog 51 #[val ⟨k, 0, ⟨#[]⟩, 0, ⟨#[]⟩, 0, 0, 0⟩, .pointer (some ⟨g, 0, none⟩)] w (Turns (fun en => en = .returned (val ⟨k, (un : Int), strN fb, (qn : Int), strN pb, (mn : Int), 0, 0⟩)) g l5 e5 w) := by
  obtain ⟨s0, s1, s2, s3, s4, s5⟩ := hs
  have S0 := hid s0
  have S1 := hid s1
  have S2 := hid s2
  have S3 := hid s3
  have S4 := hid s4
  have S5 := hid s5
  have N0 := hid hS
  have N1 : Hid (Sound l1 e1) := hid (sFixed_sound N0.out d0).1
  have D0 := hid d0
  have N2 : Hid (Sound l2 e2) := hid (sText_sound N1.out d1).1
  have D1 := hid d1
  have N3 : Hid (Sound l3 e3) := hid (sShort_sound N2.out d2).1
  have D2 := hid d2
  have N4 : Hid (Sound l4 e4) := hid (sText_sound N3.out d3).1
  have D3 := hid d3
  have N5 : Hid (Sound l5 e5) := hid (sByte_sound N4.out d4).1
  have W2 : IntKind.i64.wrap (mn : Int) = mn := by have := (sByte_sound N4.out d4).2; rw [IntKind.wrap_i64]; omega
  have D4 := hid d4
  have A0 := hid ((TakeE.start hI hP hg ⟨k, 0, ⟨#[]⟩, 0, ⟨#[]⟩, 0, 0, 0⟩).on ((Below.refl _ _).alloc (Nat.le_refl _) (.cells (cellsOf ⟨0, 0, ⟨#[]⟩, 0, ⟨#[]⟩, 0, 0, 0⟩) 30)))
  have R0 : Hid (TakeE w ((w.alloc (.cells (cellsOf ⟨k, 0, ⟨#[]⟩, 0, ⟨#[]⟩, 0, 0, 0⟩) 30)).alloc (.cells (cellsOf ⟨0, 0, ⟨#[]⟩, 0, ⟨#[]⟩, 0, 0, 0⟩) 30)) g (w.heap.size + 1) ⟨0, 0, ⟨#[]⟩, 0, ⟨#[]⟩, 0, 0, 0⟩ l0 e0) := hid ⟨A0.out.1, by have h := Blk.new (w.alloc (.cells (cellsOf ⟨k, 0, ⟨#[]⟩, 0, ⟨#[]⟩, 0, 0, 0⟩) 30)) 30 (cellsOf ⟨0, 0, ⟨#[]⟩, 0, ⟨#[]⟩, 0, 0, 0⟩); simpa using h, by omega, A0.out.2.2.2.1, A0.out.2.2.2.2⟩
  clear s0 s1 s2 s3 s4 s5 hP hg hI hS d0 d1 d2 d3 d4
  go_enter Tryd.func51, Tryd.ntmps51
  go_wp2_with fail
  with_reducible refine (has_0 ⟨k, 0, ⟨#[]⟩, 0, ⟨#[]⟩, 0, 0, 0⟩ true _ S0.out A0.out.parts).mono ?_
  rintro e w1 ⟨rfl, hb⟩
  have A1 := hid (A0.out.on hb)
  have R1 := hid (R0.out.on hb)
  clear hb A0 R0
  obtain ⟨⟨c0, c1, c2, c3, c4, c5, c6, c7⟩, f0, f1, f2, f3, f4, f5, f6, f7⟩ := cells8 A1.out.2.1
  go_wp2_with fail
  with_reducible refine (infixed_any g l0 e0 l1 e1 un _ A1.out.iat N0.out.fine N0.out.bytes D0.out).mono ?_
  rintro en w2 ⟨rfl, hin, hgr⟩
  have A2t := hid (A1.out.turn hin hgr)
  have R2t := hid (R1.out.turn hin hgr)
  clear hin hgr A1 R1
  clear c0 c1 c2 c3 c4 c5 c6 c7 f0 f1 f2 f3 f4 f5 f6 f7
  obtain ⟨⟨c0, c1, c2, c3, c4, c5, c6, c7⟩, f0, f1, f2, f3, f4, f5, f6, f7⟩ := cells8 A2t.out.2.1
  have A2 := hid (A2t.out.set_ 1 (.int .u64 (un : Int)) ⟨k, (un : Int), ⟨#[]⟩, 0, ⟨#[]⟩, 0, 0, 0⟩ rfl)
  have R2 := hid (R2t.out.far (p := ⟨w.heap.size, 1, none⟩) (by simp) (Nat.le_refl _) (.int .u64 (un : Int)))
  clear A2t R2t
  go_wp2_with fail
  with_reducible refine (intext_any g l1 e1 64 64 l2 e2 fb _ A2.out.iat N1.out.fine N1.out.bytes N1.out.len rfl (by decide) D1.out).mono ?_
  rintro en w3 ⟨rfl, hin, hgr⟩
  have A3t := hid (A2.out.turn hin hgr)
  have R3t := hid (R2.out.turn hin hgr)
  clear hin hgr A2 R2
  clear c0 c1 c2 c3 c4 c5 c6 c7 f0 f1 f2 f3 f4 f5 f6 f7
  obtain ⟨⟨c0, c1, c2, c3, c4, c5, c6, c7⟩, f0, f1, f2, f3, f4, f5, f6, f7⟩ := cells8 A3t.out.2.1
  have A3 := hid (A3t.out.set_ 2 (.string (strN fb)) ⟨k, (un : Int), strN fb, 0, ⟨#[]⟩, 0, 0, 0⟩ rfl)
  have R3 := hid (R3t.out.far (p := ⟨w.heap.size, 2, none⟩) (by simp) (Nat.le_refl _) (.string (strN fb)))
  clear A3t R3t
  go_wp2_with fail
  with_reducible refine (has_1 ⟨k, (un : Int), strN fb, 0, ⟨#[]⟩, 0, 0, 0⟩ true _ S1.out A3.out.parts).mono ?_
  rintro e w4 ⟨rfl, hb⟩
  have A4 := hid (A3.out.on hb)
  have R4 := hid (R3.out.on hb)
  clear hb A3 R3
  clear c0 c1 c2 c3 c4 c5 c6 c7 f0 f1 f2 f3 f4 f5 f6 f7
  obtain ⟨⟨c0, c1, c2, c3, c4, c5, c6, c7⟩, f0, f1, f2, f3, f4, f5, f6, f7⟩ := cells8 A4.out.2.1
  go_wp2_with fail
  with_reducible refine (takeanyE_any g l2 e2 l3 e3 qn _ A4.out.iat N2.out D2.out).mono ?_
  rintro en w5 ⟨rfl, hin, hgr⟩
  have A5t := hid (A4.out.turn hin hgr)
  have R5t := hid (R4.out.turn hin hgr)
  clear hin hgr A4 R4
  clear c0 c1 c2 c3 c4 c5 c6 c7 f0 f1 f2 f3 f4 f5 f6 f7
  obtain ⟨⟨c0, c1, c2, c3, c4, c5, c6, c7⟩, f0, f1, f2, f3, f4, f5, f6, f7⟩ := cells8 A5t.out.2.1
  have A5 := hid (A5t.out.set_ 3 (.int .u64 (qn : Int)) ⟨k, (un : Int), strN fb, (qn : Int), ⟨#[]⟩, 0, 0, 0⟩ rfl)
  have R5 := hid (R5t.out.far (p := ⟨w.heap.size, 3, none⟩) (by simp) (Nat.le_refl _) (.int .u64 (qn : Int)))
  clear A5t R5t
  go_wp2_with fail
  with_reducible refine (has_2 ⟨k, (un : Int), strN fb, (qn : Int), ⟨#[]⟩, 0, 0, 0⟩ true _ S2.out A5.out.parts).mono ?_
  rintro e w6 ⟨rfl, hb⟩
  have A6 := hid (A5.out.on hb)
  have R6 := hid (R5.out.on hb)
  clear hb A5 R5
  clear c0 c1 c2 c3 c4 c5 c6 c7 f0 f1 f2 f3 f4 f5 f6 f7
  obtain ⟨⟨c0, c1, c2, c3, c4, c5, c6, c7⟩, f0, f1, f2, f3, f4, f5, f6, f7⟩ := cells8 A6.out.2.1
  go_wp2_with fail
  with_reducible refine (intext_any g l3 e3 64 64 l4 e4 pb _ A6.out.iat N3.out.fine N3.out.bytes N3.out.len rfl (by decide) D3.out).mono ?_
  rintro en w7 ⟨rfl, hin, hgr⟩
  have A7t := hid (A6.out.turn hin hgr)
  have R7t := hid (R6.out.turn hin hgr)
  clear hin hgr A6 R6
  clear c0 c1 c2 c3 c4 c5 c6 c7 f0 f1 f2 f3 f4 f5 f6 f7
  obtain ⟨⟨c0, c1, c2, c3, c4, c5, c6, c7⟩, f0, f1, f2, f3, f4, f5, f6, f7⟩ := cells8 A7t.out.2.1
  have A7 := hid (A7t.out.set_ 4 (.string (strN pb)) ⟨k, (un : Int), strN fb, (qn : Int), strN pb, 0, 0, 0⟩ rfl)
  have R7 := hid (R7t.out.far (p := ⟨w.heap.size, 4, none⟩) (by simp) (Nat.le_refl _) (.string (strN pb)))
  clear A7t R7t
  go_wp2_with fail
  with_reducible refine (has_3 ⟨k, (un : Int), strN fb, (qn : Int), strN pb, 0, 0, 0⟩ true _ S3.out A7.out.parts).mono ?_
  rintro e w8 ⟨rfl, hb⟩
  have A8 := hid (A7.out.on hb)
  have R8 := hid (R7.out.on hb)
  clear hb A7 R7
  clear c0 c1 c2 c3 c4 c5 c6 c7 f0 f1 f2 f3 f4 f5 f6 f7
  obtain ⟨⟨c0, c1, c2, c3, c4, c5, c6, c7⟩, f0, f1, f2, f3, f4, f5, f6, f7⟩ := cells8 A8.out.2.1
  go_wp2_with fail
  with_reducible refine (byte_any g l4 e4 l5 e5 mn _ A8.out.iat N4.out.fine D4.out).mono ?_
  rintro en w9 ⟨rfl, hin, hgr⟩
  have A9t := hid (A8.out.turn hin hgr)
  have R9t := hid (R8.out.turn hin hgr)
  clear hin hgr A8 R8
  clear c0 c1 c2 c3 c4 c5 c6 c7 f0 f1 f2 f3 f4 f5 f6 f7
  obtain ⟨⟨c0, c1, c2, c3, c4, c5, c6, c7⟩, f0, f1, f2, f3, f4, f5, f6, f7⟩ := cells8 A9t.out.2.1
  have A9 := hid (A9t.out.set_ 5 (.int .i64 (mn : Int)) ⟨k, (un : Int), strN fb, (qn : Int), strN pb, (mn : Int), 0, 0⟩ rfl)
  have R9 := hid (R9t.out.far (p := ⟨w.heap.size, 5, none⟩) (by simp) (Nat.le_refl _) (.int .i64 (mn : Int)))
  clear A9t R9t
  go_wp2_with fail
  with_reducible refine (has_4 ⟨k, (un : Int), strN fb, (qn : Int), strN pb, (mn : Int), 0, 0⟩ false _ S4.out A9.out.parts).mono ?_
  rintro e w10 ⟨rfl, hb⟩
  have A10 := hid (A9.out.on hb)
  have R10 := hid (R9.out.on hb)
  clear hb A9 R9
  clear c0 c1 c2 c3 c4 c5 c6 c7 f0 f1 f2 f3 f4 f5 f6 f7
  obtain ⟨⟨c0, c1, c2, c3, c4, c5, c6, c7⟩, f0, f1, f2, f3, f4, f5, f6, f7⟩ := cells8 A10.out.2.1
  go_wp2_with fail
  with_reducible refine (has_5 ⟨k, (un : Int), strN fb, (qn : Int), strN pb, (mn : Int), 0, 0⟩ false _ S5.out A10.out.parts).mono ?_
  rintro e w11 ⟨rfl, hb⟩
  have A11 := hid (A10.out.on hb)
  have R11 := hid (R10.out.on hb)
  clear hb A10 R10
  clear c0 c1 c2 c3 c4 c5 c6 c7 f0 f1 f2 f3 f4 f5 f6 f7
  obtain ⟨⟨c0, c1, c2, c3, c4, c5, c6, c7⟩, f0, f1, f2, f3, f4, f5, f6, f7⟩ := cells8 A11.out.2.1
  obtain ⟨⟨d0, d1, d2, d3, d4, d5, d6, d7⟩, g0, g1, g2, g3, g4, g5, g6, g7⟩ := cells8 R11.out.2.1
  have E := hid (R11.out.put ⟨k, (un : Int), strN fb, (qn : Int), strN pb, (mn : Int), 0, 0⟩)
  clear R11 A11
  go_wp2
  refine bodyPost_ret (v := val ⟨k, (un : Int), strN fb, (qn : Int), strN pb, (mn : Int), 0, 0⟩) (by simp [results, Tryd.results51, go_sem, d0, d1, d2, d3, d4, d5, d6, d7]) rfl ⟨rfl, E.out.iat, E.out.grown⟩

set_option maxRecDepth 100000 in
set_option maxHeartbeats 2000000 in
theorem takenE_6 (g : Nat) (k : Int) (l0 : List Nat) (e0 : Nat) (l1 : List Nat) (e1 : Nat) (l2 : List Nat) (e2 : Nat) (l3 : List Nat) (e3 : Nat) (l4 : List Nat) (e4 : Nat) (un : Nat) (fb : List Nat) (qn : Nat) (pb : List Nat) (w : World) (hP : PartsIs w) (hg : 0 < g) (hI : InAt w g l0 e0) (hS : Sound l0 e0) (hs : Sig k true true true false false false) (d0 : sFixed l0 e0 = (l1, e1, un)) (d1 : sText l1 e1 64 = (l2, e2, fb)) (d2 : sShort l2 e2 18446744073709551615 = (l3, e3, qn)) (d3 : sText l3 e3 64 = (l4, e4, pb)) :
    Calls Tryd.prog 51 #[val ⟨k, 0, ⟨#[]⟩, 0, ⟨#[]⟩, 0, 0, 0⟩, .pointer (some ⟨g, 0, none⟩)] w (Turns (fun en => en = .returned (val ⟨k, (un : Int), strN fb, (qn : Int), strN pb, 0, 0, 0⟩)) g l4 e4 w) := by
  obtain ⟨s0, s1, s2, s3, s4, s5⟩ := hs
  have S0 := hid s0
  have S1 := hid s1
  have S2 := hid s2
  have S3 := hid s3
  have S4 := hid s4
  have S5 := hid s5
  have N0 := hid hS
  have N1 : Hid (Sound l1 e1) := hid (sFixed_sound N0.out d0).1
  have D0 := hid d0
  have N2 : Hid (Sound l2 e2) := hid (sText_sound N1.out d1).1
  have D1 := hid d1
  have N3 : Hid (Sound l3 e3) := hid (sShort_sound N2.out d2).1
  have D2 := hid d2
  have N4 : Hid (Sound l4 e4) := hid (sText_sound N3.out d3).1
  have D3 := hid d3
  have A0 := hid ((TakeE.start hI hP hg ⟨k, 0, ⟨#[]⟩, 0, ⟨#[]⟩, 0, 0, 0⟩).on ((Below.refl _ _).alloc (Nat.le_refl _) (.cells (cellsOf ⟨0, 0, ⟨#[]⟩, 0, ⟨#[]⟩, 0, 0, 0⟩) 30)))
  have R0 : Hid (TakeE w ((w.alloc (.cells (cellsOf ⟨k, 0, ⟨#[]⟩, 0, ⟨#[]⟩, 0, 0, 0⟩) 30)).alloc (.cells (cellsOf ⟨0, 0, ⟨#[]⟩, 0, ⟨#[]⟩, 0, 0, 0⟩) 30)) g (w.heap.size + 1) ⟨0, 0, ⟨#[]⟩, 0, ⟨#[]⟩, 0, 0, 0⟩ l0 e0) := hid ⟨A0.out.1, by have h := Blk.new (w.alloc (.cells (cellsOf ⟨k, 0, ⟨#[]⟩, 0, ⟨#[]⟩, 0, 0, 0⟩) 30)) 30 (cellsOf ⟨0, 0, ⟨#[]⟩, 0, ⟨#[]⟩, 0, 0, 0⟩); simpa using h, by omega, A0.out.2.2.2.1, A0.out.2.2.2.2⟩
  clear s0 s1 s2 s3 s4 s5 hP hg hI hS d0 d1 d2 d3
  go_enter Tryd.func51, Tryd.ntmps51
  go_wp2_with fail
  with_reducible refine (has_0 ⟨k, 0, ⟨#[]⟩, 0, ⟨#[]⟩, 0, 0, 0⟩ true _ S0.out A0.out.parts).mono ?_
  rintro e w1 ⟨rfl, hb⟩
  have A1 := hid (A0.out.on hb)
  have R1 := hid (R0.out.on hb)
  clear hb A0 R0
  obtain ⟨⟨c0, c1, c2, c3, c4, c5, c6, c7⟩, f0, f1, f2, f3, f4, f5, f6, f7⟩ := cells8 A1.out.2.1
  go_wp2_with fail
  with_reducible refine (infixed_any g l0 e0 l1 e1 un _ A1.out.iat N0.out.fine N0.out.bytes D0.out).mono ?_
  rintro en w2 ⟨rfl, hin, hgr⟩
  have A2t := hid (A1.out.turn hin hgr)
  have R2t := hid (R1.out.turn hin hgr)
  clear hin hgr A1 R1
  clear c0 c1 c2 c3 c4 c5 c6 c7 f0 f1 f2 f3 f4 f5 f6 f7
  obtain ⟨⟨c0, c1, c2, c3, c4, c5, c6, c7⟩, f0, f1, f2, f3, f4, f5, f6, f7⟩ := cells8 A2t.out.2.1
  have A2 := hid (A2t.out.set_ 1 (.int .u64 (un : Int)) ⟨k, (un : Int), ⟨#[]⟩, 0, ⟨#[]⟩, 0, 0, 0⟩ rfl)
  have R2 := hid (R2t.out.far (p := ⟨w.heap.size, 1, none⟩) (by simp) (Nat.le_refl _) (.int .u64 (un : Int)))
  clear A2t R2t
  go_wp2_with fail
  with_reducible refine (intext_any g l1 e1 64 64 l2 e2 fb _ A2.out.iat N1.out.fine N1.out.bytes N1.out.len rfl (by decide) D1.out).mono ?_
  rintro en w3 ⟨rfl, hin, hgr⟩
  have A3t := hid (A2.out.turn hin hgr)
  have R3t := hid (R2.out.turn hin hgr)
  clear hin hgr A2 R2
  clear c0 c1 c2 c3 c4 c5 c6 c7 f0 f1 f2 f3 f4 f5 f6 f7
  obtain ⟨⟨c0, c1, c2, c3, c4, c5, c6, c7⟩, f0, f1, f2, f3, f4, f5, f6, f7⟩ := cells8 A3t.out.2.1
  have A3 := hid (A3t.out.set_ 2 (.string (strN fb)) ⟨k, (un : Int), strN fb, 0, ⟨#[]⟩, 0, 0, 0⟩ rfl)
  have R3 := hid (R3t.out.far (p := ⟨w.heap.size, 2, none⟩) (by simp) (Nat.le_refl _) (.string (strN fb)))
  clear A3t R3t
  go_wp2_with fail
  with_reducible refine (has_1 ⟨k, (un : Int), strN fb, 0, ⟨#[]⟩, 0, 0, 0⟩ true _ S1.out A3.out.parts).mono ?_
  rintro e w4 ⟨rfl, hb⟩
  have A4 := hid (A3.out.on hb)
  have R4 := hid (R3.out.on hb)
  clear hb A3 R3
  clear c0 c1 c2 c3 c4 c5 c6 c7 f0 f1 f2 f3 f4 f5 f6 f7
  obtain ⟨⟨c0, c1, c2, c3, c4, c5, c6, c7⟩, f0, f1, f2, f3, f4, f5, f6, f7⟩ := cells8 A4.out.2.1
  go_wp2_with fail
  with_reducible refine (takeanyE_any g l2 e2 l3 e3 qn _ A4.out.iat N2.out D2.out).mono ?_
  rintro en w5 ⟨rfl, hin, hgr⟩
  have A5t := hid (A4.out.turn hin hgr)
  have R5t := hid (R4.out.turn hin hgr)
  clear hin hgr A4 R4
  clear c0 c1 c2 c3 c4 c5 c6 c7 f0 f1 f2 f3 f4 f5 f6 f7
  obtain ⟨⟨c0, c1, c2, c3, c4, c5, c6, c7⟩, f0, f1, f2, f3, f4, f5, f6, f7⟩ := cells8 A5t.out.2.1
  have A5 := hid (A5t.out.set_ 3 (.int .u64 (qn : Int)) ⟨k, (un : Int), strN fb, (qn : Int), ⟨#[]⟩, 0, 0, 0⟩ rfl)
  have R5 := hid (R5t.out.far (p := ⟨w.heap.size, 3, none⟩) (by simp) (Nat.le_refl _) (.int .u64 (qn : Int)))
  clear A5t R5t
  go_wp2_with fail
  with_reducible refine (has_2 ⟨k, (un : Int), strN fb, (qn : Int), ⟨#[]⟩, 0, 0, 0⟩ true _ S2.out A5.out.parts).mono ?_
  rintro e w6 ⟨rfl, hb⟩
  have A6 := hid (A5.out.on hb)
  have R6 := hid (R5.out.on hb)
  clear hb A5 R5
  clear c0 c1 c2 c3 c4 c5 c6 c7 f0 f1 f2 f3 f4 f5 f6 f7
  obtain ⟨⟨c0, c1, c2, c3, c4, c5, c6, c7⟩, f0, f1, f2, f3, f4, f5, f6, f7⟩ := cells8 A6.out.2.1
  go_wp2_with fail
  with_reducible refine (intext_any g l3 e3 64 64 l4 e4 pb _ A6.out.iat N3.out.fine N3.out.bytes N3.out.len rfl (by decide) D3.out).mono ?_
  rintro en w7 ⟨rfl, hin, hgr⟩
  have A7t := hid (A6.out.turn hin hgr)
  have R7t := hid (R6.out.turn hin hgr)
  clear hin hgr A6 R6
  clear c0 c1 c2 c3 c4 c5 c6 c7 f0 f1 f2 f3 f4 f5 f6 f7
  obtain ⟨⟨c0, c1, c2, c3, c4, c5, c6, c7⟩, f0, f1, f2, f3, f4, f5, f6, f7⟩ := cells8 A7t.out.2.1
  have A7 := hid (A7t.out.set_ 4 (.string (strN pb)) ⟨k, (un : Int), strN fb, (qn : Int), strN pb, 0, 0, 0⟩ rfl)
  have R7 := hid (R7t.out.far (p := ⟨w.heap.size, 4, none⟩) (by simp) (Nat.le_refl _) (.string (strN pb)))
  clear A7t R7t
  go_wp2_with fail
  with_reducible refine (has_3 ⟨k, (un : Int), strN fb, (qn : Int), strN pb, 0, 0, 0⟩ false _ S3.out A7.out.parts).mono ?_
  rintro e w8 ⟨rfl, hb⟩
  have A8 := hid (A7.out.on hb)
  have R8 := hid (R7.out.on hb)
  clear hb A7 R7
  clear c0 c1 c2 c3 c4 c5 c6 c7 f0 f1 f2 f3 f4 f5 f6 f7
  obtain ⟨⟨c0, c1, c2, c3, c4, c5, c6, c7⟩, f0, f1, f2, f3, f4, f5, f6, f7⟩ := cells8 A8.out.2.1
  go_wp2_with fail
  with_reducible refine (has_4 ⟨k, (un : Int), strN fb, (qn : Int), strN pb, 0, 0, 0⟩ false _ S4.out A8.out.parts).mono ?_
  rintro e w9 ⟨rfl, hb⟩
  have A9 := hid (A8.out.on hb)
  have R9 := hid (R8.out.on hb)
  clear hb A8 R8
  clear c0 c1 c2 c3 c4 c5 c6 c7 f0 f1 f2 f3 f4 f5 f6 f7
  obtain ⟨⟨c0, c1, c2, c3, c4, c5, c6, c7⟩, f0, f1, f2, f3, f4, f5, f6, f7⟩ := cells8 A9.out.2.1
  go_wp2_with fail
  with_reducible refine (has_5 ⟨k, (un : Int), strN fb, (qn : Int), strN pb, 0, 0, 0⟩ false _ S5.out A9.out.parts).mono ?_
  rintro e w10 ⟨rfl, hb⟩
  have A10 := hid (A9.out.on hb)
  have R10 := hid (R9.out.on hb)
  clear hb A9 R9
  clear c0 c1 c2 c3 c4 c5 c6 c7 f0 f1 f2 f3 f4 f5 f6 f7
  obtain ⟨⟨c0, c1, c2, c3, c4, c5, c6, c7⟩, f0, f1, f2, f3, f4, f5, f6, f7⟩ := cells8 A10.out.2.1
  obtain ⟨⟨d0, d1, d2, d3, d4, d5, d6, d7⟩, g0, g1, g2, g3, g4, g5, g6, g7⟩ := cells8 R10.out.2.1
  have E := hid (R10.out.put ⟨k, (un : Int), strN fb, (qn : Int), strN pb, 0, 0, 0⟩)
  clear R10 A10
  go_wp2
  refine bodyPost_ret (v := val ⟨k, (un : Int), strN fb, (qn : Int), strN pb, 0, 0, 0⟩) (by simp [results, Tryd.results51, go_sem, d0, d1, d2, d3, d4, d5, d6, d7]) rfl ⟨rfl, E.out.iat, E.out.grown⟩

set_option maxRecDepth 100000 in
set_option maxHeartbeats 2000000 in
theorem takenE_7 (g : Nat) (k : Int) (l0 : List Nat) (e0 : Nat) (l1 : List Nat) (e1 : Nat) (l2 : List Nat) (e2 : Nat) (l3 : List Nat) (e3 : Nat) (l4 : List Nat) (e4 : Nat) (l5 : List Nat) (e5 : Nat) (un : Nat) (fb : List Nat) (qn : Nat) (pb : List Nat) (nn : Nat) (w : World) (hP : PartsIs w) (hg : 0 < g) (hI : InAt w g l0 e0) (hS : Sound l0 e0) (hs : Sig k true true true false true false) (d0 : sFixed l0 e0 = (l1, e1, un)) (d1 : sText l1 e1 64 = (l2, e2, fb)) (d2 : sShort l2 e2 18446744073709551615 = (l3, e3, qn)) (d3 : sText l3 e3 64 = (l4, e4, pb)) (d4 : sShort l4 e4 18446744073709551615 = (l5, e5, nn)) :
    Calls Tryd.prog 51 #[val ⟨k, 0, ⟨#[]⟩, 0, ⟨#[]⟩, 0, 0, 0⟩, .pointer (some ⟨g, 0, none⟩)] w (Turns (fun en => en = .returned (val ⟨k, (un : Int), strN fb, (qn : Int), strN pb, 0, (nn : Int), 0⟩)) g l5 e5 w) := by
  obtain ⟨s0, s1, s2, s3, s4, s5⟩ := hs
  have S0 := hid s0
  have S1 := hid s1
  have S2 := hid s2
  have S3 := hid s3
  have S4 := hid s4
  have S5 := hid s5
  have N0 := hid hS
  have N1 : Hid (Sound l1 e1) := hid (sFixed_sound N0.out d0).1
  have D0 := hid d0
  have N2 : Hid (Sound l2 e2) := hid (sText_sound N1.out d1).1
  have D1 := hid d1
  have N3 : Hid (Sound l3 e3) := hid (sShort_sound N2.out d2).1
  have D2 := hid d2
  have N4 : Hid (Sound l4 e4) := hid (sText_sound N3.out d3).1
  have D3 := hid d3
  have N5 : Hid (Sound l5 e5) := hid (sShort_sound N4.out d4).1
  have D4 := hid d4
  have A0 := hid ((TakeE.start hI hP hg ⟨k, 0, ⟨#[]⟩, 0, ⟨#[]⟩, 0, 0, 0⟩).on ((Below.refl _ _).alloc (Nat.le_refl _) (.cells (cellsOf ⟨0, 0, ⟨#[]⟩, 0, ⟨#[]⟩, 0, 0, 0⟩) 30)))
  have R0 : Hid (TakeE w ((w.alloc (.cells (cellsOf ⟨k, 0, ⟨#[]⟩, 0, ⟨#[]⟩, 0, 0, 0⟩) 30)).alloc (.cells (cellsOf ⟨0, 0, ⟨#[]⟩, 0, ⟨#[]⟩, 0, 0, 0⟩) 30)) g (w.heap.size + 1) ⟨0, 0, ⟨#[]⟩, 0, ⟨#[]⟩, 0, 0, 0⟩ l0 e0) := hid ⟨A0.out.1, by have h := Blk.new (w.alloc (.cells (cellsOf ⟨k, 0, ⟨#[]⟩, 0, ⟨#[]⟩, 0, 0, 0⟩) 30)) 30 (cellsOf ⟨0, 0, ⟨#[]⟩, 0, ⟨#[]⟩, 0, 0, 0⟩); simpa using h, by omega, A0.out.2.2.2.1, A0.out.2.2.2.2⟩
  clear s0 s1 s2 s3 s4 s5 hP hg hI hS d0 d1 d2 d3 d4
  go_enter Tryd.func51, Tryd.ntmps51
  go_wp2_with fail
  with_reducible refine (has_0 ⟨k, 0, ⟨#[]⟩, 0, ⟨#[]⟩, 0, 0, 0⟩ true _ S0.out A0.out.parts).mono ?_
  rintro e w1 ⟨rfl, hb⟩
  have A1 := hid (A0.out.on hb)
  have R1 := hid (R0.out.on hb)
  clear hb A0 R0
  obtain ⟨⟨c0, c1, c2, c3, c4, c5, c6, c7⟩, f0, f1, f2, f3, f4, f5, f6, f7⟩ := cells8 A1.out.2.1
  go_wp2_with fail
  with_reducible refine (infixed_any g l0 e0 l1 e1 un _ A1.out.iat N0.out.fine N0.out.bytes D0.out).mono ?_
  rintro en w2 ⟨rfl, hin, hgr⟩
  have A2t := hid (A1.out.turn hin hgr)
  have R2t := hid (R1.out.turn hin hgr)
  clear hin hgr A1 R1
  clear c0 c1 c2 c3 c4 c5 c6 c7 f0 f1 f2 f3 f4 f5 f6 f7
  obtain ⟨⟨c0, c1, c2, c3, c4, c5, c6, c7⟩, f0, f1, f2, f3, f4, f5, f6, f7⟩ := cells8 A2t.out.2.1
  have A2 := hid (A2t.out.set_ 1 (.int .u64 (un : Int)) ⟨k, (un : Int), ⟨#[]⟩, 0, ⟨#[]⟩, 0, 0, 0⟩ rfl)
  have R2 := hid (R2t.out.far (p := ⟨w.heap.size, 1, none⟩) (by simp) (Nat.le_refl _) (.int .u64 (un : Int)))
  clear A2t R2t
  go_wp2_with fail
  with_reducible refine (intext_any g l1 e1 64 64 l2 e2 fb _ A2.out.iat N1.out.fine N1.out.bytes N1.out.len rfl (by decide) D1.out).mono ?_
  rintro en w3 ⟨rfl, hin, hgr⟩
  have A3t := hid (A2.out.turn hin hgr)
  have R3t := hid (R2.out.turn hin hgr)
  clear hin hgr A2 R2
  clear c0 c1 c2 c3 c4 c5 c6 c7 f0 f1 f2 f3 f4 f5 f6 f7
  obtain ⟨⟨c0, c1, c2, c3, c4, c5, c6, c7⟩, f0, f1, f2, f3, f4, f5, f6, f7⟩ := cells8 A3t.out.2.1
  have A3 := hid (A3t.out.set_ 2 (.string (strN fb)) ⟨k, (un : Int), strN fb, 0, ⟨#[]⟩, 0, 0, 0⟩ rfl)
  have R3 := hid (R3t.out.far (p := ⟨w.heap.size, 2, none⟩) (by simp) (Nat.le_refl _) (.string (strN fb)))
  clear A3t R3t
  go_wp2_with fail
  with_reducible refine (has_1 ⟨k, (un : Int), strN fb, 0, ⟨#[]⟩, 0, 0, 0⟩ true _ S1.out A3.out.parts).mono ?_
  rintro e w4 ⟨rfl, hb⟩
  have A4 := hid (A3.out.on hb)
  have R4 := hid (R3.out.on hb)
  clear hb A3 R3
  clear c0 c1 c2 c3 c4 c5 c6 c7 f0 f1 f2 f3 f4 f5 f6 f7
  obtain ⟨⟨c0, c1, c2, c3, c4, c5, c6, c7⟩, f0, f1, f2, f3, f4, f5, f6, f7⟩ := cells8 A4.out.2.1
  go_wp2_with fail
  with_reducible refine (takeanyE_any g l2 e2 l3 e3 qn _ A4.out.iat N2.out D2.out).mono ?_
  rintro en w5 ⟨rfl, hin, hgr⟩
  have A5t := hid (A4.out.turn hin hgr)
  have R5t := hid (R4.out.turn hin hgr)
  clear hin hgr A4 R4
  clear c0 c1 c2 c3 c4 c5 c6 c7 f0 f1 f2 f3 f4 f5 f6 f7
  obtain ⟨⟨c0, c1, c2, c3, c4, c5, c6, c7⟩, f0, f1, f2, f3, f4, f5, f6, f7⟩ := cells8 A5t.out.2.1
  have A5 := hid (A5t.out.set_ 3 (.int .u64 (qn : Int)) ⟨k, (un : Int), strN fb, (qn : Int), ⟨#[]⟩, 0, 0, 0⟩ rfl)
  have R5 := hid (R5t.out.far (p := ⟨w.heap.size, 3, none⟩) (by simp) (Nat.le_refl _) (.int .u64 (qn : Int)))
  clear A5t R5t
  go_wp2_with fail
  with_reducible refine (has_2 ⟨k, (un : Int), strN fb, (qn : Int), ⟨#[]⟩, 0, 0, 0⟩ true _ S2.out A5.out.parts).mono ?_
  rintro e w6 ⟨rfl, hb⟩
  have A6 := hid (A5.out.on hb)
  have R6 := hid (R5.out.on hb)
  clear hb A5 R5
  clear c0 c1 c2 c3 c4 c5 c6 c7 f0 f1 f2 f3 f4 f5 f6 f7
  obtain ⟨⟨c0, c1, c2, c3, c4, c5, c6, c7⟩, f0, f1, f2, f3, f4, f5, f6, f7⟩ := cells8 A6.out.2.1
  go_wp2_with fail
  with_reducible refine (intext_any g l3 e3 64 64 l4 e4 pb _ A6.out.iat N3.out.fine N3.out.bytes N3.out.len rfl (by decide) D3.out).mono ?_
  rintro en w7 ⟨rfl, hin, hgr⟩
  have A7t := hid (A6.out.turn hin hgr)
  have R7t := hid (R6.out.turn hin hgr)
  clear hin hgr A6 R6
  clear c0 c1 c2 c3 c4 c5 c6 c7 f0 f1 f2 f3 f4 f5 f6 f7
  obtain ⟨⟨c0, c1, c2, c3, c4, c5, c6, c7⟩, f0, f1, f2, f3, f4, f5, f6, f7⟩ := cells8 A7t.out.2.1
  have A7 := hid (A7t.out.set_ 4 (.string (strN pb)) ⟨k, (un : Int), strN fb, (qn : Int), strN pb, 0, 0, 0⟩ rfl)
  have R7 := hid (R7t.out.far (p := ⟨w.heap.size, 4, none⟩) (by simp) (Nat.le_refl _) (.string (strN pb)))
  clear A7t R7t
  go_wp2_with fail
  with_reducible refine (has_3 ⟨k, (un : Int), strN fb, (qn : Int), strN pb, 0, 0, 0⟩ false _ S3.out A7.out.parts).mono ?_
  rintro e w8 ⟨rfl, hb⟩
  have A8 := hid (A7.out.on hb)
  have R8 := hid (R7.out.on hb)
  clear hb A7 R7
  clear c0 c1 c2 c3 c4 c5 c6 c7 f0 f1 f2 f3 f4 f5 f6 f7
  obtain ⟨⟨c0, c1, c2, c3, c4, c5, c6, c7⟩, f0, f1, f2, f3, f4, f5, f6, f7⟩ := cells8 A8.out.2.1
  go_wp2_with fail
  with_reducible refine (has_4 ⟨k, (un : Int), strN fb, (qn : Int), strN pb, 0, 0, 0⟩ true _ S4.out A8.out.parts).mono ?_
  rintro e w9 ⟨rfl, hb⟩
  have A9 := hid (A8.out.on hb)
  have R9 := hid (R8.out.on hb)
  clear hb A8 R8
  clear c0 c1 c2 c3 c4 c5 c6 c7 f0 f1 f2 f3 f4 f5 f6 f7
  obtain ⟨⟨c0, c1, c2, c3, c4, c5, c6, c7⟩, f0, f1, f2, f3, f4, f5, f6, f7⟩ := cells8 A9.out.2.1
  go_wp2_with fail
  with_reducible refine (takeanyE_any g l4 e4 l5 e5 nn _ A9.out.iat N4.out D4.out).mono ?_
  rintro en w10 ⟨rfl, hin, hgr⟩
  have A10t := hid (A9.out.turn hin hgr)
  have R10t := hid (R9.out.turn hin hgr)
  clear hin hgr A9 R9
  clear c0 c1 c2 c3 c4 c5 c6 c7 f0 f1 f2 f3 f4 f5 f6 f7
  obtain ⟨⟨c0, c1, c2, c3, c4, c5, c6, c7⟩, f0, f1, f2, f3, f4, f5, f6, f7⟩ := cells8 A10t.out.2.1
  have A10 := hid (A10t.out.set_ 6 (.int .u64 (nn : Int)) ⟨k, (un : Int), strN fb, (qn : Int), strN pb, 0, (nn : Int), 0⟩ rfl)
  have R10 := hid (R10t.out.far (p := ⟨w.heap.size, 6, none⟩) (by simp) (Nat.le_refl _) (.int .u64 (nn : Int)))
  clear A10t R10t
  go_wp2_with fail
  with_reducible refine (has_5 ⟨k, (un : Int), strN fb, (qn : Int), strN pb, 0, (nn : Int), 0⟩ false _ S5.out A10.out.parts).mono ?_
  rintro e w11 ⟨rfl, hb⟩
  have A11 := hid (A10.out.on hb)
  have R11 := hid (R10.out.on hb)
  clear hb A10 R10
  clear c0 c1 c2 c3 c4 c5 c6 c7 f0 f1 f2 f3 f4 f5 f6 f7
  obtain ⟨⟨c0, c1, c2, c3, c4, c5, c6, c7⟩, f0, f1, f2, f3, f4, f5, f6, f7⟩ := cells8 A11.out.2.1
  obtain ⟨⟨d0, d1, d2, d3, d4, d5, d6, d7⟩, g0, g1, g2, g3, g4, g5, g6, g7⟩ := cells8 R11.out.2.1
  have E := hid (R11.out.put ⟨k, (un : Int), strN fb, (qn : Int), strN pb, 0, (nn : Int), 0⟩)
  clear R11 A11
  go_wp2
  refine bodyPost_ret (v := val ⟨k, (un : Int), strN fb, (qn : Int), strN pb, 0, (nn : Int), 0⟩) (by simp [results, Tryd.results51, go_sem, d0, d1, d2, d3, d4, d5, d6, d7]) rfl ⟨rfl, E.out.iat, E.out.grown⟩

set_option maxRecDepth 100000 in
set_option maxHeartbeats 2000000 in
theorem takenE_8 (g : Nat) (k : Int) (l0 : List Nat) (e0 : Nat) (l1 : List Nat) (e1 : Nat) (l2 : List Nat) (e2 : Nat) (l3 : List Nat) (e3 : Nat) (un : Nat) (fb : List Nat) (tn : Nat) (w : World) (hP : PartsIs w) (hg : 0 < g) (hI : InAt w g l0 e0) (hS : Sound l0 e0) (hs : Sig k true false false false false true) (d0 : sFixed l0 e0 = (l1, e1, un)) (d1 : sText l1 e1 64 = (l2, e2, fb)) (d2 : sShort l2 e2 1099511627776 = (l3, e3, tn)) :
    Calls Tryd.prog 51 #[val ⟨k, 0, ⟨#[]⟩, 0, ⟨#[]⟩, 0, 0, 0⟩, .pointer (some ⟨g, 0, none⟩)] w (Turns (fun en => en = .returned (val ⟨k, (un : Int), strN fb, 0, ⟨#[]⟩, 0, 0, (tn : Int)⟩)) g l3 e3 w) := by
  obtain ⟨s0, s1, s2, s3, s4, s5⟩ := hs
  have S0 := hid s0
  have S1 := hid s1
  have S2 := hid s2
  have S3 := hid s3
  have S4 := hid s4
  have S5 := hid s5
  have N0 := hid hS
  have N1 : Hid (Sound l1 e1) := hid (sFixed_sound N0.out d0).1
  have D0 := hid d0
  have N2 : Hid (Sound l2 e2) := hid (sText_sound N1.out d1).1
  have D1 := hid d1
  have N3 : Hid (Sound l3 e3) := hid (sShort_sound N2.out d2).1
  have W3 : IntKind.i64.wrap (tn : Int) = tn := by have := (sShort_sound N2.out d2).2; rw [IntKind.wrap_i64]; omega
  have D2 := hid d2
  have A0 := hid ((TakeE.start hI hP hg ⟨k, 0, ⟨#[]⟩, 0, ⟨#[]⟩, 0, 0, 0⟩).on ((Below.refl _ _).alloc (Nat.le_refl _) (.cells (cellsOf ⟨0, 0, ⟨#[]⟩, 0, ⟨#[]⟩, 0, 0, 0⟩) 30)))
  have R0 : Hid (TakeE w ((w.alloc (.cells (cellsOf ⟨k, 0, ⟨#[]⟩, 0, ⟨#[]⟩, 0, 0, 0⟩) 30)).alloc (.cells (cellsOf ⟨0, 0, ⟨#[]⟩, 0, ⟨#[]⟩, 0, 0, 0⟩) 30)) g (w.heap.size + 1) ⟨0, 0, ⟨#[]⟩, 0, ⟨#[]⟩, 0, 0, 0⟩ l0 e0) := hid ⟨A0.out.1, by have h := Blk.new (w.alloc (.cells (cellsOf ⟨k, 0, ⟨#[]⟩, 0, ⟨#[]⟩, 0, 0, 0⟩) 30)) 30 (cellsOf ⟨0, 0, ⟨#[]⟩, 0, ⟨#[]⟩, 0, 0, 0⟩); simpa using h, by omega, A0.out.2.2.2.1, A0.out.2.2.2.2⟩
  clear s0 s1 s2 s3 s4 s5 hP hg hI hS d0 d1 d2
  go_enter Tryd.func51, Tryd.ntmps51
  go_wp2_with fail
  with_reducible refine (has_0 ⟨k, 0, ⟨#[]⟩, 0, ⟨#[]⟩, 0, 0, 0⟩ true _ S0.out A0.out.parts).mono ?_
  rintro e w1 ⟨rfl, hb⟩
  have A1 := hid (A0.out.on hb)
  have R1 := hid (R0.out.on hb)
  clear hb A0 R0
  obtain ⟨⟨c0, c1, c2, c3, c4, c5, c6, c7⟩, f0, f1, f2, f3, f4, f5, f6, f7⟩ := cells8 A1.out.2.1
  go_wp2_with fail
  with_reducible refine (infixed_any g l0 e0 l1 e1 un _ A1.out.iat N0.out.fine N0.out.bytes D0.out).mono ?_
  rintro en w2 ⟨rfl, hin, hgr⟩
  have A2t := hid (A1.out.turn hin hgr)
  have R2t := hid (R1.out.turn hin hgr)
  clear hin hgr A1 R1
  clear c0 c1 c2 c3 c4 c5 c6 c7 f0 f1 f2 f3 f4 f5 f6 f7
  obtain ⟨⟨c0, c1, c2, c3, c4, c5, c6, c7⟩, f0, f1, f2, f3, f4, f5, f6, f7⟩ := cells8 A2t.out.2.1
  have A2 := hid (A2t.out.set_ 1 (.int .u64 (un : Int)) ⟨k, (un : Int), ⟨#[]⟩, 0, ⟨#[]⟩, 0, 0, 0⟩ rfl)
  have R2 := hid (R2t.out.far (p := ⟨w.heap.size, 1, none⟩) (by simp) (Nat.le_refl _) (.int .u64 (un : Int)))
  clear A2t R2t
  go_wp2_with fail
  with_reducible refine (intext_any g l1 e1 64 64 l2 e2 fb _ A2.out.iat N1.out.fine N1.out.bytes N1.out.len rfl (by decide) D1.out).mono ?_
  rintro en w3 ⟨rfl, hin, hgr⟩
  have A3t := hid (A2.out.turn hin hgr)
  have R3t := hid (R2.out.turn hin hgr)
  clear hin hgr A2 R2
  clear c0 c1 c2 c3 c4 c5 c6 c7 f0 f1 f2 f3 f4 f5 f6 f7
  obtain ⟨⟨c0, c1, c2, c3, c4, c5, c6, c7⟩, f0, f1, f2, f3, f4, f5, f6, f7⟩ := cells8 A3t.out.2.1
  have A3 := hid (A3t.out.set_ 2 (.string (strN fb)) ⟨k, (un : Int), strN fb, 0, ⟨#[]⟩, 0, 0, 0⟩ rfl)
  have R3 := hid (R3t.out.far (p := ⟨w.heap.size, 2, none⟩) (by simp) (Nat.le_refl _) (.string (strN fb)))
  clear A3t R3t
  go_wp2_with fail
  with_reducible refine (has_1 ⟨k, (un : Int), strN fb, 0, ⟨#[]⟩, 0, 0, 0⟩ false _ S1.out A3.out.parts).mono ?_
  rintro e w4 ⟨rfl, hb⟩
  have A4 := hid (A3.out.on hb)
  have R4 := hid (R3.out.on hb)
  clear hb A3 R3
  clear c0 c1 c2 c3 c4 c5 c6 c7 f0 f1 f2 f3 f4 f5 f6 f7
  obtain ⟨⟨c0, c1, c2, c3, c4, c5, c6, c7⟩, f0, f1, f2, f3, f4, f5, f6, f7⟩ := cells8 A4.out.2.1
  go_wp2_with fail
  with_reducible refine (has_2 ⟨k, (un : Int), strN fb, 0, ⟨#[]⟩, 0, 0, 0⟩ false _ S2.out A4.out.parts).mono ?_
  rintro e w5 ⟨rfl, hb⟩
  have A5 := hid (A4.out.on hb)
  have R5 := hid (R4.out.on hb)
  clear hb A4 R4
  clear c0 c1 c2 c3 c4 c5 c6 c7 f0 f1 f2 f3 f4 f5 f6 f7
  obtain ⟨⟨c0, c1, c2, c3, c4, c5, c6, c7⟩, f0, f1, f2, f3, f4, f5, f6, f7⟩ := cells8 A5.out.2.1
  go_wp2_with fail
  with_reducible refine (has_3 ⟨k, (un : Int), strN fb, 0, ⟨#[]⟩, 0, 0, 0⟩ false _ S3.out A5.out.parts).mono ?_
  rintro e w6 ⟨rfl, hb⟩
  have A6 := hid (A5.out.on hb)
  have R6 := hid (R5.out.on hb)
  clear hb A5 R5
  clear c0 c1 c2 c3 c4 c5 c6 c7 f0 f1 f2 f3 f4 f5 f6 f7
  obtain ⟨⟨c0, c1, c2, c3, c4, c5, c6, c7⟩, f0, f1, f2, f3, f4, f5, f6, f7⟩ := cells8 A6.out.2.1
  go_wp2_with fail
  with_reducible refine (has_4 ⟨k, (un : Int), strN fb, 0, ⟨#[]⟩, 0, 0, 0⟩ false _ S4.out A6.out.parts).mono ?_
  rintro e w7 ⟨rfl, hb⟩
  have A7 := hid (A6.out.on hb)
  have R7 := hid (R6.out.on hb)
  clear hb A6 R6
  clear c0 c1 c2 c3 c4 c5 c6 c7 f0 f1 f2 f3 f4 f5 f6 f7
  obtain ⟨⟨c0, c1, c2, c3, c4, c5, c6, c7⟩, f0, f1, f2, f3, f4, f5, f6, f7⟩ := cells8 A7.out.2.1
  go_wp2_with fail
  with_reducible refine (has_5 ⟨k, (un : Int), strN fb, 0, ⟨#[]⟩, 0, 0, 0⟩ true _ S5.out A7.out.parts).mono ?_
  rintro e w8 ⟨rfl, hb⟩
  have A8 := hid (A7.out.on hb)
  have R8 := hid (R7.out.on hb)
  clear hb A7 R7
  clear c0 c1 c2 c3 c4 c5 c6 c7 f0 f1 f2 f3 f4 f5 f6 f7
  obtain ⟨⟨c0, c1, c2, c3, c4, c5, c6, c7⟩, f0, f1, f2, f3, f4, f5, f6, f7⟩ := cells8 A8.out.2.1
  go_wp2_with fail
  with_reducible refine (inshort_any g l2 e2 1099511627776 1099511627776 l3 e3 tn _ A8.out.iat N2.out.fine N2.out.bytes N2.out.len rfl D2.out).mono ?_
  rintro en w9 ⟨rfl, hin, hgr⟩
  have A9t := hid (A8.out.turn hin hgr)
  have R9t := hid (R8.out.turn hin hgr)
  clear hin hgr A8 R8
  clear c0 c1 c2 c3 c4 c5 c6 c7 f0 f1 f2 f3 f4 f5 f6 f7
  obtain ⟨⟨c0, c1, c2, c3, c4, c5, c6, c7⟩, f0, f1, f2, f3, f4, f5, f6, f7⟩ := cells8 A9t.out.2.1
  have A9 := hid (A9t.out.set_ 7 (.int .i64 (tn : Int)) ⟨k, (un : Int), strN fb, 0, ⟨#[]⟩, 0, 0, (tn : Int)⟩ rfl)
  have R9 := hid (R9t.out.far (p := ⟨w.heap.size, 7, none⟩) (by simp) (Nat.le_refl _) (.int .i64 (tn : Int)))
  clear A9t R9t
  obtain ⟨⟨d0, d1, d2, d3, d4, d5, d6, d7⟩, g0, g1, g2, g3, g4, g5, g6, g7⟩ := cells8 R9.out.2.1
  have E := hid (R9.out.put ⟨k, (un : Int), strN fb, 0, ⟨#[]⟩, 0, 0, (tn : Int)⟩)
  clear R9 A9
  go_wp2
  refine bodyPost_ret (v := val ⟨k, (un : Int), strN fb, 0, ⟨#[]⟩, 0, 0, (tn : Int)⟩) (by simp [results, Tryd.results51, go_sem, d0, d1, d2, d3, d4, d5, d6, d7]) rfl ⟨rfl, E.out.iat, E.out.grown⟩

end Go.Proofs.YtapmchkikafpmaaDoor

/-
  The contracts of withTaken and Take (package cmd) off any bytes.
-/
namespace Go.Proofs.YtapmchkikafpmaaDoor
open Go.ChangeShapes Go.WideShapes Go.ChangeAt Go.RowKit Go.Lib
set_option linter.unusedVariables false
set_option linter.unusedSimpArgs false

theorem withtakenE_any (g : Nat) (k : Int) (l : List Nat) (e : Nat) (l' : List Nat) (e' : Nat) (c : K) (w : World) (hP : PartsIs w) (hg : 0 < g) (hI : InAt w g l e) (hS : Sound l e) (hs : sParts k l e = (l', e', c)) :
    Calls Tryd.prog 51 #[val ⟨k, 0, ⟨#[]⟩, 0, ⟨#[]⟩, 0, 0, 0⟩, .pointer (some ⟨g, 0, none⟩)] w (Turns (fun en => en = .returned (val c)) g l' e' w) := by
  obtain ⟨l1, e1, l2, e2, l3, e3, l4, e4, l5, e5, u, fb, q, pb, m, n, t, a0, a1, a2, a3, a4, a5, rfl⟩ := sParts_split hs
  rcases sig_cases k with ⟨h, _⟩ | ⟨_, h⟩ | ⟨_, h⟩ | ⟨_, h⟩ | ⟨_, h⟩ | ⟨_, h⟩ | ⟨_, h⟩ | ⟨_, h⟩
  · have h' := h
    obtain ⟨s0, s1, s2, s3, s4, s5⟩ := h
    simp only [tk0, s0, Bool.false_eq_true, if_false, Prod.mk.injEq] at a0
    obtain ⟨rfl, rfl, rfl, rfl⟩ := a0
    simp only [tk1, s1, Bool.false_eq_true, if_false, Prod.mk.injEq] at a1
    obtain ⟨rfl, rfl, rfl⟩ := a1
    simp only [tk2, s2, Bool.false_eq_true, if_false, Prod.mk.injEq] at a2
    obtain ⟨rfl, rfl, rfl⟩ := a2
    simp only [tk3, s3, Bool.false_eq_true, if_false, Prod.mk.injEq] at a3
    obtain ⟨rfl, rfl, rfl⟩ := a3
    simp only [tk4, s4, Bool.false_eq_true, if_false, Prod.mk.injEq] at a4
    obtain ⟨rfl, rfl, rfl⟩ := a4
    simp only [tk5, s5, Bool.false_eq_true, if_false, Prod.mk.injEq] at a5
    obtain ⟨rfl, rfl, rfl⟩ := a5
    exact takenE_0 g k _ _  w hP hg hI hS h'
  · have h' := h
    obtain ⟨s0, s1, s2, s3, s4, s5⟩ := h
    simp only [tk0, s0, if_true, Prod.mk.injEq] at a0
    obtain ⟨rfl, rfl, rfl, rfl⟩ := a0
    simp only [tk1, s1, if_true] at a1
    simp only [tk2, s2, Bool.false_eq_true, if_false, Prod.mk.injEq] at a2
    obtain ⟨rfl, rfl, rfl⟩ := a2
    simp only [tk3, s3, Bool.false_eq_true, if_false, Prod.mk.injEq] at a3
    obtain ⟨rfl, rfl, rfl⟩ := a3
    simp only [tk4, s4, if_true] at a4
    simp only [tk5, s5, if_true] at a5
    exact takenE_1 g k _ _ _ _ _ _ _ _ _ _ _ _ _ _ _ _ _ w hP hg hI hS h' rfl rfl a1 a4 a5
  · have h' := h
    obtain ⟨s0, s1, s2, s3, s4, s5⟩ := h
    simp only [tk0, s0, if_true, Prod.mk.injEq] at a0
    obtain ⟨rfl, rfl, rfl, rfl⟩ := a0
    simp only [tk1, s1, if_true] at a1
    simp only [tk2, s2, Bool.false_eq_true, if_false, Prod.mk.injEq] at a2
    obtain ⟨rfl, rfl, rfl⟩ := a2
    simp only [tk3, s3, Bool.false_eq_true, if_false, Prod.mk.injEq] at a3
    obtain ⟨rfl, rfl, rfl⟩ := a3
    simp only [tk4, s4, Bool.false_eq_true, if_false, Prod.mk.injEq] at a4
    obtain ⟨rfl, rfl, rfl⟩ := a4
    simp only [tk5, s5, Bool.false_eq_true, if_false, Prod.mk.injEq] at a5
    obtain ⟨rfl, rfl, rfl⟩ := a5
    exact takenE_2 g k _ _ _ _ _ _ _ _ _ _ _ w hP hg hI hS h' rfl rfl a1
  · have h' := h
    obtain ⟨s0, s1, s2, s3, s4, s5⟩ := h
    simp only [tk0, s0, if_true, Prod.mk.injEq] at a0
    obtain ⟨rfl, rfl, rfl, rfl⟩ := a0
    simp only [tk1, s1, if_true] at a1
    simp only [tk2, s2, Bool.false_eq_true, if_false, Prod.mk.injEq] at a2
    obtain ⟨rfl, rfl, rfl⟩ := a2
    simp only [tk3, s3, Bool.false_eq_true, if_false, Prod.mk.injEq] at a3
    obtain ⟨rfl, rfl, rfl⟩ := a3
    simp only [tk4, s4, Bool.false_eq_true, if_false, Prod.mk.injEq] at a4
    obtain ⟨rfl, rfl, rfl⟩ := a4
    simp only [tk5, s5, if_true] at a5
    exact takenE_3 g k _ _ _ _ _ _ _ _ _ _ _ _ _ _ w hP hg hI hS h' rfl rfl a1 a5
  · have h' := h
    obtain ⟨s0, s1, s2, s3, s4, s5⟩ := h
    simp only [tk0, s0, if_true, Prod.mk.injEq] at a0
    obtain ⟨rfl, rfl, rfl, rfl⟩ := a0
    simp only [tk1, s1, if_true] at a1
    simp only [tk2, s2, if_true] at a2
    simp only [tk3, s3, if_true] at a3
    simp only [tk4, s4, Bool.false_eq_true, if_false, Prod.mk.injEq] at a4
    obtain ⟨rfl, rfl, rfl⟩ := a4
    simp only [tk5, s5, Bool.false_eq_true, if_false, Prod.mk.injEq] at a5
    obtain ⟨rfl, rfl, rfl⟩ := a5
    exact takenE_4 g k _ _ _ _ _ _ _ _ _ _ _ _ _ _ _ _ _ w hP hg hI hS h' rfl rfl a1 a2 a3
  · have h' := h
    obtain ⟨s0, s1, s2, s3, s4, s5⟩ := h
    simp only [tk0, s0, if_true, Prod.mk.injEq] at a0
    obtain ⟨rfl, rfl, rfl, rfl⟩ := a0
    simp only [tk1, s1, if_true] at a1
    simp only [tk2, s2, if_true] at a2
    simp only [tk3, s3, Bool.false_eq_true, if_false, Prod.mk.injEq] at a3
    obtain ⟨rfl, rfl, rfl⟩ := a3
    simp only [tk4, s4, Bool.false_eq_true, if_false, Prod.mk.injEq] at a4
    obtain ⟨rfl, rfl, rfl⟩ := a4
    simp only [tk5, s5, Bool.false_eq_true, if_false, Prod.mk.injEq] at a5
    obtain ⟨rfl, rfl, rfl⟩ := a5
    exact takenE_6 g k _ _ _ _ _ _ _ _ _ _ _ _ _ _ w hP hg hI hS h' rfl rfl a1 a2
  · have h' := h
    obtain ⟨s0, s1, s2, s3, s4, s5⟩ := h
    simp only [tk0, s0, if_true, Prod.mk.injEq] at a0
    obtain ⟨rfl, rfl, rfl, rfl⟩ := a0
    simp only [tk1, s1, if_true] at a1
    simp only [tk2, s2, if_true] at a2
    simp only [tk3, s3, Bool.false_eq_true, if_false, Prod.mk.injEq] at a3
    obtain ⟨rfl, rfl, rfl⟩ := a3
    simp only [tk4, s4, if_true] at a4
    simp only [tk5, s5, Bool.false_eq_true, if_false, Prod.mk.injEq] at a5
    obtain ⟨rfl, rfl, rfl⟩ := a5
    exact takenE_7 g k _ _ _ _ _ _ _ _ _ _ _ _ _ _ _ _ _ w hP hg hI hS h' rfl rfl a1 a2 a4
  · have h' := h
    obtain ⟨s0, s1, s2, s3, s4, s5⟩ := h
    simp only [tk0, s0, if_true, Prod.mk.injEq] at a0
    obtain ⟨rfl, rfl, rfl, rfl⟩ := a0
    simp only [tk1, s1, Bool.false_eq_true, if_false, Prod.mk.injEq] at a1
    obtain ⟨rfl, rfl, rfl⟩ := a1
    simp only [tk2, s2, Bool.false_eq_true, if_false, Prod.mk.injEq] at a2
    obtain ⟨rfl, rfl, rfl⟩ := a2
    simp only [tk3, s3, Bool.false_eq_true, if_false, Prod.mk.injEq] at a3
    obtain ⟨rfl, rfl, rfl⟩ := a3
    simp only [tk4, s4, Bool.false_eq_true, if_false, Prod.mk.injEq] at a4
    obtain ⟨rfl, rfl, rfl⟩ := a4
    simp only [tk5, s5, if_true] at a5
    exact takenE_8 g k _ _ _ _ _ _ _ _ _ _ _ w hP hg hI hS h' rfl rfl a5

/-- While a command is taken: the In, the result's box, the command's. -/
def TwoK (w0 w : World) (g k n : Nat) (c : K) (l : List Nat) (e : Nat) : Prop :=
  InAt w g l e ∧ Blk w k 30 (cellsOf zeroK) ∧ Blk w n 30 (cellsOf c) ∧ w0.grownBy w (some g) ∧ PartsIs w ∧ 0 < g ∧ g < k ∧ k < n ∧ w0.heap.size ≤ k
section
variable {w0 w w' : World} {g k n : Nat} {c : K} {l l' : List Nat} {e e' : Nat}
theorem TwoK.iat (h : TwoK w0 w g k n c l e) : InAt w g l e := h.1
theorem TwoK.res (h : TwoK w0 w g k n c l e) : Blk w k 30 (cellsOf zeroK) := h.2.1
theorem TwoK.box (h : TwoK w0 w g k n c l e) : Blk w n 30 (cellsOf c) := h.2.2.1
theorem TwoK.grown (h : TwoK w0 w g k n c l e) : w0.grownBy w (some g) := h.2.2.2.1
theorem TwoK.parts (h : TwoK w0 w g k n c l e) : PartsIs w := h.2.2.2.2.1
theorem TwoK.on (h : TwoK w0 w g k n c l e) (hb : Below w.heap.size w w') : TwoK w0 w' g k n c l e :=
  ⟨h.1.keep (hb.mono h.1.lt), h.res.below hb h.res.lt, h.box.below hb h.box.lt, only_below h.grown hb, h.parts.below hb, h.2.2.2.2.2⟩
theorem TwoK.turn (h : TwoK w0 w g k n c l e) (hi : InAt w' g l' e') (hb : w.grownBy w' (some g)) : TwoK w0 w' g k n c l' e' := by
  obtain ⟨h1, h2, h3, h4, h5, h6, h7, h8, h9⟩ := h
  exact ⟨hi, h2.grown hb (by intro e; injection e with e; omega), h3.grown hb (by intro e; injection e with e; omega), h4.trans hb, var_grown gParts h5 h5.lt (by intro e; injection e with e; omega) hb, h6, h7, h8, h9⟩
theorem TwoK.row (h : TwoK w0 w g k n c l e) (d : K) : TwoK w0 (w.setRow n (cellsOf d)) g k n d l e := by
  obtain ⟨h1, h2, h3, h4, h5, h6, h7, h8, h9⟩ := h
  exact ⟨h1.setRow (by omega), h2.rowFar (by omega) _, h3.row _, only_setRow h4 (by omega), var_under gParts h5 (base := n) (by omega) (below_setRow_ (Below.refl _ _) (Nat.le_refl _)), h6, h7, h8, h9⟩
theorem TwoK.last (h : TwoK w0 w g k n c l e) (d : K) : InAt (w.setRow k (cellsOf d)) g l e ∧ w0.grownBy (w.setRow k (cellsOf d)) (some g) := by
  obtain ⟨h1, h2, h3, h4, h5, h6, h7, h8, h9⟩ := h
  exact ⟨h1.setRow h7, only_setRow h4 h9⟩
end
theorem blk_putK {w : World} {k : Nat} {T : TypeId} (h : Blk w k T (cellsOf zeroK)) (d : K) : Blk (putK w k d) k T (cellsOf d) := by
  obtain ⟨k', u', f', q', s', m', n', t'⟩ := d
  have b0 := Blk.as (h.set_ 0 (.int .i64 k')) (ds := cellsOf ⟨k', 0, ⟨#[]⟩, 0, ⟨#[]⟩, 0, 0, 0⟩) rfl
  have b1 := Blk.as (b0.set_ 1 (.int .u64 u')) (ds := cellsOf ⟨k', u', ⟨#[]⟩, 0, ⟨#[]⟩, 0, 0, 0⟩) rfl
  have b2 := Blk.as (b1.set_ 2 (.string f')) (ds := cellsOf ⟨k', u', f', 0, ⟨#[]⟩, 0, 0, 0⟩) rfl
  have b3 := Blk.as (b2.set_ 3 (.int .u64 q')) (ds := cellsOf ⟨k', u', f', q', ⟨#[]⟩, 0, 0, 0⟩) rfl
  have b4 := Blk.as (b3.set_ 4 (.string s')) (ds := cellsOf ⟨k', u', f', q', s', 0, 0, 0⟩) rfl
  have b5 := Blk.as (b4.set_ 5 (.int .i64 m')) (ds := cellsOf ⟨k', u', f', q', s', m', 0, 0⟩) rfl
  have b6 := Blk.as (b5.set_ 6 (.int .u64 n')) (ds := cellsOf ⟨k', u', f', q', s', m', n', 0⟩) rfl
  have b7 := Blk.as (b6.set_ 7 (.int .i64 t')) (ds := cellsOf ⟨k', u', f', q', s', m', n', t'⟩) rfl
  exact b7
theorem in_putK {w0 w : World} {g k : Nat} {l : List Nat} {e : Nat} (h1 : InAt w g l e) (h4 : w0.grownBy w (some g)) (h7 : g < k) (h9 : w0.heap.size ≤ k) (d : K) : InAt (putK w k d) g l e ∧ w0.grownBy (putK w k d) (some g) := by
  have step : ∀ (W : World) (i : Nat) (u : Value), InAt W g l e ∧ w0.grownBy W (some g) → InAt (W.setCell ⟨k, i, none⟩ u) g l e ∧ w0.grownBy (W.setCell ⟨k, i, none⟩ u) (some g) := fun W i u hh => ⟨hh.1.setCell h7, only_setCell (p := ⟨k, i, none⟩) hh.2 (.inr h9) u⟩
  have b0 := step w 0 (.int .i64 d.kind) ⟨h1, h4⟩
  have b1 := step _ 1 (.int .u64 d.num) b0
  have b2 := step _ 2 (.string d.foot) b1
  have b3 := step _ 3 (.int .u64 d.req) b2
  have b4 := step _ 4 (.string d.path) b3
  have b5 := step _ 5 (.int .i64 d.mode) b4
  have b6 := step _ 6 (.int .u64 d.n) b5
  exact step _ 7 (.int .i64 d.time) b6
theorem TwoK.lastK {w0 w : World} {g k n : Nat} {c : K} {l : List Nat} {e : Nat} (h : TwoK w0 w g k n c l e) (d : K) : Blk (putK w k d) k 30 (cellsOf d) ∧ InAt (putK w k d) g l e ∧ w0.grownBy (putK w k d) (some g) :=
  ⟨blk_putK h.res d, in_putK h.iat h.grown h.2.2.2.2.2.2.1 h.2.2.2.2.2.2.2.2 d⟩
theorem zero8 : Value.agg #[.int .i64 0, .int .u64 0, .string ⟨#[]⟩, .int .u64 0, .string ⟨#[]⟩, .int .i64 0, .int .u64 0, .int .i64 0] = .agg (cellsOf zeroK) := rfl
theorem len_cmdK (c : K) : (Tryd.prog.info? 30).map (·.size) = some (cellsOf c).size := by kernel_rfl
theorem one_cmdK (c : K) : (cellsOf c).all (·.oneCell') = true := by simp [cellsOf, Value.oneCell']
theorem size_cmdK (c d : K) : (cellsOf c).size = (cellsOf d).size := rfl

set_option maxRecDepth 100000 in
set_option maxHeartbeats 4000000 in
theorem cmdtakeE_as (g : Nat) (l : List Nat) (e : Nat) (l1 l2 l3 : List Nat) (e1 e2 e3 b : Nat) (d : K) (w : World) (h : InAt w g l e) (hS : Sound l e) (hP : PartsIs w) (hg : 0 < g)
    (hb : sByte l e = (l1, e1, b)) (hb8 : b < 256) (hS1 : Sound l1 e1) (hk : (if 8 < b then (leftE e1 22 l1, firstE e1 22) else (l1, e1)) = (l2, e2)) (hS2 : Sound l2 e2) (hp : sParts (b : Int) l2 e2 = (l3, e3, d)) (hS3 : Sound l3 e3) (hf : d.foot.size ≤ 4611686018427387903) (hpp : d.path.size ≤ 4611686018427387903) (hbad : isK (b : Int) = false → e2 ≠ 0) :
    Calls Tryd.prog 32 #[.pointer (some ⟨g, 0, none⟩)] w (Turns (fun en => en = .returned (val (lastE (l3, e3, d)).2.2)) g (lastE (l3, e3, d)).1 (lastE (l3, e3, d)).2.1 w) := by
  obtain ⟨x, hx⟩ : ∃ x, isK (b : Int) = x := ⟨_, rfl⟩
  obtain ⟨rr, hr⟩ : ∃ x, rightK d = x := ⟨_, rfl⟩
  have HX := hid hx
  have HRR := hid hr
  have HI := hid h
  have HS := hid hS
  have HS1 := hid hS1
  have HS2 := hid hS2
  have HS3 := hid hS3
  have HP := hid hP
  have HB := hid hb
  have HK := hid hk
  have HPA := hid hp
  have HBAD := hid hbad
  have HL : Hid (lastE (l3, e3, d) = if rr then (l3, e3, if e3 = 0 then d else zeroK) else (leftE e3 10 l3, firstE e3 10, zeroK)) := hid (by unfold lastE; simp only; rw [hr])
  have hgl := h.lt
  have W1 : IntKind.i64.wrap (b : Int) = b := by rw [IntKind.wrap_i64]; omega
  clear hx hr h hS hS1 hS2 hS3 hP hb hk hp hbad
  go_enter Tryd.func32, Tryd.ntmps32
  go_wp2_with fail
  have HI0 := hid (HI.out.keep ((Below.refl _ _).alloc (by omega) (.cells (cellsOf zeroK) 30)))
  have R0 := hid (Blk.new w 30 (cellsOf zeroK))
  have P0 := hid (HP.out.alloc (.cells (cellsOf zeroK) 30))
  have G0 := hid (only_of_below ((Below.refl w.heap.size w).alloc (Nat.le_refl _) (.cells (cellsOf zeroK) 30)) (some g))
  with_reducible refine (byte_any g l e l1 e1 b _ HI0.out HS.out.fine HB.out).mono ?_
  rintro en w1 ⟨rfl, hin, hgr⟩
  have I1 := hid hin
  have R1 := hid (R0.out.grown hgr (by intro e; injection e with e; omega))
  have P1 : Hid (PartsIs w1) := hid (var_grown gParts P0.out P0.out.lt (by intro e; injection e with e; omega) hgr)
  have G1 := hid (G0.out.trans hgr)
  clear hin hgr HI0 R0 P0 G0 HI HP
  obtain ⟨k, hk⟩ : ∃ k, w.heap.size = k := ⟨_, rfl⟩
  have HKK := hid hk
  obtain ⟨n, hn⟩ : ∃ n, w1.heap.size = n := ⟨_, rfl⟩
  have A0 : Hid (TwoK w (w1.alloc (.cells (cellsOf ⟨b, 0, ⟨#[]⟩, 0, ⟨#[]⟩, 0, 0, 0⟩) 30)) g k n ⟨b, 0, ⟨#[]⟩, 0, ⟨#[]⟩, 0, 0, 0⟩ l1 e1) := hid (by
    have hlt := R1.out.lt
    have hle := G1.out.size
    rw [hn] at hlt
    rw [hk] at hlt hle
    have hR := R1.out
    rw [hk] at hR
    exact ⟨I1.out.keep ((Below.refl _ _).alloc (by have := I1.out.lt; omega) _), hR.alloc _, by rw [← hn]; exact Blk.new _ _ _, only_below G1.out ((Below.refl _ _).alloc (Nat.le_refl _) _), P1.out.alloc _, hg, by omega, hlt, by rw [hk]; exact Nat.le_refl _⟩)
  clear I1 R1 P1 G1
  go_upto_region 2 with fail
  obtain ⟨W2, hW2⟩ : ∃ W2, w1.alloc (.cells (cellsOf ⟨b, 0, ⟨#[]⟩, 0, ⟨#[]⟩, 0, 0, 0⟩) 30) = W2 := ⟨_, rfl⟩
  rw [hW2] at A0 ⊢
  clear hW2 hn hk W1
  have Z1 := hid (len_cmdK zeroK)
  have Z2 := hid (size_cmdK zeroK zeroK)
  have Z3 := hid (one_cmdK zeroK)
  have D1 := hid (len_cmdK d)
  have D2 := hid (size_cmdK ⟨b, 0, ⟨#[]⟩, 0, ⟨#[]⟩, 0, 0, 0⟩ d)
  have D3 := hid (one_cmdK d)
  have D4 := hid (size_cmdK zeroK d)
  have B1 := hid (len_cmdK ⟨b, 0, ⟨#[]⟩, 0, ⟨#[]⟩, 0, 0, 0⟩)
  have c0 : W2.cell? ⟨n, 0, none⟩ = some (.int .i64 (b : Int)) := (A0.out.box.cell 0).trans rfl
  go_wp2_with fail
  with_reducible refine (iskind_any (b : Int) _).mono ?_
  rw [HX.out]
  rintro en w2 ⟨rfl, rfl⟩
  clear c0
  cases x
  · have h8 : 8 < b := by have := HX.out; unfold isK at this; rw [decide_eq_false_iff_not] at this; omega
    have hm : leftE e1 22 l1 = l2 ∧ firstE e1 22 = e2 := by have := HK.out; rw [if_pos h8] at this; simpa using this
    have HM := hid hm
    have hd := HPA.out
    rw [kind_no HX.out] at hd
    simp only [Prod.mk.injEq] at hd
    have HD := hid hd
    have hrf : rr = false := by rw [← HRR.out, ← hd.2.2]; exact rightK_kind HX.out
    clear hm hd
    subst hrf
    have hpos : 0 < firstE e3 10 := firstE_pos (by omega)
    go_wp2_with fail
    with_reducible refine (fail_any g l1 e1 22 22 _ A0.out.iat rfl).mono ?_
    rw [HM.out.1, HM.out.2]
    rintro en w3 ⟨rfl, hin, hgr⟩
    have A1 := hid (A0.out.turn hin hgr)
    clear hin hgr A0
    go_wp2_with (with_reducible refine wpList_load_row (o := ⟨some 14, _, _, _, _, _⟩) rfl 30 (.tmp 3) rfl n rfl 30 (cellsOf ⟨b, 0, ⟨#[]⟩, 0, ⟨#[]⟩, 0, 0, 0⟩) (0, 0) _ A1.out.box.heap Tryd.underlying30 rfl B1.out ?_)
    with_reducible refine (withtakenE_any g (b : Int) l2 e2 l3 e3 d _ A1.out.parts hg A1.out.iat HS2.out HPA.out).mono ?_
    rintro en w4 ⟨rfl, hin, hgr⟩
    have A2 := hid (A1.out.turn hin hgr)
    clear hin hgr A1
    have A3 := hid (A2.out.row d)
    go_wp2_with (first
      | (with_reducible refine wpList_store_row (o := ⟨none, _, _, _, _, _⟩) rfl 30 (.tmp 3) (.tmp 16) rfl n (cellsOf d) rfl rfl 30 _ A2.out.box.heap D1.out D2.out D3.out ?_)
      | (with_reducible refine wpList_load_row (o := ⟨some 17, _, _, _, _, _⟩) rfl 30 (.tmp 3) rfl n rfl 30 (cellsOf d) (0, 0) _ A3.out.box.heap Tryd.underlying30 rfl D1.out ?_))
    with_reducible refine (cmdright_any d _ A3.out.parts hf hpp).mono ?_
    rw [HRR.out]
    rintro en w5 ⟨rfl, hb⟩
    have A4 := hid (A3.out.on hb)
    clear hb A2 A3
    go_wp2_with fail
    with_reducible refine (fail_any g l3 e3 10 10 _ A4.out.iat rfl).mono ?_
    rintro en w6 ⟨rfl, hin, hgr⟩
    have A5 := hid (A4.out.turn hin hgr)
    clear hin hgr A4
    go_wp2_with fail
    with_reducible refine (failed_yes g (leftE e3 10 l3) (firstE e3 10) _ A5.out.iat hpos).mono ?_
    rintro en w7 ⟨rfl, rfl⟩
    have A6 := hid (A5.out.lastK zeroK)
    obtain ⟨⟨c0, c1, c2, c3, c4, c5, c6, c7⟩, f0, f1, f2, f3, f4, f5, f6, f7⟩ := cells8 A5.out.res
    go_wp2
    exact bodyPost_ret (v := val zeroK) (results_cell_row (p := 2) (ty := 30) (by kernel_rfl) _ _ k 30 (cellsOf zeroK) (0, 0) _ rfl A6.out.1 Tryd.underlying30 rfl Z1.out) rfl ⟨by rw [HL.out]; rfl, by rw [HL.out]; exact A6.out.2.1, A6.out.2.2⟩
  · have h8 : ¬ 8 < b := by have := HX.out; unfold isK at this; rw [decide_eq_true_eq] at this; omega
    have hm : l1 = l2 ∧ e1 = e2 := by have := HK.out; rw [if_neg h8] at this; simpa using this
    obtain ⟨rfl, rfl⟩ := hm
    go_wp2_with (with_reducible refine wpList_load_row (o := ⟨some 14, _, _, _, _, _⟩) rfl 30 (.tmp 3) rfl n rfl 30 (cellsOf ⟨b, 0, ⟨#[]⟩, 0, ⟨#[]⟩, 0, 0, 0⟩) (0, 0) _ A0.out.box.heap Tryd.underlying30 rfl B1.out ?_)
    with_reducible refine (withtakenE_any g (b : Int) l1 e1 l3 e3 d _ A0.out.parts hg A0.out.iat HS2.out HPA.out).mono ?_
    rintro en w4 ⟨rfl, hin, hgr⟩
    have A2 := hid (A0.out.turn hin hgr)
    clear hin hgr A0
    have A3 := hid (A2.out.row d)
    go_wp2_with (first
      | (with_reducible refine wpList_store_row (o := ⟨none, _, _, _, _, _⟩) rfl 30 (.tmp 3) (.tmp 16) rfl n (cellsOf d) rfl rfl 30 _ A2.out.box.heap D1.out D2.out D3.out ?_)
      | (with_reducible refine wpList_load_row (o := ⟨some 17, _, _, _, _, _⟩) rfl 30 (.tmp 3) rfl n rfl 30 (cellsOf d) (0, 0) _ A3.out.box.heap Tryd.underlying30 rfl D1.out ?_))
    with_reducible refine (cmdright_any d _ A3.out.parts hf hpp).mono ?_
    rw [HRR.out]
    rintro en w5 ⟨rfl, hb⟩
    have A4 := hid (A3.out.on hb)
    clear hb A2 A3
    cases rr
    · have hpos : 0 < firstE e3 10 := firstE_pos (by omega)
      go_wp2_with fail
      with_reducible refine (fail_any g l3 e3 10 10 _ A4.out.iat rfl).mono ?_
      rintro en w6 ⟨rfl, hin, hgr⟩
      have A5 := hid (A4.out.turn hin hgr)
      clear hin hgr A4
      go_wp2_with fail
      with_reducible refine (failed_yes g (leftE e3 10 l3) (firstE e3 10) _ A5.out.iat hpos).mono ?_
      rintro en w7 ⟨rfl, rfl⟩
      have A6 := hid (A5.out.lastK zeroK)
      obtain ⟨⟨c0, c1, c2, c3, c4, c5, c6, c7⟩, f0, f1, f2, f3, f4, f5, f6, f7⟩ := cells8 A5.out.res
      go_wp2
      exact bodyPost_ret (v := val zeroK) (results_cell_row (p := 2) (ty := 30) (by kernel_rfl) _ _ k 30 (cellsOf zeroK) (0, 0) _ rfl A6.out.1 Tryd.underlying30 rfl Z1.out) rfl ⟨by rw [HL.out]; rfl, by rw [HL.out]; exact A6.out.2.1, A6.out.2.2⟩
    · by_cases h0 : e3 = 0
      · subst h0
        go_wp2_with fail
        with_reducible refine (failed_no g l3 _ A4.out.iat).mono ?_
        rintro en w7 ⟨rfl, rfl⟩
        have A6 := hid (A4.out.last d)
        go_wp2_with (first
          | (with_reducible refine wpList_load_row (o := ⟨some 25, _, _, _, _, _⟩) rfl 30 (.tmp 3) rfl n rfl 30 (cellsOf d) (0, 0) _ A4.out.box.heap Tryd.underlying30 rfl D1.out ?_)
          | (with_reducible refine wpList_store_row (o := ⟨none, _, _, _, _, _⟩) rfl 30 (.tmp 2) (.tmp 25) rfl k (cellsOf d) rfl rfl 30 _ A4.out.res.heap D1.out D4.out D3.out ?_))
        exact bodyPost_ret (v := val d) (results_cell_row (p := 2) (ty := 30) (by kernel_rfl) _ _ k 30 (cellsOf d) (0, 0) _ rfl (setRow_heap _ k _ (cellsOf d) _ _ A4.out.res.heap) Tryd.underlying30 rfl D1.out) rfl ⟨by rw [HL.out]; rfl, by rw [HL.out]; exact A6.out.1, A6.out.2⟩
      · have hpos : 0 < e3 := by omega
        have HN0 := hid h0
        go_wp2_with fail
        with_reducible refine (failed_yes g l3 e3 _ A4.out.iat hpos).mono ?_
        rintro en w7 ⟨rfl, rfl⟩
        have A6 := hid (A4.out.lastK zeroK)
        obtain ⟨⟨c0, c1, c2, c3, c4, c5, c6, c7⟩, f0, f1, f2, f3, f4, f5, f6, f7⟩ := cells8 A4.out.res
        go_wp2
        exact bodyPost_ret (v := val zeroK) (results_cell_row (p := 2) (ty := 30) (by kernel_rfl) _ _ k 30 (cellsOf zeroK) (0, 0) _ rfl A6.out.1 Tryd.underlying30 rfl Z1.out) rfl ⟨by rw [HL.out]; simp [HN0.out], by rw [HL.out]; exact A6.out.2.1, A6.out.2.2⟩

theorem cmdtakeE_any (g : Nat) (l : List Nat) (e : Nat) (l' : List Nat) (e' : Nat) (c : K) (w : World) (h : InAt w g l e) (hS : Sound l e) (hP : PartsIs w) (hg : 0 < g) (hs : sCmd l e = (l', e', c)) :
    Calls Tryd.prog 32 #[.pointer (some ⟨g, 0, none⟩)] w (Turns (fun en => en = .returned (val c)) g l' e' w) := by
  obtain ⟨l1, e1, b, hb⟩ : ∃ a b c, sByte l e = (a, b, c) := ⟨_, _, _, rfl⟩
  obtain ⟨s1, b1⟩ := sByte_sound hS hb
  obtain ⟨l2, e2, h2⟩ : ∃ a b, kindE l e = (a, b) := ⟨_, _, rfl⟩
  obtain ⟨l3, e3, d, h3⟩ : ∃ x y z, sParts (b : Int) l2 e2 = (x, y, z) := ⟨_, _, _, rfl⟩
  have hk : (if 8 < b then (leftE e1 22 l1, firstE e1 22) else (l1, e1)) = (l2, e2) := by rw [← h2]; unfold kindE; rw [hb]
  have s2 : Sound l2 e2 ∧ (8 < b → e2 ≠ 0) := by
    split at hk
    · simp only [Prod.mk.injEq] at hk
      obtain ⟨rfl, rfl⟩ := hk
      exact ⟨sound_fail (by omega) s1, fun _ => firstE_zero_in (by omega)⟩
    · rename_i hn
      simp only [Prod.mk.injEq] at hk
      obtain ⟨rfl, rfl⟩ := hk
      exact ⟨s1, fun h => absurd h hn⟩
  obtain ⟨s3, ok3, k3, f3, p3, i3⟩ := sParts_sound (by omega) s2.1 h3
  have hp : partsE l e = (l3, e3, d) := by unfold partsE; rw [hb, h2]; exact h3
  have hc := cmdtakeE_as g l e l1 l2 l3 e1 e2 e3 b d w h hS hP hg hb b1 s1 hk s2.1 h3 s3 (by omega) (by omega) (fun hx => s2.2 (by unfold isK at hx; rw [decide_eq_false_iff_not] at hx; omega))
  unfold sCmd at hs
  rw [hp] at hs
  rw [hs] at hc
  exact hc

end Go.Proofs.YtapmchkikafpmaaDoor

/-
  The contract of Take (package inst) off any bytes.
-/
namespace Go.Proofs.YtapmchkikafpmaaDoor
open Go.ChangeShapes Go.WideShapes Go.ChangeAt Go.RowKit Go.Lib
set_option linter.unusedVariables false
set_option linter.unusedSimpArgs false

/-- While a state is taken: the In, the result's box, the state's. -/
def TwoA (w0 w : World) (g k n : Nat) (cs : Array Value) (l : List Nat) (e : Nat) : Prop :=
  InAt w g l e ∧ Blk w k 35 (rowJ zeroJ) ∧ Blk w n 35 cs ∧ w0.grownBy w (some g) ∧ PartsIs w ∧ 0 < g ∧ g < k ∧ k < n ∧ w0.heap.size ≤ k
section
variable {w0 w w' : World} {g k n : Nat} {cs : Array Value} {l l' : List Nat} {e e' : Nat}
theorem TwoA.iat (h : TwoA w0 w g k n cs l e) : InAt w g l e := h.1
theorem TwoA.res (h : TwoA w0 w g k n cs l e) : Blk w k 35 (rowJ zeroJ) := h.2.1
theorem TwoA.box (h : TwoA w0 w g k n cs l e) : Blk w n 35 cs := h.2.2.1
theorem TwoA.grown (h : TwoA w0 w g k n cs l e) : w0.grownBy w (some g) := h.2.2.2.1
theorem TwoA.parts (h : TwoA w0 w g k n cs l e) : PartsIs w := h.2.2.2.2.1
theorem TwoA.on (h : TwoA w0 w g k n cs l e) (hb : Below w.heap.size w w') : TwoA w0 w' g k n cs l e :=
  ⟨h.1.keep (hb.mono h.1.lt), h.res.below hb h.res.lt, h.box.below hb h.box.lt, only_below h.grown hb, h.parts.below hb, h.2.2.2.2.2⟩
theorem TwoA.turn (h : TwoA w0 w g k n cs l e) (hi : InAt w' g l' e') (hb : w.grownBy w' (some g)) : TwoA w0 w' g k n cs l' e' := by
  obtain ⟨h1, h2, h3, h4, h5, h6, h7, h8, h9⟩ := h
  exact ⟨hi, h2.grown hb (by intro e; injection e with e; omega), h3.grown hb (by intro e; injection e with e; omega), h4.trans hb, var_grown gParts h5 h5.lt (by intro e; injection e with e; omega) hb, h6, h7, h8, h9⟩
theorem TwoA.set_ (h : TwoA w0 w g k n cs l e) (i : Nat) (u : Value) {ds : Array Value} (hd : cs.setIfInBounds i u = ds) : TwoA w0 (w.setCell ⟨n, i, none⟩ u) g k n ds l e := by
  obtain ⟨h1, h2, h3, h4, h5, h6, h7, h8, h9⟩ := h
  exact ⟨h1.setCell (by omega), h2.far (by show k ≠ n; omega) u, hd ▸ h3.set_ i u, only_setCell (p := ⟨n, i, none⟩) h4 (.inr (by show w0.heap.size ≤ n; omega)) u, var_under gParts h5 (base := n) (by omega) (Below.setCell (p := ⟨n, i, none⟩) (Below.refl _ _) (Nat.le_refl _) u), h6, h7, h8, h9⟩
theorem TwoA.last (h : TwoA w0 w g k n cs l e) (d : Array Value) : InAt (w.setRow k d) g l e ∧ w0.grownBy (w.setRow k d) (some g) := by
  obtain ⟨h1, h2, h3, h4, h5, h6, h7, h8, h9⟩ := h
  exact ⟨h1.setRow h7, only_setRow h4 h9⟩
theorem TwoA.there (h : TwoA w0 w g k n cs l e) {o m : Nat} (hs : o + m ≤ cs.size) : w.there n o m := fun j hj => by
  refine ⟨?_, h.box.frozen _⟩
  rw [h.box.cell, Array.getElem?_eq_getElem (by omega)]
  rfl
end
theorem TwoA.cmd {w0 w : World} {g k n : Nat} {x : J} {l : List Nat} {e : Nat} (h : TwoA w0 w g k n (rowJ x) l e) (c : K) : TwoA w0 (w.setCells n 6 (lsK c)) g k n (rowJ ⟨x.r, x.s, x.st, x.bal, x.vote, x.same, c, x.f⟩) l e := by
  obtain ⟨r, s, st, bal, vote, same, ⟨k, u, f0, q, p, m, nn, t⟩, f⟩ := x
  obtain ⟨k', u', f', q', s', m', n', t'⟩ := c
  have b0 := h.set_ 6 (.int .i64 k') (ds := rowJ ⟨r, s, st, bal, vote, same, ⟨k', u, f0, q, p, m, nn, t⟩, f⟩) rfl
  have b1 := b0.set_ 7 (.int .u64 u') (ds := rowJ ⟨r, s, st, bal, vote, same, ⟨k', u', f0, q, p, m, nn, t⟩, f⟩) rfl
  have b2 := b1.set_ 8 (.string f') (ds := rowJ ⟨r, s, st, bal, vote, same, ⟨k', u', f', q, p, m, nn, t⟩, f⟩) rfl
  have b3 := b2.set_ 9 (.int .u64 q') (ds := rowJ ⟨r, s, st, bal, vote, same, ⟨k', u', f', q', p, m, nn, t⟩, f⟩) rfl
  have b4 := b3.set_ 10 (.string s') (ds := rowJ ⟨r, s, st, bal, vote, same, ⟨k', u', f', q', s', m, nn, t⟩, f⟩) rfl
  have b5 := b4.set_ 11 (.int .i64 m') (ds := rowJ ⟨r, s, st, bal, vote, same, ⟨k', u', f', q', s', m', nn, t⟩, f⟩) rfl
  have b6 := b5.set_ 12 (.int .u64 n') (ds := rowJ ⟨r, s, st, bal, vote, same, ⟨k', u', f', q', s', m', n', t⟩, f⟩) rfl
  have b7 := b6.set_ 13 (.int .i64 t') (ds := rowJ ⟨r, s, st, bal, vote, same, ⟨k', u', f', q', s', m', n', t'⟩, f⟩) rfl
  exact b7
theorem TwoA.att {w0 w : World} {g k n : Nat} {x : J} {l : List Nat} {e : Nat} (h : TwoA w0 w g k n (rowJ x) l e) (V : Nat → Int) : TwoA w0 (w.setCells n 14 (ls8 V)) g k n (rowJ ⟨x.r, x.s, x.st, x.bal, x.vote, x.same, x.c, V⟩) l e := by
  obtain ⟨r, s, st, bal, vote, same, c, f⟩ := x
  have b0 := h.set_ 14 (.int .i64 (V 0)) (ds := rowJ ⟨r, s, st, bal, vote, same, c, (fun i => if i < 1 then V i else f i)⟩) rfl
  have b1 := b0.set_ 15 (.int .i64 (V 1)) (ds := rowJ ⟨r, s, st, bal, vote, same, c, (fun i => if i < 2 then V i else f i)⟩) rfl
  have b2 := b1.set_ 16 (.int .i64 (V 2)) (ds := rowJ ⟨r, s, st, bal, vote, same, c, (fun i => if i < 3 then V i else f i)⟩) rfl
  have b3 := b2.set_ 17 (.int .i64 (V 3)) (ds := rowJ ⟨r, s, st, bal, vote, same, c, (fun i => if i < 4 then V i else f i)⟩) rfl
  have b4 := b3.set_ 18 (.int .i64 (V 4)) (ds := rowJ ⟨r, s, st, bal, vote, same, c, (fun i => if i < 5 then V i else f i)⟩) rfl
  have b5 := b4.set_ 19 (.int .i64 (V 5)) (ds := rowJ ⟨r, s, st, bal, vote, same, c, (fun i => if i < 6 then V i else f i)⟩) rfl
  have b6 := b5.set_ 20 (.int .i64 (V 6)) (ds := rowJ ⟨r, s, st, bal, vote, same, c, (fun i => if i < 7 then V i else f i)⟩) rfl
  have b7 := b6.set_ 21 (.int .i64 (V 7)) (ds := rowJ ⟨r, s, st, bal, vote, same, c, (fun i => if i < 8 then V i else f i)⟩) rfl
  exact b7
theorem TwoA.bal {w0 w : World} {g k n : Nat} {x : J} {l : List Nat} {e : Nat} (h : TwoA w0 w g k n (rowJ x) l e) (v : Int) : TwoA w0 (w.setCell ⟨n, 3, none⟩ (.int .u32 v)) g k n (rowJ ⟨x.r, x.s, x.st, v, x.vote, x.same, x.c, x.f⟩) l e := h.set_ 3 (.int .u32 v) rfl
theorem TwoA.st {w0 w : World} {g k n : Nat} {x : J} {l : List Nat} {e : Nat} (h : TwoA w0 w g k n (rowJ x) l e) (v : Int) : TwoA w0 (w.setCell ⟨n, 2, none⟩ (.int .i64 v)) g k n (rowJ ⟨x.r, x.s, v, x.bal, x.vote, x.same, x.c, x.f⟩) l e := h.set_ 2 (.int .i64 v) rfl
theorem TwoA.vote {w0 w : World} {g k n : Nat} {x : J} {l : List Nat} {e : Nat} (h : TwoA w0 w g k n (rowJ x) l e) (v : Int) : TwoA w0 (w.setCell ⟨n, 4, none⟩ (.int .u32 v)) g k n (rowJ ⟨x.r, x.s, x.st, x.bal, v, x.same, x.c, x.f⟩) l e := h.set_ 4 (.int .u32 v) rfl
theorem TwoA.same {w0 w : World} {g k n : Nat} {x : J} {l : List Nat} {e : Nat} (h : TwoA w0 w g k n (rowJ x) l e) (v : Bool) : TwoA w0 (w.setCell ⟨n, 5, none⟩ (.bool v)) g k n (rowJ ⟨x.r, x.s, x.st, x.bal, x.vote, v, x.c, x.f⟩) l e := h.set_ 5 (.bool v) rfl

theorem zero22 : Value.agg zrow = .agg (rowJ zeroJ) := rfl
theorem attake8 (g : Nat) (l : List Nat) (e : Nat) (l' : List Nat) (e' : Nat) (V : Nat → Int) (w : World) (h : InAt w g l e) (hS : Sound l e) (hs : sAttr l e = (l', e', V)) :
    Calls Tryd.prog 33 #[.pointer (some ⟨g, 0, none⟩)] w (Turns (fun en => en = .returned (.agg (ls8 V).toArray)) g l' e' w) :=
  attake_any g l e l' e' V w h hS.fine hS.bytes hS.len hs

set_option maxRecDepth 100000 in
set_option maxHeartbeats 8000000 in
theorem insttake_none (g : Nat) (l : List Nat) (e : Nat) (l1 l2 l3 l4 l8 : List Nat) (e1 e2 e3 e4 e8 r s v b vt : Nat) (sm : Bool) (c : K) (V : Nat → Int) (w : World) (h : InAt w g l e) (hS : Sound l e) (hP : PartsIs w) (hg : 0 < g)
    (h1 : sName l e = (l1, e1, r, s)) (h2 : sBallot l1 e1 = (l2, e2, v)) (h3 : sByte l2 e2 = (l3, e3, b)) (h4 : statE b l3 e3 = (l4, e4)) (h5 : valE b l4 e4 = (l8, e8, vt, sm, c, V)) (hb8 : b < 256) (hok : okJ ⟨((r : Nat) : Int), ((s : Nat) : Int), ((b : Nat) : Int), ((v : Nat) : Int), ((vt : Nat) : Int), sm, c, V⟩) (hf : c.foot.size ≤ 4611686018427387903) (hp : c.path.size ≤ 4611686018427387903)
    (hS1 : Sound l1 e1) (hS2 : Sound l2 e2) (hS3 : Sound l3 e3) (hS4 : Sound l4 e4) (hbz : b = 0) :
    Calls Tryd.prog 14 #[.pointer (some ⟨g, 0, none⟩)] w (Turns (fun en => en = .returned (.agg (rowJ (lastJ (l8, e8, ⟨((r : Nat) : Int), ((s : Nat) : Int), ((b : Nat) : Int), ((v : Nat) : Int), ((vt : Nat) : Int), sm, c, V⟩)).2.2))) g (lastJ (l8, e8, ⟨((r : Nat) : Int), ((s : Nat) : Int), ((b : Nat) : Int), ((v : Nat) : Int), ((vt : Nat) : Int), sm, c, V⟩)).1 (lastJ (l8, e8, ⟨((r : Nat) : Int), ((s : Nat) : Int), ((b : Nat) : Int), ((v : Nat) : Int), ((vt : Nat) : Int), sm, c, V⟩)).2.1 w) := by
  have HBZ := hid hbz
  clear hbz
  obtain ⟨rr, hr⟩ : ∃ x, rightJ ⟨((r : Nat) : Int), ((s : Nat) : Int), ((b : Nat) : Int), ((v : Nat) : Int), ((vt : Nat) : Int), sm, c, V⟩ = x := ⟨_, rfl⟩
  have HRR := hid hr
  have HL : Hid (lastJ (l8, e8, ⟨((r : Nat) : Int), ((s : Nat) : Int), ((b : Nat) : Int), ((v : Nat) : Int), ((vt : Nat) : Int), sm, c, V⟩) = if rr then (l8, e8, if e8 = 0 then ⟨((r : Nat) : Int), ((s : Nat) : Int), ((b : Nat) : Int), ((v : Nat) : Int), ((vt : Nat) : Int), sm, c, V⟩ else zeroJ) else (leftE e8 10 l8, firstE e8 10, zeroJ)) := hid (by unfold lastJ; simp only; rw [hr])
  have HOK := hid hok
  have HI := hid h
  have HS := hid hS
  have HS1 := hid hS1
  have HS2 := hid hS2
  have HS3 := hid hS3
  have HS4 := hid hS4
  have HP := hid hP
  have H1 := hid h1
  have H2 := hid h2
  have H3 := hid h3
  have H4 := hid h4
  have H5 := hid h5
  have hgl := h.lt
  have W1 : IntKind.i64.wrap (b : Int) = b := by rw [IntKind.wrap_i64]; omega
  have Z1 := hid (len_inst zeroJ)
  have Z3 := hid (rowJ_one zeroJ)
  clear hr hok h hS hS1 hS2 hS3 hS4 hP h1 h2 h3 h4 h5
  go_enter Tryd.func14, Tryd.ntmps14
  go_upto_region 1 with fail
  obtain ⟨W, hW⟩ : ∃ W, w.alloc (.cells zrow 35) = W := ⟨_, rfl⟩
  rw [hW]
  obtain ⟨K0, KB⟩ := one_new hW
  rw [zrow_is] at K0
  have HI0 := hid (HI.out.keep (KB.out.mono (by omega)))
  have P0 := hid (HP.out.below KB.out)
  have G0 := hid (only_of_below KB.out (some g))
  clear hW KB HI HP
  obtain ⟨k, hk⟩ : ∃ k, w.heap.size = k := ⟨_, rfl⟩
  have HK := hid hk
  rw [hk] at K0 hgl
  rw [hk]
  clear hk
  go_wp2_with fail
  with_reducible refine (takeid_any g l e l1 e1 r s _ HI0.out HS.out.fine HS.out.bytes HS.out.len H1.out).mono ?_
  rintro en w1 ⟨rfl, hin, hgr⟩
  have I1 := hid hin
  have R1 := hid (K0.out.grown hgr (by intro e; injection e with e; omega))
  have P1 : Hid (PartsIs w1) := hid (var_grown gParts P0.out P0.out.lt (by intro e; injection e with e; omega) hgr)
  have G1 := hid (G0.out.trans hgr)
  clear hin hgr HI0 K0 P0 G0
  go_wp2_with fail
  with_reducible refine (new_any (r : Int) (s : Int) _).mono ?_
  rintro en w2 ⟨rfl, hb⟩
  have I2 := hid (I1.out.keep (hb.mono I1.out.lt))
  have R2 := hid (R1.out.below hb R1.out.lt)
  have P2 := hid (P1.out.below hb)
  have G2 := hid (only_below G1.out hb)
  clear hb I1 R1 P1 G1
  obtain ⟨n, hn⟩ : ∃ n, w2.heap.size = n := ⟨_, rfl⟩
  have E0 : Hid (Blk (w2.alloc (.cells zrow 35)) n 35 zrow) := hid (by rw [← hn]; exact Blk.new w2 35 zrow)
  have A0 : Hid (TwoA w ((w2.alloc (.cells zrow 35)).setRow n (rowJ (newJ r s))) g k n (rowJ (newJ r s)) l1 e1) := hid (by
    have hlt := R2.out.lt
    have hI := (I2.out.keep ((Below.refl _ _).alloc (by have := I2.out.lt; omega) (.cells zrow 35))).setRow (r := n) (cs := rowJ (newJ r s)) (by omega)
    have hG := only_setRow (r := n) (cs := rowJ (newJ r s)) (only_below G2.out ((Below.refl _ _).alloc (Nat.le_refl _) (.cells zrow 35))) (by rw [HK.out]; omega)
    exact ⟨hI, (R2.out.alloc _).rowFar (by omega) _, E0.out.row _, hG, var_under gParts (P2.out.alloc (.cells zrow 35)) (base := n) (by omega) (below_setRow_ (Below.refl _ _) (Nat.le_refl _)), hg, by omega, by omega, by rw [HK.out]; exact Nat.le_refl _⟩)
  have N1 := hid (len_inst (newJ r s))
  have N2 := hid (size_inst zeroJ (newJ r s))
  have N3 := hid (rowJ_one (newJ r s))
  go_upto_region 2 with (refine wpList_store_row (o := ⟨none, _, _, _, _, _⟩) rfl 35 (.tmp 3) (.tmp 6) rfl n (rowJ (newJ r s)) rfl rfl 35 zrow E0.out.heap N1.out N2.out N3.out ?_)
  obtain ⟨W2, hW2⟩ : ∃ W2, (w2.alloc (.cells zrow 35)).setRow n (rowJ (newJ r s)) = W2 := ⟨_, rfl⟩
  rw [hW2] at A0
  rw [hW2]
  clear hW2 hn E0 I2 R2 P2 G2 N1 N2 N3
  go_wp2_with fail
  with_reducible refine (takeballot_any g l1 e1 l2 e2 v _ A0.out.iat HS1.out.fine HS1.out.bytes HS1.out.len H2.out).mono ?_
  rintro en w3 ⟨rfl, hin, hgr⟩
  have A1 := hid (A0.out.turn hin hgr)
  clear hin hgr A0
  have c3 := A1.out.box.j3
  have f3 := A1.out.box.frozen 3
  have A2 := hid (A1.out.bal (v : Int))
  clear A1
  go_wp2_with fail
  clear c3 f3
  with_reducible refine (byte_any g l2 e2 l3 e3 b _ A2.out.iat HS2.out.fine H3.out).mono ?_
  rintro en w4 ⟨rfl, hin, hgr⟩
  have A3 := hid (A2.out.turn hin hgr)
  clear hin hgr A2
  have c2 := A3.out.box.j2
  have f2 := A3.out.box.frozen 2
  have A4 := hid (A3.out.st (b : Int))
  clear A3
  go_upto_region 4 with fail
  obtain ⟨W4, hW4⟩ : ∃ W4, w4.setCell ⟨n, 2, none⟩ (.int .i64 (b : Int)) = W4 := ⟨_, rfl⟩
  rw [hW4] at A4
  rw [hW4]
  clear hW4 c2 f2 W1
  have c2 := A4.out.box.j2
  have hstat : statB (b : Int) = decide (b ≤ 3) := by unfold statB; rw [decide_eq_decide]; omega
  have HST := hid hstat
  clear hstat
  have H4' : Hid ((if 3 < b then (leftE e3 22 l3, firstE e3 22) else (l3, e3)) = (l4, e4)) := hid (by rw [← H4.out]; rfl)
  go_wp2_with fail
  with_reducible refine (isstatus_any (b : Int) _).mono ?_
  rw [HST.out]
  rintro en w5 ⟨rfl, rfl⟩
  have hbz := HBZ.out
  subst hbz
  have hd : decide ((0 : Nat) ≤ 3) = true := by decide
  rw [hd]
  obtain ⟨rfl, rfl⟩ : l3 = l4 ∧ e3 = e4 := by have := H4'.out; rw [if_neg (by omega)] at this; simpa using this
  obtain ⟨rfl, rfl, rfl, rfl, rfl, rfl⟩ : l3 = l8 ∧ e3 = e8 ∧ 0 = vt ∧ false = sm ∧ zeroK = c ∧ (fun _ => 0) = V := by have := H5.out; unfold valE at this; simpa using this
  clear H4' H5 hd
  have HL : Hid (lastJ (l3, e3, ⟨((r : Nat) : Int), ((s : Nat) : Int), ((0 : Nat) : Int), ((v : Nat) : Int), ((0 : Nat) : Int), false, zeroK, fun _ => 0⟩) = if rr then (l3, e3, if e3 = 0 then ⟨((r : Nat) : Int), ((s : Nat) : Int), 0, ((v : Nat) : Int), 0, false, zeroK, fun _ => 0⟩ else zeroJ) else (leftE e3 10 l3, firstE e3 10, zeroJ)) := HL
  have HRR : Hid (rightJ ⟨((r : Nat) : Int), ((s : Nat) : Int), 0, ((v : Nat) : Int), 0, false, zeroK, fun _ => 0⟩ = rr) := HRR
  have HOK : Hid (okJ ⟨((r : Nat) : Int), ((s : Nat) : Int), 0, ((v : Nat) : Int), 0, false, zeroK, fun _ => 0⟩) := HOK
  simp only [Int.natCast_zero] at A4 c2
  have AX : Hid (TwoA w W4 g k n (rowJ ⟨((r : Nat) : Int), ((s : Nat) : Int), 0, ((v : Nat) : Int), 0, false, zeroK, fun _ => 0⟩) l3 e3) := A4
  clear A4
  have L1 := hid (len_inst ⟨((r : Nat) : Int), ((s : Nat) : Int), 0, ((v : Nat) : Int), 0, false, zeroK, fun _ => 0⟩)
  have L3 := hid (rowJ_one ⟨((r : Nat) : Int), ((s : Nat) : Int), 0, ((v : Nat) : Int), 0, false, zeroK, fun _ => 0⟩)
  go_wp2_with (with_reducible refine wpList_load_row (o := ⟨some 35, _, _, _, _, _⟩) rfl 35 (.tmp 3) rfl n rfl 35 (rowJ ⟨((r : Nat) : Int), ((s : Nat) : Int), 0, ((v : Nat) : Int), 0, false, zeroK, fun _ => 0⟩) (0, 0) _ AX.out.box.heap Tryd.underlying35 rfl L1.out ?_)
  with_reducible refine (jright_any ⟨((r : Nat) : Int), ((s : Nat) : Int), 0, ((v : Nat) : Int), 0, false, zeroK, fun _ => 0⟩ HOK.out _ AX.out.parts hf hp).mono ?_
  rw [HRR.out]
  rintro en wr ⟨rfl, hb⟩
  have T1 := hid (AX.out.on hb)
  clear hb AX
  cases rr
  · have hpos : 0 < firstE e3 10 := firstE_pos (by omega)
    go_wp2_with fail
    with_reducible refine (fail_any g l3 e3 10 10 _ T1.out.iat rfl).mono ?_
    rintro en ws ⟨rfl, hin, hgr⟩
    have T2 := hid (T1.out.turn hin hgr)
    clear hin hgr T1
    go_wp2_with fail
    with_reducible refine (failed_yes g (leftE e3 10 l3) (firstE e3 10) _ T2.out.iat hpos).mono ?_
    rintro en wt ⟨rfl, rfl⟩
    have T3 := hid (T2.out.last (rowJ zeroJ))
    go_wp2_with (refine wpList_store_row (o := ⟨none, _, _, _, _, _⟩) rfl 35 (.tmp 2) (.tmp 42) rfl k (rowJ zeroJ) (by rfl) ?hy 35 (rowJ zeroJ) T2.out.res.heap Z1.out (size_inst _ _) Z3.out ?_; (case hy => rfl))
    exact bodyPost_ret (v := .agg (rowJ zeroJ)) (results_cell_row (p := 2) (ty := 35) (by kernel_rfl) _ _ k 35 (rowJ zeroJ) (0, 0) _ rfl (setRow_heap _ k _ (rowJ zeroJ) _ _ T2.out.res.heap) Tryd.underlying35 rfl Z1.out) rfl ⟨by rw [HL.out]; rfl, by rw [HL.out]; exact T3.out.1, T3.out.2⟩
  · by_cases h0 : e3 = 0
    · have H0 := hid h0
      clear h0
      go_wp2_with fail
      with_reducible refine (failed_as false g l3 e3 _ T1.out.iat (by rw [H0.out]; simp)).mono ?_
      rintro en wt ⟨rfl, rfl⟩
      have T3 := hid (T1.out.last (rowJ ⟨((r : Nat) : Int), ((s : Nat) : Int), 0, ((v : Nat) : Int), 0, false, zeroK, fun _ => 0⟩))
      go_wp2_with (first
        | (with_reducible refine wpList_load_row (o := ⟨some 43, _, _, _, _, _⟩) rfl 35 (.tmp 3) rfl n rfl 35 (rowJ ⟨((r : Nat) : Int), ((s : Nat) : Int), 0, ((v : Nat) : Int), 0, false, zeroK, fun _ => 0⟩) (0, 0) _ T1.out.box.heap Tryd.underlying35 rfl L1.out ?_)
        | (with_reducible refine wpList_store_row (o := ⟨none, _, _, _, _, _⟩) rfl 35 (.tmp 2) (.tmp 43) rfl k (rowJ ⟨((r : Nat) : Int), ((s : Nat) : Int), 0, ((v : Nat) : Int), 0, false, zeroK, fun _ => 0⟩) rfl rfl 35 (rowJ zeroJ) T1.out.res.heap L1.out (size_inst _ _) L3.out ?_))
      exact bodyPost_ret (v := .agg (rowJ ⟨((r : Nat) : Int), ((s : Nat) : Int), 0, ((v : Nat) : Int), 0, false, zeroK, fun _ => 0⟩)) (results_cell_row (p := 2) (ty := 35) (by kernel_rfl) _ _ k 35 (rowJ ⟨((r : Nat) : Int), ((s : Nat) : Int), 0, ((v : Nat) : Int), 0, false, zeroK, fun _ => 0⟩) (0, 0) _ rfl (setRow_heap _ k _ (rowJ ⟨((r : Nat) : Int), ((s : Nat) : Int), 0, ((v : Nat) : Int), 0, false, zeroK, fun _ => 0⟩) _ _ T1.out.res.heap) Tryd.underlying35 rfl L1.out) rfl ⟨by rw [HL.out]; (first | rw [if_pos rfl, if_pos H0.out] | rw [if_pos rfl, if_neg H0.out] | rw [if_pos True.intro, if_pos H0.out] | rw [if_pos True.intro, if_neg H0.out]), by rw [HL.out]; exact T3.out.1, T3.out.2⟩
    · have hpos : 0 < e3 := by omega
      have H0 := hid h0
      clear h0
      go_wp2_with fail
      with_reducible refine (failed_yes g l3 e3 _ T1.out.iat hpos).mono ?_
      rintro en wt ⟨rfl, rfl⟩
      have T3 := hid (T1.out.last (rowJ zeroJ))
      go_wp2_with (refine wpList_store_row (o := ⟨none, _, _, _, _, _⟩) rfl 35 (.tmp 2) (.tmp 42) rfl k (rowJ zeroJ) (by rfl) ?hy 35 (rowJ zeroJ) T1.out.res.heap Z1.out (size_inst _ _) Z3.out ?_; (case hy => rfl))
      exact bodyPost_ret (v := .agg (rowJ zeroJ)) (results_cell_row (p := 2) (ty := 35) (by kernel_rfl) _ _ k 35 (rowJ zeroJ) (0, 0) _ rfl (setRow_heap _ k _ (rowJ zeroJ) _ _ T1.out.res.heap) Tryd.underlying35 rfl Z1.out) rfl ⟨by rw [HL.out]; (first | rw [if_pos rfl, if_pos H0.out] | rw [if_pos rfl, if_neg H0.out] | rw [if_pos True.intro, if_pos H0.out] | rw [if_pos True.intro, if_neg H0.out]), by rw [HL.out]; exact T3.out.1, T3.out.2⟩

set_option maxRecDepth 100000 in
set_option maxHeartbeats 8000000 in
theorem insttake_some (g : Nat) (l : List Nat) (e : Nat) (l1 l2 l3 l4 l8 : List Nat) (e1 e2 e3 e4 e8 r s v b vt : Nat) (sm : Bool) (c : K) (V : Nat → Int) (w : World) (h : InAt w g l e) (hS : Sound l e) (hP : PartsIs w) (hg : 0 < g)
    (h1 : sName l e = (l1, e1, r, s)) (h2 : sBallot l1 e1 = (l2, e2, v)) (h3 : sByte l2 e2 = (l3, e3, b)) (h4 : statE b l3 e3 = (l4, e4)) (h5 : valE b l4 e4 = (l8, e8, vt, sm, c, V)) (hb8 : b < 256) (hok : okJ ⟨((r : Nat) : Int), ((s : Nat) : Int), ((b : Nat) : Int), ((v : Nat) : Int), ((vt : Nat) : Int), sm, c, V⟩) (hf : c.foot.size ≤ 4611686018427387903) (hp : c.path.size ≤ 4611686018427387903)
    (hS1 : Sound l1 e1) (hS2 : Sound l2 e2) (hS3 : Sound l3 e3) (hS4 : Sound l4 e4) (hbz : b ≠ 0) :
    Calls Tryd.prog 14 #[.pointer (some ⟨g, 0, none⟩)] w (Turns (fun en => en = .returned (.agg (rowJ (lastJ (l8, e8, ⟨((r : Nat) : Int), ((s : Nat) : Int), ((b : Nat) : Int), ((v : Nat) : Int), ((vt : Nat) : Int), sm, c, V⟩)).2.2))) g (lastJ (l8, e8, ⟨((r : Nat) : Int), ((s : Nat) : Int), ((b : Nat) : Int), ((v : Nat) : Int), ((vt : Nat) : Int), sm, c, V⟩)).1 (lastJ (l8, e8, ⟨((r : Nat) : Int), ((s : Nat) : Int), ((b : Nat) : Int), ((v : Nat) : Int), ((vt : Nat) : Int), sm, c, V⟩)).2.1 w) := by
  obtain ⟨rr, hr⟩ : ∃ x, rightJ ⟨((r : Nat) : Int), ((s : Nat) : Int), ((b : Nat) : Int), ((v : Nat) : Int), ((vt : Nat) : Int), sm, c, V⟩ = x := ⟨_, rfl⟩
  have HRR := hid hr
  have HL : Hid (lastJ (l8, e8, ⟨((r : Nat) : Int), ((s : Nat) : Int), ((b : Nat) : Int), ((v : Nat) : Int), ((vt : Nat) : Int), sm, c, V⟩) = if rr then (l8, e8, if e8 = 0 then ⟨((r : Nat) : Int), ((s : Nat) : Int), ((b : Nat) : Int), ((v : Nat) : Int), ((vt : Nat) : Int), sm, c, V⟩ else zeroJ) else (leftE e8 10 l8, firstE e8 10, zeroJ)) := hid (by unfold lastJ; simp only; rw [hr])
  have HOK := hid hok
  have HI := hid h
  have HS := hid hS
  have HS1 := hid hS1
  have HS2 := hid hS2
  have HS3 := hid hS3
  have HS4 := hid hS4
  have HP := hid hP
  have H1 := hid h1
  have H2 := hid h2
  have H3 := hid h3
  have H4 := hid h4
  have H5 := hid h5
  have hgl := h.lt
  have W1 : IntKind.i64.wrap (b : Int) = b := by rw [IntKind.wrap_i64]; omega
  have Z1 := hid (len_inst zeroJ)
  have Z3 := hid (rowJ_one zeroJ)
  clear hr hok h hS hS1 hS2 hS3 hS4 hP h1 h2 h3 h4 h5
  go_enter Tryd.func14, Tryd.ntmps14
  go_upto_region 1 with fail
  obtain ⟨W, hW⟩ : ∃ W, w.alloc (.cells zrow 35) = W := ⟨_, rfl⟩
  rw [hW]
  obtain ⟨K0, KB⟩ := one_new hW
  rw [zrow_is] at K0
  have HI0 := hid (HI.out.keep (KB.out.mono (by omega)))
  have P0 := hid (HP.out.below KB.out)
  have G0 := hid (only_of_below KB.out (some g))
  clear hW KB HI HP
  obtain ⟨k, hk⟩ : ∃ k, w.heap.size = k := ⟨_, rfl⟩
  have HK := hid hk
  rw [hk] at K0 hgl
  rw [hk]
  clear hk
  go_wp2_with fail
  with_reducible refine (takeid_any g l e l1 e1 r s _ HI0.out HS.out.fine HS.out.bytes HS.out.len H1.out).mono ?_
  rintro en w1 ⟨rfl, hin, hgr⟩
  have I1 := hid hin
  have R1 := hid (K0.out.grown hgr (by intro e; injection e with e; omega))
  have P1 : Hid (PartsIs w1) := hid (var_grown gParts P0.out P0.out.lt (by intro e; injection e with e; omega) hgr)
  have G1 := hid (G0.out.trans hgr)
  clear hin hgr HI0 K0 P0 G0
  go_wp2_with fail
  with_reducible refine (new_any (r : Int) (s : Int) _).mono ?_
  rintro en w2 ⟨rfl, hb⟩
  have I2 := hid (I1.out.keep (hb.mono I1.out.lt))
  have R2 := hid (R1.out.below hb R1.out.lt)
  have P2 := hid (P1.out.below hb)
  have G2 := hid (only_below G1.out hb)
  clear hb I1 R1 P1 G1
  obtain ⟨n, hn⟩ : ∃ n, w2.heap.size = n := ⟨_, rfl⟩
  have E0 : Hid (Blk (w2.alloc (.cells zrow 35)) n 35 zrow) := hid (by rw [← hn]; exact Blk.new w2 35 zrow)
  have A0 : Hid (TwoA w ((w2.alloc (.cells zrow 35)).setRow n (rowJ (newJ r s))) g k n (rowJ (newJ r s)) l1 e1) := hid (by
    have hlt := R2.out.lt
    have hI := (I2.out.keep ((Below.refl _ _).alloc (by have := I2.out.lt; omega) (.cells zrow 35))).setRow (r := n) (cs := rowJ (newJ r s)) (by omega)
    have hG := only_setRow (r := n) (cs := rowJ (newJ r s)) (only_below G2.out ((Below.refl _ _).alloc (Nat.le_refl _) (.cells zrow 35))) (by rw [HK.out]; omega)
    exact ⟨hI, (R2.out.alloc _).rowFar (by omega) _, E0.out.row _, hG, var_under gParts (P2.out.alloc (.cells zrow 35)) (base := n) (by omega) (below_setRow_ (Below.refl _ _) (Nat.le_refl _)), hg, by omega, by omega, by rw [HK.out]; exact Nat.le_refl _⟩)
  have N1 := hid (len_inst (newJ r s))
  have N2 := hid (size_inst zeroJ (newJ r s))
  have N3 := hid (rowJ_one (newJ r s))
  go_upto_region 2 with (refine wpList_store_row (o := ⟨none, _, _, _, _, _⟩) rfl 35 (.tmp 3) (.tmp 6) rfl n (rowJ (newJ r s)) rfl rfl 35 zrow E0.out.heap N1.out N2.out N3.out ?_)
  obtain ⟨W2, hW2⟩ : ∃ W2, (w2.alloc (.cells zrow 35)).setRow n (rowJ (newJ r s)) = W2 := ⟨_, rfl⟩
  rw [hW2] at A0
  rw [hW2]
  clear hW2 hn E0 I2 R2 P2 G2 N1 N2 N3
  go_wp2_with fail
  with_reducible refine (takeballot_any g l1 e1 l2 e2 v _ A0.out.iat HS1.out.fine HS1.out.bytes HS1.out.len H2.out).mono ?_
  rintro en w3 ⟨rfl, hin, hgr⟩
  have A1 := hid (A0.out.turn hin hgr)
  clear hin hgr A0
  have c3 := A1.out.box.j3
  have f3 := A1.out.box.frozen 3
  have A2 := hid (A1.out.bal (v : Int))
  clear A1
  go_wp2_with fail
  clear c3 f3
  with_reducible refine (byte_any g l2 e2 l3 e3 b _ A2.out.iat HS2.out.fine H3.out).mono ?_
  rintro en w4 ⟨rfl, hin, hgr⟩
  have A3 := hid (A2.out.turn hin hgr)
  clear hin hgr A2
  have c2 := A3.out.box.j2
  have f2 := A3.out.box.frozen 2
  have A4 := hid (A3.out.st (b : Int))
  clear A3
  go_upto_region 4 with fail
  obtain ⟨W4, hW4⟩ : ∃ W4, w4.setCell ⟨n, 2, none⟩ (.int .i64 (b : Int)) = W4 := ⟨_, rfl⟩
  rw [hW4] at A4
  rw [hW4]
  clear hW4 c2 f2 W1
  have c2 := A4.out.box.j2
  have hstat : statB (b : Int) = decide (b ≤ 3) := by unfold statB; rw [decide_eq_decide]; omega
  have HST := hid hstat
  clear hstat
  have H4' : Hid ((if 3 < b then (leftE e3 22 l3, firstE e3 22) else (l3, e3)) = (l4, e4)) := hid (by rw [← H4.out]; rfl)
  go_wp2_with fail
  with_reducible refine (isstatus_any (b : Int) _).mono ?_
  rw [HST.out]
  rintro en w5 ⟨rfl, rfl⟩
  have hb0 : ((b : Int) != 0) = true := by rw [bne_iff_ne]; omega
  obtain ⟨l5, e5, l6, e6, l7, e7, g5, g6, g7, g8⟩ := valE_some hbz H5.out
  obtain ⟨s5, _, _⟩ := sBallot_sound HS4.out g5
  have s6 := sTruth_sound s5 g6
  obtain ⟨s7, _⟩ := sCmd_sound s6 g7
  have S5 := hid s5
  have S6 := hid s6
  have S7 := hid s7
  have G5 := hid g5
  have G6 := hid g6
  have G7 := hid g7
  have G8 := hid g8
  clear s5 s6 s7 g5 g6 g7 g8 H5
  have key : ∃ W5 : World, True := ⟨w, trivial⟩
  clear key
  by_cases hb3 : 3 < b
  · have hd : decide (b ≤ 3) = false := decide_eq_false (by omega)
    rw [hd]
    have hm : leftE e3 22 l3 = l4 ∧ firstE e3 22 = e4 := by have := H4'.out; rw [if_pos hb3] at this; simpa using this
    have HM := hid hm
    clear hm hd H4'
    go_wp2_with fail
    with_reducible refine (fail_any g l3 e3 22 22 _ A4.out.iat rfl).mono ?_
    rw [HM.out.1, HM.out.2]
    rintro en w5 ⟨rfl, hin, hgr⟩
    have A5 := hid (A4.out.turn hin hgr)
    clear hin hgr A4 c2
    have c2 := A5.out.box.j2
    go_wp2_with fail
    clear c2
    with_reducible refine (takeballot_any g l4 e4 l5 e5 vt _ A5.out.iat HS4.out.fine HS4.out.bytes HS4.out.len G5.out).mono ?_
    rintro en w6 ⟨rfl, hin, hgr⟩
    have A6 := hid (A5.out.turn hin hgr)
    clear hin hgr A5
    have c4 := A6.out.box.j4
    have f4 := A6.out.box.frozen 4
    have A7 := hid (A6.out.vote (vt : Int))
    clear A6
    go_wp2_with fail
    clear c4 f4
    with_reducible refine (truth_any g l5 e5 l6 e6 sm _ A7.out.iat S5.out.fine S5.out.bytes G6.out).mono ?_
    rintro en w7 ⟨rfl, hin, hgr⟩
    have A8 := hid (A7.out.turn hin hgr)
    clear hin hgr A7
    have c5 := A8.out.box.j5
    have f5 := A8.out.box.frozen 5
    have A9 := hid (A8.out.same sm)
    clear A8
    go_wp2_with fail
    clear c5 f5
    with_reducible refine (cmdtakeE_any g l6 e6 l7 e7 c _ A9.out.iat S6.out A9.out.parts hg G7.out).mono ?_
    rintro en w8 ⟨rfl, hin, hgr⟩
    have B1 := hid (A9.out.turn hin hgr)
    clear hin hgr A9
    have B2 := hid (B1.out.cmd c)
    have T6 := hid (B1.out.there (o := 6) (m := 8) (by rw [rowJ_size]; decide))
    have I6 := hid (info_cmd8 c)
    have O6 := hid (one_cmdK c)
    clear B1
    go_wp2_with (refine wpList_store_mid (op := ⟨none, _, _, _, _, _⟩) rfl 30 (.tmp 31) (.tmp 30) rfl n 6 (cellsOf c) rfl rfl T6.out I6.out O6.out ?_)
    with_reducible refine (attake8 g l7 e7 l8 e8 V _ B2.out.iat S7.out G8.out).mono ?_
    rintro en w9 ⟨rfl, hin, hgr⟩
    have B3 := hid (B2.out.turn hin hgr)
    clear hin hgr B2 T6 I6 O6
    have B4 := hid (B3.out.att V)
    have T14 := hid (B3.out.there (o := 14) (m := 8) (by rw [rowJ_size]; decide))
    have I14 := hid (info_att8 V)
    have O14 := hid (rowA_one V)
    clear B3
    go_upto_region 11 with (refine wpList_store_mid (op := ⟨none, _, _, _, _, _⟩) rfl 33 (.tmp 34) (.tmp 33) rfl n 14 (ls8 V).toArray rfl rfl T14.out I14.out O14.out ?_)
    obtain ⟨W9, hW9⟩ : ∃ W9, w9.setCells n 14 (ls8 V).toArray.toList = W9 := ⟨_, rfl⟩
    rw [hW9]
    have AX : Hid (TwoA w W9 g k n (rowJ ⟨((r : Nat) : Int), ((s : Nat) : Int), ((b : Nat) : Int), ((v : Nat) : Int), ((vt : Nat) : Int), sm, c, V⟩) l8 e8) := hid (by rw [← hW9]; exact B4.out)
    clear hW9 B4 T14 I14 O14
    have L1 := hid (len_inst ⟨((r : Nat) : Int), ((s : Nat) : Int), ((b : Nat) : Int), ((v : Nat) : Int), ((vt : Nat) : Int), sm, c, V⟩)
    have L3 := hid (rowJ_one ⟨((r : Nat) : Int), ((s : Nat) : Int), ((b : Nat) : Int), ((v : Nat) : Int), ((vt : Nat) : Int), sm, c, V⟩)
    go_wp2_with (with_reducible refine wpList_load_row (o := ⟨some 35, _, _, _, _, _⟩) rfl 35 (.tmp 3) rfl n rfl 35 (rowJ ⟨((r : Nat) : Int), ((s : Nat) : Int), ((b : Nat) : Int), ((v : Nat) : Int), ((vt : Nat) : Int), sm, c, V⟩) (0, 0) _ AX.out.box.heap Tryd.underlying35 rfl L1.out ?_)
    with_reducible refine (jright_any ⟨((r : Nat) : Int), ((s : Nat) : Int), ((b : Nat) : Int), ((v : Nat) : Int), ((vt : Nat) : Int), sm, c, V⟩ HOK.out _ AX.out.parts hf hp).mono ?_
    rw [HRR.out]
    rintro en wr ⟨rfl, hb⟩
    have T1 := hid (AX.out.on hb)
    clear hb AX
    cases rr
    · have hpos : 0 < firstE e8 10 := firstE_pos (by omega)
      go_wp2_with fail
      with_reducible refine (fail_any g l8 e8 10 10 _ T1.out.iat rfl).mono ?_
      rintro en ws ⟨rfl, hin, hgr⟩
      have T2 := hid (T1.out.turn hin hgr)
      clear hin hgr T1
      go_wp2_with fail
      with_reducible refine (failed_yes g (leftE e8 10 l8) (firstE e8 10) _ T2.out.iat hpos).mono ?_
      rintro en wt ⟨rfl, rfl⟩
      have T3 := hid (T2.out.last (rowJ zeroJ))
      go_wp2_with (refine wpList_store_row (o := ⟨none, _, _, _, _, _⟩) rfl 35 (.tmp 2) (.tmp 42) rfl k (rowJ zeroJ) (by rfl) ?hy 35 (rowJ zeroJ) T2.out.res.heap Z1.out (size_inst _ _) Z3.out ?_; (case hy => rfl))
      exact bodyPost_ret (v := .agg (rowJ zeroJ)) (results_cell_row (p := 2) (ty := 35) (by kernel_rfl) _ _ k 35 (rowJ zeroJ) (0, 0) _ rfl (setRow_heap _ k _ (rowJ zeroJ) _ _ T2.out.res.heap) Tryd.underlying35 rfl Z1.out) rfl ⟨by rw [HL.out]; rfl, by rw [HL.out]; exact T3.out.1, T3.out.2⟩
    · by_cases h0 : e8 = 0
      · have H0 := hid h0
        clear h0
        go_wp2_with fail
        with_reducible refine (failed_as false g l8 e8 _ T1.out.iat (by rw [H0.out]; simp)).mono ?_
        rintro en wt ⟨rfl, rfl⟩
        have T3 := hid (T1.out.last (rowJ ⟨((r : Nat) : Int), ((s : Nat) : Int), ((b : Nat) : Int), ((v : Nat) : Int), ((vt : Nat) : Int), sm, c, V⟩))
        go_wp2_with (first
          | (with_reducible refine wpList_load_row (o := ⟨some 43, _, _, _, _, _⟩) rfl 35 (.tmp 3) rfl n rfl 35 (rowJ ⟨((r : Nat) : Int), ((s : Nat) : Int), ((b : Nat) : Int), ((v : Nat) : Int), ((vt : Nat) : Int), sm, c, V⟩) (0, 0) _ T1.out.box.heap Tryd.underlying35 rfl L1.out ?_)
          | (with_reducible refine wpList_store_row (o := ⟨none, _, _, _, _, _⟩) rfl 35 (.tmp 2) (.tmp 43) rfl k (rowJ ⟨((r : Nat) : Int), ((s : Nat) : Int), ((b : Nat) : Int), ((v : Nat) : Int), ((vt : Nat) : Int), sm, c, V⟩) rfl rfl 35 (rowJ zeroJ) T1.out.res.heap L1.out (size_inst _ _) L3.out ?_))
        exact bodyPost_ret (v := .agg (rowJ ⟨((r : Nat) : Int), ((s : Nat) : Int), ((b : Nat) : Int), ((v : Nat) : Int), ((vt : Nat) : Int), sm, c, V⟩)) (results_cell_row (p := 2) (ty := 35) (by kernel_rfl) _ _ k 35 (rowJ ⟨((r : Nat) : Int), ((s : Nat) : Int), ((b : Nat) : Int), ((v : Nat) : Int), ((vt : Nat) : Int), sm, c, V⟩) (0, 0) _ rfl (setRow_heap _ k _ (rowJ ⟨((r : Nat) : Int), ((s : Nat) : Int), ((b : Nat) : Int), ((v : Nat) : Int), ((vt : Nat) : Int), sm, c, V⟩) _ _ T1.out.res.heap) Tryd.underlying35 rfl L1.out) rfl ⟨by rw [HL.out]; (first | rw [if_pos rfl, if_pos H0.out] | rw [if_pos rfl, if_neg H0.out] | rw [if_pos True.intro, if_pos H0.out] | rw [if_pos True.intro, if_neg H0.out]), by rw [HL.out]; exact T3.out.1, T3.out.2⟩
      · have hpos : 0 < e8 := by omega
        have H0 := hid h0
        clear h0
        go_wp2_with fail
        with_reducible refine (failed_yes g l8 e8 _ T1.out.iat hpos).mono ?_
        rintro en wt ⟨rfl, rfl⟩
        have T3 := hid (T1.out.last (rowJ zeroJ))
        go_wp2_with (refine wpList_store_row (o := ⟨none, _, _, _, _, _⟩) rfl 35 (.tmp 2) (.tmp 42) rfl k (rowJ zeroJ) (by rfl) ?hy 35 (rowJ zeroJ) T1.out.res.heap Z1.out (size_inst _ _) Z3.out ?_; (case hy => rfl))
        exact bodyPost_ret (v := .agg (rowJ zeroJ)) (results_cell_row (p := 2) (ty := 35) (by kernel_rfl) _ _ k 35 (rowJ zeroJ) (0, 0) _ rfl (setRow_heap _ k _ (rowJ zeroJ) _ _ T1.out.res.heap) Tryd.underlying35 rfl Z1.out) rfl ⟨by rw [HL.out]; (first | rw [if_pos rfl, if_pos H0.out] | rw [if_pos rfl, if_neg H0.out] | rw [if_pos True.intro, if_pos H0.out] | rw [if_pos True.intro, if_neg H0.out]), by rw [HL.out]; exact T3.out.1, T3.out.2⟩
  · have hd : decide (b ≤ 3) = true := decide_eq_true (by omega)
    rw [hd]
    obtain ⟨rfl, rfl⟩ : l4 = l3 ∧ e4 = e3 := by have := H4'.out; rw [if_neg hb3] at this; simp at this; exact ⟨this.1.symm, this.2.symm⟩
    clear hd H4'
    have A5 := A4
    clear A4
    go_wp2_with fail
    clear c2
    with_reducible refine (takeballot_any g l4 e4 l5 e5 vt _ A5.out.iat HS4.out.fine HS4.out.bytes HS4.out.len G5.out).mono ?_
    rintro en w6 ⟨rfl, hin, hgr⟩
    have A6 := hid (A5.out.turn hin hgr)
    clear hin hgr A5
    have c4 := A6.out.box.j4
    have f4 := A6.out.box.frozen 4
    have A7 := hid (A6.out.vote (vt : Int))
    clear A6
    go_wp2_with fail
    clear c4 f4
    with_reducible refine (truth_any g l5 e5 l6 e6 sm _ A7.out.iat S5.out.fine S5.out.bytes G6.out).mono ?_
    rintro en w7 ⟨rfl, hin, hgr⟩
    have A8 := hid (A7.out.turn hin hgr)
    clear hin hgr A7
    have c5 := A8.out.box.j5
    have f5 := A8.out.box.frozen 5
    have A9 := hid (A8.out.same sm)
    clear A8
    go_wp2_with fail
    clear c5 f5
    with_reducible refine (cmdtakeE_any g l6 e6 l7 e7 c _ A9.out.iat S6.out A9.out.parts hg G7.out).mono ?_
    rintro en w8 ⟨rfl, hin, hgr⟩
    have B1 := hid (A9.out.turn hin hgr)
    clear hin hgr A9
    have B2 := hid (B1.out.cmd c)
    have T6 := hid (B1.out.there (o := 6) (m := 8) (by rw [rowJ_size]; decide))
    have I6 := hid (info_cmd8 c)
    have O6 := hid (one_cmdK c)
    clear B1
    go_wp2_with (refine wpList_store_mid (op := ⟨none, _, _, _, _, _⟩) rfl 30 (.tmp 31) (.tmp 30) rfl n 6 (cellsOf c) rfl rfl T6.out I6.out O6.out ?_)
    with_reducible refine (attake8 g l7 e7 l8 e8 V _ B2.out.iat S7.out G8.out).mono ?_
    rintro en w9 ⟨rfl, hin, hgr⟩
    have B3 := hid (B2.out.turn hin hgr)
    clear hin hgr B2 T6 I6 O6
    have B4 := hid (B3.out.att V)
    have T14 := hid (B3.out.there (o := 14) (m := 8) (by rw [rowJ_size]; decide))
    have I14 := hid (info_att8 V)
    have O14 := hid (rowA_one V)
    clear B3
    go_upto_region 11 with (refine wpList_store_mid (op := ⟨none, _, _, _, _, _⟩) rfl 33 (.tmp 34) (.tmp 33) rfl n 14 (ls8 V).toArray rfl rfl T14.out I14.out O14.out ?_)
    obtain ⟨W9, hW9⟩ : ∃ W9, w9.setCells n 14 (ls8 V).toArray.toList = W9 := ⟨_, rfl⟩
    rw [hW9]
    have AX : Hid (TwoA w W9 g k n (rowJ ⟨((r : Nat) : Int), ((s : Nat) : Int), ((b : Nat) : Int), ((v : Nat) : Int), ((vt : Nat) : Int), sm, c, V⟩) l8 e8) := hid (by rw [← hW9]; exact B4.out)
    clear hW9 B4 T14 I14 O14
    have L1 := hid (len_inst ⟨((r : Nat) : Int), ((s : Nat) : Int), ((b : Nat) : Int), ((v : Nat) : Int), ((vt : Nat) : Int), sm, c, V⟩)
    have L3 := hid (rowJ_one ⟨((r : Nat) : Int), ((s : Nat) : Int), ((b : Nat) : Int), ((v : Nat) : Int), ((vt : Nat) : Int), sm, c, V⟩)
    go_wp2_with (with_reducible refine wpList_load_row (o := ⟨some 35, _, _, _, _, _⟩) rfl 35 (.tmp 3) rfl n rfl 35 (rowJ ⟨((r : Nat) : Int), ((s : Nat) : Int), ((b : Nat) : Int), ((v : Nat) : Int), ((vt : Nat) : Int), sm, c, V⟩) (0, 0) _ AX.out.box.heap Tryd.underlying35 rfl L1.out ?_)
    with_reducible refine (jright_any ⟨((r : Nat) : Int), ((s : Nat) : Int), ((b : Nat) : Int), ((v : Nat) : Int), ((vt : Nat) : Int), sm, c, V⟩ HOK.out _ AX.out.parts hf hp).mono ?_
    rw [HRR.out]
    rintro en wr ⟨rfl, hb⟩
    have T1 := hid (AX.out.on hb)
    clear hb AX
    cases rr
    · have hpos : 0 < firstE e8 10 := firstE_pos (by omega)
      go_wp2_with fail
      with_reducible refine (fail_any g l8 e8 10 10 _ T1.out.iat rfl).mono ?_
      rintro en ws ⟨rfl, hin, hgr⟩
      have T2 := hid (T1.out.turn hin hgr)
      clear hin hgr T1
      go_wp2_with fail
      with_reducible refine (failed_yes g (leftE e8 10 l8) (firstE e8 10) _ T2.out.iat hpos).mono ?_
      rintro en wt ⟨rfl, rfl⟩
      have T3 := hid (T2.out.last (rowJ zeroJ))
      go_wp2_with (refine wpList_store_row (o := ⟨none, _, _, _, _, _⟩) rfl 35 (.tmp 2) (.tmp 42) rfl k (rowJ zeroJ) (by rfl) ?hy 35 (rowJ zeroJ) T2.out.res.heap Z1.out (size_inst _ _) Z3.out ?_; (case hy => rfl))
      exact bodyPost_ret (v := .agg (rowJ zeroJ)) (results_cell_row (p := 2) (ty := 35) (by kernel_rfl) _ _ k 35 (rowJ zeroJ) (0, 0) _ rfl (setRow_heap _ k _ (rowJ zeroJ) _ _ T2.out.res.heap) Tryd.underlying35 rfl Z1.out) rfl ⟨by rw [HL.out]; rfl, by rw [HL.out]; exact T3.out.1, T3.out.2⟩
    · by_cases h0 : e8 = 0
      · have H0 := hid h0
        clear h0
        go_wp2_with fail
        with_reducible refine (failed_as false g l8 e8 _ T1.out.iat (by rw [H0.out]; simp)).mono ?_
        rintro en wt ⟨rfl, rfl⟩
        have T3 := hid (T1.out.last (rowJ ⟨((r : Nat) : Int), ((s : Nat) : Int), ((b : Nat) : Int), ((v : Nat) : Int), ((vt : Nat) : Int), sm, c, V⟩))
        go_wp2_with (first
          | (with_reducible refine wpList_load_row (o := ⟨some 43, _, _, _, _, _⟩) rfl 35 (.tmp 3) rfl n rfl 35 (rowJ ⟨((r : Nat) : Int), ((s : Nat) : Int), ((b : Nat) : Int), ((v : Nat) : Int), ((vt : Nat) : Int), sm, c, V⟩) (0, 0) _ T1.out.box.heap Tryd.underlying35 rfl L1.out ?_)
          | (with_reducible refine wpList_store_row (o := ⟨none, _, _, _, _, _⟩) rfl 35 (.tmp 2) (.tmp 43) rfl k (rowJ ⟨((r : Nat) : Int), ((s : Nat) : Int), ((b : Nat) : Int), ((v : Nat) : Int), ((vt : Nat) : Int), sm, c, V⟩) rfl rfl 35 (rowJ zeroJ) T1.out.res.heap L1.out (size_inst _ _) L3.out ?_))
        exact bodyPost_ret (v := .agg (rowJ ⟨((r : Nat) : Int), ((s : Nat) : Int), ((b : Nat) : Int), ((v : Nat) : Int), ((vt : Nat) : Int), sm, c, V⟩)) (results_cell_row (p := 2) (ty := 35) (by kernel_rfl) _ _ k 35 (rowJ ⟨((r : Nat) : Int), ((s : Nat) : Int), ((b : Nat) : Int), ((v : Nat) : Int), ((vt : Nat) : Int), sm, c, V⟩) (0, 0) _ rfl (setRow_heap _ k _ (rowJ ⟨((r : Nat) : Int), ((s : Nat) : Int), ((b : Nat) : Int), ((v : Nat) : Int), ((vt : Nat) : Int), sm, c, V⟩) _ _ T1.out.res.heap) Tryd.underlying35 rfl L1.out) rfl ⟨by rw [HL.out]; (first | rw [if_pos rfl, if_pos H0.out] | rw [if_pos rfl, if_neg H0.out] | rw [if_pos True.intro, if_pos H0.out] | rw [if_pos True.intro, if_neg H0.out]), by rw [HL.out]; exact T3.out.1, T3.out.2⟩
      · have hpos : 0 < e8 := by omega
        have H0 := hid h0
        clear h0
        go_wp2_with fail
        with_reducible refine (failed_yes g l8 e8 _ T1.out.iat hpos).mono ?_
        rintro en wt ⟨rfl, rfl⟩
        have T3 := hid (T1.out.last (rowJ zeroJ))
        go_wp2_with (refine wpList_store_row (o := ⟨none, _, _, _, _, _⟩) rfl 35 (.tmp 2) (.tmp 42) rfl k (rowJ zeroJ) (by rfl) ?hy 35 (rowJ zeroJ) T1.out.res.heap Z1.out (size_inst _ _) Z3.out ?_; (case hy => rfl))
        exact bodyPost_ret (v := .agg (rowJ zeroJ)) (results_cell_row (p := 2) (ty := 35) (by kernel_rfl) _ _ k 35 (rowJ zeroJ) (0, 0) _ rfl (setRow_heap _ k _ (rowJ zeroJ) _ _ T1.out.res.heap) Tryd.underlying35 rfl Z1.out) rfl ⟨by rw [HL.out]; (first | rw [if_pos rfl, if_pos H0.out] | rw [if_pos rfl, if_neg H0.out] | rw [if_pos True.intro, if_pos H0.out] | rw [if_pos True.intro, if_neg H0.out]), by rw [HL.out]; exact T3.out.1, T3.out.2⟩

theorem insttake_any (g : Nat) (l : List Nat) (e : Nat) (l' : List Nat) (e' : Nat) (x : J) (w : World) (h : InAt w g l e) (hS : Sound l e) (hP : PartsIs w) (hg : 0 < g) (hs : sInst l e = (l', e', x)) :
    Calls Tryd.prog 14 #[.pointer (some ⟨g, 0, none⟩)] w (Turns (fun en => en = .returned (.agg (rowJ x))) g l' e' w) := by
  obtain ⟨l1, e1, r, s, h1⟩ : ∃ x y z w, sName l e = (x, y, z, w) := ⟨_, _, _, _, rfl⟩
  obtain ⟨l2, e2, v, h2⟩ : ∃ x y z, sBallot l1 e1 = (x, y, z) := ⟨_, _, _, rfl⟩
  obtain ⟨l3, e3, b, h3⟩ : ∃ x y z, sByte l2 e2 = (x, y, z) := ⟨_, _, _, rfl⟩
  obtain ⟨l4, e4, h4⟩ : ∃ x y, statE b l3 e3 = (x, y) := ⟨_, _, rfl⟩
  obtain ⟨l8, e8, vt, sm, c, V, h8⟩ : ∃ a b' c d f g, valE b l4 e4 = (a, b', c, d, f, g) := ⟨_, _, _, _, _, _, rfl⟩
  obtain ⟨s1, _⟩ := sName_sound hS h1
  obtain ⟨s2, b2, _⟩ := sBallot_sound s1 h2
  obtain ⟨s3, b3⟩ := sByte_sound s2 h3
  obtain ⟨s4, _⟩ := statE_sound s3 h4
  obtain ⟨s8, b8, ok8, f8, p8, _⟩ := valE_sound s4 h8
  have hok : okJ ⟨((r : Nat) : Int), ((s : Nat) : Int), ((b : Nat) : Int), ((v : Nat) : Int), ((vt : Nat) : Int), sm, c, V⟩ := ⟨by simp only; omega, by simp only; omega⟩
  rw [sInst_eq h1 h2 h3 h4 h8] at hs
  have hc : Calls Tryd.prog 14 #[.pointer (some ⟨g, 0, none⟩)] w (Turns (fun en => en = .returned (.agg (rowJ (lastJ (l8, e8, ⟨((r : Nat) : Int), ((s : Nat) : Int), ((b : Nat) : Int), ((v : Nat) : Int), ((vt : Nat) : Int), sm, c, V⟩)).2.2))) g (lastJ (l8, e8, ⟨((r : Nat) : Int), ((s : Nat) : Int), ((b : Nat) : Int), ((v : Nat) : Int), ((vt : Nat) : Int), sm, c, V⟩)).1 (lastJ (l8, e8, ⟨((r : Nat) : Int), ((s : Nat) : Int), ((b : Nat) : Int), ((v : Nat) : Int), ((vt : Nat) : Int), sm, c, V⟩)).2.1 w) := by
    by_cases hb : b = 0
    · exact insttake_none g l e l1 l2 l3 l4 l8 e1 e2 e3 e4 e8 r s v b vt sm c V w h hS hP hg h1 h2 h3 h4 h8 b3 hok (by omega) (by omega) s1 s2 s3 s4 hb
    · exact insttake_some g l e l1 l2 l3 l4 l8 e1 e2 e3 e4 e8 r s v b vt sm c V w h hS hP hg h1 h2 h3 h4 h8 b3 hok (by omega) (by omega) s1 s2 s3 s4 hb
  rw [hs] at hc
  exact hc

end Go.Proofs.YtapmchkikafpmaaDoor

/-
  The contracts of Put, Bytes, Parse (package inst).
-/
namespace Go.Proofs.YtapmchkikafpmaaDoor
open Go.ChangeShapes Go.WideShapes Go.ChangeAt Go.RowKit Go.Lib
set_option linter.unusedVariables false
set_option linter.unusedSimpArgs false

set_option maxRecDepth 100000 in
set_option maxHeartbeats 400000 in
theorem outtruthk_any (base g : Nat) (l : List Nat) (t : Bool) (w : World) (h : OutAt w base g l) (hlen : l.length + 1 ≤ 140737488355328) :
    Calls Tryd.prog 44 #[.pointer (some ⟨g, 0, none⟩), .bool t] w (PutsK base g (l ++ [truthN t]) w) := by
  have HO := hid (h.alloc (.cells #[.int .u8 (truthN t : Int)] 5))
  have hB := h.base_le
  clear h
  cases t with
  | true =>
    go_enter Tryd.func44, Tryd.ntmps44
    go_wp2_with fail
    refine (putk_as base g (some ⟨w.heap.size, 0, none⟩) l [truthN true] (l ++ [truthN true]) 1 1 _ rfl HO.out rfl (fun h => nomatch h) (sees_one _) hlen).mono ?_
    rintro en w1 ⟨⟨rfl, ho, hb⟩, hst⟩
    have HR : Hid (OutAt w1 base g (l ++ [truthN true]) ∧ Below base w w1 ∧ Stays g w w1) := hid ⟨ho, ((Below.refl _ _).alloc hB _).trans hb, (Stays.of_below ((Below.refl _ _).alloc (Nat.le_refl _) _)).trans hst⟩
    clear ho hb hst
    go_wp2
    go_ret
    exact ⟨⟨rfl, HR.out.1, HR.out.2.1⟩, HR.out.2.2⟩
  | false =>
    go_enter Tryd.func44, Tryd.ntmps44
    go_wp2_with fail
    refine (putk_as base g (some ⟨w.heap.size, 0, none⟩) l [truthN false] (l ++ [truthN false]) 1 1 _ rfl HO.out rfl (fun h => nomatch h) (sees_one _) hlen).mono ?_
    rintro en w1 ⟨⟨rfl, ho, hb⟩, hst⟩
    have HR : Hid (OutAt w1 base g (l ++ [truthN false]) ∧ Below base w w1 ∧ Stays g w w1) := hid ⟨ho, ((Below.refl _ _).alloc hB _).trans hb, (Stays.of_below ((Below.refl _ _).alloc (Nat.le_refl _) _)).trans hst⟩
    clear ho hb hst
    go_wp2
    go_ret
    exact ⟨⟨rfl, HR.out.1, HR.out.2.1⟩, HR.out.2.2⟩

/-- A state's bytes, behind others, step by step. -/
def valJ (l : List Nat) (u : Nat) (sm : Bool) (c : K) (f : Nat → Int) : List Nat := (((l ++ shortN u) ++ [truthN sm]) ++ enc c) ++ putTo (natA f) 7

set_option maxRecDepth 100000 in
set_option maxHeartbeats 2000000 in
theorem put_some (base g : Nat) (l : List Nat) (x : J) (a b v u t : Nat) (w : World) (h : OutAt w base g l) (hr : x.r = a) (hs : x.s = b) (hbal : x.bal = v) (hvote : x.vote = u) (ht : x.st = t) (ht0 : t ≠ 0) (ht3 : t ≤ 3) (ha : a < 7) (hb : b < 1024) (hv : v < 4294967296) (hu : u < 4294967296)
    (hP : PartsIs w) (hg : 0 < base) (hK : okK x.c) (hrk : rightK x.c = true) (hokb : okB x.f = true) (hlen : l.length ≤ 100000) :
    Calls Tryd.prog 22 #[.agg (rowJ x), .pointer (some ⟨g, 0, none⟩)] w (PutsN base g (valJ (headJ l a b v t) u x.same x.c x.f) w) := by
  have HI := hid h
  have HP := hid hP
  have h1 : ((l ++ [a]) ++ shortN b).length ≤ 100011 := by
    have := shortN_len10 (v := b) (by omega)
    rw [List.length_append, List.length_append]; simp; omega
  have h2 : (((l ++ [a]) ++ shortN b) ++ shortN v).length ≤ 100021 := by
    have := shortN_len10 (v := v) (by omega)
    rw [List.length_append]; omega
  obtain ⟨L1, hL1⟩ : ∃ L, (l ++ [a]) ++ shortN b = L := ⟨_, rfl⟩
  rw [hL1] at h1 h2
  obtain ⟨L2, hL2⟩ : ∃ L, L1 ++ shortN v = L := ⟨_, rfl⟩
  rw [hL2] at h2
  obtain ⟨L3, hL3⟩ : ∃ L, L2 ++ [t] = L := ⟨_, rfl⟩
  have h3 : L3.length ≤ 100022 := by rw [← hL3, List.length_append, List.length_singleton]; omega
  obtain ⟨L4, hL4⟩ : ∃ L, L3 ++ shortN u = L := ⟨_, rfl⟩
  have h4 : L4.length ≤ 100032 := by have := shortN_len10 (v := u) (by omega); rw [← hL4, List.length_append]; omega
  obtain ⟨sm, hsm⟩ : ∃ b, x.same = b := ⟨_, rfl⟩
  obtain ⟨L5, hL5⟩ : ∃ L, L4 ++ [truthN sm] = L := ⟨_, rfl⟩
  have h5 : L5.length ≤ 100033 := by rw [← hL5, List.length_append, List.length_singleton]; omega
  obtain ⟨L6, hL6⟩ : ∃ L, L5 ++ enc x.c = L := ⟨_, rfl⟩
  have h6 : L6.length ≤ 100333 := by have := enc_len x.c hK hrk; rw [← hL6, List.length_append]; omega
  have hpf : putF x.f = x.f := by unfold putF; rw [if_pos hokb]
  obtain ⟨L7, hL7⟩ : ∃ L, L6 ++ putTo (natA (putF x.f)) 7 = L := ⟨_, rfl⟩
  have HE : Hid (valJ (headJ l a b v t) u x.same x.c x.f = L7) := hid (by unfold valJ headJ; rw [hL1, hL2, hL3, hL4, hsm, hL5, hL6, ← hL7, hpf])
  have HL1 := hid hL1
  have HL2 := hid hL2
  have HL3 := hid hL3
  have HL4 := hid hL4
  have HL5 := hid hL5
  have HL6 := hid hL6
  have HL7 := hid hL7
  have HSM := hid hsm
  have HK := hid hK
  have HRK := hid hrk
  have W8 : IntKind.u8.wrap (t : Int) = t := by rw [IntKind.wrap_u8]; omega
  have hb0 : ((t : Int) == 0) = false := by rw [beq_eq_false_iff_ne]; omega
  clear h hP hL1 hL2 hL3 hL4 hL5 hL6 hL7 hsm hK hrk hokb hpf
  go_enter Tryd.func22, Tryd.ntmps22
  go_upto_region 1 with fail
  obtain ⟨W, hW⟩ : ∃ W, w.alloc (.cells (rowJ x) 35) = W := ⟨_, rfl⟩
  rw [hW]
  have A0 := putj_new HI.out hW
  clear hW HI
  obtain ⟨k, hk⟩ : ∃ k, w.heap.size = k := ⟨_, rfl⟩
  rw [hk] at A0 ⊢
  clear hk
  have c0 := A0.out.blk.j0
  have c1 := A0.out.blk.j1
  rw [hr] at c0
  rw [hs] at c1
  go_wp2_with fail
  with_reducible refine (idput_any base g l L1 a b _ A0.out.oat ha hb (by omega) HL1.out.symm).mono ?_
  rintro en w1 ⟨rfl, ho, hb1, hs1⟩
  have A1 := hid (A0.out.put ho hb1 hs1)
  clear ho hb1 hs1 A0 c0 c1
  have c3 := A1.out.blk.j3
  rw [hbal] at c3
  go_wp2_with fail
  with_reducible refine (ballotput_any base g L1 v _ A1.out.oat hv (by omega)).mono ?_
  rw [HL2.out]
  rintro en w2 ⟨rfl, ho, hb1, hs1⟩
  have A2 := hid (A1.out.put ho hb1 hs1)
  clear ho hb1 hs1 A1 c3
  have c2 := A2.out.blk.j2
  rw [ht] at c2
  go_wp2_with fail
  with_reducible refine (outbytek_any base g L2 t _ _ A2.out.oat (by first | rfl | omega) (by omega)).mono ?_
  rw [HL3.out]
  rintro en w3 ⟨⟨rfl, ho, hb1⟩, hs1⟩
  have A3 := hid (A2.out.put ho hb1 hs1)
  clear ho hb1 hs1 A2 c2 W8
  have c2 := A3.out.blk.j2
  rw [ht] at c2
  have c4 := A3.out.blk.j4
  rw [hvote] at c4
  go_wp2_with fail
  with_reducible refine (ballotput_any base g L3 u _ A3.out.oat hu (by omega)).mono ?_
  rw [HL4.out]
  rintro en w4 ⟨rfl, ho, hb1, hs1⟩
  have A4 := hid (A3.out.put ho hb1 hs1)
  clear ho hb1 hs1 A3 c2 c4
  have c5 := A4.out.blk.j5
  rw [HSM.out] at c5
  go_wp2_with fail
  with_reducible refine (outtruthk_any base g L4 sm _ A4.out.oat (by omega)).mono ?_
  rw [HL5.out]
  rintro en w5 ⟨⟨rfl, ho, hb1⟩, hs1⟩
  have A5 := hid (A4.out.put ho hb1 hs1)
  clear ho hb1 hs1 A4 c5
  have I1 := hid (info_cmd8 x.c)
  have P5 := hid (HP.out.under hg A5.out.bel)
  go_wp2_with (with_reducible refine wpList_load_mid (op := ⟨some 29, _, _, _, _, _⟩) rfl 30 (.tmp 28) rfl k 6 rfl (lsK x.c) _ A5.out.blk.jc Tryd.underlying30 rfl I1.out ?_)
  with_reducible refine (put_right base g L5 x.c _ P5.out hg A5.out.oat (by omega) HK.out HRK.out).mono ?_
  rw [HL6.out]
  rintro en w6 ⟨rfl, ho, hb1, hs1⟩
  have A6 := hid (A5.out.put ho hb1 hs1)
  clear ho hb1 hs1 A5 P5 I1
  have I2 := hid (info_att8 x.f)
  go_wp2_with (with_reducible refine wpList_load_mid (op := ⟨some 33, _, _, _, _, _⟩) rfl 33 (.tmp 32) rfl k 14 rfl (ls8 x.f) _ A6.out.blk.ja Tryd.underlying33 rfl I2.out ?_)
  with_reducible refine (attput_any base g L6 x.f _ A6.out.oat (by omega)).mono ?_
  rw [HL7.out]
  rintro en w7 ⟨rfl, ho, hb1, hs1⟩
  have A7 := hid (A6.out.put ho hb1 hs1)
  clear ho hb1 hs1 A6 I2
  have R : Hid (OutAt w7 base g (valJ (headJ l a b v t) u x.same x.c x.f) ∧ Below base w w7 ∧ Stays g w w7) := hid ⟨by rw [HE.out]; exact A7.out.oat, A7.out.bel, A7.out.stays⟩
  clear A7
  go_wp2
  go_end0
  exact ⟨rfl, R.out⟩

theorem jput_any (base g : Nat) (l : List Nat) (x : J) (w : World) (h : OutAt w base g l) (hP : PartsIs w) (hg : 0 < base) (hok : okJ x) (hK : okK x.c) (hr : rightJ x = true) (hlen : l.length ≤ 100000) :
    Calls Tryd.prog 22 #[.agg (rowJ x), .pointer (some ⟨g, 0, none⟩)] w (PutsN base g (l ++ encJ x) w) := by
  obtain ⟨a, b, v, u, t, ha, hb, hv, hu, ht, ha7, hb10, hvv, hvb, huu, hub, ht3, hn0, h0⟩ := rightJ_in hok hr
  by_cases hz : t = 0
  · subst hz
    have hc := put_none base g l x a b v w h ha hb hv ht ha7 hb10 hvv (by omega)
    have he : headJ l a b v 0 = l ++ encJ x := by
      unfold headJ encJ
      rw [ha, hb, hv, ht]
      simp
    rw [he] at hc
    exact hc
  · obtain ⟨k1, k2⟩ := hn0 hz
    have hc := put_some base g l x a b v u t w h ha hb hv hu ht hz ht3 ha7 hb10 hvv huu hP hg hK k1 k2 hlen
    have he : valJ (headJ l a b v t) u x.same x.c x.f = l ++ encJ x := by
      unfold valJ headJ encJ
      rw [ha, hb, hv, hu, ht, if_neg (by omega)]
      simp only [Int.toNat_natCast, List.append_assoc]
    rw [he] at hc
    exact hc

theorem encJ_len (x : J) (hok : okJ x) (hK : okK x.c) (hr : rightJ x = true) : (encJ x).length ≤ 500 := by
  obtain ⟨a, b, v, u, t, ha, hb, hv, hu, ht, ha7, hb10, hvv, hvb, huu, hub, ht3, hn0, h0⟩ := rightJ_in hok hr
  unfold encJ
  rw [ha, hb, hv, hu, ht]
  simp only [Int.toNat_natCast]
  have q1 := shortN_len10 (v := b) (by omega)
  have q2 := shortN_len10 (v := v) (by omega)
  have q3 := shortN_len10 (v := u) (by omega)
  split
  · simp only [List.length_append, List.length_singleton, List.length_nil]; omega
  · obtain ⟨k1, k2⟩ := hn0 (by omega)
    obtain ⟨_, n0, n1⟩ := ok_nat k2
    have q4 := putTo_len n0 n1 7 (Nat.le_refl _)
    have q5 := enc_len x.c hK k1
    simp only [List.length_append, List.length_singleton]; omega
theorem encJ_byte (x : J) (hok : okJ x) (hK : okK x.c) (hr : rightJ x = true) : ∀ y ∈ encJ x, y < 256 := by
  obtain ⟨a, b, v, u, t, ha, hb, hv, hu, ht, ha7, hb10, hvv, hvb, huu, hub, ht3, hn0, h0⟩ := rightJ_in hok hr
  unfold encJ
  rw [ha, hb, hv, hu, ht]
  simp only [Int.toNat_natCast]
  have pb : ∀ (F : Nat → Nat) j, ∀ x ∈ putTo F j, x < 256 := fun F j => by
    induction j with
    | zero => exact shortN_byte _
    | succ j ih => intro x hx; unfold putTo at hx; exact (List.mem_append.1 hx).elim (ih x) (shortN_byte _ x)
  intro y hy
  simp only [List.mem_append, List.mem_singleton] at hy
  rcases hy with (((rfl | hy) | hy) | rfl) | hy
  · omega
  · exact shortN_byte _ y hy
  · exact shortN_byte _ y hy
  · omega
  · split at hy
    · cases hy
    · obtain ⟨k1, k2⟩ := hn0 (by omega)
      simp only [List.mem_append, List.mem_singleton] at hy
      rcases hy with ((hy | rfl) | hy) | hy
      · exact shortN_byte _ y hy
      · unfold truthN; split <;> omega
      · exact enc_byteK x.c hK k1 y hy
      · exact pb _ _ y hy

set_option maxRecDepth 100000 in
set_option maxHeartbeats 1000000 in
theorem jbytes_any (x : J) (w : World) (hP : PartsIs w) (hok : okJ x) (hK : okK x.c) (hr : rightJ x = true) :
    Calls Tryd.prog 11 #[.agg (rowJ x)] w (Hands (encJ x) w) := by
  have hlen := encJ_len x hok hK hr
  have HP := hid hP
  have HO := hid hok
  have HK := hid hK
  have HR := hid hr
  obtain ⟨L, hL⟩ : ∃ L, encJ x = L := ⟨_, rfl⟩
  rw [hL] at hlen ⊢
  have HL := hid hL
  have hlt := hP.lt
  clear hP hok hK hr hL
  go_enter Tryd.func11, Tryd.ntmps11
  go_upto_region 2 with fail
  obtain ⟨W, hW⟩ : ∃ W, (w.alloc (.cells (rowJ x) 35)).alloc (.cells #[.slice none 0 0] 60) = W := ⟨_, rfl⟩
  rw [hW]
  obtain ⟨K0, K1, KB⟩ := two_new hW
  clear hW
  have HOut : Hid (OutAt W w.heap.size (w.heap.size + 1) []) := hid ⟨by omega, _, K1.out, World.ownsRow_nil _ _ _ _⟩
  have PW := hid (HP.out.below KB.out)
  have L1 := hid (len_inst x)
  go_wp2_with (with_reducible refine wpList_load_row (o := ⟨some 5, _, _, _, _, _⟩) rfl 35 (.tmp 1) rfl w.heap.size rfl 35 (rowJ x) (0, 0) _ K0.out.heap Tryd.underlying35 rfl L1.out ?_)
  with_reducible refine (jput_any w.heap.size (w.heap.size + 1) [] x _ HOut.out PW.out hlt HO.out HK.out HR.out (by simp)).mono ?_
  rw [List.nil_append, HL.out]
  rintro en w1 ⟨rfl, ho, hb, hs⟩
  have HO1 := hid ho
  have HB1 := hid (KB.out.trans hb)
  clear ho hb hs K0 K1 KB HOut PW
  go_wp2_with fail
  with_reducible refine (outbytes_any w.heap.size (w.heap.size + 1) L _ HO1.out (by omega)).mono ?_
  intro e w2 hm
  obtain ⟨A, ca, rfl, h1, h2, h3, h4⟩ := hm.hands
  have H1 := hid h1
  have H3 := hid h3
  have H4 := hid (HB1.out.trans (h4.mono HB1.out.size))
  clear h1 h3 h4 hm
  go_wp2
  go_ret
  exact ⟨A, ca, rfl, H1.out, h2, H3.out, H4.out⟩

/-- The results of a function that tells a row, in a cell, and a number. -/
theorem results_row_num {P : Program} {fn : Func} {p q : Tmp} {ty : TypeId} (h : fn.results = #[.cell p ty, .tmp q]) (tmps : Array Value) (w : World) (g : Nat) (t : TypeId) (cs : Array Value) (fr : Nat × Nat) (d : TypeDesc) (u : Value)
    (hp : tmps.getD p undef = .pointer (some ⟨g, 0, none⟩)) (hq : tmps.getD q undef = u) (hg : w.heap[g]? = some (.cells cs t fr))
    (hu : P.underlying ty = some d) (hd : (match d with | .struct _ | .array _ _ => true | _ => false) = true) (hi : (P.info? ty).map (·.size) = some cs.size) :
    (results fn tmps).run P w = .ok (.tuple #[.agg cs, u]) w := by
  have hp' : tmps[p]?.getD undef = .pointer (some ⟨g, 0, none⟩) := by simpa using hp
  have hq' : tmps[q]?.getD undef = u := by simpa using hq
  simp [results, h, hp', hq', asAddr, run_loadVar_row w g t ty cs fr d hg hu hd hi]

/-- What is told of bytes: the state, and the error. -/
def parseJ (L : List Nat) : J × Nat := if endE (sInst L 0).1 (sInst L 0).2.1 = 0 then ((sInst L 0).2.2, 0) else (zeroJ, endE (sInst L 0).1 (sInst L 0).2.1)

set_option maxRecDepth 100000 in
set_option maxHeartbeats 2000000 in
theorem jparse_as (A : Option Addr) (L : List Nat) (n ca : Nat) (l' : List Nat) (e' : Nat) (x : J) (w : World) (hP : PartsIs w) (hn : L.length = n) (hl : n ≤ 140737488355328) (hc : A = none → ca = 0) (hA : Sees .u8 w A L) (h8 : ∀ x ∈ L, x < 256) (hs : sInst L 0 = (l', e', x)) :
    Calls Tryd.prog 12 #[.slice A n ca] w fun e w' => e = .returned (.tuple #[.agg (rowJ (if endE l' e' = 0 then x else zeroJ)), .int .i64 ((endE l' e' : Nat) : Int)]) ∧ Below w.heap.size w w' := by
  have HP := hid hP
  have hlt := hP.lt
  have HN := hid hn
  have HC := hid hc
  have HS := hid hs
  have H8 := hid h8
  have HA := hid hA
  have SL : Hid (Sound L 0) := hid ⟨fine0 _, h8, by omega⟩
  obtain ⟨q, hq⟩ : ∃ q, endE l' e' = q := ⟨_, rfl⟩
  have HQ := hid hq
  rw [hq]
  clear hP hn hc hs h8 hA hq
  go_enter Tryd.func12, Tryd.ntmps12
  go_upto_region 1 with fail
  obtain ⟨W, hW⟩ : ∃ W, w.alloc (.cells zrow 35) = W := ⟨_, rfl⟩
  rw [hW]
  obtain ⟨K0, KB⟩ := one_new hW
  rw [zrow_is] at K0
  have HAW := hid (HA.out.below KB.out)
  have PW := hid (HP.out.below KB.out)
  clear hW HA HP
  obtain ⟨k, hk⟩ : ∃ k, w.heap.size = k := ⟨_, rfl⟩
  rw [hk] at K0 KB hlt
  rw [hk]
  have HK := hid hk
  clear hk
  go_wp2_with fail
  with_reducible refine (newin_any A L n ca _ HN.out hl HC.out HAW.out).mono ?_
  rintro en w1 ⟨g, rfl, hin, hb, hg⟩
  have K1 := hid (K0.out.below hb K0.out.lt)
  have B1 := hid (below_pay KB.out (by have := K0.out.lt; omega) hb)
  have P1 := hid (PW.out.below hb)
  have I1 := hid hin
  have hkg : k < g := by have := K0.out.lt; omega
  clear hin hb hg K0 KB PW HAW
  go_wp2_with fail
  with_reducible refine (insttake_any g L 0 l' e' x _ I1.out SL.out P1.out (by omega) HS.out).mono ?_
  rintro en w2 ⟨rfl, hin, hgr⟩
  have I2 := hid hin
  have K2 := hid (K1.out.grown hgr (by intro e; injection e with e; omega))
  have B2 : Hid (Below k w w2) := hid (B1.out.trans (below_only (B := k) hgr (by omega) (by have := K1.out.lt; omega)))
  clear hin hgr I1 K1 B1 P1
  obtain ⟨m, hm⟩ : ∃ m, w2.heap.size = m := ⟨_, rfl⟩
  have E0 : Hid (Blk (w2.alloc (.cells zrow 35)) m 35 zrow) := hid (by rw [← hm]; exact Blk.new w2 35 zrow)
  have N1 := hid (len_inst x)
  have N3 := hid (rowJ_one x)
  go_upto_region 3 with (refine wpList_store_row (o := ⟨none, _, _, _, _, _⟩) rfl 35 (.tmp 5) (.tmp 10) rfl m (rowJ x) rfl rfl 35 zrow E0.out.heap N1.out rfl N3.out ?_)
  obtain ⟨W3, hW3⟩ : ∃ W3, (w2.alloc (.cells zrow 35)).setRow m (rowJ x) = W3 := ⟨_, rfl⟩
  have hkm : k < m := by have := K2.out.lt; omega
  have hgm : g < m := by have := I2.out.lt; omega
  have F0 : Hid (Blk W3 k 35 (rowJ zeroJ)) := hid (by rw [← hW3]; exact (K2.out.alloc _).rowFar (by omega) _)
  have F1 : Hid (Blk W3 m 35 (rowJ x)) := hid (by rw [← hW3]; exact E0.out.row _)
  have F2 : Hid (InAt W3 g l' e') := hid (by rw [← hW3]; exact (I2.out.keep ((Below.refl _ _).alloc (by omega) _)).setRow hgm)
  have FB : Hid (Below k w W3) := hid (by rw [← hW3]; exact below_setRow_ (B2.out.trans ((Below.refl k w2).alloc (by omega) _)) (by omega))
  rw [hW3]
  clear hW3 hm E0 I2 K2 B2
  go_wp2_with fail
  with_reducible refine (end_any g l' e' _ F2.out).mono ?_
  rw [HQ.out]
  rintro en w4 ⟨rfl, rfl⟩
  by_cases h0 : q = 0
  · subst h0
    go_wp2_with (first
      | (with_reducible refine wpList_load_row (o := ⟨some 17, _, _, _, _, _⟩) rfl 35 (.tmp 5) rfl m rfl 35 (rowJ x) (0, 0) _ F1.out.heap Tryd.underlying35 rfl N1.out ?_)
      | (refine wpList_store_row (o := ⟨none, _, _, _, _, _⟩) rfl 35 (.tmp 2) (.tmp 17) rfl k (rowJ x) rfl rfl 35 (rowJ zeroJ) F0.out.heap N1.out rfl N3.out ?_))
    exact bodyPost_ret (v := .tuple #[.agg (rowJ x), .int .i64 0]) (results_row_num (p := 2) (q := 3) (ty := 35) (by kernel_rfl) _ _ k 35 (rowJ x) (0, 0) _ _ rfl rfl (setRow_heap W3 k _ (rowJ x) _ _ F0.out.heap) Tryd.underlying35 rfl N1.out) rfl ⟨rfl, by rw [HK.out]; exact below_setRow_ FB.out (Nat.le_refl _)⟩
  · have hb : ((q : Int) != 0) = true := by rw [bne_iff_ne]; omega
    have Z1 := hid (len_inst zeroJ)
    have Z3 := hid (rowJ_one zeroJ)
    have H0 := hid h0
    clear h0
    go_wp2_with (refine wpList_store_row (o := ⟨none, _, _, _, _, _⟩) rfl 35 (.tmp 2) (.tmp 15) rfl k (rowJ zeroJ) (by rfl) ?hy 35 (rowJ zeroJ) F0.out.heap Z1.out (size_inst _ _) Z3.out ?_; (case hy => rfl))
    exact bodyPost_ret (v := .tuple #[.agg (rowJ zeroJ), .int .i64 (q : Int)]) (results_row_num (p := 2) (q := 3) (ty := 35) (by kernel_rfl) _ _ k 35 (rowJ zeroJ) (0, 0) _ _ rfl rfl (setRow_heap W3 k _ (rowJ zeroJ) _ _ F0.out.heap) Tryd.underlying35 rfl Z1.out) rfl ⟨rfl, by rw [HK.out]; exact below_setRow_ FB.out (Nat.le_refl _)⟩

end Go.Proofs.YtapmchkikafpmaaDoor
