/-
  A command's bytes read again, and what holds while a command is taken off an In.
-/
import Derived.Test.YtapmchkikafpmaaDoorKEnc
import Derived.Test.YtapmchkikafpmaaDoorInOps
import Derived.Test.YtapmchkikafpmaaDoorNew
namespace Go.Proofs.YtapmchkikafpmaaDoor
open Go.ChangeShapes Go.WideShapes Go.ChangeAt Go.RowKit Go.Lib

theorem sByte_put (v : Nat) (r : List Nat) : sByte ([v] ++ r) 0 = (r, 0, v) := rfl
theorem sShort_put (v most : Nat) (r : List Nat) (hv : v < 18446744073709551616) (hm : v ≤ most) : sShort (shortN v ++ r) 0 most = (r, 0, v) := by
  unfold sShort
  rw [readN_short v r hv]
  simp only [if_true]
  rw [if_neg (by omega), List.drop_left]
theorem sFixed_put (v : Nat) (r : List Nat) (hv : v < 18446744073709551616) : sFixed (bytesN v 8 ++ r) 0 = (r, 0, v) := by
  have hl := bytesN_len 8 v
  unfold sFixed
  rw [if_neg (by simp [hl]), List.drop_left' hl, List.take_left' hl, numN_bytesN, Nat.mod_eq_of_lt (by omega)]
theorem sText_put (s : ByteArray) (r : List Nat) (most : Nat) (hm : s.size ≤ most) (hs : s.size < 18446744073709551616) : sText (textN s ++ r) 0 most = (r, 0, bytesOfS s) := by
  have h1 : sShort (textN s ++ r) 0 most = (bytesOfS s ++ r, 0, s.size) := by
    unfold textN
    rw [List.append_assoc]
    exact sShort_put s.size most (bytesOfS s ++ r) hs hm
  unfold sText
  rw [h1]
  have hl := bytesOfS_len s
  simp only [true_and]
  rw [if_pos (by rw [List.length_append]; omega), List.drop_left' hl, List.take_left' hl]

theorem fine0 (l : List Nat) : Fine l 0 := fun h => absurd rfl h
theorem textN_byte (s : ByteArray) : ∀ x ∈ textN s, x < 256 := by
  intro x hx
  rcases List.mem_append.1 hx with h | h
  · exact shortN_byte _ x h
  · exact bytesOfS_byte s x h
theorem textN_len (s : ByteArray) (h : s.size ≤ 64) : (textN s).length ≤ 74 := by
  unfold textN
  have h1 := shortN_len10 (show s.size < 18446744073709551616 by omega)
  rw [List.length_append, bytesOfS_len]; omega

theorem var_grown {P : Program} {w w' : World} {n : String} {cs : Array Value} {g : Nat} {row : Option Nat} (hg : P.globalNamed n = some g) (h : w.var? P n = some cs) (hlt : g < w.heap.size) (hne : some g ≠ row) (hb : w.grownBy w' row) : w'.var? P n = some cs := by
  unfold World.var? at h ⊢
  rw [hg] at h ⊢
  simp only [Option.bind_some] at h ⊢
  rw [hb.block g hlt hne]; exact h

/-- While a command, in a box of the call's own, is taken off the In at block g. -/
def TakeAt (w0 w : World) (g b : Nat) (c : K) (l : List Nat) : Prop := InAt w g l 0 ∧ Blk w b 30 (cellsOf c) ∧ w0.heap.size ≤ b ∧ w0.grownBy w (some g) ∧ PartsIs w ∧ 0 < g ∧ g < w0.heap.size
theorem TakeAt.start {w : World} {g : Nat} {l : List Nat} (h : InAt w g l 0) (hP : PartsIs w) (hg : 0 < g) (c : K) : TakeAt w (w.alloc (.cells (cellsOf c) 30)) g w.heap.size c l :=
  ⟨h.keep ((Below.refl _ _).alloc (by have := h.lt; omega) _), Blk.new _ _ _, Nat.le_refl _, only_of_below ((Below.refl _ _).alloc (Nat.le_refl _) _) _, hP.alloc _, hg, h.lt⟩
theorem TakeAt.parts {w0 w : World} {g b : Nat} {c : K} {l : List Nat} (h : TakeAt w0 w g b c l) : PartsIs w := h.2.2.2.2.1
theorem TakeAt.iat {w0 w : World} {g b : Nat} {c : K} {l : List Nat} (h : TakeAt w0 w g b c l) : InAt w g l 0 := h.1
theorem TakeAt.grown {w0 w : World} {g b : Nat} {c : K} {l : List Nat} (h : TakeAt w0 w g b c l) : w0.grownBy w (some g) := h.2.2.2.1
theorem TakeAt.blk {w0 w : World} {g b : Nat} {c : K} {l : List Nat} (h : TakeAt w0 w g b c l) : Blk w b 30 (cellsOf c) := h.2.1
theorem TakeAt.on {w0 w w' : World} {g b : Nat} {c : K} {l : List Nat} (h : TakeAt w0 w g b c l) (hb : Below w.heap.size w w') : TakeAt w0 w' g b c l :=
  ⟨h.1.keep (hb.mono h.1.lt), h.2.1.below hb h.2.1.lt, h.2.2.1, only_below h.2.2.2.1 hb, h.2.2.2.2.1.below hb, h.2.2.2.2.2⟩
theorem TakeAt.turn {w0 w w' : World} {g b : Nat} {c : K} {l l' : List Nat} (h : TakeAt w0 w g b c l) (hi : InAt w' g l' 0) (hb : w.grownBy w' (some g)) : TakeAt w0 w' g b c l' :=
  ⟨hi, h.2.1.grown hb (by have := h.2.2.1; have := h.2.2.2.2.2.2; intro e; injection e with e; omega), h.2.2.1, h.2.2.2.1.trans hb,
    var_grown gParts h.2.2.2.2.1 h.2.2.2.2.1.lt (by have := h.2.2.2.2.2.1; intro e; injection e with e; omega) hb, h.2.2.2.2.2⟩
theorem TakeAt.set_ {w0 w : World} {g b : Nat} {c : K} {l : List Nat} (h : TakeAt w0 w g b c l) (i : Nat) (u : Value) (c' : K) (hc : (cellsOf c).setIfInBounds i u = cellsOf c') : TakeAt w0 (w.setCell ⟨b, i, none⟩ u) g b c' l := by
  have hgb : g < b := Nat.lt_of_lt_of_le h.2.2.2.2.2.2 h.2.2.1
  have hB : Below (g + 1) w (w.setCell ⟨b, i, none⟩ u) := Below.setCell (p := ⟨b, i, none⟩) (Below.refl _ _) hgb u
  exact ⟨h.1.keep hB, hc ▸ h.2.1.set_ i u, h.2.2.1, only_setCell (p := ⟨b, i, none⟩) h.2.2.2.1 (.inr h.2.2.1) u, var_under gParts h.2.2.2.2.1 (by have := h.2.2.2.2.2.1; omega) hB, h.2.2.2.2.2⟩
theorem TakeAt.far {w0 w : World} {g b : Nat} {c : K} {l : List Nat} (h : TakeAt w0 w g b c l) {p : Addr} (hp : b ≠ p.block) (h0 : w0.heap.size ≤ p.block) (u : Value) : TakeAt w0 (w.setCell p u) g b c l := by
  have hgp : g < p.block := Nat.lt_of_lt_of_le h.2.2.2.2.2.2 h0
  have hB : Below (g + 1) w (w.setCell p u) := Below.setCell (p := p) (Below.refl _ _) hgp u
  exact ⟨h.1.keep hB, h.2.1.far hp u, h.2.2.1, only_setCell (p := p) h.2.2.2.1 (.inr h0) u, var_under gParts h.2.2.2.2.1 (by have := h.2.2.2.2.2.1; omega) hB, h.2.2.2.2.2⟩
theorem TakeAt.put {w0 w : World} {g b : Nat} {c : K} {l : List Nat} (h : TakeAt w0 w g b c l) (d : K) : TakeAt w0 (putK w b d) g b d l := by
  obtain ⟨k, u, f, q, s, m, n, t⟩ := c
  obtain ⟨k', u', f', q', s', m', n', t'⟩ := d
  exact (((((((h.set_ 0 (.int .i64 k') ⟨k', u, f, q, s, m, n, t⟩ rfl).set_ 1 (.int .u64 u') ⟨k', u', f, q, s, m, n, t⟩ rfl).set_ 2 (.string f') ⟨k', u', f', q, s, m, n, t⟩ rfl).set_ 3 (.int .u64 q') ⟨k', u', f', q', s, m, n, t⟩ rfl).set_ 4 (.string s') ⟨k', u', f', q', s', m, n, t⟩ rfl).set_ 5 (.int .i64 m') ⟨k', u', f', q', s', m', n, t⟩ rfl).set_ 6 (.int .u64 n') ⟨k', u', f', q', s', m', n', t⟩ rfl).set_ 7 (.int .i64 t') ⟨k', u', f', q', s', m', n', t'⟩ rfl

end Go.Proofs.YtapmchkikafpmaaDoor
