/-
  The contract of Take (package inst) off any bytes.
-/
import Derived.Test.YtohffiehmmcgbaaGreatDoorUD
import Derived.Test.YtohffiehmmcgbaaGreatDoorUC
import Derived.Test.YtohffiehmmcgbaaGreatDoorUKTakeE
namespace Go.Proofs.YtohffiehmmcgbaaGreatDoor
open Go.ChangeShapes Go.WideShapes Go.ChangeAt Go.RowKit Go.Lib
set_option linter.unusedVariables false
set_option linter.unusedSimpArgs false
def TwoA (w0 w : World) (g k n : Nat) (cs : Array Value) (l : List Nat) (e : Nat) : Prop :=
  InAt w g l e ∧ Blk w k 37 (rowJ zeroJ) ∧ Blk w n 37 cs ∧ w0.grownBy w (some g) ∧ PartsIs w ∧ 3 < g ∧ g < k ∧ k < n ∧ w0.heap.size ≤ k
section
variable {w0 w w' : World} {g k n : Nat} {cs : Array Value} {l l' : List Nat} {e e' : Nat}
theorem TwoA.res (h : TwoA w0 w g k n cs l e) : Blk w k 37 (rowJ zeroJ) := h.2.1
theorem TwoA.box (h : TwoA w0 w g k n cs l e) : Blk w n 37 cs := h.2.2.1
theorem TwoA.grown (h : TwoA w0 w g k n cs l e) : w0.grownBy w (some g) := h.2.2.2.1
theorem TwoA.parts (h : TwoA w0 w g k n cs l e) : PartsIs w := h.2.2.2.2.1
theorem TwoA.on (h : TwoA w0 w g k n cs l e) (hb : Below w.heap.size w w') : TwoA w0 w' g k n cs l e :=
  ⟨h.1.keep (hb.mono h.1.lt), h.res.below hb h.res.lt, h.box.below hb h.box.lt, only_below h.grown hb, h.parts.below hb, h.2.2.2.2.2⟩
theorem TwoA.turn (h : TwoA w0 w g k n cs l e) (hi : InAt w' g l' e') (hb : w.grownBy w' (some g)) : TwoA w0 w' g k n cs l' e' := by
  obtain ⟨h1, h2, h3, h4, h5, h6, h7, h8, h9⟩ := h
  exact ⟨hi, h2.grown hb (by intro e; injection e with e; omega), h3.grown hb (by intro e; injection e with e; omega), h4.trans hb, var_grown gParts h5 h5.lt (by intro e; injection e with e; omega) hb, h6, h7, h8, h9⟩
theorem TwoA.set_ (h : TwoA w0 w g k n cs l e) (i : Nat) (u : Value) {ds : Array Value} (hd : cs.setIfInBounds i u = ds) : TwoA w0 (w.setCell ⟨n, i, none⟩ u) g k n ds l e := by
  obtain ⟨h1, h2, h3, h4, h5, h6, h7, h8, h9⟩ := h
  exact ⟨h1.setCell (by omega), h2.far (by show k ≠ n; omega) u, hd ▸ h3.set_ i u, only_setCell (p := ⟨n, i, none⟩) h4 (.inr (by show w0.heap.size ≤ n; omega)) u, var_under gParts h5 (base := n) (by omega) (Below.setCell (p := ⟨n, i, none⟩) (Below.refl _ _) (Nat.le_refl _) u), h6, h7, h8, h9⟩
theorem TwoA.there (h : TwoA w0 w g k n cs l e) {o m : Nat} (hs : o + m ≤ cs.size) : w.there n o m := fun j hj => by
  refine ⟨?_, h.box.frozen _⟩
  rw [h.box.cell, Array.getElem?_eq_getElem (by omega)]
  rfl
end
theorem TwoA.cmd {w0 w : World} {g k n : Nat} {x : J} {l : List Nat} {e : Nat} (h : TwoA w0 w g k n (rowJ x) l e) (c : K) : TwoA w0 (w.setCells n 6 (lsK c)) g k n (rowJ ⟨x.r, x.s, x.st, x.bal, x.vote, x.same, c, x.f⟩) l e := by
  obtain ⟨r, s, st, bal, vote, same, ⟨k, u, f0, q, p, m, nn, t⟩, f⟩ := x
  obtain ⟨k', u', f', q', s', m', n', t'⟩ := c
  have b0 := h.set_ 6 (.int .i64 k') (ds := rowJ ⟨r, s, st, bal, vote, same, ⟨k', u, f0, q, p, m, nn, t⟩, f⟩) rfl
  have b1 := b0.set_ 7 (.int .u64 u') (ds := rowJ ⟨r, s, st, bal, vote, same, ⟨k', u', f0, q, p, m, nn, t⟩, f⟩) rfl
  have b2 := b1.set_ 8 (.string f') (ds := rowJ ⟨r, s, st, bal, vote, same, ⟨k', u', f', q, p, m, nn, t⟩, f⟩) rfl
  have b3 := b2.set_ 9 (.int .u64 q') (ds := rowJ ⟨r, s, st, bal, vote, same, ⟨k', u', f', q', p, m, nn, t⟩, f⟩) rfl
  have b4 := b3.set_ 10 (.string s') (ds := rowJ ⟨r, s, st, bal, vote, same, ⟨k', u', f', q', s', m, nn, t⟩, f⟩) rfl
  have b5 := b4.set_ 11 (.int .i64 m') (ds := rowJ ⟨r, s, st, bal, vote, same, ⟨k', u', f', q', s', m', nn, t⟩, f⟩) rfl
  have b6 := b5.set_ 12 (.int .u64 n') (ds := rowJ ⟨r, s, st, bal, vote, same, ⟨k', u', f', q', s', m', n', t⟩, f⟩) rfl
  have b7 := b6.set_ 13 (.int .i64 t') (ds := rowJ ⟨r, s, st, bal, vote, same, ⟨k', u', f', q', s', m', n', t'⟩, f⟩) rfl
  exact b7
theorem TwoA.att {w0 w : World} {g k n : Nat} {x : J} {l : List Nat} {e : Nat} (h : TwoA w0 w g k n (rowJ x) l e) (V : Nat → Int) : TwoA w0 (w.setCells n 14 (ls8 V)) g k n (rowJ ⟨x.r, x.s, x.st, x.bal, x.vote, x.same, x.c, V⟩) l e := by
  obtain ⟨r, s, st, bal, vote, same, c, f⟩ := x
  have b0 := h.set_ 14 (.int .i64 (V 0)) (ds := rowJ ⟨r, s, st, bal, vote, same, c, (fun i => if i < 1 then V i else f i)⟩) rfl
  have b1 := b0.set_ 15 (.int .i64 (V 1)) (ds := rowJ ⟨r, s, st, bal, vote, same, c, (fun i => if i < 2 then V i else f i)⟩) rfl
  have b2 := b1.set_ 16 (.int .i64 (V 2)) (ds := rowJ ⟨r, s, st, bal, vote, same, c, (fun i => if i < 3 then V i else f i)⟩) rfl
  have b3 := b2.set_ 17 (.int .i64 (V 3)) (ds := rowJ ⟨r, s, st, bal, vote, same, c, (fun i => if i < 4 then V i else f i)⟩) rfl
  have b4 := b3.set_ 18 (.int .i64 (V 4)) (ds := rowJ ⟨r, s, st, bal, vote, same, c, (fun i => if i < 5 then V i else f i)⟩) rfl
  have b5 := b4.set_ 19 (.int .i64 (V 5)) (ds := rowJ ⟨r, s, st, bal, vote, same, c, (fun i => if i < 6 then V i else f i)⟩) rfl
  have b6 := b5.set_ 20 (.int .i64 (V 6)) (ds := rowJ ⟨r, s, st, bal, vote, same, c, (fun i => if i < 7 then V i else f i)⟩) rfl
  have b7 := b6.set_ 21 (.int .i64 (V 7)) (ds := rowJ ⟨r, s, st, bal, vote, same, c, (fun i => if i < 8 then V i else f i)⟩) rfl
  exact b7
theorem TwoA.bal {w0 w : World} {g k n : Nat} {x : J} {l : List Nat} {e : Nat} (h : TwoA w0 w g k n (rowJ x) l e) (v : Int) : TwoA w0 (w.setCell ⟨n, 3, none⟩ (.int .u32 v)) g k n (rowJ ⟨x.r, x.s, x.st, v, x.vote, x.same, x.c, x.f⟩) l e := h.set_ 3 (.int .u32 v) rfl
theorem TwoA.st {w0 w : World} {g k n : Nat} {x : J} {l : List Nat} {e : Nat} (h : TwoA w0 w g k n (rowJ x) l e) (v : Int) : TwoA w0 (w.setCell ⟨n, 2, none⟩ (.int .i64 v)) g k n (rowJ ⟨x.r, x.s, v, x.bal, x.vote, x.same, x.c, x.f⟩) l e := h.set_ 2 (.int .i64 v) rfl
theorem TwoA.vote {w0 w : World} {g k n : Nat} {x : J} {l : List Nat} {e : Nat} (h : TwoA w0 w g k n (rowJ x) l e) (v : Int) : TwoA w0 (w.setCell ⟨n, 4, none⟩ (.int .u32 v)) g k n (rowJ ⟨x.r, x.s, x.st, x.bal, v, x.same, x.c, x.f⟩) l e := h.set_ 4 (.int .u32 v) rfl
theorem TwoA.same {w0 w : World} {g k n : Nat} {x : J} {l : List Nat} {e : Nat} (h : TwoA w0 w g k n (rowJ x) l e) (v : Bool) : TwoA w0 (w.setCell ⟨n, 5, none⟩ (.bool v)) g k n (rowJ ⟨x.r, x.s, x.st, x.bal, x.vote, v, x.c, x.f⟩) l e := h.set_ 5 (.bool v) rfl
end Go.Proofs.YtohffiehmmcgbaaGreatDoor
