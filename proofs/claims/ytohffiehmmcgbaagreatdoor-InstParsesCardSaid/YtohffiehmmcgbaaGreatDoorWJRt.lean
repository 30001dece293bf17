/-
  The contract of the document's Take of a state (moothillref10), off any bytes.
-/
import Derived.Test.YtohffiehmmcgbaaGreatDoorWF
import Derived.Test.YtohffiehmmcgbaaGreatDoorWJRef
import Derived.Test.YtohffiehmmcgbaaGreatDoorWD
namespace Go.Proofs.YtohffiehmmcgbaaGreatDoor
open Go.ChangeShapes Go.WideShapes Go.ChangeAt Go.RowKit Go.Lib
set_option linter.unusedVariables false
set_option linter.unusedSimpArgs false
theorem info_x : (Tryz.prog.info? 48).map (·.size) = some 22 := by kernel_rfl
theorem len_x (x : J) : (Tryz.prog.info? 48).map (·.size) = some (rowJ x).size := by rw [rowJ_size]; exact info_x
theorem len_id (r s : Int) : (Tryz.prog.info? 43).map (·.size) = some (#[Value.int .i64 r, Value.int .i64 s] : Array Value).size := by kernel_rfl
theorem one_id (r s : Int) : (#[Value.int .i64 r, Value.int .i64 s] : Array Value).all (·.oneCell') = true := by simp [Value.oneCell']
theorem len_a (V : Nat → Int) : (Tryz.prog.info? 46).map (·.size) = some (rowA V).size := by kernel_rfl
theorem one_a (V : Nat → Int) : (rowA V).all (·.oneCell') = true := by simp [rowA, lsA, Value.oneCell']
section
variable {w0 w w' : World} {k m : Nat} {T : TypeId} {zs cs : Array Value} {A : Option Addr} {n c p : Nat} {e : Int}
theorem RA.there (h : RA w0 w k m T zs cs A n c p e) {o z : Nat} (hs : o + z ≤ cs.size) : w.there m o z := fun j hj => by
  refine ⟨?_, h.obj.frozen _⟩
  rw [h.obj.cell, Array.getElem?_eq_getElem (by omega)]
  rfl
theorem RA.id {x : J} (h : RA w0 w k m T zs (rowJ x) A n c p e) (r s : Int) : RA w0 (w.setCells m 0 [.int .i64 r, .int .i64 s]) k m T zs (rowJ ⟨r, s, x.st, x.bal, x.vote, x.same, x.c, x.f⟩) A n c p e := by
  have b0 := h.set_ 0 (.int .i64 r) (ds := rowJ ⟨r, x.s, x.st, x.bal, x.vote, x.same, x.c, x.f⟩) rfl
  exact b0.set_ 1 (.int .i64 s) (ds := rowJ ⟨r, s, x.st, x.bal, x.vote, x.same, x.c, x.f⟩) rfl
theorem RA.cmd {x : J} (h : RA w0 w k m T zs (rowJ x) A n c p e) (d : K) : RA w0 (w.setCells m 6 (cellsOf d).toList) k m T zs (rowJ ⟨x.r, x.s, x.st, x.bal, x.vote, x.same, d, x.f⟩) A n c p e := by
  obtain ⟨r, s, st, bal, vote, same, ⟨k, u, f0, q, p, m, nn, t⟩, f⟩ := x
  obtain ⟨k', u', f', q', s', m', n', t'⟩ := d
  have b0 := h.set_ 6 (.int .i64 k') (ds := rowJ ⟨r, s, st, bal, vote, same, ⟨k', u, f0, q, p, m, nn, t⟩, f⟩) rfl
  have b1 := b0.set_ 7 (.int .u64 u') (ds := rowJ ⟨r, s, st, bal, vote, same, ⟨k', u', f0, q, p, m, nn, t⟩, f⟩) rfl
  have b2 := b1.set_ 8 (.string f') (ds := rowJ ⟨r, s, st, bal, vote, same, ⟨k', u', f', q, p, m, nn, t⟩, f⟩) rfl
  have b3 := b2.set_ 9 (.int .u64 q') (ds := rowJ ⟨r, s, st, bal, vote, same, ⟨k', u', f', q', p, m, nn, t⟩, f⟩) rfl
  have b4 := b3.set_ 10 (.string s') (ds := rowJ ⟨r, s, st, bal, vote, same, ⟨k', u', f', q', s', m, nn, t⟩, f⟩) rfl
  have b5 := b4.set_ 11 (.int .i64 m') (ds := rowJ ⟨r, s, st, bal, vote, same, ⟨k', u', f', q', s', m', nn, t⟩, f⟩) rfl
  have b6 := b5.set_ 12 (.int .u64 n') (ds := rowJ ⟨r, s, st, bal, vote, same, ⟨k', u', f', q', s', m', n', t⟩, f⟩) rfl
  have b7 := b6.set_ 13 (.int .i64 t') (ds := rowJ ⟨r, s, st, bal, vote, same, ⟨k', u', f', q', s', m', n', t'⟩, f⟩) rfl
  exact b7
theorem RA.att {x : J} (h : RA w0 w k m T zs (rowJ x) A n c p e) (V : Nat → Int) : RA w0 (w.setCells m 14 (rowA V).toList) k m T zs (rowJ ⟨x.r, x.s, x.st, x.bal, x.vote, x.same, x.c, V⟩) A n c p e := by
  obtain ⟨r, s, st, bal, vote, same, d, f⟩ := x
  have b0 := h.set_ 14 (.int .i64 (V 0)) (ds := rowJ ⟨r, s, st, bal, vote, same, d, (fun i => if i < 1 then V i else f i)⟩) rfl
  have b1 := b0.set_ 15 (.int .i64 (V 1)) (ds := rowJ ⟨r, s, st, bal, vote, same, d, (fun i => if i < 2 then V i else f i)⟩) rfl
  have b2 := b1.set_ 16 (.int .i64 (V 2)) (ds := rowJ ⟨r, s, st, bal, vote, same, d, (fun i => if i < 3 then V i else f i)⟩) rfl
  have b3 := b2.set_ 17 (.int .i64 (V 3)) (ds := rowJ ⟨r, s, st, bal, vote, same, d, (fun i => if i < 4 then V i else f i)⟩) rfl
  have b4 := b3.set_ 18 (.int .i64 (V 4)) (ds := rowJ ⟨r, s, st, bal, vote, same, d, (fun i => if i < 5 then V i else f i)⟩) rfl
  have b5 := b4.set_ 19 (.int .i64 (V 5)) (ds := rowJ ⟨r, s, st, bal, vote, same, d, (fun i => if i < 6 then V i else f i)⟩) rfl
  have b6 := b5.set_ 20 (.int .i64 (V 6)) (ds := rowJ ⟨r, s, st, bal, vote, same, d, (fun i => if i < 7 then V i else f i)⟩) rfl
  have b7 := b6.set_ 21 (.int .i64 (V 7)) (ds := rowJ ⟨r, s, st, bal, vote, same, d, (fun i => if i < 8 then V i else f i)⟩) rfl
  exact b7
end
end Go.Proofs.YtohffiehmmcgbaaGreatDoor
