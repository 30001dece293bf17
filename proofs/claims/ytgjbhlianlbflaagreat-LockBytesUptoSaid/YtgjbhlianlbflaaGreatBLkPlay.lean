/-
  A play of the law's: both books in memory.
-/
import Derived.Test.YtgjbhlianlbflaaGreatBLkFits
import Derived.Test.YtgjbhlianlbflaaGreatBLkAnch
namespace Go.Proofs.YtgjbhlianlbflaaGreat
open Go.ChangeShapes Go.WideShapes Go.ChangeAt Go.RowKit Go.Maps Go.WideMaps
set_option linter.unusedVariables false
set_option linter.unusedSimpArgs false
structure PlayAt (w W : World) (b de dc n g : Nat) (first : Int) (l : List EnL) (cs : CnL) (A : Option Addr) (n1 c1 : Nat) (A' : Option Addr) (n2 c2 : Nat) : Prop where
  book : BkK W w.heap.size b de dc n first l cs
  good : GoodD n first l cs
  doc : DocK W (.agg #[.int .u64 first, .slice A n1 c1, .slice A' n2 c2]) first l cs
  box : Blk W g 31 #[.int .u64 first, .slice A n1 c1, .slice A' n2 c2]
  bel : Below w.heap.size w W
  ne : g ≠ b ∧ g ≠ de ∧ g ≠ dc ∧ w.heap.size ≤ g
section
variable {w W W2 : World} {b de dc n g : Nat} {first : Int} {l : List EnL} {cs : CnL} {A A' : Option Addr} {n1 c1 n2 c2 : Nat}
theorem PlayAt.on (h : PlayAt w W b de dc n g first l cs A n1 c1 A' n2 c2) (t : Below W.heap.size W W2) : PlayAt w W2 b de dc n g first l cs A n1 c1 A' n2 c2 :=
  ⟨h.book.on t, h.good, h.doc.below t, h.box.below t h.box.lt, below_on h.bel t, h.ne⟩
theorem PlayAt.c0 (h : PlayAt w W b de dc n g first l cs A n1 c1 A' n2 c2) : W.cell? ⟨g, 0, none⟩ = some (.int .u64 first) ∧ W.cell? ⟨g, 1, none⟩ = some (.slice A n1 c1) ∧ W.cell? ⟨g, 2, none⟩ = some (.slice A' n2 c2) := lcells3K h.box
theorem PlayAt.z0 (h : PlayAt w W b de dc n g first l cs A n1 c1 A' n2 c2) : W.frozen? ⟨g, 0, none⟩ = false ∧ W.frozen? ⟨g, 1, none⟩ = false ∧ W.frozen? ⟨g, 2, none⟩ = false := ⟨h.box.frozen 0, h.box.frozen 1, h.box.frozen 2⟩
theorem PlayAt.step (h : PlayAt w W b de dc n g first l cs A n1 c1 A' n2 c2) {o : OpK} (ho : MadeK o) {B B' : Option Addr} {m1 d1 m2 d2 : Nat} (hb : BkK W2 w.heap.size b de dc (n + 1) first (stpL first l cs o) (stpC first l cs o))
    (hd : DocK W2 (.agg #[.int .u64 first, .slice B m1 d1, .slice B' m2 d2]) first (stpL first l cs o) (stpC first l cs o)) (t : TurnsD (OwnK de dc) W W2) :
    PlayAt w (put3K W2 g (.int .u64 first) (.slice B m1 d1) (.slice B' m2 d2)) b de dc (n + 1) g first (stpL first l cs o) (stpC first l cs o) B m1 d1 B' m2 d2 := by
  have hx : Blk W2 g 31 #[.int .u64 first, .slice A n1 c1, .slice A' n2 c2] := h.box.turns t (fun e => by rcases e with e | e; exact h.ne.2.1 e; exact h.ne.2.2.1 e)
  have t3 := turn3K W2 g (.int .u64 first) (.slice B m1 d1) (.slice B' m2 d2)
  have hlow := h.book.low
  refine ⟨hb.turns t3 (fun e => h.ne.1 e.symm) (fun e => h.ne.2.1 e.symm) (fun e => h.ne.2.2.1 e.symm), h.good.step ho, hd.put hx _ _ _, put3K_blk hx _ _ _, ?_, h.ne⟩
  exact put3K_below (h.bel.trans (t.below (B := w.heap.size) h.bel.size (fun i hi e => by rcases e with e | e <;> omega))) h.ne.2.2.2 _ _ _
end
end Go.Proofs.YtgjbhlianlbflaaGreat
