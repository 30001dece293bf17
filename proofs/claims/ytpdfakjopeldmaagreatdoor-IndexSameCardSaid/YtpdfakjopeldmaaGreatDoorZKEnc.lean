/-
  A command's bytes, and what holds while they are put.
-/
import Derived.Test.YtpdfakjopeldmaaGreatDoorKBase
import Derived.Test.YtpdfakjopeldmaaGreatDoorMgO
namespace Go.Proofs.YtpdfakjopeldmaaGreatDoor
open Go.ChangeShapes Go.WideShapes Go.ChangeAt Go.RowKit Go.Lib

def textN (s : ByteArray) : List Nat := shortN s.size ++ bytesOfS s
def e0 (c : K) : List Nat := if h0 c.kind then bytesN c.num.toNat 8 ++ textN c.foot else []
def e1 (c : K) : List Nat := if h1 c.kind then shortN c.req.toNat else []
def e2 (c : K) : List Nat := if h2 c.kind then textN c.path else []
def e3 (c : K) : List Nat := if h3 c.kind then [c.mode.toNat] else []
def e4 (c : K) : List Nat := if h4 c.kind then shortN c.n.toNat else []
def e5 (c : K) : List Nat := if h5 c.kind then shortN c.time.toNat else []
/-- A command's bytes. -/
def enc (c : K) : List Nat := c.kind.toNat :: (e0 c ++ (e1 c ++ (e2 c ++ (e3 c ++ (e4 c ++ e5 c)))))

theorem var_under {P : Program} {w w' : World} {n : String} {cs : Array Value} {g base : Nat} (hg : P.globalNamed n = some g) (h : w.var? P n = some cs) (hlt : g < base) (hb : Below base w w') : w'.var? P n = some cs := by
  unfold World.var? at h ⊢
  rw [hg] at h ⊢
  simp only [Option.bind_some] at h ⊢
  rw [hb.block g hlt]; exact h
theorem PartsIs.under {w w' : World} {base : Nat} (h : PartsIs w) (hlt : 1 < base) (hb : Below base w w') : PartsIs w' := var_under gParts h hlt hb
theorem PartsIs.lt {w : World} (h : PartsIs w) : 1 < w.heap.size := by
  have h1 := h.cell 0
  rcases Nat.lt_or_ge 1 w.heap.size with hlt | hge
  · exact hlt
  · exfalso
    have h2 : w.heap[1]? = none := Array.getElem?_eq_none hge
    have h3 : ptsV[0]? = some (.int .u8 0) := rfl
    rw [h3] at h1
    simp [World.cell?, h2] at h1

/-- While a command in a box of the call's own is put. -/
def PutAt (w0 w : World) (base g b : Nat) (c : K) (l : List Nat) : Prop := OutAt w base g l ∧ Blk w b 27 (cellsOf c) ∧ g < b ∧ Below base w0 w ∧ PartsIs w ∧ 1 < base ∧ w0.heap.size ≤ b ∧ Stays g w0 w
theorem PutAt.start {w : World} {base g : Nat} {l : List Nat} (h : OutAt w base g l) (hP : PartsIs w) (hb : 1 < base) (c : K) : PutAt w (w.alloc (.cells (cellsOf c) 27)) base g w.heap.size c l :=
  ⟨h.alloc _, Blk.new _ _ _, by obtain ⟨_, v, h1, _⟩ := h; exact h1.lt, (Below.refl _ _).alloc h.base_le _, hP.alloc _, hb, Nat.le_refl _, Stays.of_below ((Below.refl _ _).alloc (Nat.le_refl _) _)⟩
theorem PutAt.on {w0 w w' : World} {base g b : Nat} {c : K} {l : List Nat} (h : PutAt w0 w base g b c l) (hb : Below w.heap.size w w') : PutAt w0 w' base g b c l :=
  ⟨h.1.later hb, h.2.1.below hb h.2.1.lt, h.2.2.1, h.2.2.2.1.trans (hb.mono h.1.base_le), h.2.2.2.2.1.below hb, h.2.2.2.2.2.1, h.2.2.2.2.2.2.1, h.2.2.2.2.2.2.2.trans (Stays.of_below hb)⟩
theorem PutAt.drew {w0 w : World} {base g b : Nat} {c : K} {l : List Nat} (h : PutAt w0 w base g b c l) : PutAt w0 w.drew base g b c l :=
  ⟨h.1, h.2.1.drew, h.2.2.1, below_drew h.2.2.2.1, h.2.2.2.2.1, h.2.2.2.2.2.1, h.2.2.2.2.2.2.1, h.2.2.2.2.2.2.2⟩
theorem PutAt.put {w0 w w' : World} {base g b : Nat} {c : K} {l l' : List Nat} (h : PutAt w0 w base g b c l) (ho : OutAt w' base g l') (hb : Below base w w') (hs : Stays g w w') : PutAt w0 w' base g b c l' :=
  ⟨ho, hs.2 b _ _ (Nat.ne_of_gt h.2.2.1) (by decide) h.2.1, h.2.2.1, h.2.2.2.1.trans hb, h.2.2.2.2.1.under h.2.2.2.2.2.1 hb, h.2.2.2.2.2.1, h.2.2.2.2.2.2.1, h.2.2.2.2.2.2.2.trans hs⟩
theorem PutAt.parts {w0 w : World} {base g b : Nat} {c : K} {l : List Nat} (h : PutAt w0 w base g b c l) : PartsIs w := h.2.2.2.2.1
theorem PutAt.oat {w0 w : World} {base g b : Nat} {c : K} {l : List Nat} (h : PutAt w0 w base g b c l) : OutAt w base g l := h.1
theorem PutAt.bel {w0 w : World} {base g b : Nat} {c : K} {l : List Nat} (h : PutAt w0 w base g b c l) : Below base w0 w := h.2.2.2.1
theorem PutAt.stays {w0 w : World} {base g b : Nat} {c : K} {l : List Nat} (h : PutAt w0 w base g b c l) : Stays g w0 w := h.2.2.2.2.2.2.2
theorem PutAt.two {w0 w : World} {base g b : Nat} {c : K} {l : List Nat} (h : PutAt w0 w base g b c l) : w.cell? ⟨b, 1, none⟩ = some (.int .u64 c.num) ∧ w.cell? ⟨b, 2, none⟩ = some (.string c.foot) :=
  ⟨(cells8 h.2.1).1.2.1, (cells8 h.2.1).1.2.2.1⟩

end Go.Proofs.YtpdfakjopeldmaaGreatDoor
