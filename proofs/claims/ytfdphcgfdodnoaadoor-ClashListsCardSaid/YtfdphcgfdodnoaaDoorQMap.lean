/-
  Sets that a call makes: maps to truths, told by what they say of each key; a look-up and a store in such a one.
-/
import Derived.Test.YtfdphcgfdodnoaaDoorPRow
import Derived.StringKeys
import Derived.Maps.OwnIn
import Derived.Maps.OwnSet
import Derived.Maps.Views
import Derived.WalkKit
import Derived.WalkArith
namespace Go.Proofs.YtfdphcgfdodnoaaDoor
open Go.ChangeShapes Go.WideShapes Go.ChangeAt Go.RowKit Go.Maps Go.WideMaps

theorem law_s : Keyed Tryd.prog 9 := string_keyed Tryd.underlying9
theorem law_u : Keyed Tryd.prog 22 := int_keyed Tryd.underlying22
theorem key_s (s : ByteArray) (h : s.size ≤ maxLen) : keyOf Tryd.prog 9 (.string s) = some (.string s.data.toList) := keyOf_string_mk Tryd.underlying9 h
theorem key_u (u : Int) (h : 0 ≤ u ∧ u < 18446744073709551616) : keyOf Tryd.prog 22 (.int .u64 u) = some (.int .u64 u) :=
  keyOf_int_mk Tryd.underlying22 (WalkArith.wf_u64 (by omega))

/-- Block b is a map to truths of at most n entries, and S tells what it says of each key. -/
def SetAt (w : World) (K b n : Nat) (S : Lit → Prop) : Prop :=
  ∃ D : DataW Unit, w.ownsMap Tryd.prog K (plainElem Tryd.prog 4) b n D ∧ ∀ kl, WideAt.IsKeyLit kl → ∃ x : Bool, D.atKey kl (.lit (.bool false)) = .lit (.bool x) ∧ (x = true ↔ S kl)

theorem SetAt.made (w : World) (K : Nat) : SetAt (w.alloc (.map #[] 0)) K w.heap.size 0 (fun _ => False) := ⟨.map [], World.ownsMap_made _ _ _ _, fun _ _ => ⟨false, rfl, by simp⟩⟩
theorem SetAt.kept {w w' : World} {row : Option Nat} {K b n : Nat} {S : Lit → Prop} (h : SetAt w K b n S) (hg : w.grownBy w' row) (hne : some b ≠ row) : SetAt w' K b n S := by
  obtain ⟨D, h1, h2⟩ := h
  exact ⟨D, h1.kept hg hne, h2⟩
theorem SetAt.lt {w : World} {K b n : Nat} {S : Lit → Prop} (h : SetAt w K b n S) : b < w.heap.size := by
  obtain ⟨D, h1, h2⟩ := h
  exact h1.lt
theorem SetAt.same {w w' : World} {K b n : Nat} {S : Lit → Prop} (h : SetAt w K b n S) (he : w'.heap[b]? = w.heap[b]?) : SetAt w' K b n S := by
  obtain ⟨D, ⟨es, clock, hb, hr⟩, h2⟩ := h
  exact ⟨D, ⟨es, clock, he.trans hb, hr⟩, h2⟩
theorem SetAt.below {B : Nat} {w w' : World} {K b n : Nat} {S : Lit → Prop} (h : SetAt w K b n S) (hb : Below B w w') (hlt : b < B) : SetAt w' K b n S := h.same (hb.block b hlt)
theorem SetAt.alloc {w : World} {K b n : Nat} {S : Lit → Prop} (h : SetAt w K b n S) (o : Obj) : SetAt (w.alloc o) K b n S := h.kept (World.grownBy_alloc w o none) (by simp)
theorem SetAt.drew {w : World} {K b n : Nat} {S : Lit → Prop} (h : SetAt w K b n S) : SetAt w.drew K b n S := h
theorem SetAt.far {w : World} {K b n : Nat} {S : Lit → Prop} (h : SetAt w K b n S) {p : Addr} (hp : b ≠ p.block) (u : Value) : SetAt (w.setCell p u) K b n S := h.same (Below.heap_setCell w p u b hp)
theorem SetAt.mono {w : World} {K b n n' : Nat} {S : Lit → Prop} (h : SetAt w K b n S) (hn : n ≤ n') : SetAt w K b n' S := by
  obtain ⟨D, h1, h2⟩ := h
  exact ⟨D, h1.mono hn, h2⟩
/-- It is no cells. -/
theorem SetAt.not_cells {w : World} {K b n : Nat} {S : Lit → Prop} (h : SetAt w K b n S) : ∃ o : Obj, w.heap[b]? = some o ∧ o.isCells = false := by
  obtain ⟨D, ⟨es, clock, hb, hr⟩, h2⟩ := h
  exact ⟨_, hb, rfl⟩

theorem plainElem_bool_inv {e : TypeId} {v : Value} {z : DataW Unit × List MemPlace} {x : Bool} (he : Tryd.prog.underlying e = some .bool) (h : plainElem Tryd.prog e v = some z) (hz : z.1 = .lit (.bool x)) : v = .bool x := by
  unfold plainElem at h
  rw [he] at h
  cases v <;> simp at h
  subst h
  simp at hz
  rw [hz]

theorem zero_b (w : World) : (zeroValue 4).run Tryd.prog w = .ok (.bool false) w := by kernel_rfl

theorem SetAt.look {w : World} {K b n t : Nat} {S : Lit → Prop} (h : SetAt w K b n S) (law : Keyed Tryd.prog K) (ht : Tryd.prog.underlying t = some (.map K 4)) {key : Value} {kl : Lit} (hkey : keyOf Tryd.prog K key = some kl) :
    ∃ x : Bool, (Instr.lookup t (.map (some b)) key false).run Tryd.prog w = .ok (.bool x) w ∧ (x = true ↔ S kl) := by
  obtain ⟨D, h1, h2⟩ := h
  obtain ⟨v, ps, hrun, hv⟩ := h1.lookup law ht (zero_b w) (plainElem_bool Tryd.underlying4 false) hkey
  obtain ⟨x, hx, hS⟩ := h2 kl (law.key hkey)
  rw [hx] at hv
  exact ⟨x, by rw [hrun, plainElem_bool_inv Tryd.underlying4 hv rfl], hS⟩

/-- A key is put to it. -/
theorem wpListIn_put {F : Fence} {nF : Nat} (w : World) {ops : Array Oper} {rest : List Oper} {o : Oper} {a : Act} {Q : Exit → Act → World → Prop} (hg : o.guard = none) (m x v : Operand) (t : TypeId) (hop : o.op = Op.mapUpdate t m x v)
    (K : Nat) (law : Keyed Tryd.prog K) (ht : Tryd.prog.underlying t = some (.map K 4)) (b n : Nat) (S : Lit → Prop) (hm : a.eval m = .map (some b)) (hown : SetAt w K b n S) (hn : n < maxLen) (key : Value) (kl : Lit) (hx : a.eval x = key) (hv : a.eval v = .bool true)
    (hkey : keyOf Tryd.prog K key = some kl) (hK : ∀ w', SetAt w' K b (n + 1) (fun y => S y ∨ y = kl) → w.grownBy w' (some b) → wpListIn F nF Tryd.prog ops Q rest (a.put o.dst undef) w') :
    wpListIn F nF Tryd.prog ops Q (o :: rest) a w := by
  obtain ⟨D, hD, hS⟩ := hown
  refine wpListIn_mapUpdate_own w hg m x v t hop K 4 law ht _ b n D hm hD hn key (.bool true) kl hx hv hkey (.lit (.bool true)) [] (plainElem_bool Tryd.underlying4 true) ?_
  intro w' h1 h2
  refine hK w' ⟨_, h1, fun y hy => ?_⟩ h2
  by_cases h : y = kl
  · subst h
    exact ⟨true, atKey_put_same hD.isMap hy _ _, by simp⟩
  · obtain ⟨x, hx, hs⟩ := hS y hy
    exact ⟨x, (atKey_put_other h _ _).trans hx, by rw [hs]; simp [h]⟩

end Go.Proofs.YtfdphcgfdodnoaaDoor
