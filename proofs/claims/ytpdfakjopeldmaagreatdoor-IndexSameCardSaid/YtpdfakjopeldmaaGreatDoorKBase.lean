/-
  Commands by value: the table of what the kinds have; contracts of isKind, has, mostN (package cmd); two commands compared.
-/
import Derived.Test.YtpdfakjopeldmaaGreatDoorRows
import Derived.Test.YtpdfakjopeldmaaGreatDoorKMath
import Derived.Test.YtpdfakjopeldmaaGreatDoorHeld
import Derived.Test.YtpdfakjopeldmaaGreatDoorBase
import Derived.Laws.StructEq
import Derived.ChangeKeysEq
import Derived.LaidEql
namespace Go.Proofs.YtpdfakjopeldmaaGreatDoor
open Go.ChangeShapes Go.WideShapes Go.ChangeAt Go.RowKit Go.Lib

/-- A command, by value. -/
abbrev val (c : K) : Value := .agg #[.int .i64 c.kind, .int .u64 c.num, .string c.foot, .int .u64 c.req, .string c.path, .int .i64 c.mode, .int .u64 c.n, .int .i64 c.time]
/-- Its cells. -/
abbrev cellsOf (c : K) : Array Value := #[.int .i64 c.kind, .int .u64 c.num, .string c.foot, .int .u64 c.req, .string c.path, .int .i64 c.mode, .int .u64 c.n, .int .i64 c.time]

theorem var_below {P : Program} {w w' : World} {n : String} {cs : Array Value} (h : w.var? P n = some cs) (hb : Below w.heap.size w w') : w'.var? P n = some cs := by
  unfold World.var? at h ⊢
  cases hg : P.globalNamed n with
  | none => rw [hg] at h; cases h
  | some g =>
    rw [hg] at h
    simp only [Option.bind_some] at h ⊢
    rcases Nat.lt_or_ge g w.heap.size with hlt | hge
    · rw [hb.block g hlt]; exact h
    · rw [Array.getElem?_eq_none hge] at h; cases h

/-- The table's numbers. -/
def pts : List Int := [0, 51, 3, 35, 15, 15, 7, 23, 33]
def ptsV : Array Value := (pts.map fun x => Value.int .u8 x).toArray
/-- The variable holds the table. -/
def PartsIs (w : World) : Prop := w.var? Tryz.prog "moothill/cmd.parts" = some ptsV
theorem PartsIs.below {w w' : World} (h : PartsIs w) (hb : Below w.heap.size w w') : PartsIs w' := var_below h hb
theorem PartsIs.drew {w : World} (h : PartsIs w) : PartsIs w.drew := h
theorem PartsIs.drewN {w : World} (h : PartsIs w) (n : Nat) : PartsIs (w.drewN n) := h
theorem PartsIs.alloc {w : World} (h : PartsIs w) (o : Obj) : PartsIs (w.alloc o) := h.below ((Below.refl _ _).alloc (Nat.le_refl _) o)
theorem gParts : Tryz.prog.globalNamed "moothill/cmd.parts" = some 1 := by kernel_rfl
theorem PartsIs.cell {w : World} (h : PartsIs w) (i : Nat) : w.cell? ⟨1, i, none⟩ = ptsV[i]? := World.var?_cell gParts h i

/-- What a kind has, by the part's bit. -/
def hasP (p k : Int) : Bool := if p = 1 then h0 k else if p = 2 then h1 k else if p = 4 then h2 k else if p = 8 then h3 k else if p = 16 then h4 k else h5 k

def pt (k : Nat) : Int := pts.getD k 0
theorem pts_get (k : Nat) (h : k < 9) : ptsV[k]? = some (.int .u8 (pt k)) := by
  have : k = 0 ∨ k = 1 ∨ k = 2 ∨ k = 3 ∨ k = 4 ∨ k = 5 ∨ k = 6 ∨ k = 7 ∨ k = 8 := by omega
  rcases this with rfl | rfl | rfl | rfl | rfl | rfl | rfl | rfl | rfl <;> rfl
theorem pts_has (p : Int) (k : Nat) (h : k < 9) (hp : p = 1 ∨ p = 2 ∨ p = 4 ∨ p = 8 ∨ p = 16 ∨ p = 32) : (bits .and .u8 (pt k) p != 0) = hasP p (k : Int) := by
  have : k = 0 ∨ k = 1 ∨ k = 2 ∨ k = 3 ∨ k = 4 ∨ k = 5 ∨ k = 6 ∨ k = 7 ∨ k = 8 := by omega
  rcases this with rfl | rfl | rfl | rfl | rfl | rfl | rfl | rfl | rfl <;> rcases hp with rfl | rfl | rfl | rfl | rfl | rfl <;> decide
theorem hasP_off (p k : Int) (h : isK k = false) : hasP p k = false := by
  unfold isK at h
  rw [decide_eq_false_iff_not] at h
  unfold hasP
  repeat' split
  all_goals first | (unfold h0; exact decide_eq_false (by omega)) | (unfold h1; exact decide_eq_false (by omega)) | (unfold h2; exact decide_eq_false (by omega)) | (unfold h3; exact decide_eq_false (by omega)) | (unfold h4; exact decide_eq_false (by omega)) | (unfold h5; exact decide_eq_false (by omega))

set_option maxRecDepth 100000 in
set_option maxHeartbeats 400000 in
theorem iskind_any (k : Int) (w : World) : Calls Tryz.prog 98 #[.int .i64 k] w fun e w' => e = .returned (.bool (isK k)) ∧ w = w' := by
  go_enter Tryz.func98, Tryz.ntmps98
  go_wp2
  all_goals go_ret
  all_goals exact ⟨ret_bool (by unfold isK; rw [Bool.eq_iff_iff]; simp; try omega), rfl⟩

set_option maxRecDepth 100000 in
set_option maxHeartbeats 400000 in
theorem has_as (c : K) (p : Int) (b : Bool) (w : World) (hp : p = 1 ∨ p = 2 ∨ p = 4 ∨ p = 8 ∨ p = 16 ∨ p = 32) (hb : hasP p c.kind = b) (hP : PartsIs w) :
    Calls Tryz.prog 87 #[val c, .int .u8 p] w fun e w' => e = .returned (.bool b) ∧ Below w.heap.size w w' := by
  obtain ⟨k, u, f, q, s, m, n, t⟩ := c
  simp only at hb ⊢
  subst hb
  cases hk : isK k
  · rw [hasP_off p k hk]
    have HK := hid hk
    clear hk hP hp
    go_enter Tryz.func87, Tryz.ntmps87
    go_wp2_with fail
    with_reducible refine (iskind_any k _).mono ?_
    rintro e w' ⟨rfl, rfl⟩
    rw [HK.out]
    go_wp2
    go_ret
    exact ⟨rfl, (Below.refl _ _).alloc (Nat.le_refl _) _⟩
  · have HK := hid hk
    obtain ⟨i, rfl, hi⟩ : ∃ i : Nat, k = (i : Int) ∧ i < 9 := by
      unfold isK at hk
      rw [decide_eq_true_eq] at hk
      exact ⟨k.toNat, by omega, by omega⟩
    have HH := hid (pts_has p i hi hp)
    have HG := hid ((PartsIs.alloc hP (.cells (cellsOf ⟨i, u, f, q, s, m, n, t⟩) 27)).cell i)
    have hg := (HG.out.trans (pts_get i hi))
    clear hk hP hp HG
    go_enter Tryz.func87, Tryz.ntmps87
    go_wp2_with fail
    with_reducible refine (iskind_any i _).mono ?_
    rintro e w' ⟨rfl, rfl⟩
    rw [HK.out]
    go_wp2
    go_ret
    exact ⟨ret_bool HH.out, (Below.refl _ _).alloc (Nat.le_refl _) _⟩

theorem has_0 (c : K) (b : Bool) (w : World) (hb : h0 c.kind = b) (hP : PartsIs w) :
    Calls Tryz.prog 87 #[val c, .int .u8 1] w fun e w' => e = .returned (.bool b) ∧ Below w.heap.size w w' := has_as c 1 b w (by decide) hb hP
theorem has_1 (c : K) (b : Bool) (w : World) (hb : h1 c.kind = b) (hP : PartsIs w) :
    Calls Tryz.prog 87 #[val c, .int .u8 2] w fun e w' => e = .returned (.bool b) ∧ Below w.heap.size w w' := has_as c 2 b w (by decide) hb hP
theorem has_2 (c : K) (b : Bool) (w : World) (hb : h2 c.kind = b) (hP : PartsIs w) :
    Calls Tryz.prog 87 #[val c, .int .u8 4] w fun e w' => e = .returned (.bool b) ∧ Below w.heap.size w w' := has_as c 4 b w (by decide) hb hP
theorem has_3 (c : K) (b : Bool) (w : World) (hb : h3 c.kind = b) (hP : PartsIs w) :
    Calls Tryz.prog 87 #[val c, .int .u8 8] w fun e w' => e = .returned (.bool b) ∧ Below w.heap.size w w' := has_as c 8 b w (by decide) hb hP
theorem has_4 (c : K) (b : Bool) (w : World) (hb : h4 c.kind = b) (hP : PartsIs w) :
    Calls Tryz.prog 87 #[val c, .int .u8 16] w fun e w' => e = .returned (.bool b) ∧ Below w.heap.size w w' := has_as c 16 b w (by decide) hb hP
theorem has_5 (c : K) (b : Bool) (w : World) (hb : h5 c.kind = b) (hP : PartsIs w) :
    Calls Tryz.prog 87 #[val c, .int .u8 32] w fun e w' => e = .returned (.bool b) ∧ Below w.heap.size w w' := has_as c 32 b w (by decide) hb hP

/-- A command in a box of the call's own, and the table, in a world that has grown from w0. -/
def Boxed (w0 w : World) (g : Nat) (c : K) : Prop := Blk w g 27 (cellsOf c) ∧ w0.heap.size ≤ g ∧ Below w0.heap.size w0 w ∧ PartsIs w0
theorem Boxed.parts {w0 w : World} {g : Nat} {c : K} (h : Boxed w0 w g c) : PartsIs w := h.2.2.2.below h.2.2.1
theorem Boxed.lt {w0 w : World} {g : Nat} {c : K} (h : Boxed w0 w g c) : g < w.heap.size := h.1.lt
theorem Boxed.below {w0 w : World} {g : Nat} {c : K} (h : Boxed w0 w g c) : Below w0.heap.size w0 w := h.2.2.1
theorem Boxed.on {w0 w w' : World} {g : Nat} {c : K} (h : Boxed w0 w g c) (hb : Below w.heap.size w w') : Boxed w0 w' g c :=
  ⟨h.1.below hb h.1.lt, h.2.1, h.2.2.1.trans (hb.mono h.2.2.1.size), h.2.2.2⟩
theorem Boxed.drew {w0 w : World} {g : Nat} {c : K} (h : Boxed w0 w g c) : Boxed w0 w.drew g c := ⟨h.1.drew, h.2.1, below_drew h.2.2.1, h.2.2.2⟩
theorem Boxed.alloc {w0 w : World} {g : Nat} {c : K} (h : Boxed w0 w g c) (o : Obj) : Boxed w0 (w.alloc o) g c := h.on ((Below.refl _ _).alloc (Nat.le_refl _) o)
theorem Boxed.far {w0 w : World} {g : Nat} {c : K} (h : Boxed w0 w g c) {p : Addr} (hp : g ≠ p.block) (h0 : w0.heap.size ≤ p.block) (u : Value) : Boxed w0 (w.setCell p u) g c :=
  ⟨h.1.far hp u, h.2.1, Below.setCell (p := p) h.2.2.1 h0 u, h.2.2.2⟩
theorem Boxed.start {w : World} (h : PartsIs w) (c : K) : Boxed w (w.alloc (.cells (cellsOf c) 27)) w.heap.size c :=
  ⟨Blk.new _ _ _, Nat.le_refl _, (Below.refl _ _).alloc (Nat.le_refl _) _, h⟩
theorem Boxed.set_ {w0 w : World} {g : Nat} {c : K} (h : Boxed w0 w g c) (i : Nat) (u : Value) (c' : K) (hc : (cellsOf c).setIfInBounds i u = cellsOf c') : Boxed w0 (w.setCell ⟨g, i, none⟩ u) g c' :=
  ⟨hc ▸ h.1.set_ i u, h.2.1, Below.setCell (p := ⟨g, i, none⟩) h.2.2.1 h.2.1 u, h.2.2.2⟩
theorem cells8 {w : World} {g : Nat} {T : TypeId} {a b c d e f x y : Value} (h : Blk w g T #[a, b, c, d, e, f, x, y]) :
    (w.cell? ⟨g, 0, none⟩ = some a ∧ w.cell? ⟨g, 1, none⟩ = some b ∧ w.cell? ⟨g, 2, none⟩ = some c ∧ w.cell? ⟨g, 3, none⟩ = some d ∧ w.cell? ⟨g, 4, none⟩ = some e ∧ w.cell? ⟨g, 5, none⟩ = some f ∧ w.cell? ⟨g, 6, none⟩ = some x ∧ w.cell? ⟨g, 7, none⟩ = some y) ∧
    w.frozen? ⟨g, 0, none⟩ = false ∧ w.frozen? ⟨g, 1, none⟩ = false ∧ w.frozen? ⟨g, 2, none⟩ = false ∧ w.frozen? ⟨g, 3, none⟩ = false ∧ w.frozen? ⟨g, 4, none⟩ = false ∧ w.frozen? ⟨g, 5, none⟩ = false ∧ w.frozen? ⟨g, 6, none⟩ = false ∧ w.frozen? ⟨g, 7, none⟩ = false :=
  ⟨⟨(h.cell 0).trans rfl, (h.cell 1).trans rfl, (h.cell 2).trans rfl, (h.cell 3).trans rfl, (h.cell 4).trans rfl, (h.cell 5).trans rfl, (h.cell 6).trans rfl, (h.cell 7).trans rfl⟩, h.frozen 0, h.frozen 1, h.frozen 2, h.frozen 3, h.frozen 4, h.frozen 5, h.frozen 6, h.frozen 7⟩

set_option maxRecDepth 100000 in
set_option maxHeartbeats 400000 in
theorem mostn_any (c : K) (w : World) : Calls Tryz.prog 105 #[val c] w fun e w' => e = .returned (.int .u64 (mostN c.kind)) ∧ Below w.heap.size w w' := by
  obtain ⟨k, u, f, q, s, m, n, t⟩ := c
  rcases Decidable.em (k = 1) with h | h
  · subst h
    go_enter Tryz.func105, Tryz.ntmps105
    go_wp2
    go_ret
    exact ⟨rfl, (Below.refl _ _).alloc (Nat.le_refl _) _⟩
  · have hb : (k == 1) = false := beq_eq_false_iff_ne.2 h
    have H : Hid (mostN k = 9223372036854775807) := hid (if_neg h)
    go_enter Tryz.func105, Tryz.ntmps105
    go_wp2
    go_ret
    exact ⟨by rw [H.out]; rfl, (Below.refl _ _).alloc (Nat.le_refl _) _⟩

/-- A whole command stored. -/
abbrev putK (w : World) (g : Nat) (c : K) : World := (((((((w.setCell ⟨g, 0, none⟩ (.int .i64 c.kind)).setCell ⟨g, 1, none⟩ (.int .u64 c.num)).setCell ⟨g, 2, none⟩ (.string c.foot)).setCell ⟨g, 3, none⟩ (.int .u64 c.req)).setCell ⟨g, 4, none⟩ (.string c.path)).setCell ⟨g, 5, none⟩ (.int .i64 c.mode)).setCell ⟨g, 6, none⟩ (.int .u64 c.n)).setCell ⟨g, 7, none⟩ (.int .i64 c.time)
theorem Boxed.put {w0 w : World} {g : Nat} {c : K} (h : Boxed w0 w g c) (d : K) : Boxed w0 (putK w g d) g d := by
  obtain ⟨k, u, f, q, s, m, n, t⟩ := c
  obtain ⟨k', u', f', q', s', m', n', t'⟩ := d
  exact (((((((h.set_ 0 (.int .i64 k') ⟨k', u, f, q, s, m, n, t⟩ rfl).set_ 1 (.int .u64 u') ⟨k', u', f, q, s, m, n, t⟩ rfl).set_ 2 (.string f') ⟨k', u', f', q, s, m, n, t⟩ rfl).set_ 3 (.int .u64 q') ⟨k', u', f', q', s, m, n, t⟩ rfl).set_ 4 (.string s') ⟨k', u', f', q', s', m, n, t⟩ rfl).set_ 5 (.int .i64 m') ⟨k', u', f', q', s', m', n, t⟩ rfl).set_ 6 (.int .u64 n') ⟨k', u', f', q', s', m', n', t⟩ rfl).set_ 7 (.int .i64 t') ⟨k', u', f', q', s', m', n', t'⟩ rfl

end Go.Proofs.YtpdfakjopeldmaaGreatDoor
