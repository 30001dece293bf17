/-
  IndexShuffles: in whatever order things are noted, and however often, what comes ahead of any command is the same; and it never shrinks. The table of kinds is listed.
-/
import Derived.Test.YtpdfakjopeldmaaDoorZDShufA
import Derived.Deep.RegionWith
namespace Go.Proofs.YtpdfakjopeldmaaDoor.indexShuffles
open Go.ChangeShapes Go.WideShapes Go.ChangeAt Go.RowKit Go.Maps Go.WideMaps
set_option linter.unusedVariables false
set_option linter.unusedSimpArgs false

/-- What an append of a slice that came in makes. -/
theorem wpList_append_seen {P : Program} {w : World} {ops : Array Oper} {rest : List Oper} {o : Oper} {a : Act} {Q : Exit → Act → World → Prop} (hgd : o.guard = none) (s x : Operand) (t : TypeId) (ho : o.op = .call { callee := .builtin .append, args := #[s, x], argTypes := #[t, t] })
    (base : Nat) (e : TypeId) (i : TypeInfo) (z : Value) (size bytes : Nat) (ht : P.underlying t = some (.slice e)) (hi : P.info? e = some i) (hz : i.zero = some z)
    (hsize : i.size = size) (hby : i.bytes = bytes) (hzs : z.cells.size = size) (hsz : 0 < size) (v : Value) (hs : a.eval s = v) (hown : w.ownsRow base e size v 0 [])
    (A : Option Addr) (m c : Nat) (news : List Value) (hx : a.eval x = .slice A m c) (hA : A = none → c = 0 ∧ m = 0) (hl : news.length = m * size) (hnews : ∀ ad, A = some ad → ∀ j u, news[j]? = some u → w.cell? (ad.add j) = some u) (h1 : ∀ u ∈ news, u.oneCell' = true)
    (h63 : m ≤ maxLen) (hbytes : m * bytes ≤ 140737488355328) (hbase : base ≤ w.heap.size)
    (h : ∀ v' w', w'.ownsRow base e size v' m news → w.grownBy w' v.ownBlock → wpList P ops Q rest (a.put o.dst v') w') : wpList P ops Q (o :: rest) a w := by
  cases A with
  | none =>
    obtain ⟨rfl, rfl⟩ := hA rfl
    have hy : news = [] := List.eq_nil_of_length_eq_zero (by rw [hl]; simp)
    subst hy
    exact wpList_append_own_none hgd s x t ho base e i size ht hi v 0 [] hs hown hx (h v w hown (World.grownBy.refl _ _))
  | some ad =>
    refine wpList_append_own w hgd s x t ho base e i z size bytes ht hi hz hsize hby hzs hsz v 0 [] hs hown ad m c news hx hl (hnews ad rfl) h1 (by omega) (by rw [Nat.zero_add]; exact hbytes) hbase fun v' w' a1 a2 _ => h v' w' (by simpa using a1) a2

theorem mem_stepL (l : List Nt) (o : OpV) (n : Nt) : n ∈ stepL l o ↔ n ∈ l ∨ n ∈ stepL [] o := by
  unfold stepL noteL addL
  split
  · split <;> simp
  · split
    · split <;> simp
    · simp
theorem mem_playL : ∀ (os : List OpV) (l : List Nt) (n : Nt), n ∈ playL l os ↔ n ∈ l ∨ ∃ o ∈ os, n ∈ stepL [] o
  | [], l, n => by simp [playL]
  | o :: os, l, n => by
    show n ∈ playL (stepL l o) os ↔ _
    rw [mem_playL os (stepL l o) n, mem_stepL]
    simp [or_assoc]
theorem own_own (f : Nat → Int) (r e : Int) : ownF (ownF f r e) r e = ownF f r e := by
  unfold ownF
  split
  · funext i; unfold upd; split <;> rfl
  · rfl
theorem own_ask (l : List Nt) (c : K) (r e : Int) : ownF (askF l c r e) r e = askF l c r e := own_own _ _ _
theorem own_zero {l : List Nt} (c : K) (r e : Int) : inB (ownF (fun _ => 0) r e) (askF l c r e) = true := inB_iff.2 fun i _ => by
  unfold askF ownF
  have h : 0 ≤ aheadC l c r e i := by
    unfold aheadC; split
    · exact sup_nonneg _ _ _
    · exact Int.le_refl _
  split
  · unfold upd; split
    · exact Int.le_refl _
    · exact h
  · exact h
/-- As often as i. -/
def again (ms : List OpV) : Nat → List Nt
  | 0 => []
  | i + 1 => playL (again ms i) ms
theorem again_len (ms : List OpV) : ∀ i, (again ms i).length ≤ i * ms.length
  | 0 => by simp [again]
  | i + 1 => by
    have h1 := again_len ms i
    have h2 := playL_len (again ms i) ms
    show (playL (again ms i) ms).length ≤ _
    rw [Nat.add_mul]
    omega
theorem again_mem {os ms : List OpV} (h : ∀ o, o ∈ ms ↔ o ∈ os) (n : Nt) : n ∈ playL [] os ↔ n ∈ again ms 2 := by
  show _ ↔ n ∈ playL (playL [] ms) ms
  rw [mem_playL, mem_playL, mem_playL]
  simp only [h]
  simp

theorem ix_grown {w w' : World} {x m : Nat} {l : List Nt} {row : Option Nat} (h : Ix w x m l) (hg : w.grownBy w' row) (hx : some x ≠ row) (hm : some m ≠ row) : Ix w' x m l :=
  ⟨h.1.grown hg hx, h.2.1.same (hg.block m h.2.1.lt hm), h.2.2⟩
/-- The call's own row of steps. -/
def OwnM (w : World) (nb : Nat) (Av : Option Addr) (cv : Nat) (os ms : List OpV) : Prop := w.ownsRow nb 44 22 (.slice Av os.length cv) os.length (flatO ms) ∧ ms.length = os.length ∧ ∀ o, o ∈ ms ↔ o ∈ os
theorem OwnM.grown {w w' : World} {nb : Nat} {Av : Option Addr} {cv : Nat} {os ms : List OpV} {row : Option Nat} (h : OwnM w nb Av cv os ms) (hg : w.grownBy w' row) (hr : ∀ k, row = some k → k < nb) : OwnM w' nb Av cv os ms := by
  refine ⟨World.ownsRow.kept h.1 hg ?_, h.2⟩
  cases hv : (Value.slice Av os.length cv).ownBlock with
  | none => exact Or.inl rfl
  | some b =>
    refine Or.inr fun e => ?_
    have h1 := (World.ownsRow.lt h.1 b hv).1
    have h2 := hr b e.symm
    omega
theorem OwnM.on {w w' : World} {nb : Nat} {Av : Option Addr} {cv : Nat} {os ms : List OpV} (h : OwnM w nb Av cv os ms) (hb : Below w.heap.size w w') : OwnM w' nb Av cv os ms := h.grown (only_of_below hb none) (fun _ h => by cases h)

theorem OwnM.grown2 {w w' : World} {nb : Nat} {Av : Option Addr} {cv : Nat} {os ms : List OpV} {row : Option Nat} (h : OwnM w nb Av cv os ms) (hg : w.grownBy w' row) (hr : ∀ b, (Value.slice Av os.length cv).ownBlock = some b → some b ≠ row) : OwnM w' nb Av cv os ms := by
  refine ⟨World.ownsRow.kept h.1 hg ?_, h.2⟩
  cases hv : (Value.slice Av os.length cv).ownBlock with
  | none => exact Or.inl rfl
  | some b => exact Or.inr (hr b hv)
theorem ix_apart {w : World} {x m y my : Nat} {l l' : List Nt} (h : Ix w x m l) (h' : Ix w y my l') : y ≠ m := by
  rintro rfl
  obtain ⟨_, ⟨D, ⟨es, clock, hb, _⟩, _⟩, _⟩ := h
  have h1 := h'.1
  unfold Blk at h1
  rw [h1] at hb
  cases hb
theorem blk_apart {w : World} {x m p : Nat} {l : List Nt} {t : TypeId} {C : Array Value} (h : Ix w x m l) (h1 : Blk w p t C) : p ≠ m := by
  rintro rfl
  obtain ⟨_, ⟨D, ⟨es, clock, hb, _⟩, _⟩, _⟩ := h
  unfold Blk at h1
  rw [h1] at hb
  cases hb
theorem grown_setRow (w : World) (g : Nat) (cs : Array Value) : w.grownBy (w.setRow g cs) (some g) := ⟨rfl, rfl, rfl, by simp, fun i _ hi => setRow_other w g i cs (by simpa using hi)⟩
theorem inB_trans {f g h : Nat → Int} (a : inB f g = true) (b : inB g h = true) : inB f h = true := inB_iff.2 fun i hi => Int.le_trans (inB_iff.1 a i hi) (inB_iff.1 b i hi)
theorem inB_self (f : Nat → Int) : inB f f = true := inB_iff.2 fun _ _ => Int.le_refl _

theorem own8s (f : Nat → Int) (r s : Int) (U : Nat → Int) (hU : ownF f r s = U) (w : World) :
    Calls Tryd.prog 23 #[.agg #[.int .i64 (f 0), .int .i64 (f 1), .int .i64 (f 2), .int .i64 (f 3), .int .i64 (f 4), .int .i64 (f 5), .int .i64 (f 6), .int .i64 (f 7)], nm r s] w fun e w' => e = .returned (.agg #[.int .i64 (U 0), .int .i64 (U 1), .int .i64 (U 2), .int .i64 (U 3), .int .i64 (U 4), .int .i64 (U 5), .int .i64 (U 6), .int .i64 (U 7)]) ∧ Below w.heap.size w w' := by
  subst hU; exact own8 f r s w
/-- Two boxes of attributes, and the name's. -/
def Tri (W : World) (a b g : Nat) (L F : Nat → Int) (r s : Int) : Prop := Blk W a 40 (rowA L) ∧ Blk W b 40 (rowA F) ∧ Blk W (g + 1) 29 #[.int .i64 r, .int .i64 s]
theorem Tri.on {W W' : World} {a b g : Nat} {L F : Nat → Int} {r s : Int} (H : Tri W a b g L F r s) (hb : Below W.heap.size W W') : Tri W' a b g L F r s := ⟨H.1.below hb H.1.lt, H.2.1.below hb H.2.1.lt, H.2.2.below hb H.2.2.lt⟩
theorem Tri.drew {W : World} {a b g : Nat} {L F : Nat → Int} {r s : Int} (H : Tri W a b g L F r s) : Tri W.drew a b g L F r s := H
theorem Tri.open {W : World} {a b g : Nat} {L F : Nat → Int} {r s : Int} (H : Tri W a b g L F r s) : Eight W a L ∧ Eight W b F ∧ W.cell? ⟨g + 1, 0, none⟩ = some (.int .i64 r) ∧ W.cell? ⟨g + 1, 1, none⟩ = some (.int .i64 s) := ⟨H.1.eight, H.2.1.eight, (blkn H.2.2).1⟩

/-- What stands throughout. -/
def Shf (w W : World) (g : Nat) (c : K) (r e : Int) (A : Option Addr) (os : List OpV) (B : Option Addr) (ks : List Int) : Prop :=
  Blk W g 27 (cellsOf c) ∧ Blk W (g + 1) 29 #[.int .i64 r, .int .i64 e] ∧ Below g w W ∧ SeesO g W A os ∧ SeesI g W B ks ∧ PartsIs W ∧ 1 < g
theorem Shf.lt {w W : World} {g : Nat} {c : K} {r e : Int} {A : Option Addr} {os : List OpV} {B : Option Addr} {ks : List Int} (h : Shf w W g c r e A os B ks) : g + 1 < W.heap.size := h.2.1.lt
theorem Shf.grown {w W W' : World} {g : Nat} {c : K} {r e : Int} {A : Option Addr} {os : List OpV} {B : Option Addr} {ks : List Int} (h : Shf w W g c r e A os B ks) {row : Option Nat} (hg : W.grownBy W' row) (hr : ∀ k, row = some k → g + 1 < k) : Shf w W' g c r e A os B ks := by
  obtain ⟨h1, h2, h5, h6, h7, h8, h9⟩ := h
  have hlt := h2.lt
  have ne : ∀ i, i ≤ g + 1 → some i ≠ row := fun i hi e => by have := hr i e.symm; omega
  refine ⟨h1.grown hg (ne _ (by omega)), h2.grown hg (ne _ (by omega)), h5.grown hg (by omega) (fun k hk => by have := hr k hk; omega), h6.grown (by omega) hg (fun k hk => by have := hr k hk; omega), h7.grown (by omega) hg (fun k hk => by have := hr k hk; omega), ?_, h9⟩
  exact ix_var_grown (g := 1) (by kernel_rfl) h8 (by omega) (ne _ (by omega)) hg
theorem Shf.on {w W W' : World} {g : Nat} {c : K} {r e : Int} {A : Option Addr} {os : List OpV} {B : Option Addr} {ks : List Int} (h : Shf w W g c r e A os B ks) (hb : Below W.heap.size W W') : Shf w W' g c r e A os B ks := h.grown (only_of_below hb none) (fun _ h => by cases h)
theorem Shf.parts {w W : World} {g : Nat} {c : K} {r e : Int} {A : Option Addr} {os : List OpV} {B : Option Addr} {ks : List Int} (h : Shf w W g c r e A os B ks) : PartsIs W := h.2.2.2.2.2.1
theorem Shf.big {w W : World} {g : Nat} {c : K} {r e : Int} {A : Option Addr} {os : List OpV} {B : Option Addr} {ks : List Int} (h : Shf w W g c r e A os B ks) : 1 < W.heap.size := by
  have h1 := h.lt
  have h2 := h.2.2.2.2.2.2
  omega
theorem Shf.cmd {w W : World} {g : Nat} {c : K} {r e : Int} {A : Option Addr} {os : List OpV} {B : Option Addr} {ks : List Int} (h : Shf w W g c r e A os B ks) : Blk W g 27 (cellsOf c) := h.1
theorem Shf.id {w W : World} {g : Nat} {c : K} {r e : Int} {A : Option Addr} {os : List OpV} {B : Option Addr} {ks : List Int} (h : Shf w W g c r e A os B ks) : Blk W (g + 1) 29 #[.int .i64 r, .int .i64 e] := h.2.1

/-- Both indexes, with what they know, as one map. -/
def Qd (w W : World) (g : Nat) (c : K) (r e : Int) (A : Option Addr) (os : List OpV) (B : Option Addr) (ks : List Int) (x m y my : Nat) (L L2 : List Nt) (D : DataW Unit) (n1 n2 : Nat) : Prop :=
  Shf w W g c r e A os B ks ∧ Ix W x m L ∧ Ix W y my L2 ∧ W.ownsMap Tryd.prog 37 attR m n1 D ∧ W.ownsMap Tryd.prog 37 attR my n2 D
theorem Qd.on {w W W' : World} {g : Nat} {c : K} {r e : Int} {A : Option Addr} {os : List OpV} {B : Option Addr} {ks : List Int} {x m y my : Nat} {L L2 : List Nt} {D : DataW Unit} {n1 n2 : Nat} (h : Qd w W g c r e A os B ks x m y my L L2 D n1 n2) (hb : Below W.heap.size W W') : Qd w W' g c r e A os B ks x m y my L L2 D n1 n2 := by
  obtain ⟨h1, h2, h3, ⟨es, clock, h4, h5⟩, ⟨es2, clock2, h6, h7⟩⟩ := h
  exact ⟨h1.on hb, h2.on hb, h3.on hb, ⟨es, clock, (hb.block m h2.lt.2).trans h4, h5⟩, ⟨es2, clock2, (hb.block my h3.lt.2).trans h6, h7⟩⟩
theorem Qd.drew {w W : World} {g : Nat} {c : K} {r e : Int} {A : Option Addr} {os : List OpV} {B : Option Addr} {ks : List Int} {x m y my : Nat} {L L2 : List Nt} {D : DataW Unit} {n1 n2 : Nat} (h : Qd w W g c r e A os B ks x m y my L L2 D n1 n2) : Qd w W.drew g c r e A os B ks x m y my L L2 D n1 n2 := h.on (below_drew (Below.refl _ _))
theorem Qd.open {w W : World} {g : Nat} {k u : Int} {f : ByteArray} {q : Int} {s : ByteArray} {m' n t : Int} {r e : Int} {A : Option Addr} {os : List OpV} {B : Option Addr} {ks : List Int} {x m y my : Nat} {L L2 : List Nt} {D : DataW Unit} {n1 n2 : Nat} (h : Qd w W g ⟨k, u, f, q, s, m', n, t⟩ r e A os B ks x m y my L L2 D n1 n2) :
    (W.cell? ⟨g, 0, none⟩ = some (.int .i64 k) ∧ W.cell? ⟨g, 1, none⟩ = some (.int .u64 u) ∧ W.cell? ⟨g, 2, none⟩ = some (.string f) ∧ W.cell? ⟨g, 3, none⟩ = some (.int .u64 q) ∧ W.cell? ⟨g, 4, none⟩ = some (.string s) ∧ W.cell? ⟨g, 5, none⟩ = some (.int .i64 m') ∧ W.cell? ⟨g, 6, none⟩ = some (.int .u64 n) ∧ W.cell? ⟨g, 7, none⟩ = some (.int .i64 t)) ∧ W.cell? ⟨g + 1, 0, none⟩ = some (.int .i64 r) ∧ W.cell? ⟨g + 1, 1, none⟩ = some (.int .i64 e) :=
  ⟨(cells8 h.1.cmd).1, (blkn h.1.id).1⟩

theorem Qd.ix {w W : World} {g : Nat} {c : K} {r e : Int} {A : Option Addr} {os : List OpV} {B : Option Addr} {ks : List Int} {x m y my : Nat} {L L2 : List Nt} {D : DataW Unit} {n1 n2 : Nat} (h : Qd w W g c r e A os B ks x m y my L L2 D n1 n2) : Ix W x m L := h.2.1
theorem Qd.iy {w W : World} {g : Nat} {c : K} {r e : Int} {A : Option Addr} {os : List OpV} {B : Option Addr} {ks : List Int} {x m y my : Nat} {L L2 : List Nt} {D : DataW Unit} {n1 n2 : Nat} (h : Qd w W g c r e A os B ks x m y my L L2 D n1 n2) : Ix W y my L2 := h.2.2.1
theorem Qd.parts {w W : World} {g : Nat} {c : K} {r e : Int} {A : Option Addr} {os : List OpV} {B : Option Addr} {ks : List Int} {x m y my : Nat} {L L2 : List Nt} {D : DataW Unit} {n1 n2 : Nat} (h : Qd w W g c r e A os B ks x m y my L L2 D n1 n2) : PartsIs W := h.1.parts
theorem Qd.cx {w W : World} {g : Nat} {c : K} {r e : Int} {A : Option Addr} {os : List OpV} {B : Option Addr} {ks : List Int} {x m y my : Nat} {L L2 : List Nt} {D : DataW Unit} {n1 n2 : Nat} (h : Qd w W g c r e A os B ks x m y my L L2 D n1 n2) : W.cell? ⟨x, 0, none⟩ = some (.map (some m)) := h.2.1.cell
theorem Qd.cy {w W : World} {g : Nat} {c : K} {r e : Int} {A : Option Addr} {os : List OpV} {B : Option Addr} {ks : List Int} {x m y my : Nat} {L L2 : List Nt} {D : DataW Unit} {n1 n2 : Nat} (h : Qd w W g c r e A os B ks x m y my L L2 D n1 n2) : W.cell? ⟨y, 0, none⟩ = some (.map (some my)) := h.2.2.1.cell
theorem Qd.mx {w W : World} {g : Nat} {c : K} {r e : Int} {A : Option Addr} {os : List OpV} {B : Option Addr} {ks : List Int} {x m y my : Nat} {L L2 : List Nt} {D : DataW Unit} {n1 n2 : Nat} (h : Qd w W g c r e A os B ks x m y my L L2 D n1 n2) : W.ownsMap Tryd.prog 37 attR m n1 D := h.2.2.2.1
theorem Qd.my {w W : World} {g : Nat} {c : K} {r e : Int} {A : Option Addr} {os : List OpV} {B : Option Addr} {ks : List Int} {x m y my : Nat} {L L2 : List Nt} {D : DataW Unit} {n1 n2 : Nat} (h : Qd w W g c r e A os B ks x m y my L L2 D n1 n2) : W.ownsMap Tryd.prog 37 attR my n2 D := h.2.2.2.2
theorem iteT {c : Prop} [Decidable c] {A B : Prop} (hc : c) (h : A) : if c then A else B := by rw [if_pos hc]; exact h
set_option maxRecDepth 100000 in
set_option maxHeartbeats 20000000 in
theorem walk (A : Option Addr) (os : List OpV) (ca : Nat) (B : Option Addr) (ks : List Int) (cb : Nat) (c : K) (r e : Int) (hA0 : A = none → ca = 0) (w : World) (hA : SeesO w.heap.size w A os) (hB : SeesI w.heap.size w B ks)
    (hos : ∀ o ∈ os, Made o) (hl1 : os.length ≤ 9223372036854775807) (hl2 : ks.length ≤ 9223372036854775807) (hc : okK c) (hP : PartsIs w) (hg : 1 < w.heap.size) :
    Calls Tryd.prog 5 #[.slice A os.length ca, .slice B ks.length cb, val c, nm r e] w fun e w' => e = .returned (.bool true) ∧ Below w.heap.size w w' := by
  have HS0 := hid (fun W (h : Shf w W w.heap.size c r e A os B ks) => fits_any A os ca 30 W (h.2.2.2.1.mono (by have := h.lt; omega)) hl1)
  have HS2 := hid (fun w => small12 c w)
  obtain ⟨z0, hz0⟩ : ∃ z, fitsL os 30 = z := ⟨_, rfl⟩
  obtain ⟨z2, hz2⟩ : ∃ z, smallK c = z := ⟨_, rfl⟩
  rw [hz0] at HS0
  rw [hz2] at HS2
  have HZ := hid (And.intro hz0 hz2)
  have HM := hid hos
  have HA := hid hA
  have HB := hid hB
  have HP := hid hP
  have HG := hid hg
  have HA0 := hid hA0
  clear hA hB hos hc hP hg hz0 hz2 hA0
  obtain ⟨k, u, f, q, s, m', n, t⟩ := c
  go_enter Tryd.func5, Tryd.ntmps5
  go_upto_region 1 with fail
  obtain ⟨W, hW⟩ : ∃ W, (w.alloc (.cells (cellsOf ⟨k, u, f, q, s, m', n, t⟩) 27)).alloc (.cells #[.int .i64 r, .int .i64 e] 29) = W := ⟨_, rfl⟩
  rw [hW]
  obtain ⟨K0, K1, KB⟩ := two_new hW
  have C0 : Hid (Shf w W w.heap.size ⟨k, u, f, q, s, m', n, t⟩ r e A os B ks) := hid ⟨K0.out, K1.out, KB.out, HA.out.below KB.out, HB.out.grown (Nat.le_refl _) (only_of_below KB.out none) (fun _ h => by cases h), HP.out.below KB.out, HG.out⟩
  clear hW HA HB HP K0 K1 KB
  obtain ⟨g, hk⟩ : ∃ k, w.heap.size = k := ⟨_, rfl⟩
  rw [hk] at C0 HG HS0
  rw [hk]
  have HGK := hid hk
  clear hk
  go_wp2_with fail
  with_reducible refine (anchor12 _ C0.out.parts C0.out.big).mono ?_
  rintro e1 x1 ⟨rfl, hb⟩
  have C1 := hid (C0.out.on hb)
  clear hb C0
  go_wp2_with fail
  with_reducible refine (HS0.out _ C1.out).mono ?_
  rintro e1 x2 ⟨rfl, hb⟩
  have C2 := hid (C1.out.on hb)
  clear hb C1 HS0
  cases z0
  · go_wp2
    go_ret
    exact ⟨rfl, by rw [HGK.out]; exact C2.out.2.2.1⟩
  rcases (show 100 < ks.length ∨ ¬ 100 < ks.length by omega) with h7 | h7
  · have h7b : decide ((100 : Int) < (ks.length : Int)) = true := by simp; omega
    go_wp2
    go_ret
    exact ⟨rfl, by rw [HGK.out]; exact C2.out.2.2.1⟩
  have h7b : decide ((100 : Int) < (ks.length : Int)) = false := by simp; omega
  obtain ⟨⟨c0, c1, c2, c3, c4, c5, c6, c7⟩, _⟩ := cells8 C2.out.cmd
  go_wp2_with fail
  with_reducible refine (HS2.out _).mono ?_
  rintro e1 x3 ⟨rfl, hb⟩
  have C3 := hid (C2.out.on hb)
  have HKS : Hid (ks.length ≤ 100) := hid (by omega)
  clear hb C2 HS2 c0 c1 c2 c3 c4 c5 c6 c7 h7 h7b
  cases z2
  · go_wp2
    go_ret
    exact ⟨rfl, by rw [HGK.out]; exact C3.out.2.2.1⟩
  have HSA : Hid (f.size < 200 ∧ s.size < 200) := hid (by have h := HZ.out.2; unfold smallK at h; simp at h; exact ⟨h.2, h.1⟩)
  have hfit : Hid (∀ o ∈ os, fitsO o = true) := hid (fun o ho => by have h := HZ.out.1; unfold fitsL at h; simp only [Bool.and_eq_true] at h; exact List.all_eq_true.1 h.1 o ho)
  have hlen : Hid (os.length ≤ 30) := hid (by have h := HZ.out.1; unfold fitsL at h; simp at h; omega)
  have hNew := hid (fun W (h : Shf w W g ⟨k, u, f, q, s, m', n, t⟩ r e A os B ks) => ixnew_any W h.big)
  go_wp2_with fail
  with_reducible refine (hNew.out _ C3.out).mono ?_
  rintro e1 y0 ⟨x, m, rfl, a1, a2, a3⟩
  have X0 := hid a1
  have D0 := hid (C3.out.on a2)
  have hm : Hid (g + 1 < m) := hid (by have := C3.out.lt; omega)
  clear a1 a2 a3 C3
  go_wp2_with fail
  with_reducible refine (hNew.out _ D0.out).mono ?_
  rintro e1 y1 ⟨y, my, rfl, a1, a2, a3⟩
  have Y0 := hid a1
  have X1 := hid (X0.out.on a2)
  have D1 := hid (D0.out.on a2)
  have hmy : Hid (g + 1 < my ∧ m < my) := hid (by have := D0.out.lt; have := X0.out.lt; omega)
  clear a1 a2 a3 D0 X0 hNew
  obtain ⟨i0, z, hi, hz0, hz1, hz2, hz3⟩ : ∃ i z, Tryd.prog.info? 44 = some i ∧ i.zero = some z ∧ i.size = 22 ∧ i.bytes = 200 ∧ z.cells.size = 22 := by
    obtain ⟨z, h1, h2⟩ := info_op
    obtain ⟨i, a, b, c, d⟩ := info_parts h1
    exact ⟨i, z, a, b, c, d, h2⟩
  have hlv := hlen.out
  have D1b : Hid (Shf w (y1.alloc (.cells #[] 44)) g ⟨k, u, f, q, s, m', n, t⟩ r e A os B ks) := hid (D1.out.on ((Below.refl _ _).alloc (Nat.le_refl _) _))
  have hN0 : Hid (A = none → ca = 0 ∧ os.length = 0) := hid (fun h => ⟨HA0.out h, by
    cases hos : os with
    | nil => rfl
    | cons o l =>
      obtain ⟨b, o', hb, _⟩ := D1.out.2.2.2.1 0 (by rw [hos]; simp)
      rw [h] at hb; cases hb⟩)
  go_wp2_with (first
    | (at_builtin; refine wpList_append_seen rfl (.tmp 37) (.tmp 38) 22 rfl y1.heap.size 44 i0 z 22 200 Tryd.underlying22 hi hz0 hz1 hz2 hz3 (by decide) (.slice (some ⟨y1.heap.size, 0, none⟩) 0 0) rfl (World.ownsRow_made y1 #[] 0 (Nat.le_refl _) (by simp [maxLen]) rfl) A os.length ca (flatO os) rfl hN0.out (flatO_len os) (fun ad h => by subst h; exact seen_flat D1b.out.2.2.2.1) (flatO_one os) (by unfold maxLen; omega) (by omega) (by simp) ?_; intro v y2 hown hgr))
  have N0 : Hid (m < y1.heap.size ∧ my < y1.heap.size ∧ x < y1.heap.size ∧ y < y1.heap.size ∧ g + 1 < y1.heap.size) := hid ⟨X1.out.lt.2, Y0.out.lt.2, X1.out.lt.1, Y0.out.lt.1, D1.out.lt⟩
  obtain ⟨nb, hnb⟩ : ∃ nb, y1.heap.size = nb := ⟨_, rfl⟩
  rw [hnb] at hown hgr N0
  replace hgr : World.grownBy (y1.alloc (.cells #[] 44)) y2 (some nb) := hgr
  have D2 := hid (D1b.out.grown hgr (fun i hi => by cases hi; exact N0.out.2.2.2.2))
  have X2 := hid (ix_grown (X1.out.alloc (.cells #[] 44)) hgr (fun e => by injection e; have := N0.out; omega) (fun e => by injection e; have := N0.out; omega))
  have Y2 := hid (ix_grown (Y0.out.alloc (.cells #[] 44)) hgr (fun e => by injection e; have := N0.out; omega) (fun e => by injection e; have := N0.out; omega))
  obtain ⟨Av, cv, rfl⟩ : ∃ Av cv, v = .slice Av os.length cv := by
    rcases hown.2 with ⟨h1, h2⟩ | ⟨b, cap, cur, h1, _⟩
    · exact ⟨none, 0, by rw [h1, h2]⟩
    · exact ⟨_, _, h1⟩
  have hAv : Hid (0 < os.length → ∃ b, Av = some ⟨b, 0, none⟩ ∧ nb ≤ b) := hid (fun h => by
    rcases hown.2 with ⟨_, h2⟩ | ⟨b, cap, cur, h1, h2, _⟩
    · omega
    · injection h1 with h1 _ _
      exact ⟨b, h1, h2⟩)
  have O2 : Hid (OwnM y2 nb Av cv os os) := hid ⟨hown, rfl, fun _ => Iff.rfl⟩
  clear hown hgr hnb D1 D1b X1 Y0 hi hz0 hz1 hz2 hz3 hN0
  have HL22 := hid len_op
  have hkv := HKS.out
  go_loopw [42] (fun iv wr => ∃ (j : Nat) (ms : List OpV), j ≤ ks.length ∧ iv = .int .i64 j ∧ Hid (OwnM wr nb Av cv os ms) ∧ Hid (Shf w wr g ⟨k, u, f, q, s, m', n, t⟩ r e A os B ks) ∧ Hid (Ix wr x m []) ∧ Hid (Ix wr y my [])) (fun iv _ => ks.length - (intOf iv).toNat)
  case atStart => exact ⟨0, os, Nat.zero_le _, rfl, O2, D2, X2, Y2⟩
  case round =>
    obtain ⟨j, ms, hj, rfl, HO, HD, HX, HY⟩ := hrel
    clear O2 D2 X2 Y2
    by_cases hlt : j < ks.length
    · obtain ⟨b, o, rfl, _, hcell⟩ := HD.out.2.2.2.2.1 j hlt
      obtain ⟨kk, hkk⟩ : ∃ kk, ks[j] = kk := ⟨_, rfl⟩
      rw [hkk] at hcell
      clear hkk
      by_cases hsw : 0 ≤ kk ∧ kk < (os.length : Int) - 1
      · obtain ⟨p, rfl⟩ : ∃ p : Nat, kk = p := ⟨kk.toNat, by omega⟩
        obtain ⟨bm, rfl, hbm⟩ := hAv.out (by omega)
        have hp1 : p + 1 < ms.length := by have := HO.out.2.1; omega
        have HOd := hid (HO.out.on (below_drew (Below.refl _ _)))
        have hgr1 := own_put_grown (opC ms[p + 1]).toList (p * 22) _ _ HOd.out.1
        have ho1 := own_put HOd.out.1 (j := p) (by omega) ms[p + 1]
        have hgr2 := own_put_grown (opC ms[p]).toList ((p + 1) * 22) _ _ ho1
        have ho2 := own_put ho1 (j := p + 1) (by simpa using hp1) ms[p]
        have th1 : Hid (wr.drew.there bm (p * 22) (opC ms[p + 1]).toList.toArray.size) := hid (own_there HOd.out.2.1.symm HOd.out.1 (j := p) (by omega))
        have th2 : Hid ((wr.drew.setCells bm (p * 22) (opC ms[p + 1]).toList).there bm ((p + 1) * 22) (opC ms[p]).toList.toArray.size) := hid (own_there (by simp [HOd.out.2.1]) ho1 (j := p + 1) (by simpa using hp1))
        have HG12 := hid (hgr1.trans hgr2)
        have HO2 : Hid (OwnM (((wr.drew).setCells bm (p * 22) (opC ms[p + 1]).toList).setCells bm ((p + 1) * 22) (opC ms[p]).toList) nb (some ⟨bm, 0, none⟩) cv os ((ms.set p ms[p + 1]).set (p + 1) ms[p])) := hid ⟨ho2, by simp [HO.out.2.1], fun o => (swap_mem hp1 o).trans (HO.out.2.2 o)⟩
        have HD2 := hid ((HD.out.on (below_drew (Below.refl _ _))).grown HG12.out (fun i hi => by cases hi; have := N0.out; omega))
        have HX2 := hid (ix_grown (HX.out.on (below_drew (Below.refl _ _))) HG12.out (fun e => by injection e with e; have := N0.out; omega) (fun e => by injection e with e; have := N0.out; omega))
        have HY2 := hid (ix_grown (HY.out.on (below_drew (Below.refl _ _))) HG12.out (fun e => by injection e with e; have := N0.out; omega) (fun e => by injection e with e; have := N0.out; omega))
        have RX := hid (own_range HOd.out.2.1.symm HOd.out.1 (j := p) (by omega))
        have RY := hid (own_range HOd.out.2.1.symm HOd.out.1 (j := p + 1) hp1)
        have oneX := hid (opC_one ms[p])
        have oneY := hid (opC_one ms[p + 1])
        have szX := hid (len_opA ms[p])
        have szY := hid (len_opA ms[p + 1])
        rw [← opC_list] at oneX oneY szX szY
        have lenX := hid (len_opC ms[p])
        have lenY := hid (len_opC ms[p + 1])
        clear hgr1 hgr2 ho1 ho2 HOd
        obtain ⟨X, hX⟩ : ∃ X, (opC ms[p]).toList = X := ⟨_, rfl⟩
        obtain ⟨Y, hY⟩ : ∃ Y, (opC ms[p + 1]).toList = Y := ⟨_, rfl⟩
        have HXe := hid hX
        have HYe := hid hY
        rw [hX] at RX th2 HO2 HD2 HX2 HY2 oneX szX lenX HG12
        rw [hY] at RY th1 th2 HO2 HD2 HX2 HY2 oneY szY lenY HG12
        clear hX hY

        have q1 : (0 : Int) ≤ (p : Int) := by omega
        have q2 : (p : Int) < (os.length : Int) := by omega
        have q3 : (p : Int) + 1 < (os.length : Int) := by omega
        have q4 : (p : Int) < (os.length : Int) - 1 := hsw.2
        have q5 : IntKind.i64.wrap ((p : Int) + 1) = (p : Int) + 1 := by rw [IntKind.wrap_i64]; omega
        have q6 : ((p : Int) + 1).toNat = p + 1 := by omega
        have q7 : (0 : Int) ≤ (p : Int) + 1 := by omega
        go_upto_region 11 with fail
        refine wp_region_any (by kernel_rfl) ?_
        change wpAny _ _ _ _ _ _ _ (World.drew _)
        refine wpAny_take (i := 0) (oi := { dst := some 55, op := Op.move (Operand.tmp 11), type := 22, pos := "more.go:22", after := #[], guard := none }) (v := ?_) rfl (by kernel_rfl) (by kernel_rfl) (by kernel_rfl) (fun _ _ _ h => h) (Or.inl ⟨by rfl, ?_⟩) ?_
        rotate_left
        · intro w; go_simp; try (with_reducible rfl)
        simp only [Act.put, List.setIfInBounds_toArray, List.set_cons_zero, List.set_cons_succ]
        refine wpAny_take (i := 1) (oi := { dst := some 56, op := Op.move (Operand.tmp 13), type := 3, pos := "more.go:22", after := #[], guard := none }) (v := ?_) rfl (by kernel_rfl) (by kernel_rfl) (by kernel_rfl) (fun _ _ _ h => h) (Or.inl ⟨by rfl, ?_⟩) ?_
        rotate_left
        · intro w; go_simp; try (with_reducible rfl)
        simp only [Act.put, List.setIfInBounds_toArray, List.set_cons_zero, List.set_cons_succ]
        refine wpAny_take (i := 2) (oi := { dst := some 57, op := Op.move (Operand.tmp 11), type := 22, pos := "more.go:22", after := #[{ on := 15, ground := Ground.gcOnly Departure.lateStores }], guard := none }) (v := ?_) rfl (by kernel_rfl) (by kernel_rfl) (by kernel_rfl) (fun _ _ _ h => h) (Or.inl ⟨by rfl, ?_⟩) ?_
        rotate_left
        · intro w; go_simp; try (with_reducible rfl)
        simp only [Act.put, List.setIfInBounds_toArray, List.set_cons_zero, List.set_cons_succ]
        refine wpAny_take (i := 3) (oi := { dst := some 58, op := Op.move (Operand.tmp 13), type := 3, pos := "more.go:22", after := #[{ on := 15, ground := Ground.gcOnly Departure.lateStores }], guard := none }) (v := ?_) rfl (by kernel_rfl) (by kernel_rfl) (by kernel_rfl) (fun _ _ _ h => h) (Or.inl ⟨by rfl, ?_⟩) ?_
        rotate_left
        · intro w; go_simp; try (with_reducible rfl)
        simp only [Act.put, List.setIfInBounds_toArray, List.set_cons_zero, List.set_cons_succ]
        refine wpAny_take (i := 4) (oi := { dst := some 59, op := Op.binOp BinOp.add 3 (Operand.tmp 58) (Operand.const (Value.int IntKind.i64 1)) 3, type := 3, pos := "more.go:22", after := #[{ on := 3, ground := Ground.data }, { on := 15, ground := Ground.gcOnly Departure.lateStores }], guard := none }) (v := ?_) rfl (by kernel_rfl) (by kernel_rfl) (by kernel_rfl) (fun _ _ _ h => h) (Or.inl ⟨by rfl, ?_⟩) ?_
        rotate_left
        · intro w; go_simp; try (with_reducible rfl)
        simp only [Act.put, List.setIfInBounds_toArray, List.set_cons_zero, List.set_cons_succ]
        refine wpAny_take (i := 5) (oi := { dst := some 60, op := Op.move (Operand.tmp 11), type := 22, pos := "more.go:22", after := #[], guard := none }) (v := ?_) rfl (by kernel_rfl) (by kernel_rfl) (by kernel_rfl) (fun _ _ _ h => h) (Or.inl ⟨by rfl, ?_⟩) ?_
        rotate_left
        · intro w; go_simp; try (with_reducible rfl)
        simp only [Act.put, List.setIfInBounds_toArray, List.set_cons_zero, List.set_cons_succ]
        refine wpAny_take (i := 6) (oi := { dst := some 61, op := Op.move (Operand.tmp 13), type := 3, pos := "more.go:22", after := #[], guard := none }) (v := ?_) rfl (by kernel_rfl) (by kernel_rfl) (by kernel_rfl) (fun _ _ _ h => h) (Or.inl ⟨by rfl, ?_⟩) ?_
        rotate_left
        · intro w; go_simp; try (with_reducible rfl)
        simp only [Act.put, List.setIfInBounds_toArray, List.set_cons_zero, List.set_cons_succ]
        refine wpAny_take (i := 7) (oi := { dst := some 62, op := Op.binOp BinOp.add 3 (Operand.tmp 61) (Operand.const (Value.int IntKind.i64 1)) 3, type := 3, pos := "more.go:22", after := #[{ on := 6, ground := Ground.data }], guard := none }) (v := ?_) rfl (by kernel_rfl) (by kernel_rfl) (by kernel_rfl) (fun _ _ _ h => h) (Or.inl ⟨by rfl, ?_⟩) ?_
        rotate_left
        · intro w; go_simp; try (with_reducible rfl)
        simp only [Act.put, List.setIfInBounds_toArray, List.set_cons_zero, List.set_cons_succ]
        refine wpAny_take (i := 8) (oi := { dst := some 63, op := Op.indexAddr 22 (Operand.tmp 60) (Operand.tmp 62), type := 0, pos := "more.go:22", after := #[{ on := 5, ground := Ground.data }, { on := 7, ground := Ground.data }], guard := none }) (v := ?_) rfl (by kernel_rfl) (by kernel_rfl) (by kernel_rfl) (fun _ _ _ h => h) (Or.inl ⟨by rfl, ?_⟩) ?_
        rotate_left
        · intro w; go_simp; try (with_reducible rfl)
        simp only [Act.put, List.setIfInBounds_toArray, List.set_cons_zero, List.set_cons_succ]
        refine wpAny_take (i := 10) (oi := { dst := some 65, op := Op.move (Operand.tmp 11), type := 22, pos := "more.go:22", after := #[], guard := none }) (v := ?_) rfl (by kernel_rfl) (by kernel_rfl) (by kernel_rfl) (fun _ _ _ h => h) (Or.inl ⟨by rfl, ?_⟩) ?_
        rotate_left
        · intro w; go_simp; try (with_reducible rfl)
        simp only [Act.put, List.setIfInBounds_toArray, List.set_cons_zero, List.set_cons_succ]
        refine wpAny_take (i := 11) (oi := { dst := some 66, op := Op.move (Operand.tmp 13), type := 3, pos := "more.go:22", after := #[], guard := none }) (v := ?_) rfl (by kernel_rfl) (by kernel_rfl) (by kernel_rfl) (fun _ _ _ h => h) (Or.inl ⟨by rfl, ?_⟩) ?_
        rotate_left
        · intro w; go_simp; try (with_reducible rfl)
        simp only [Act.put, List.setIfInBounds_toArray, List.set_cons_zero, List.set_cons_succ]
        refine wpAny_take (i := 12) (oi := { dst := some 67, op := Op.indexAddr 22 (Operand.tmp 65) (Operand.tmp 66), type := 0, pos := "more.go:22", after := #[{ on := 10, ground := Ground.data }, { on := 11, ground := Ground.data }], guard := none }) (v := ?_) rfl (by kernel_rfl) (by kernel_rfl) (by kernel_rfl) (fun _ _ _ h => h) (Or.inl ⟨by rfl, ?_⟩) ?_
        rotate_left
        · intro w; go_simp; try (with_reducible rfl)
        simp only [Act.put, List.setIfInBounds_toArray, List.set_cons_zero, List.set_cons_succ]
        refine wpAny_ready (rs := [9, 13]) (by kernel_rfl) (by simp) ?_
        refine AllReady.cons (o := { dst := some 64, op := Op.load 44 (Operand.tmp 63), type := 44, pos := "more.go:22", after := #[{ on := 8, ground := Ground.data }], guard := none }) rfl ?_ ?_
        · intro K hK
          rw [if_pos (by rfl)]
          refine wp_load_mid 44 (.tmp 63) rfl bm ((p + 1) * 22) rfl _ _ RY.out Tryd.underlying44 rfl lenY.out ?_
          refine hK _ _ ?_
          clear hK K
          simp only [Act.put, List.setIfInBounds_toArray, List.set_cons_zero, List.set_cons_succ]
          refine wpAny_ready (rs := [13]) (by kernel_rfl) (by simp) ?_
          refine AllReady.cons (o := { dst := some 68, op := Op.load 44 (Operand.tmp 67), type := 44, pos := "more.go:22", after := #[{ on := 12, ground := Ground.data }], guard := none }) rfl ?_ AllReady.nil
          · intro K hK
            rw [if_pos (by rfl)]
            refine wp_load_mid 44 (.tmp 67) rfl bm (p * 22) rfl _ _ RX.out Tryd.underlying44 rfl lenX.out ?_
            refine hK _ _ ?_
            clear hK K
            simp only [Act.put, List.setIfInBounds_toArray, List.set_cons_zero, List.set_cons_succ]
            refine wpAny_take (i := 14) (oi := { dst := some 69, op := Op.indexAddr 22 (Operand.tmp 55) (Operand.tmp 56), type := 0, pos := "more.go:22", after := #[{ on := 0, ground := Ground.data }, { on := 1, ground := Ground.data }, { on := 0, ground := Ground.phase }, { on := 1, ground := Ground.phase }, { on := 2, ground := Ground.textOnly Departure.lateStores }, { on := 3, ground := Ground.textOnly Departure.lateStores }, { on := 4, ground := Ground.textOnly Departure.lateStores }, { on := 5, ground := Ground.phase }, { on := 6, ground := Ground.phase }, { on := 7, ground := Ground.phase }, { on := 8, ground := Ground.phase }, { on := 9, ground := Ground.phase }, { on := 10, ground := Ground.textOnly Departure.lateStores }, { on := 11, ground := Ground.textOnly Departure.lateStores }, { on := 12, ground := Ground.textOnly Departure.lateStoresUnsure }, { on := 13, ground := Ground.phase }], guard := none }) (v := ?_) rfl (by kernel_rfl) (by kernel_rfl) (by kernel_rfl) (fun _ _ _ h => h) (Or.inl ⟨by rfl, ?_⟩) ?_
            rotate_left
            · intro w; go_simp; try (with_reducible rfl)
            simp only [Act.put, List.setIfInBounds_toArray, List.set_cons_zero, List.set_cons_succ]
            refine wpAny_ready (rs := [15]) (by kernel_rfl) (by simp) ?_
            refine AllReady.cons (o := { dst := none, op := Op.store 44 (Operand.tmp 69) (Operand.tmp 64), type := 0, pos := "more.go:22", after := #[{ on := 14, ground := Ground.data }, { on := 9, ground := Ground.data }, { on := 0, ground := Ground.phase }, { on := 1, ground := Ground.phase }, { on := 2, ground := Ground.textOnly Departure.lateStores }, { on := 3, ground := Ground.textOnly Departure.lateStores }, { on := 4, ground := Ground.textOnly Departure.lateStores }, { on := 5, ground := Ground.phase }, { on := 6, ground := Ground.phase }, { on := 7, ground := Ground.phase }, { on := 8, ground := Ground.phase }, { on := 9, ground := Ground.phase }, { on := 10, ground := Ground.textOnly Departure.lateStores }, { on := 11, ground := Ground.textOnly Departure.lateStores }, { on := 12, ground := Ground.textOnly Departure.lateStoresUnsure }, { on := 13, ground := Ground.phase }], guard := none }) rfl ?_ AllReady.nil
            intro K hK
            rw [if_pos (by rfl)]
            refine wp_store_mid 44 (.tmp 69) (.tmp 64) rfl bm (p * 22) Y.toArray rfl rfl th1.out szY.out oneY.out ?_
            refine hK _ _ ?_
            clear hK K
            simp only [Act.put, List.setIfInBounds_toArray, List.set_cons_zero, List.set_cons_succ]
            refine wpAny_take (i := 16) (oi := { dst := some 70, op := Op.indexAddr 22 (Operand.tmp 57) (Operand.tmp 59), type := 0, pos := "more.go:22", after := #[{ on := 2, ground := Ground.data }, { on := 4, ground := Ground.data }, { on := 0, ground := Ground.phase }, { on := 1, ground := Ground.phase }, { on := 2, ground := Ground.phase }, { on := 3, ground := Ground.phase }, { on := 4, ground := Ground.phase }, { on := 5, ground := Ground.phase }, { on := 6, ground := Ground.phase }, { on := 7, ground := Ground.phase }, { on := 8, ground := Ground.phase }, { on := 9, ground := Ground.phase }, { on := 10, ground := Ground.phase }, { on := 11, ground := Ground.phase }, { on := 12, ground := Ground.phase }, { on := 13, ground := Ground.phase }, { on := 14, ground := Ground.phase }, { on := 15, ground := Ground.phase }], guard := none }) (v := ?_) rfl (by kernel_rfl) (by kernel_rfl) (by kernel_rfl) (fun _ _ _ h => h) (Or.inl ⟨by rfl, ?_⟩) ?_
            rotate_left
            · intro w; go_simp; try (with_reducible rfl)
            simp only [Act.put, List.setIfInBounds_toArray, List.set_cons_zero, List.set_cons_succ]
            refine wpAny_ready (rs := [17]) (by kernel_rfl) (by simp) ?_
            refine AllReady.cons (o := { dst := none, op := Op.store 44 (Operand.tmp 70) (Operand.tmp 68), type := 0, pos := "more.go:22", after := #[{ on := 16, ground := Ground.data }, { on := 13, ground := Ground.data }, { on := 15, ground := Ground.chain }, { on := 0, ground := Ground.phase }, { on := 1, ground := Ground.phase }, { on := 2, ground := Ground.phase }, { on := 3, ground := Ground.phase }, { on := 4, ground := Ground.phase }, { on := 5, ground := Ground.phase }, { on := 6, ground := Ground.phase }, { on := 7, ground := Ground.phase }, { on := 8, ground := Ground.phase }, { on := 9, ground := Ground.phase }, { on := 10, ground := Ground.phase }, { on := 11, ground := Ground.phase }, { on := 12, ground := Ground.phase }, { on := 13, ground := Ground.phase }, { on := 14, ground := Ground.phase }, { on := 15, ground := Ground.phase }], guard := none }) rfl ?_ AllReady.nil
            intro K hK
            rw [if_pos (by rfl)]
            refine wp_store_mid 44 (.tmp 70) (.tmp 68) rfl bm ((p + 1) * 22) X.toArray rfl rfl th2.out szX.out oneX.out ?_
            refine hK _ _ ?_
            clear hK K
            simp only [Act.put, List.setIfInBounds_toArray, List.set_cons_zero, List.set_cons_succ]
            refine wpAny_done (by kernel_rfl) ?_ _
            go_wp2
            go_roundw
            case rel => exact ⟨j + 1, (ms.set p ms[p + 1]).set (p + 1) ms[p], by omega, by go_num, HO2, HD2, HX2, HY2⟩
            case measure => simp only [intOf]; omega
        refine AllReady.cons (o := { dst := some 68, op := Op.load 44 (Operand.tmp 67), type := 44, pos := "more.go:22", after := #[{ on := 12, ground := Ground.data }], guard := none }) rfl ?_ AllReady.nil
        · intro K hK
          rw [if_pos (by rfl)]
          refine wp_load_mid 44 (.tmp 67) rfl bm (p * 22) rfl _ _ RX.out Tryd.underlying44 rfl lenX.out ?_
          refine hK _ _ ?_
          clear hK K
          simp only [Act.put, List.setIfInBounds_toArray, List.set_cons_zero, List.set_cons_succ]
          refine wpAny_ready (rs := [9]) (by kernel_rfl) (by simp) ?_
          refine AllReady.cons (o := { dst := some 64, op := Op.load 44 (Operand.tmp 63), type := 44, pos := "more.go:22", after := #[{ on := 8, ground := Ground.data }], guard := none }) rfl ?_ AllReady.nil
          · intro K hK
            rw [if_pos (by rfl)]
            refine wp_load_mid 44 (.tmp 63) rfl bm ((p + 1) * 22) rfl _ _ RY.out Tryd.underlying44 rfl lenY.out ?_
            refine hK _ _ ?_
            clear hK K
            simp only [Act.put, List.setIfInBounds_toArray, List.set_cons_zero, List.set_cons_succ]
            refine wpAny_take (i := 14) (oi := { dst := some 69, op := Op.indexAddr 22 (Operand.tmp 55) (Operand.tmp 56), type := 0, pos := "more.go:22", after := #[{ on := 0, ground := Ground.data }, { on := 1, ground := Ground.data }, { on := 0, ground := Ground.phase }, { on := 1, ground := Ground.phase }, { on := 2, ground := Ground.textOnly Departure.lateStores }, { on := 3, ground := Ground.textOnly Departure.lateStores }, { on := 4, ground := Ground.textOnly Departure.lateStores }, { on := 5, ground := Ground.phase }, { on := 6, ground := Ground.phase }, { on := 7, ground := Ground.phase }, { on := 8, ground := Ground.phase }, { on := 9, ground := Ground.phase }, { on := 10, ground := Ground.textOnly Departure.lateStores }, { on := 11, ground := Ground.textOnly Departure.lateStores }, { on := 12, ground := Ground.textOnly Departure.lateStoresUnsure }, { on := 13, ground := Ground.phase }], guard := none }) (v := ?_) rfl (by kernel_rfl) (by kernel_rfl) (by kernel_rfl) (fun _ _ _ h => h) (Or.inl ⟨by rfl, ?_⟩) ?_
            rotate_left
            · intro w; go_simp; try (with_reducible rfl)
            simp only [Act.put, List.setIfInBounds_toArray, List.set_cons_zero, List.set_cons_succ]
            refine wpAny_ready (rs := [15]) (by kernel_rfl) (by simp) ?_
            refine AllReady.cons (o := { dst := none, op := Op.store 44 (Operand.tmp 69) (Operand.tmp 64), type := 0, pos := "more.go:22", after := #[{ on := 14, ground := Ground.data }, { on := 9, ground := Ground.data }, { on := 0, ground := Ground.phase }, { on := 1, ground := Ground.phase }, { on := 2, ground := Ground.textOnly Departure.lateStores }, { on := 3, ground := Ground.textOnly Departure.lateStores }, { on := 4, ground := Ground.textOnly Departure.lateStores }, { on := 5, ground := Ground.phase }, { on := 6, ground := Ground.phase }, { on := 7, ground := Ground.phase }, { on := 8, ground := Ground.phase }, { on := 9, ground := Ground.phase }, { on := 10, ground := Ground.textOnly Departure.lateStores }, { on := 11, ground := Ground.textOnly Departure.lateStores }, { on := 12, ground := Ground.textOnly Departure.lateStoresUnsure }, { on := 13, ground := Ground.phase }], guard := none }) rfl ?_ AllReady.nil
            intro K hK
            rw [if_pos (by rfl)]
            refine wp_store_mid 44 (.tmp 69) (.tmp 64) rfl bm (p * 22) Y.toArray rfl rfl th1.out szY.out oneY.out ?_
            refine hK _ _ ?_
            clear hK K
            simp only [Act.put, List.setIfInBounds_toArray, List.set_cons_zero, List.set_cons_succ]
            refine wpAny_take (i := 16) (oi := { dst := some 70, op := Op.indexAddr 22 (Operand.tmp 57) (Operand.tmp 59), type := 0, pos := "more.go:22", after := #[{ on := 2, ground := Ground.data }, { on := 4, ground := Ground.data }, { on := 0, ground := Ground.phase }, { on := 1, ground := Ground.phase }, { on := 2, ground := Ground.phase }, { on := 3, ground := Ground.phase }, { on := 4, ground := Ground.phase }, { on := 5, ground := Ground.phase }, { on := 6, ground := Ground.phase }, { on := 7, ground := Ground.phase }, { on := 8, ground := Ground.phase }, { on := 9, ground := Ground.phase }, { on := 10, ground := Ground.phase }, { on := 11, ground := Ground.phase }, { on := 12, ground := Ground.phase }, { on := 13, ground := Ground.phase }, { on := 14, ground := Ground.phase }, { on := 15, ground := Ground.phase }], guard := none }) (v := ?_) rfl (by kernel_rfl) (by kernel_rfl) (by kernel_rfl) (fun _ _ _ h => h) (Or.inl ⟨by rfl, ?_⟩) ?_
            rotate_left
            · intro w; go_simp; try (with_reducible rfl)
            simp only [Act.put, List.setIfInBounds_toArray, List.set_cons_zero, List.set_cons_succ]
            refine wpAny_ready (rs := [17]) (by kernel_rfl) (by simp) ?_
            refine AllReady.cons (o := { dst := none, op := Op.store 44 (Operand.tmp 70) (Operand.tmp 68), type := 0, pos := "more.go:22", after := #[{ on := 16, ground := Ground.data }, { on := 13, ground := Ground.data }, { on := 15, ground := Ground.chain }, { on := 0, ground := Ground.phase }, { on := 1, ground := Ground.phase }, { on := 2, ground := Ground.phase }, { on := 3, ground := Ground.phase }, { on := 4, ground := Ground.phase }, { on := 5, ground := Ground.phase }, { on := 6, ground := Ground.phase }, { on := 7, ground := Ground.phase }, { on := 8, ground := Ground.phase }, { on := 9, ground := Ground.phase }, { on := 10, ground := Ground.phase }, { on := 11, ground := Ground.phase }, { on := 12, ground := Ground.phase }, { on := 13, ground := Ground.phase }, { on := 14, ground := Ground.phase }, { on := 15, ground := Ground.phase }], guard := none }) rfl ?_ AllReady.nil
            intro K hK
            rw [if_pos (by rfl)]
            refine wp_store_mid 44 (.tmp 70) (.tmp 68) rfl bm ((p + 1) * 22) X.toArray rfl rfl th2.out szX.out oneX.out ?_
            refine hK _ _ ?_
            clear hK K
            simp only [Act.put, List.setIfInBounds_toArray, List.set_cons_zero, List.set_cons_succ]
            refine wpAny_done (by kernel_rfl) ?_ _
            go_wp2
            go_roundw
            case rel => exact ⟨j + 1, (ms.set p ms[p + 1]).set (p + 1) ms[p], by omega, by go_num, HO2, HD2, HX2, HY2⟩
            case measure => simp only [intOf]; omega
      · have q8 : kk < 0 ∨ (0 ≤ kk ∧ ¬ kk < (os.length : Int) - 1) := by omega
        rcases q8 with q8 | ⟨q8, q9⟩
        · have q9 : ¬ (0 : Int) ≤ kk := by omega
          go_wp2
          go_roundw
          case rel => exact ⟨j + 1, ms, by omega, by go_num, HO, HD, HX, HY⟩
          case measure => simp only [intOf]; omega
        · go_wp2
          go_roundw
          case rel => exact ⟨j + 1, ms, by omega, by go_num, HO, HD, HX, HY⟩
          case measure => simp only [intOf]; omega
    · have hj2 : j = ks.length := by omega
      subst hj2
      clear hlt hj
      have hst := eight_store (fun _ => 0) wr
      have hs8 := rowA_size (fun _ => 0)
      go_upto_region 14 with fail
      obtain ⟨W0, hW0⟩ : ∃ W0, wr.alloc (.cells #[.int .i64 0, .int .i64 0, .int .i64 0, .int .i64 0, .int .i64 0, .int .i64 0, .int .i64 0, .int .i64 0] 40) = W0 := ⟨_, rfl⟩
      rw [hW0]
      have J0 : Hid (Blk W0 wr.heap.size 40 (rowA fun _ => 0)) := hid (by rw [← hW0]; exact Blk.new wr _ _)
      have KB : Hid (Below wr.heap.size wr W0) := hid (by rw [← hW0]; exact (Below.refl _ wr).alloc (Nat.le_refl _) _)
      have O3 := hid (HO.out.on KB.out)
      have D3 := hid (HD.out.on KB.out)
      have X3 := hid (HX.out.on KB.out)
      have Y3 := hid (HY.out.on KB.out)
      have hpb : Hid (∀ b, (Value.slice Av os.length cv).ownBlock = some b → b < wr.heap.size) := hid (fun b hb => (World.ownsRow.lt HO.out.1 b hb).2)
      have hpg : Hid (g + 1 < wr.heap.size ∧ x < wr.heap.size ∧ m < wr.heap.size ∧ y < wr.heap.size ∧ my < wr.heap.size) := hid ⟨HD.out.lt, HX.out.lt.1, HX.out.lt.2, HY.out.lt.1, HY.out.lt.2⟩
      clear hW0 hst hs8 KB HO HD HX HY
      obtain ⟨pl, hp⟩ : ∃ p, wr.heap.size = p := ⟨_, rfl⟩
      rw [hp] at J0 hpb hpg
      rw [hp]
      clear hp
      go_wp2_with fail
      go_loopw [75] (fun iv wr => ∃ (j : Nat) (L : Nat → Int), j ≤ os.length ∧ iv = .int .i64 j ∧ Hid (inB (ownF L r e) (askF (playL [] (os.take j)) ⟨k, u, f, q, s, m', n, t⟩ r e) = true) ∧ Hid (Blk wr pl 40 (rowA L)) ∧ Hid (OwnM wr nb Av cv os ms) ∧ Hid (Shf w wr g ⟨k, u, f, q, s, m', n, t⟩ r e A os B ks) ∧ Hid (Ix wr x m (playL [] (os.take j))) ∧ Hid (Ix wr y my [])) (fun iv _ => os.length - (intOf iv).toNat)
      case atStart => exact ⟨0, _, Nat.zero_le _, rfl, hid (own_zero _ _ _), J0, O3, D3, hid (by rw [List.take_zero]; exact X3.out), Y3⟩
      case round =>
        clear J0 O3 D3 X3 Y3
        obtain ⟨j, L, hj, rfl, HI, HJ, HO, HD, HX, HY⟩ := hrel
        by_cases hlt : j < os.length
        · obtain ⟨b0, o0, rfl, hb0, hr0⟩ := HD.out.2.2.2.1 j hlt
          have HR := hid hr0
          obtain ⟨op, hop⟩ : ∃ op, os[j] = op := ⟨_, rfl⟩
          have hmem : op ∈ os := by rw [← hop]; exact List.getElem_mem hlt
          have hlv := hlen.out
          have HMO := hid (HM.out op hmem)
          have HFO := hid (hfit.out op hmem)
          have HPL : Hid (playL [] (os.take (j + 1)) = stepL (playL [] (os.take j)) op) := hid (by rw [playL_take _ _ _ hlt, hop])
          have HLN : Hid ((playL [] (os.take j)).length < 1000) := hid (by have h1 := playL_len [] (os.take j); have h2 := hlen.out; have h3 : ([] : List Nt).length ≤ 0 := Nat.le_refl 0; rw [List.length_take] at h1; omega)
          have HI2 : Hid (inB (ownF L r e) (askF (stepL (playL [] (os.take j)) op) ⟨k, u, f, q, s, m', n, t⟩ r e) = true) := hid (inB_trans HI.out (askF_mono (stepL_sub _ _) _ _ _))
          rw [hop] at HR
          have HL := hid (len_opC op)
          have hs1 := opC_size op
          have hst := op_store op wr
          obtain ⟨cs, hcs⟩ : ∃ cs, (opC op).toList = cs := ⟨_, rfl⟩
          have HCS := hid hcs
          rw [hcs] at HR HL
          clear hcs hr0 hmem hop
          go_upto_region 17 with (first
            | (with_reducible refine wpList_load_mid (op := ⟨some 78, _, _, _, _, _⟩) rfl 44 (.tmp 77) rfl b0 (o0 + j * 22) rfl cs _ HR.out Tryd.underlying44 rfl HL.out ?_; rw [← HCS.out, opC_list]))
          obtain ⟨W1, hW1⟩ : ∃ W1, (wr.alloc (.cells #[.int .i64 0, .int .i64 0, .int .u64 0, .string ⟨#[]⟩, .int .u64 0, .string ⟨#[]⟩, .int .i64 0, .int .u64 0, .int .i64 0, .int .i64 0, .int .i64 0, .int .i64 0, .string ⟨#[]⟩, .int .u64 0, .int .i64 0, .int .i64 0, .int .i64 0, .int .i64 0, .int .i64 0, .int .i64 0, .int .i64 0, .int .i64 0] 44)).setRow wr.heap.size (opC op) = W1 := ⟨_, rfl⟩
          rw [hW1]
          obtain ⟨K0, KB⟩ := op_box hW1
          have E0 := hid (HD.out.on KB.out)
          have F0 := hid (HX.out.on KB.out)
          have G0 := hid (HY.out.on KB.out)
          have O0 := hid (HO.out.on KB.out)
          have J0 := hid (HJ.out.below KB.out HJ.out.lt)
          clear hW1 hst hs1 HR KB HX HD HY HO HJ
          obtain ⟨p, hp⟩ : ∃ p, wr.heap.size = p := ⟨_, rfl⟩
          rw [hp] at K0
          rw [hp]
          clear hp
          have HA2 := hid (len_opA op)
          have HSt := hid (fun W (h : Ix W x m (playL [] (os.take j))) hP => step_any x m (playL [] (os.take j)) [] (.slice none 0 0) op W h (DocV.nil W) hP HMO.out HFO.out HLN.out (by simp))
          go_wp2_with (first
            | (with_reducible refine wpList_load_row (o := ⟨some 80, _, _, _, _, _⟩) rfl 44 (.tmp 16) rfl p rfl 44 (opC op) (0, 0) _ K0.out.heap Tryd.underlying44 rfl HA2.out ?_))
          with_reducible refine (HSt.out _ F0.out E0.out.parts).mono ?_
          rintro e' w2 ⟨v2, rfl, a1, a2, a3⟩
          have F1 : Hid (Ix w2 x m (playL [] (os.take (j + 1)))) := hid (by rw [HPL.out]; exact a1)
          have E1 := hid (E0.out.grown a3 (fun i hi => by cases hi; exact hm.out))
          have G1 := hid (ix_grown G0.out a3 (fun h => ix_apart F0.out G0.out (by injection h)) (fun h => by injection h with h; have := hmy.out; omega))
          have O1 := hid (O0.out.grown a3 (fun k hk => by cases hk; exact N0.out.1))
          have J1 := hid (J0.out.grown a3 (fun h => by injection h with h; have := hpg.out; omega))
          clear a1 a2 a3 HSt K0 E0 F0 G0 O0 J0 HA2
          rw [← HPL.out] at HI2
          obtain ⟨L1, hL1⟩ : ∃ L1, playL [] (os.take (j + 1)) = L1 := ⟨_, rfl⟩
          have HL1 := hid hL1
          rw [hL1] at F1 HI2
          clear hL1
          have HQ := hid (fun W (h : Ix W x m L1) hP => ixask_any x m L1 ⟨k, u, f, q, s, m', n, t⟩ r e W h hP HSA.out.1 HSA.out.2)
          have HOO := hid (own_ask L1 ⟨k, u, f, q, s, m', n, t⟩ r e)
          obtain ⟨F, hF⟩ : ∃ F, askF L1 ⟨k, u, f, q, s, m', n, t⟩ r e = F := ⟨_, rfl⟩
          have HF := hid hF
          rw [hF] at HQ HI2 HOO
          clear hF
          obtain ⟨⟨d0, d1, d2, d3, d4, d5, d6, d7⟩, _⟩ := cells8 E1.out.cmd
          obtain ⟨⟨j0, j1⟩, _, _⟩ := blkn E1.out.id
          go_wp2_with fail
          with_reducible refine (HQ.out _ F1.out E1.out.parts).mono ?_
          rintro e' y3 ⟨rfl, hb⟩
          have F2 := hid (F1.out.on hb)
          have E2 := hid (E1.out.on hb)
          have G2 := hid (G1.out.on hb)
          have O2 := hid (O1.out.on hb)
          have J2 := hid (J1.out.below hb J1.out.lt)
          clear hb HQ F1 E1 G1 O1 J1 d0 d1 d2 d3 d4 d5 d6 d7 j0 j1
          have hst := eight_store F y3
          have hs8 := rowA_size F
          go_upto_region 19 with fail
          obtain ⟨W3, hW3⟩ : ∃ W3, (y3.alloc (.cells #[.int .i64 0, .int .i64 0, .int .i64 0, .int .i64 0, .int .i64 0, .int .i64 0, .int .i64 0, .int .i64 0] 40)).setRow y3.heap.size (rowA F) = W3 := ⟨_, rfl⟩
          rw [hW3]
          obtain ⟨Q0, KB⟩ := eight_box hW3
          have F3 := hid (F2.out.on KB.out)
          have E3 := hid (E2.out.on KB.out)
          have G3 := hid (G2.out.on KB.out)
          have O3 := hid (O2.out.on KB.out)
          have J3 := hid (J2.out.below KB.out J2.out.lt)
          have hqn : Hid (pl < y3.heap.size) := hid J2.out.lt
          clear hW3 hst hs8 KB F2 E2 G2 O2 J2
          obtain ⟨pq, hp⟩ : ∃ p, y3.heap.size = p := ⟨_, rfl⟩
          rw [hp] at Q0 hqn
          rw [hp]
          clear hp
          have HW := hid (fun w => within8 (ownF L r e) F w)
          rw [HI2.out] at HW
          obtain ⟨U, hU⟩ : ∃ U, ownF L r e = U := ⟨_, rfl⟩
          have HU := hid hU
          rw [hU] at HW
          clear hU
          have T0 : Hid (Tri W3 pl pq g L F r e) := hid ⟨J3.out, Q0.out, E3.out.id⟩
          go_region_held3 (fun w' => (w'.cell? ⟨pl, 0, none⟩ = some (.int .i64 (L 0)) ∧ w'.cell? ⟨pl, 1, none⟩ = some (.int .i64 (L 1)) ∧ w'.cell? ⟨pl, 2, none⟩ = some (.int .i64 (L 2)) ∧ w'.cell? ⟨pl, 3, none⟩ = some (.int .i64 (L 3)) ∧ w'.cell? ⟨pl, 4, none⟩ = some (.int .i64 (L 4)) ∧ w'.cell? ⟨pl, 5, none⟩ = some (.int .i64 (L 5)) ∧ w'.cell? ⟨pl, 6, none⟩ = some (.int .i64 (L 6)) ∧ w'.cell? ⟨pl, 7, none⟩ = some (.int .i64 (L 7))) ∧ (w'.cell? ⟨pq, 0, none⟩ = some (.int .i64 (F 0)) ∧ w'.cell? ⟨pq, 1, none⟩ = some (.int .i64 (F 1)) ∧ w'.cell? ⟨pq, 2, none⟩ = some (.int .i64 (F 2)) ∧ w'.cell? ⟨pq, 3, none⟩ = some (.int .i64 (F 3)) ∧ w'.cell? ⟨pq, 4, none⟩ = some (.int .i64 (F 4)) ∧ w'.cell? ⟨pq, 5, none⟩ = some (.int .i64 (F 5)) ∧ w'.cell? ⟨pq, 6, none⟩ = some (.int .i64 (F 6)) ∧ w'.cell? ⟨pq, 7, none⟩ = some (.int .i64 (F 7))) ∧ w'.cell? ⟨g + 1, 0, none⟩ = some (.int .i64 r) ∧ w'.cell? ⟨g + 1, 1, none⟩ = some (.int .i64 e))
            (first | exact T0.out.open | exact T0.out.drew.open | exact T1.out.open | exact T2.out.open)
            (first
              | (go_at_call 23; (with_reducible refine (own8s L r e U HU.out _).mono ?_); rintro e1 w5 ⟨rfl, b1⟩; have T1 := hid (T0.out.drew.on b1))
              | (go_at_call 21; (with_reducible refine (HW.out _).mono ?_); rintro e1 w6 ⟨rfl, b2⟩; have T2 := hid (T1.out.on b2)))
          have HB := hid (((below_drew (Below.refl _ W3)).trans b1).trans (b2.mono (by have := b1.size; simpa using this)))
          have F4 := hid (F3.out.on HB.out)
          have E4 := hid (E3.out.on HB.out)
          have G4 := hid (G3.out.on HB.out)
          have O4 := hid (O3.out.on HB.out)
          rename_i hHeld
          clear hHeld b1 b2 HB F3 E3 G3 O3 T0 T1 J3 Q0 HW
          have hst2 := store_cells T2.out.1 (rowA F) (by rw [rowA_size, rowA_size]) (rowA_one F)
          have hs82 := rowA_size F
          have HLa := hid (len_attr F)
          have JQ := hid T2.out.2.1
          go_wp2_with (first
            | (with_reducible refine wpList_load_row (o := ⟨some 92, _, _, _, _, _⟩) rfl 40 (.tmp 17) rfl pq rfl 40 (rowA F) (0, 0) _ JQ.out.heap Tryd.underlying40 rfl HLa.out ?_))
          go_roundw
          case rel => exact ⟨j + 1, F, by omega, by go_num, hid (by rw [HL1.out, HF.out, HOO.out]; exact inB_self _), hid (Blk.rowAt T2.out.1), hid (O4.out.grown2 (grown_setRow _ _ _) (fun b hb h => by injection h with h; have := hpb.out b hb; omega)), hid (E4.out.grown (grown_setRow _ _ _) (fun k hk => by cases hk; have := hpg.out; omega)), hid (by rw [HL1.out]; exact ix_grown F4.out (grown_setRow _ _ _) (fun h => by injection h with h; have := hpg.out; omega) (fun h => by injection h with h; have := hpg.out; omega)), hid (ix_grown G4.out (grown_setRow _ _ _) (fun h => by injection h with h; have := hpg.out; omega) (fun h => by injection h with h; have := hpg.out; omega))⟩
          case measure => simp only [intOf]; omega
        · have hj2 : j = os.length := by omega
          subst hj2
          rw [List.take_length] at HX
          clear HI HJ hlt hj hpb hpg L
          obtain ⟨LX, hLX⟩ : ∃ LX, playL [] os = LX := ⟨_, rfl⟩
          have HLX := hid hLX
          rw [hLX] at HX
          clear hLX
          go_wp2_with fail
          go_loopw [94] (fun iv wr => ∃ i : Nat, i ≤ 2 ∧ iv = .int .i64 i ∧ Hid (OwnM wr nb Av cv os ms) ∧ Hid (Shf w wr g ⟨k, u, f, q, s, m', n, t⟩ r e A os B ks) ∧ Hid (Ix wr x m LX) ∧ Hid (Ix wr y my (again ms i))) (fun iv _ => 2 - (intOf iv).toNat)
          case atStart => exact ⟨0, by omega, rfl, HO, HD, HX, HY⟩
          case round =>
            clear HO HD HX HY
            obtain ⟨i, hi2, rfl, HO, HD, HX, HY⟩ := hrel
            by_cases hlt2 : i < 2
            · have h95 : decide ((i : Int) < 2) = true := by simp; omega
              go_wp2_with fail
              go_loopw [98] (fun iv wr => ∃ j : Nat, j ≤ os.length ∧ iv = .int .i64 j ∧ Hid (OwnM wr nb Av cv os ms) ∧ Hid (Shf w wr g ⟨k, u, f, q, s, m', n, t⟩ r e A os B ks) ∧ Hid (Ix wr x m LX) ∧ Hid (Ix wr y my (playL (again ms i) (ms.take j)))) (fun iv _ => os.length - (intOf iv).toNat)
              case atStart => exact ⟨0, by omega, rfl, HO, HD, HX, hid (by rw [List.take_zero]; exact HY.out)⟩
              case round =>
                clear HO HD HX HY
                obtain ⟨j, hj, rfl, HO, HD, HX, HY⟩ := hrel
                by_cases hlt : j < os.length
                · obtain ⟨bm, rfl, hbm⟩ := hAv.out (by omega)
                  have hjm : j < ms.length := by have := HO.out.2.1; omega
                  have HR := hid (own_range HO.out.2.1.symm HO.out.1 hjm)
                  obtain ⟨op, hop⟩ : ∃ op, ms[j] = op := ⟨_, rfl⟩
                  have hmem : op ∈ os := (HO.out.2.2 op).1 (by rw [← hop]; exact List.getElem_mem hjm)
                  have hlv := hlen.out
                  have HMO := hid (HM.out op hmem)
                  have HFO := hid (hfit.out op hmem)
                  have HPL : Hid (playL (again ms i) (ms.take (j + 1)) = stepL (playL (again ms i) (ms.take j)) op) := hid (by rw [playL_take _ _ _ hjm, hop])
                  have HLN : Hid ((playL (again ms i) (ms.take j)).length < 1000) := hid (by
                    have h1 := playL_len (again ms i) (ms.take j)
                    have h2 := hlen.out
                    have h3 := again_len ms i
                    have h4 : i * ms.length ≤ 2 * ms.length := Nat.mul_le_mul_right _ (by omega)
                    have h5 := HO.out.2.1
                    rw [List.length_take] at h1
                    omega)
                  rw [hop] at HR
                  have HL := hid (len_opC op)
                  have hs1 := opC_size op
                  have hst := op_store op wr
                  obtain ⟨cs, hcs⟩ : ∃ cs, (opC op).toList = cs := ⟨_, rfl⟩
                  have HCS := hid hcs
                  rw [hcs] at HR HL
                  clear hcs hmem hop
                  go_upto_region 28 with (first
                    | (with_reducible refine wpList_load_mid (op := ⟨some 101, _, _, _, _, _⟩) rfl 44 (.tmp 100) rfl bm (j * 22) rfl cs _ HR.out Tryd.underlying44 rfl HL.out ?_; rw [← HCS.out, opC_list]))
                  obtain ⟨W1, hW1⟩ : ∃ W1, (wr.alloc (.cells #[.int .i64 0, .int .i64 0, .int .u64 0, .string ⟨#[]⟩, .int .u64 0, .string ⟨#[]⟩, .int .i64 0, .int .u64 0, .int .i64 0, .int .i64 0, .int .i64 0, .int .i64 0, .string ⟨#[]⟩, .int .u64 0, .int .i64 0, .int .i64 0, .int .i64 0, .int .i64 0, .int .i64 0, .int .i64 0, .int .i64 0, .int .i64 0] 44)).setRow wr.heap.size (opC op) = W1 := ⟨_, rfl⟩
                  rw [hW1]
                  obtain ⟨K0, KB⟩ := op_box hW1
                  have E0 := hid (HD.out.on KB.out)
                  have F0 := hid (HX.out.on KB.out)
                  have G0 := hid (HY.out.on KB.out)
                  have O0 := hid (HO.out.on KB.out)
                  clear hW1 hst hs1 HR KB HX HD HY HO
                  obtain ⟨p, hp⟩ : ∃ p, wr.heap.size = p := ⟨_, rfl⟩
                  rw [hp] at K0
                  rw [hp]
                  clear hp
                  have HA2 := hid (len_opA op)
                  have HSt := hid (fun W (h : Ix W y my (playL (again ms i) (ms.take j))) hP => step_any y my (playL (again ms i) (ms.take j)) [] (.slice none 0 0) op W h (DocV.nil W) hP HMO.out HFO.out HLN.out (by simp))
                  go_wp2_with (first
                    | (with_reducible refine wpList_load_row (o := ⟨some 103, _, _, _, _, _⟩) rfl 44 (.tmp 19) rfl p rfl 44 (opC op) (0, 0) _ K0.out.heap Tryd.underlying44 rfl HA2.out ?_))
                  with_reducible refine (HSt.out _ G0.out E0.out.parts).mono ?_
                  rintro e' w2 ⟨v2, rfl, a1, a2, a3⟩
                  have G1 : Hid (Ix w2 y my (playL (again ms i) (ms.take (j + 1)))) := hid (by rw [HPL.out]; exact a1)
                  have E1 := hid (E0.out.grown a3 (fun i hi => by cases hi; exact hmy.out.1))
                  have F1 := hid (ix_grown F0.out a3 (fun h => ix_apart G0.out F0.out (by injection h)) (fun h => by injection h with h; have := hmy.out; omega))
                  have O1 := hid (O0.out.grown a3 (fun k hk => by cases hk; exact N0.out.2.1))
                  clear a1 a2 a3 HSt K0 E0 F0 G0 O0 HA2
                  go_wp2
                  go_roundw
                  case rel => exact ⟨j + 1, by omega, by go_num, O1, E1, F1, G1⟩
                  case measure => simp only [intOf]; omega
                · have hj2 : j = ms.length := by have := HO.out.2.1; omega
                  rw [hj2, List.take_length] at HY
                  have hlv := hlen.out
                  go_wp2
                  go_roundw
                  case rel => exact ⟨i + 1, by omega, by go_num, HO, HD, HX, HY⟩
                  case measure => simp only [intOf]; omega
            · have hj2 : i = 2 := by omega
              subst hj2
              have hsame : ∀ n, n ∈ LX ↔ n ∈ again ms 2 := fun n => by rw [← HLX.out]; exact again_mem HO.out.2.2 n
              obtain ⟨D, hD1, hD2⟩ := tells_same HX.out.2.1 HY.out.2.1 HX.out.2.2.1 HY.out.2.2.1 hsame
              have T0 := hid (show Qd w wr g ⟨k, u, f, q, s, m', n, t⟩ r e A os B ks x m y my LX (again ms 2) D _ _ from ⟨HD.out, HX.out, HY.out, hD1, hD2⟩)
              have HQ1 := hid (fun W (h : Ix W x m LX) hP => ixask_any x m LX ⟨k, u, f, q, s, m', n, t⟩ r e W h hP HSA.out.1 HSA.out.2)
              have HQ2 := hid (fun W (h : Ix W y my (again ms 2)) hP => ixask_any y my (again ms 2) ⟨k, u, f, q, s, m', n, t⟩ r e W h hP HSA.out.1 HSA.out.2)
              have hFe := askF_same hsame ⟨k, u, f, q, s, m', n, t⟩ r e
              obtain ⟨F, hF⟩ : ∃ F, askF (again ms 2) ⟨k, u, f, q, s, m', n, t⟩ r e = F := ⟨_, rfl⟩
              rw [hFe] at HQ1
              rw [hF] at HQ1 HQ2
              clear hF hFe hsame hD1 hD2 HO HD HX HY hlt2 hi2
              have EQ : ∀ w, (Op.equalIn 10000 40 (.agg (rowA F)) (.agg (rowA F))).run Tryd.prog w = .ok true w := fun w => eq_attr F F true (eqA_self F) w
              have EG := attr_guard
              have hdt : decide (true = true) = true := rfl
              go_wp2_with fail
              go_region_held3 (fun w' => (w'.cell? ⟨g, 0, none⟩ = some (.int .i64 k) ∧ w'.cell? ⟨g, 1, none⟩ = some (.int .u64 u) ∧ w'.cell? ⟨g, 2, none⟩ = some (.string f) ∧ w'.cell? ⟨g, 3, none⟩ = some (.int .u64 q) ∧ w'.cell? ⟨g, 4, none⟩ = some (.string s) ∧ w'.cell? ⟨g, 5, none⟩ = some (.int .i64 m') ∧ w'.cell? ⟨g, 6, none⟩ = some (.int .u64 n) ∧ w'.cell? ⟨g, 7, none⟩ = some (.int .i64 t)) ∧ w'.cell? ⟨g + 1, 0, none⟩ = some (.int .i64 r) ∧ w'.cell? ⟨g + 1, 1, none⟩ = some (.int .i64 e))
                (first | exact T0.out.open | exact T0.out.drew.open | exact T1.out.open | exact T2.out.open | exact T3.out.open | exact T4.out.open)
                (first
                  | (go_at_call 14; (with_reducible refine (HQ1.out _ T0.out.drew.ix T0.out.drew.parts).mono ?_); rintro e1 w5 ⟨rfl, b1⟩; have T1 := hid (T0.out.drew.on b1))
                  | (go_at_call 14; (with_reducible refine (HQ2.out _ T1.out.iy T1.out.parts).mono ?_); rintro e1 w6 ⟨rfl, b2⟩; have T2 := hid (T1.out.on b2))
                  | (go_at_call 13; (with_reducible refine (ixcount_any x m _ D _ T2.out.cx T2.out.mx).mono ?_); rintro e1 w7 ⟨rfl, rfl⟩)
                  | (go_at_call 13; (with_reducible refine (ixcount_any y my _ D _ T2.out.cy T2.out.my).mono ?_); rintro e1 w8 ⟨rfl, rfl⟩))
              rename_i hHeld
              clear hHeld
              go_wp2
              go_ret
              exact ⟨rfl, by rw [HGK.out]; exact T2.out.1.2.2.1⟩

end Go.Proofs.YtpdfakjopeldmaaDoor.indexShuffles
