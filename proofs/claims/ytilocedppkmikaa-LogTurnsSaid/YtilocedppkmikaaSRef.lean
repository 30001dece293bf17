/-
  The contract of the document's own sum, bit by bit.
-/
import Derived.Test.YtilocedppkmikaaBits
import Derived.Test.YtilocedppkmikaaSSum
import Derived.StillTailTactics
namespace Go.Proofs.Ytilocedppkmikaa
open Go.RowKit

def iv (x : Nat) : Value := .int .i64 (x : Int)

/-- A block of the call's own that is an array of numbers. -/
def Arr (w : World) (g : Nat) (T : TypeId) (l : List Nat) : Prop := w.heap[g]? = some (.cells (l.map iv).toArray T (0, 0))

theorem Arr.cell {w : World} {g T i x : Nat} {l : List Nat} (h : Arr w g T l) (hx : l[i]? = some x) : w.cell? ⟨g, i, none⟩ = some (.int .i64 (x : Int)) := by
  rw [cell_of_row w g i _ _ _ h]
  simp [hx, iv]
theorem Arr.frozen {w : World} {g T : Nat} {l : List Nat} (h : Arr w g T l) (i : Nat) : w.frozen? ⟨g, i, none⟩ = false := by
  unfold Arr at h
  simp [World.frozen?, h]
theorem Arr.set_ {w : World} {g T : Nat} {l : List Nat} (h : Arr w g T l) (i x : Nat) : Arr (w.setCell ⟨g, i, none⟩ (.int .i64 (x : Int))) g T (l.set i x) := by
  unfold Arr at h ⊢
  simp [World.setCell, Array.getElem?_modify, h, List.map_set, iv]
theorem Arr.far {w : World} {g T : Nat} {l : List Nat} (h : Arr w g T l) {p : Addr} (hp : p.block ≠ g) (u : Value) : Arr (w.setCell p u) g T l := by
  unfold Arr at h ⊢
  simp [World.setCell, Array.getElem?_modify, h, hp]
theorem Arr.drew_ {w : World} {g T : Nat} {l : List Nat} (h : Arr w g T l) : Arr w.drew g T l := h
theorem Arr.lt {w : World} {g T : Nat} {l : List Nat} (h : Arr w g T l) : g < w.heap.size := by
  unfold Arr at h
  exact (Array.getElem?_eq_some_iff.1 h).1
theorem Arr.alloc_ {w : World} {g T : Nat} {l : List Nat} (h : Arr w g T l) (o : Obj) : Arr (w.alloc o) g T l := by
  have := h.lt
  unfold Arr at h ⊢
  show (w.heap.push o)[g]? = _
  rw [Array.getElem?_push_lt this, ← Array.getElem?_eq_getElem this]
  exact h

def zeros32 : List Nat := List.replicate 32 0
theorem zeros_len : zeros32.length = 32 := by simp [zeros32]
theorem zeros_get {i : Nat} (h : i < 32) : zeros32[i]? = some 0 := by
  unfold zeros32
  rw [List.getElem?_replicate, if_pos h]

def WordRel (w : World) (pv tv : Value) (wr : World) : Prop :=
  ∃ k p : Nat, k ≤ 32 ∧ p < 4294967296 ∧ tv = .int .i64 (k : Int) ∧ pv = .int .i64 (p : Int) ∧ p = crcPoly / 2 ^ k ∧ Arr wr (w.heap.size + 1) 49 (halfway (bitsL crcPoly) zeros32 k) ∧ Arr wr w.heap.size 49 zeros32 ∧ Below w.heap.size w wr

theorem word_step {w wr : World} {k p : Nat} {x y : Int} (hk : k < 32) (hp : p < 4294967296) (he : p = crcPoly / 2 ^ k) (h1 : Arr wr (w.heap.size + 1) 49 (halfway (bitsL crcPoly) zeros32 k)) (h2 : Arr wr w.heap.size 49 zeros32) (hb : Below w.heap.size w wr)
    (hx : x = (p : Int) % 2) (hy : y = (p : Int) / 2) : WordRel w (.int .i64 y) (.int .i64 ((k : Int) + 1)) (wr.setCell ⟨w.heap.size + 1, k, none⟩ (.int .i64 x)) := by
  have e : x = ((bitAt crcPoly k : Nat) : Int) := by unfold bitAt; omega
  subst hy
  rw [e]
  refine ⟨k + 1, p / 2, hk, by omega, by go_num, by go_num, ?_, ?_, h2.far (by simp) _, hb.setCell (by simp) _⟩
  · rw [he, Nat.div_div_eq_div_mul, Nat.pow_succ]
  · have h3 := h1.set_ k (bitAt crcPoly k)
    rwa [halfway_set (bitsL_len _) zeros_len hk (bitsL_get _ hk)] at h3

theorem arr_one {w : World} {o : Obj} {l : List Nat} {T : TypeId} (h : o = .cells (l.map iv).toArray T (0, 0)) : Arr (w.alloc o) w.heap.size T l := by
  subst h
  exact heap_alloc_new w _

theorem arr_two {w : World} {o1 o : Obj} {l : List Nat} {T : TypeId} (h : o = .cells (l.map iv).toArray T (0, 0)) : Arr ((w.alloc o1).alloc o) (w.heap.size + 1) T l := by
  subst h
  have h2 := heap_alloc_new (w.alloc o1) (.cells (l.map iv).toArray T (0, 0))
  have e : (w.alloc o1).heap.size = w.heap.size + 1 := by simp
  rw [e] at h2
  exact h2

theorem below_setRow_ {B : Nat} {a w : World} {g : Nat} {cs : Array Value} (h : Below B a w) (hg : B ≤ g) : Below B a (w.setRow g cs) :=
  h.trans ⟨rfl, rfl, rfl, by simp, fun k hk => setRow_other w g k cs (by omega)⟩

set_option maxRecDepth 100000 in
set_option maxHeartbeats 400000 in
theorem word_any (w : World) :
    Calls Try.prog 26 #[] w fun e w' => e = .returned (.agg ((bitsL crcPoly).map iv).toArray) ∧ Below w.heap.size w w' := by
  go_enter Try.func26, Try.ntmps26
  go_wp2
  go_loopw [1, 3] (fun pv tv wr => WordRel w pv tv wr) (fun _ tv _ => 32 - (intOf tv).toNat)
  case atStart =>
    refine ⟨0, crcPoly, by omega, by decide, rfl, rfl, by simp, ?_, ?_, ((Below.refl _ _).alloc (Nat.le_refl _) _).alloc (by simp) _⟩
    · rw [halfway_none]
      exact arr_two rfl
    · exact (arr_one (l := zeros32) rfl).alloc_ _
  case round =>
    obtain ⟨k, p, hk, hp, rfl, rfl, he, h1, h2, hb⟩ := hrel
    by_cases hlt : k < 32
    · have HS := hid (word_step hlt hp he h1 h2 hb rfl rfl)
      have hc := h1.cell ((halfway_new (bitsL_len _) (by omega) (Nat.le_refl k)).trans (zeros_get hlt))
      have hf := h1.frozen k
      clear he h1 h2
      go_wp2
      go_roundw
      case rel => exact HS.out
      case measure => simp only [intOf]; omega
    · have e : halfway (bitsL crcPoly) zeros32 k = bitsL crcPoly := halfway_same (bitsL_len _) zeros_len hk (fun i h1 h2 => by omega)
      rw [e] at h1
      obtain ⟨cs, hcs⟩ : ∃ cs, cs = ((bitsL crcPoly).map iv).toArray := ⟨_, rfl⟩
      obtain ⟨zs, hzs⟩ : ∃ zs, zs = (zeros32.map iv).toArray := ⟨_, rfl⟩
      have H1 := hid (show wr.heap[w.heap.size + 1]? = some (.cells cs 49 (0, 0)) by rw [hcs]; exact h1)
      have H2 := hid (show wr.heap[w.heap.size]? = some (.cells zs 49 (0, 0)) by rw [hzs]; exact h2)
      have H3 := hid hb
      have H4 := hid (show (Try.prog.info? 49).map (·.size) = some cs.size by rw [hcs]; kernel_rfl)
      have H5 := hid (show cs.all (·.oneCell') = true by rw [hcs]; kernel_rfl)
      have H6 := hid (show zs.size = cs.size by rw [hcs, hzs]; kernel_rfl)
      have HC := hid hcs
      clear e h1 h2 he hb hcs hzs
      go_wp2_with (first
        | ((with_reducible refine wpList_load_row (o := ⟨some 14, _, _, _, _, _⟩) rfl 49 (.tmp 2) rfl (w.heap.size + 1) rfl 49 cs (0, 0) _ H1.out Try.underlying49 rfl H4.out ?_))
        | ((with_reducible refine wpList_store_row (o := ⟨none, _, _, _, _, _⟩) rfl 49 (.tmp 0) (.tmp 14) rfl w.heap.size cs rfl rfl 49 zs H2.out H4.out H6.out H5.out ?_)))
      exact bodyPost_ret (v := .agg cs) (results_cell_row (p := 0) (ty := 49) (by kernel_rfl) _ _ w.heap.size 49 cs (0, 0) _ rfl (setRow_heap wr w.heap.size zs cs _ _ H2.out) Try.underlying49 rfl H4.out) rfl ⟨by rw [HC.out], below_setRow_ H3.out (Nat.le_refl _)⟩

/-! ### The sum itself -/
/-- The state's bits, and the constant's, in blocks of the call's own. -/
def Two (w0 : World) (pg : Nat) (L : List Nat) (wr : World) : Prop := w0.heap.size < pg ∧ Arr wr w0.heap.size 49 L ∧ Arr wr pg 49 (bitsL crcPoly) ∧ Below w0.heap.size w0 wr

theorem Two.store {w0 wr : World} {pg : Nat} {L : List Nat} (h : Two w0 pg L wr) (i : Nat) {x : Nat} {y : Int} (hy : y = (x : Int)) : Two w0 pg (L.set i x) (wr.setCell ⟨w0.heap.size, i, none⟩ (.int .i64 y)) := by
  subst hy
  have h0 := h.1
  exact ⟨h0, h.2.1.set_ i x, h.2.2.1.far (by simp; omega) _, h.2.2.2.setCell (by simp) _⟩
theorem Two.drew_ {w0 wr : World} {pg : Nat} {L : List Nat} (h : Two w0 pg L wr) : Two w0 pg L wr.drew := ⟨h.1, h.2.1, h.2.2.1, below_drew h.2.2.2⟩
theorem Two.cell {w0 wr : World} {pg i x : Nat} {L : List Nat} (h : Two w0 pg L wr) (hx : L[i]? = some x) : wr.cell? ⟨w0.heap.size, i, none⟩ = some (.int .i64 (x : Int)) := h.2.1.cell hx
theorem Two.poly {w0 wr : World} {pg i : Nat} {L : List Nat} (h : Two w0 pg L wr) (hi : i < 32) : wr.cell? ⟨pg, i, none⟩ = some (.int .i64 (bitAt crcPoly i : Int)) := h.2.2.1.cell (bitsL_get _ hi)
theorem Two.frozen {w0 wr : World} {pg : Nat} {L : List Nat} (h : Two w0 pg L wr) (i : Nat) : wr.frozen? ⟨w0.heap.size, i, none⟩ = false := h.2.1.frozen i

def ones32 : List Nat := List.replicate 32 1
theorem ones_len : ones32.length = 32 := by simp [ones32]
theorem ones_get {i : Nat} (h : i < 32) : ones32[i]? = some 1 := by
  unfold ones32
  rw [List.getElem?_replicate, if_pos h]

def RelI (w0 : World) (iv' : Value) (wr : World) : Prop := ∃ k : Nat, k ≤ 32 ∧ iv' = .int .i64 (k : Int) ∧ Arr wr w0.heap.size 49 (halfway ones32 zeros32 k) ∧ Below w0.heap.size w0 wr
def RelA (l : List Nat) (w0 : World) (pg : Nat) (tv : Value) (wr : World) : Prop := ∃ i : Nat, i ≤ l.length ∧ tv = .int .i64 (i : Int) ∧ Two w0 pg (bitsL (crcFold 4294967295 (l.take i))) wr
def RelB (s c : Nat) (w0 : World) (pg : Nat) (xv kv : Value) (wr : World) : Prop := ∃ k x : Nat, k ≤ 8 ∧ x < 256 ∧ kv = .int .i64 (k : Int) ∧ xv = .int .i64 (x : Int) ∧ x = c / 2 ^ k ∧ Two w0 pg (halfway (bitsL (s ^^^ c)) (bitsL s) k) wr
def RelC (t : Nat) (w0 : World) (pg : Nat) (kv : Value) (wr : World) : Prop := ∃ k : Nat, k ≤ 8 ∧ kv = .int .i64 (k : Int) ∧ Two w0 pg (bitsL (crcRounds k t)) wr
def RelD (q : Nat) (w0 : World) (pg : Nat) (jv : Value) (wr : World) : Prop := ∃ j : Nat, j ≤ 31 ∧ jv = .int .i64 (j : Int) ∧ Two w0 pg (halfway (bitsL (q / 2)) (bitsL q) j) wr
def RelE (q : Nat) (w0 : World) (pg : Nat) (jv : Value) (wr : World) : Prop := ∃ j : Nat, j ≤ 32 ∧ jv = .int .i64 (j : Int) ∧ Two w0 pg (halfway (bitsL (crcStep q)) (bitsL (q / 2)) j) wr
def RelF (s : Nat) (vv jv : Value) : Prop := ∃ j v : Nat, j ≤ 32 ∧ jv = .int .i64 ((j : Int) - 1) ∧ vv = .int .u32 (v : Int) ∧ v = tops s j

theorem stepB {s c k x pg : Nat} {w0 wr : World} {y z : Int} (hk : k < 8) (hx : x < 256) (he : x = c / 2 ^ k) (h : Two w0 pg (halfway (bitsL (s ^^^ c)) (bitsL s) k) wr) (hy : y = ((bitAt s k : Nat) + (x : Int)) % 2) (hz : z = (x : Int) / 2) :
    RelB s c w0 pg (.int .i64 z) (.int .i64 ((k : Int) + 1)) (wr.setCell ⟨w0.heap.size, k, none⟩ (.int .i64 y)) := by
  have e : y = ((bitAt (s ^^^ c) k : Nat) : Int) := by
    rw [bitAt_xor]
    have : bitAt c k = x % 2 := by rw [he]; rfl
    rw [this]
    omega
  have h2 := h.store k e
  rw [halfway_set (bitsL_len _) (bitsL_len _) (by omega) (bitsL_get _ (by omega))] at h2
  refine ⟨k + 1, x / 2, hk, by omega, by go_num, by rw [hz]; go_num, ?_, h2⟩
  rw [he, Nat.div_div_eq_div_mul, Nat.pow_succ]

theorem stepD {q j pg : Nat} {w0 wr : World} {y : Int} (hj : j < 31) (h : Two w0 pg (halfway (bitsL (q / 2)) (bitsL q) j) wr) (hy : y = (bitAt q (j + 1) : Nat)) :
    RelD q w0 pg (.int .i64 ((j : Int) + 1)) (wr.setCell ⟨w0.heap.size, j, none⟩ (.int .i64 y)) := by
  have h2 := h.store j hy
  rw [halfway_set (bitsL_len _) (bitsL_len _) (by omega) (by rw [bitsL_get _ (by omega), bitAt_half])] at h2
  exact ⟨j + 1, hj, by go_num, h2⟩
theorem endD {q pg : Nat} {w0 wr : World} (hq : q < 4294967296) (h : Two w0 pg (halfway (bitsL (q / 2)) (bitsL q) 31) wr) : RelE q w0 pg (.int .i64 0) (wr.setCell ⟨w0.heap.size, 31, none⟩ (.int .i64 0)) := by
  have h2 := h.store 31 (x := 0) (y := 0) rfl
  rw [halfway_set (n := 32) (bitsL_len _) (bitsL_len _) (by omega) (by rw [bitsL_get _ (by omega), bitAt_half, bitAt_high (by omega)])] at h2
  rw [halfway_same (bitsL_len _) (bitsL_len _) (Nat.le_refl 32) (fun i h1 h2 => by omega)] at h2
  exact ⟨0, by omega, rfl, by rw [halfway_none]; exact h2⟩
theorem stepE {q j pg : Nat} {w0 wr : World} {y : Int} (hj : j < 32) (h : Two w0 pg (halfway (bitsL (crcStep q)) (bitsL (q / 2)) j) wr) (hy : y = ((bitAt (q / 2) j : Nat) + (bitAt q 0 : Nat) * (bitAt crcPoly j : Nat) : Int) % 2) :
    RelE q w0 pg (.int .i64 ((j : Int) + 1)) (wr.setCell ⟨w0.heap.size, j, none⟩ (.int .i64 y)) := by
  have e : y = ((bitAt (crcStep q) j : Nat) : Int) := by
    rw [hy, bitAt_step]
    push_cast
    rfl
  have h2 := h.store j e
  rw [halfway_set (bitsL_len _) (bitsL_len _) (by omega) (bitsL_get _ hj)] at h2
  exact ⟨j + 1, hj, by go_num, h2⟩
theorem endE {q k t pg : Nat} {w0 wr : World} (hk : k < 8) (hq : q = crcRounds k t) (h : Two w0 pg (halfway (bitsL (crcStep q)) (bitsL (q / 2)) 32) wr) : RelC t w0 pg (.int .i64 ((k : Int) + 1)) wr := by
  rw [halfway_same (bitsL_len _) (bitsL_len _) (Nat.le_refl 32) (fun i h1 h2 => by omega), hq, ← crcRounds_succ] at h
  exact ⟨k + 1, hk, by go_num, h⟩
theorem endB {s c pg : Nat} {w0 wr : World} (hc : c < 256) (h : Two w0 pg (halfway (bitsL (s ^^^ c)) (bitsL s) 8) wr) : RelC (s ^^^ c) w0 pg (.int .i64 0) wr := by
  rw [bits_xor_end hc] at h
  exact ⟨0, by omega, rfl, h⟩
theorem endC {l : List Nat} {i pg : Nat} {w0 wr : World} (hi : i < l.length) (h : Two w0 pg (bitsL (crcRounds 8 (crcFold 4294967295 (l.take i) ^^^ l[i]))) wr) : RelA l w0 pg (.int .i64 ((i : Int) + 1)) wr :=
  ⟨i + 1, hi, by go_num, by rw [crcFold_take _ hi]; exact h⟩

theorem two_start {w wr w2 : World} {zs cs : Array Value} (h1 : Arr wr w.heap.size 49 (bitsL 4294967295)) (hb : Below w.heap.size w wr) (hb2 : Below wr.heap.size wr w2) (hcs : cs = ((bitsL crcPoly).map iv).toArray) :
    Two w w2.heap.size (bitsL 4294967295) ((w2.alloc (.cells zs 49 (0, 0))).setRow w2.heap.size cs) := by
  have hlt := h1.lt
  have hsz := hb2.size
  have h2 : Arr w2 w.heap.size 49 (bitsL 4294967295) := (hb2.block _ hlt).trans h1
  refine ⟨by omega, ?_, ?_, ?_⟩
  · have h3 := h2.alloc_ (.cells zs 49 (0, 0))
    unfold Arr at h3 ⊢
    rw [setRow_other _ _ _ _ (by omega)]
    exact h3
  · unfold Arr
    rw [← hcs]
    exact setRow_heap _ _ zs cs _ _ (heap_alloc_new w2 _)
  · exact below_setRow_ ((hb.trans (hb2.mono hb.size)).alloc (by omega) _) (by omega)

/-- The constant is stored; from here on the world is a letter. -/
theorem wpList_store_start {ops : Array Oper} {rest : List Oper} {o : Oper} {a : Act} {Q : Exit → Act → World → Prop} {w wr w2 : World} {cs zs : Array Value} (hgd : o.guard = none) (x y : Operand) (ho : o.op = .store 49 x y)
    (hx : a.eval x = .pointer (some ⟨w2.heap.size, 0, none⟩)) (hy : a.eval y = .agg cs) (hi : (Try.prog.info? 49).map (·.size) = some cs.size) (h1c : cs.all (·.oneCell') = true)
    (h1 : Arr wr w.heap.size 49 (bitsL 4294967295)) (hb : Below w.heap.size w wr) (hb2 : Below wr.heap.size wr w2) (hcs : cs = ((bitsL crcPoly).map iv).toArray)
    (h : ∀ w', Two w w2.heap.size (bitsL 4294967295) w' → wpList Try.prog ops Q rest (a.put o.dst undef) w') (hold : zs.size = cs.size) : wpList Try.prog ops Q (o :: rest) a (w2.alloc (.cells zs 49 (0, 0))) :=
  wpList_store_row hgd _ x y ho _ cs hx hy _ zs (heap_alloc_new w2 _) hi hold h1c (h _ (two_start h1 hb hb2 hcs))

end Go.Proofs.Ytilocedppkmikaa
