/-
  A slice of commands that came in; what slices.Backward goes through.
-/
import Derived.Test.YtfdphcgfdodnoaaDoorKBase
import Derived.Test.YtfdphcgfdodnoaaDoorQUps
namespace Go.Proofs.YtfdphcgfdodnoaaDoor
open Go.ChangeShapes Go.WideShapes Go.ChangeAt Go.RowKit Go.Shelf
attribute [local go_sem] Oper.semAt_some
set_option linter.unusedVariables false
set_option linter.unusedSimpArgs false

/-- The eight cells of a command in a row. -/
def CellsK (w : World) (b o : Nat) (c : K) : Prop :=
  w.cell? ⟨b, o, none⟩ = some (.int .i64 c.kind) ∧ w.cell? ⟨b, o + 1, none⟩ = some (.int .u64 c.num) ∧ w.cell? ⟨b, o + 2, none⟩ = some (.string c.foot) ∧ w.cell? ⟨b, o + 3, none⟩ = some (.int .u64 c.req) ∧
  w.cell? ⟨b, o + 4, none⟩ = some (.string c.path) ∧ w.cell? ⟨b, o + 5, none⟩ = some (.int .i64 c.mode) ∧ w.cell? ⟨b, o + 6, none⟩ = some (.int .u64 c.n) ∧ w.cell? ⟨b, o + 7, none⟩ = some (.int .i64 c.time)
/-- A slice that reads as a list of commands, below a block. -/
def SeesK (n0 : Nat) (w : World) (A : Option Addr) (l : List K) : Prop := ∀ (j : Nat) (h : j < l.length), ∃ b o, A = some ⟨b, o, none⟩ ∧ b < n0 ∧ CellsK w b (o + j * 8) l[j]
theorem SeesK.below {n0 : Nat} {w w' : World} {A : Option Addr} {l : List K} (h : SeesK n0 w A l) (hb : Below n0 w w') : SeesK n0 w' A l := fun j hj => by
  obtain ⟨b, o, hA, hlt, h0, h1, h2, h3, h4, h5, h6, h7⟩ := h j hj
  exact ⟨b, o, hA, hlt, (hb.cell (by exact hlt)).trans h0, (hb.cell (by exact hlt)).trans h1, (hb.cell (by exact hlt)).trans h2, (hb.cell (by exact hlt)).trans h3, (hb.cell (by exact hlt)).trans h4, (hb.cell (by exact hlt)).trans h5, (hb.cell (by exact hlt)).trans h6, (hb.cell (by exact hlt)).trans h7⟩

def BackS (v : Value) (w : World) (e : Ending) (w' : World) : Prop := e = .returned (.func (.func 60) #[] #[.pointer (some ⟨w.heap.size, 0, none⟩)]) ∧ w.alloc (.cells #[v] 50) = w'
theorem backward_any (A : Option Addr) (n c : Nat) (w : World) : Calls Tryd.prog 43 #[.slice A n c] w (BackS (.slice A n c) w) := by
  go_enter Tryd.func43, Tryd.ntmps43
  go_wp2
  go_ret
  exact ⟨rfl, rfl⟩

/-- What the iterator wants kept: what came in, and its box. -/
def KeepB (g n0 : Nat) (A B : World) : Prop := Below n0 A B ∧ B.heap[g]? = A.heap[g]?
theorem KeepB.trans {g n0 : Nat} {A B C : World} (h : KeepB g n0 A B) (k : KeepB g n0 B C) : KeepB g n0 A C := ⟨h.1.trans k.1, k.2.trans h.2⟩
theorem KeepB.put {g n0 : Nat} {w : World} (hn : n0 ≤ w.heap.size) (hg : g < w.heap.size) (W : World) (l : Nat) (o o' : Obj) (hl : w.heap.size ≤ l) (h : W.heap[l]? = some o) (h1 : o.isCells = false) (h2 : o.isWalk = false) : KeepB g n0 W (W.putObj l o') :=
  ⟨belowK_b hn W l o o' hl h h1 h2, World.putObj_heap_other (by omega)⟩

/-- Backward's order of places. -/
def backs (n : Nat) : List Nat := (List.range n).reverse
theorem backs_take {n k : Nat} (hk : k < n) : (backs n).take (n - k) = (backs n).take (n - (k + 1)) ++ [k] := by
  have h : (backs n)[n - (k + 1)]? = some k := by
    unfold backs
    rw [List.getElem?_reverse (by rw [List.length_range]; omega), List.length_range, List.getElem?_range (by omega)]
    congr 1
    omega
  rw [show n - k = (n - (k + 1)) + 1 by omega, List.take_add_one, h]
  rfl

set_option maxRecDepth 100000 in
set_option maxHeartbeats 4000000 in
theorem back_stops (n : Nat) (hn : 1 ≤ n) (A : Option Addr) (l : List K) (c : Nat) (n0 g : Nat) (w : World) (hn0 : n0 ≤ w.heap.size) (hg : g < w.heap.size) (hc : w.cell? ⟨g, 0, none⟩ = some (.slice A l.length c)) (hS : SeesK n0 w A l) (hl : l.length ≤ 1000) :
    SeqStopsK Fence.wide n Tryd.prog 60 #[.pointer (some ⟨g, 0, none⟩)] (fun x : Fin l.length => #[Value.int .i64 ((x.1 : Nat) : Int), val l[x.1]]) (KeepB g n0)
      (fun ys => ys.map (·.1) = backs l.length) (fun pre => pre ≠ [] ∧ pre.map (·.1) <+: backs l.length) l.length w := fun lp J Jx W hW hJ _ hY h0 => by
  have hSW : SeesK n0 W A l := hS.below (hW.mono hn0)
  have hcW := (hW.cell (p := ⟨g, 0, none⟩) hg).trans hc
  have HS := hid hSW
  have HY := hid hY
  have HJ := hid hJ
  have H0 := hid h0
  have HC := hid hcW
  clear hY hJ h0 hS hc hSW
  refine callsIn_of_wp Tryd.func60 rfl trivial ?_ rfl
  simp only [Tryd.ntmps60, List.size_toArray, List.length_cons, List.length_nil, Nat.reduceAdd, Nat.reduceSub, Array.replicate_succ, Array.replicate_zero, List.push_toArray, List.append_toArray, List.nil_append, List.cons_append]
  gi_wp2
  gi_loopw [3] (fun i wr => ∃ (pre : List (Fin l.length)) (k : Nat) (j : Int), i = .int .i64 j ∧ j + 1 = (k : Int) ∧ k ≤ l.length ∧ J pre wr ∧ Hid (KeepB g n0 W wr) ∧ Hid (pre.map (·.1) = (backs l.length).take (l.length - k)))
    (fun i _ => (RowKit.intOf i + 1).toNat)
  case atStart =>
    refine ⟨[], l.length, _, rfl, by omega, Nat.le_refl _, H0.out, hid ⟨Below.refl _ _, rfl⟩, hid ?_⟩
    simp
  case round =>
    obtain ⟨pre, k, j, rfl, hj, hk, hJs, HK, HP⟩ := hrel
    have hlen : pre.length = l.length - k := by
      have h1 := congrArg List.length HP.out
      rw [List.length_map, List.length_take] at h1
      have h2 : (backs l.length).length = l.length := by unfold backs; simp
      omega
    rcases Nat.eq_zero_or_pos k with hk0 | hk0
    · obtain rfl : j = -1 := by omega
      gi_wp2
      go_end0
      refine ⟨⟨_, rfl⟩, .inl ⟨pre, ?_, hJs⟩⟩
      rw [HP.out, hk0, Nat.sub_zero, List.take_of_length_le]
      unfold backs
      simp
    · obtain ⟨m, rfl⟩ : ∃ m, k = m + 1 := ⟨k - 1, by omega⟩
      obtain rfl : j = (m : Int) := by omega
      have hm : m < l.length := by omega
      have hm1 : (0 : Int) ≤ (m : Int) := by omega
      have hm2 : (m : Int) < (l.length : Int) := by omega
      have hcw : wr.cell? ⟨g, 0, none⟩ = some (.slice A l.length c) := (World.cell?_of_block (a := ⟨g, 0, none⟩) HK.out.2).trans HC.out
      obtain ⟨b, o, rfl, hb, x0, x1, x2, x3, x4, x5, x6, x7⟩ := (HS.out.below HK.out.1) m hm
      have hP1 : Hid ((pre ++ [(⟨m, hm⟩ : Fin l.length)]).map (·.1) = (backs l.length).take (l.length - m)) := hid (by
        rw [backs_take hm, List.map_append, HP.out]; rfl)
      obtain ⟨fn, tmps, assign, body, hy, hR⟩ := HY.out pre ⟨m, hm⟩ wr hJs (by omega)
      dsimp only at hy
      gi_wp2
      refine hR.mono ?_
      rintro e W3 (⟨rfl, hJ3, hkp⟩ | ⟨rfl, hJx3⟩)
      · gi_wp2
        go_roundw
        case rel => exact ⟨pre ++ [(⟨m, hm⟩ : Fin l.length)], m, _, rfl, by omega, by omega, hJ3, hid (HK.out.trans hkp), hP1⟩
        case measure => simp only [RowKit.intOf]; omega
      · gi_wp2
        refine bodyPost_ret (results_none rfl _ _ _) rfl ?_
        refine ⟨⟨_, rfl⟩, .inr ⟨pre ++ [(⟨m, hm⟩ : Fin l.length)], ⟨by simp, ?_⟩, hJx3⟩⟩
        rw [hP1.out]
        exact List.take_prefix _ _

end Go.Proofs.YtfdphcgfdodnoaaDoor
