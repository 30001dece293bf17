/-
  Contracts of slices.Grow and slices.Concat over bytes, of a nil slice and of parts that read as lists.
-/
import Derived.Test.YtilocedppkmikaaSSum
namespace Go.Proofs.Ytilocedppkmikaa
open Go.RowKit

theorem grown_none {w : World} {n c : Nat} {e : TypeId} {z : Value} (hzs : z.cells.size = 1) (hc : n ≤ c) (hm : c ≤ maxLen) :
    (w.drew.alloc (.cells (Builtin.zeroCells z.cells n ++ Builtin.zeroCells z.cells (c - n)) e)).ownsRow w.heap.size e 1 (.slice (some ⟨w.heap.size, 0, none⟩) 0 c) 0 [] := by
  refine ⟨rfl, .inr ⟨w.heap.size, c, _, rfl, Nat.le_refl _, heap_alloc_new w.drew _, Nat.zero_le _, hm, ?_, by simp⟩⟩
  rw [Array.size_append, size_zeroCells, size_zeroCells, hzs]
  omega

/-- What Grow hands back, of a nil slice: nothing yet, and a row of its own. -/
def Grows (w : World) (e : Ending) (w' : World) : Prop := ∃ v, e = .returned v ∧ w'.ownsRow w.heap.size 5 1 v 0 [] ∧ Below w.heap.size w w'

theorem grow_end {w : World} {n c : Nat} (hc : c = grownCap w n 0 5) (hn : n ≤ maxLen) :
    Grows w (.returned (.slice (some ⟨w.heap.size, 0, none⟩) 0 c)) (w.drew.alloc (.cells (Builtin.zeroCells #[.int .u8 0] n ++ Builtin.zeroCells #[.int .u8 0] (c - n)) 5)) := by
  subst hc
  exact ⟨_, rfl, grown_none (z := .int .u8 0) rfl (grownCap_ge _ _ _ _) (grownCap_le_maxLen _ _ _ _ hn), (below_drew (Below.refl _ _)).alloc (Nat.le_refl _) _⟩

set_option maxRecDepth 100000 in
set_option maxHeartbeats 400000 in
theorem grow_nil (n : Nat) (w : World) (h0 : 0 < n) (hn : n ≤ 140737488355328) : Calls Try.prog 23 #[.slice none 0 0, .int .i64 (n : Int)] w (Grows w) := by
  have hb : Try.t5.bytes = 1 := by kernel_rfl
  have hns := nextslicecap_zero h0
  have hn0 : ¬ n = 0 := by omega
  go_enter Try.func23, Try.ntmps23
  go_wp2
  go_ret
  exact grow_end rfl (by unfold maxLen; omega)

/-- No part that is nil has room. -/
def NilBare (w : World) (A : Option Addr) (m : Nat) : Prop := ∀ j b o B n c, j < m → A = some ⟨b, o, none⟩ → w.cell? ⟨b, o + j, none⟩ = some (.slice B n c) → B = none → c = 0

theorem flat_len {ls : List (List Nat)} {k : Nat} (h : k < ls.length) : (ls.take (k + 1)).flatten.length = (ls.take k).flatten.length + ls[k].length := by rw [flatten_take h, List.length_append]
theorem flat_le (ls : List (List Nat)) (k : Nat) : (ls.take k).flatten.length ≤ ls.flatten.length := by
  have : ls.flatten = (ls.take k).flatten ++ (ls.drop k).flatten := by rw [← List.flatten_append, List.take_append_drop]
  rw [this, List.length_append]
  omega

def SizeRel (ls : List (List Nat)) (v i : Value) : Prop := ∃ k : Nat, k ≤ ls.length ∧ i = .int .i64 (k : Int) ∧ v = .int .i64 ((ls.take k).flatten.length : Int)
def JoinRel (ls : List (List Nat)) (w : World) (v i : Value) (wr : World) : Prop := ∃ k : Nat, k ≤ ls.length ∧ i = .int .i64 (k : Int) ∧ wr.ownsRow w.heap.size 5 1 v (ls.take k).flatten.length ((ls.take k).flatten.map bv) ∧ Below w.heap.size w wr

theorem join_step {ls : List (List Nat)} {k : Nat} {w wr w1 : World} {v v' : Value} (h : k < ls.length) (hown : wr.ownsRow w.heap.size 5 1 v (ls.take k).flatten.length ((ls.take k).flatten.map bv)) (hb : Below w.heap.size w wr)
    (hown' : w1.ownsRow w.heap.size 5 1 v' ((ls.take k).flatten.length + ls[k].length) ((ls.take k).flatten.map bv ++ ls[k].map bv)) (hg : wr.grownBy w1 v.ownBlock) : JoinRel ls w v' (.int .i64 ((k : Int) + 1)) w1 := by
  refine ⟨k + 1, h, by go_num, ?_, hb.grown hg hb.size (fun j hj => (hown.lt j hj).1)⟩
  rw [flat_len h, flatten_take h, List.map_append]
  exact hown'

set_option maxRecDepth 100000 in
set_option maxHeartbeats 400000 in
theorem concat_any (A : Option Addr) (ls : List (List Nat)) (ca N : Nat) (w : World) (hl : ls.length ≤ 9223372036854775807) (hNf : ls.flatten.length = N) (h0 : 0 < N) (hn : N ≤ 140737488355328) (hA : SeesRows w A ls) (hN : NilBare w A ls.length) :
    Calls Try.prog 16 #[.slice A ls.length ca] w (Makes ls.flatten w) := by
  obtain ⟨i0, hi, hz0, hz1, hz2⟩ := info_parts info_u8
  have HA := hid hA
  have HN := hid hN
  have HF := hid hNf
  clear hA hN hNf
  go_enter Try.func16, Try.ntmps16
  go_wp2
  go_loop [3, 11] (fun v i => SizeRel ls v i) (fun _ i => ls.length - (intOf i).toNat)
  case atStart => exact ⟨0, Nat.zero_le _, rfl, rfl⟩
  case round =>
    obtain ⟨k, hk, rfl, rfl⟩ := hrel
    have hfl := flat_le ls k
    rw [HF.out] at hfl
    by_cases hlt : k < ls.length
    · obtain ⟨b, o, B, c, rfl, _, hc, hx, _, _⟩ := HA.out k ls[k] (List.getElem?_eq_getElem hlt)
      have HL := hid (flat_len hlt)
      have hfl2 := flat_le ls (k + 1)
      rw [HL.out, HF.out] at hfl2
      generalize ls[k] = l at *
      generalize (ls.take k).flatten.length = m at *
      go_wp2
      go_round
      case rel => exact ⟨k + 1, by omega, by go_num, by rw [HL.out]; go_num⟩
      case measure => simp only [intOf]; omega
    · have HE : Hid ((ls.take k).flatten.length = N) := hid (by rw [List.take_of_length_le (by omega)]; exact HF.out)
      generalize (ls.take k).flatten.length = m at *
      obtain rfl := HE.out
      clear hfl HE
      go_wp2_with (go_at_call 23; ((with_reducible refine (grow_nil _ _ h0 hn).mono ?_); rintro e w1 ⟨v, rfl, hown1, hb1⟩))
      have HO := hid hown1
      have HB := hid hb1
      clear hown1 hb1
      go_loopw [6, 27] (fun v i wr => JoinRel ls w v i wr) (fun _ i _ => ls.length - (intOf i).toNat)
      case atStart => exact ⟨0, Nat.zero_le _, rfl, HO.out, HB.out⟩
      case round =>
        obtain ⟨j, hj, rfl, hown, hb⟩ := hrel
        have hfl := flat_le ls j
        rw [HF.out] at hfl
        have hsz := hb.size
        by_cases hlt2 : j < ls.length
        · obtain ⟨b, o, B, c, rfl, hbl, hc, hx, _, hs⟩ := HA.out j ls[j] (List.getElem?_eq_getElem hlt2)
          have hc2 := (hb.cell (by exact hbl)).trans hc
          have hcn : Hid (B = none → c = 0) := hid (HN.out j b o B _ c hlt2 rfl hc)
          have HS := hid (hs.below hb)
          have hfl2 := flat_le ls (j + 1)
          rw [flat_len hlt2, HF.out] at hfl2
          have HJ := hid (fun (w1 : World) (v' : Value) => join_step (w1 := w1) (v' := v') hlt2 hown hb)
          have HW := hid hown
          clear hc hs hown hb
          generalize (ls.take j).flatten.length = q at *
          generalize (ls.take j).flatten = F at *
          generalize ls[j] = l at *
          go_wp2_with (at_builtin; refine wpList_append_sees rfl (.tmp 31) (.tmp 32) 22 rfl w.heap.size 5 i0 (.int .u8 0) 1 Try.underlying22 hi hz0 hz1 hz2 rfl _ _ _ rfl HW.out .u8 B c l rfl hcn.out HS.out (by unfold maxLen; omega) (by omega) hsz ?_; intro v' w2 hown2 hg2)
          have R := hid (HJ.out _ _ hown2 hg2)
          clear hown2 hg2
          go_wp2
          go_roundw
          case rel => exact R.out
          case measure => simp only [intOf]; omega
        · go_wp2
          go_ret
          have e : ls.take j = ls := List.take_of_length_le (by omega)
          rw [e] at hown
          exact ⟨_, rfl, hown, hb⟩

end Go.Proofs.Ytilocedppkmikaa
