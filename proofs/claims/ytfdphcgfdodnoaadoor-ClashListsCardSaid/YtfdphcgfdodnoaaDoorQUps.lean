/-
  A path, and all paths above it: what clash.upwards goes through.
-/
import Derived.Test.YtfdphcgfdodnoaaDoorQParent
import Derived.Test.YtfdphcgfdodnoaaDoorPRow
namespace Go.Proofs.YtfdphcgfdodnoaaDoor
open Go.ChangeShapes Go.WideShapes Go.ChangeAt Go.RowKit Go.Shelf
attribute [local go_sem] Oper.semAt_some

/-- A text's first j parts. -/
def frontJ (p : List UInt8) (j : Nat) : List UInt8 := join ((pieces p).take j)
/-- A path, and all above it, from it on. -/
def ups (p : List UInt8) : List (List UInt8) := (List.range (pieces p).length).map fun i => frontJ p ((pieces p).length - i)

theorem front_pieces {p : List UInt8} {j : Nat} (hj : 0 < j) : pieces (frontJ p j) = (pieces p).take j := by
  have hne : (pieces p).take j ≠ [] := by
    intro e
    have h1 := congrArg List.length e
    have h2 : 0 < (pieces p).length := List.length_pos_iff.2 (pieces_ne p)
    rw [List.length_take, List.length_nil] at h1
    omega
  exact pieces_join hne (fun x hx => pieces_clean p x (List.mem_of_mem_take hx))
theorem front_all (p : List UInt8) : frontJ p (pieces p).length = p := by
  unfold frontJ
  rw [List.take_length, join_pieces]
theorem front_right {p : List UInt8} (h : right p = true) {j : Nat} (hj : 0 < j) : right (frontJ p j) = true := (above_pieces.1 (front_above h hj)).1
theorem front_len {p : List UInt8} (h : right p = true) {j : Nat} (hj : 0 < j) : (frontJ p j).length ≤ 64 := (right_iff.1 (front_right h hj)).1
theorem front_parent {p : List UInt8} (h : right p = true) {j : Nat} (hj : 1 < j) (hk : j ≤ (pieces p).length) : parent (frontJ p j) = (frontJ p (j - 1), true) := by
  have hr := front_right h (j := j) (by omega)
  unfold parent
  rw [parts_right hr, front_pieces (by omega), List.length_take, if_pos (by omega)]
  have e : ((pieces p).take j).dropLast = (pieces p).take (j - 1) := by
    rw [List.dropLast_eq_take, List.length_take, List.take_take]
    congr 1
    omega
  rw [e]
  rfl
theorem front_last {p : List UInt8} (h : right p = true) : parent (frontJ p 1) = ([], false) := by
  have hr := front_right h (j := 1) (by omega)
  unfold parent
  rw [parts_right hr, front_pieces (by omega), List.length_take, if_neg (by omega)]

theorem ups_mem {p q : List UInt8} (h : right p = true) : q ∈ ups p ↔ above q p = true := by
  unfold ups
  simp only [List.mem_map, List.mem_range]
  constructor
  · rintro ⟨i, hi, rfl⟩
    exact front_above h (by omega)
  · intro ha
    obtain ⟨hq, _, hx⟩ := above_pieces.1 ha
    have h1 : 0 < (pieces q).length := List.length_pos_iff.2 (pieces_ne q)
    have h2 := hx.length_le
    refine ⟨(pieces p).length - (pieces q).length, by omega, ?_⟩
    unfold frontJ
    rw [show (pieces p).length - ((pieces p).length - (pieces q).length) = (pieces q).length by omega, ← List.prefix_iff_eq_take.1 hx, join_pieces]
theorem ups_length {p : List UInt8} (h : right p = true) : (ups p).length ≤ 8 := by
  unfold ups
  rw [List.length_map, List.length_range]
  exact (right_iff.1 h).2.2
theorem ups_take {p : List UInt8} {i : Nat} (hi : i < (pieces p).length) : (ups p).take (i + 1) = (ups p).take i ++ [frontJ p ((pieces p).length - i)] := by
  have h : (ups p)[i]? = some (frontJ p ((pieces p).length - i)) := by unfold ups; simp [hi]
  rw [List.take_add_one, h]
  rfl

/-- clash.upwards(p): the path is boxed; what comes back has captured the box. -/
def UpsS (s : ByteArray) (w : World) (e : Ending) (w' : World) : Prop := e = .returned (.func (.func 76) #[] #[.pointer (some ⟨w.heap.size, 0, none⟩)]) ∧ w.alloc (.cells #[.string s] 9) = w'
theorem upwards_any (s : ByteArray) (w : World) : Calls Tryd.prog 61 #[.string s] w (UpsS s w) := by
  go_enter Tryd.func61, Tryd.ntmps61
  go_wp2
  go_ret
  exact ⟨rfl, rfl⟩

theorem grown_below {w w' : World} (hb : Below w.heap.size w w') : w.grownBy w' none := ⟨hb.os, hb.tape, hb.output, hb.size, fun i hi _ => hb.block i hi⟩

/-- A text that is no longer than a path. -/
abbrev Sh := { x : ByteArray // x.size ≤ 64 }
def LS (x : Sh) : List UInt8 := L x.1

/-- How much is left. -/
def upsLeft (r m : Value) : Nat := match m, r with
  | .bool true, .string s => (pieces (L s)).length
  | _, _ => 0

set_option maxRecDepth 100000 in
set_option maxHeartbeats 2000000 in
/-- What upwards hands back goes through a path and all above it, in their order. -/
theorem ups_stops (n : Nat) (hn : 1 ≤ n) (s : ByteArray) (hr : right (L s) = true) (g : Nat) (w : World) (hg : g < w.heap.size) (hc : w.cell? ⟨g, 0, none⟩ = some (.string s)) :
    SeqStopsK Fence.wide n Tryd.prog 76 #[.pointer (some ⟨g, 0, none⟩)] (fun x : Sh => #[Value.string x.1]) (fun _ _ => True)
      (fun ys => ys.map LS = ups (L s)) (fun pre => pre ≠ [] ∧ pre.map LS <+: ups (L s)) 9 w := fun l J Jx W hW hJ _ hY h0 => by
  have hc' := (hW.cell (p := ⟨g, 0, none⟩) hg).trans hc
  have hk8 := (right_iff.1 hr).2.2
  have HR := hid hr
  have HY := hid hY
  have HJ := hid hJ
  have H0 := hid h0
  obtain ⟨k, hk⟩ : ∃ k, (pieces (L s)).length = k := ⟨_, rfl⟩
  have HK := hid hk
  have hk0 : 0 < k := by rw [← hk]; exact List.length_pos_iff.2 (pieces_ne _)
  have hk8' : k ≤ 8 := by omega
  clear hY hJ hc hr h0 hk hk8
  refine callsIn_of_wp Tryd.func76 rfl trivial ?_ rfl
  simp only [Tryd.ntmps76, List.size_toArray, List.length_cons, List.length_nil, Nat.reduceAdd, Nat.reduceSub, Array.replicate_succ, Array.replicate_zero, List.push_toArray, List.append_toArray, List.nil_append, List.cons_append]
  gi_wp2
  gi_loopw [3, 4] (fun r m wr => ∃ (pre : List Sh) (q : ByteArray) (ok : Bool) (i : Nat), r = .string q ∧ m = .bool ok ∧ J pre wr ∧ q.size ≤ 64 ∧ i ≤ k ∧ Hid (pre.map LS = (ups (L s)).take i) ∧ Hid ((ok = true ∧ i < k ∧ L q = frontJ (L s) (k - i)) ∨ (ok = false ∧ i = k)))
    (fun r m _ => upsLeft r m)
  case atStart =>
    refine ⟨[], s, true, 0, rfl, rfl, H0.out, ?_, Nat.zero_le _, hid rfl, hid (.inl ⟨rfl, hk0, ?_⟩)⟩
    · have := (right_iff.1 HR.out).1; rw [L_length] at this; exact this
    · rw [Nat.sub_zero, ← HK.out, front_all]
  case round =>
    obtain ⟨pre, q, ok, i, rfl, rfl, hJs, hq, hi, HP, H⟩ := hrel
    have hlen : pre.length = i := by
      have h1 := congrArg List.length HP.out
      rw [List.length_map, List.length_take] at h1
      have h2 : (ups (L s)).length = k := by rw [← HK.out]; unfold ups; simp
      omega
    rcases H.out with ⟨rfl, hik, hL⟩ | ⟨rfl, hik⟩
    · have HL := hid hL
      clear hL H
      obtain ⟨fn, tmps, assign, body, hy, hR⟩ := HY.out pre ⟨q, hq⟩ wr hJs (by omega)
      have HP1 : Hid ((pre ++ [(⟨q, hq⟩ : Sh)]).map LS = (ups (L s)).take (i + 1)) := hid (by
        rw [ups_take (by rw [HK.out]; exact hik), List.map_append, HP.out, HK.out, List.map_cons, List.map_nil, show LS ⟨q, hq⟩ = L q from rfl, HL.out])
      gi_wp2
      refine hR.mono ?_
      rintro e W3 (⟨rfl, hJ3, _⟩ | ⟨rfl, hJx3⟩)
      · gi_wp2_with fail
        refine ⟨trivial, ?_⟩
        refine (callsIn_wide.2 (parent_any q _ (by omega))).mono ?_
        rintro e w4 ⟨r, rfl, hr, hb⟩
        have hJ4 := HJ.out _ _ _ none hJ3 (grown_below hb) (fun r e => nomatch e)
        have HRR := hid hr
        clear hb hr
        rcases Nat.lt_or_ge (i + 1) k with h1 | h1
        · have HPA : Hid (parent (L q) = (frontJ (L s) (k - (i + 1)), true)) := hid (by
            rw [HL.out, front_parent HR.out (by omega) (by rw [HK.out]; omega)]; rfl)
          rw [HPA.out]
          gi_wp2
          go_roundw
          case rel =>
            refine ⟨pre ++ [(⟨q, hq⟩ : Sh)], r, true, i + 1, rfl, rfl, hJ4, ?_, by omega, HP1, hid (.inl ⟨rfl, h1, ?_⟩)⟩
            · have := HRR.out; rw [HPA.out] at this
              rw [← L_length, this]; exact front_len HR.out (by omega)
            · have := HRR.out; rw [HPA.out] at this; exact this
          case measure =>
            have e1 := HRR.out
            rw [HPA.out] at e1
            show (pieces (L r)).length < (pieces (L q)).length
            rw [e1, HL.out, front_pieces (by omega), front_pieces (by omega), List.length_take, List.length_take, HK.out]
            omega
        · have hik1 : k - i = 1 := by omega
          have HPA : Hid (parent (L q) = ([], false)) := hid (by
            rw [HL.out, hik1, front_last HR.out])
          rw [HPA.out]
          gi_wp2
          go_roundw
          case rel =>
            refine ⟨pre ++ [(⟨q, hq⟩ : Sh)], r, false, i + 1, rfl, rfl, hJ4, ?_, by omega, HP1, hid (.inr ⟨rfl, by omega⟩)⟩
            have := HRR.out; rw [HPA.out] at this
            rw [← L_length, this]; simp
          case measure =>
            show 0 < (pieces (L q)).length
            exact List.length_pos_iff.2 (pieces_ne _)
      · gi_wp2
        go_end0
        refine ⟨⟨_, rfl⟩, .inr ⟨pre ++ [(⟨q, hq⟩ : Sh)], ⟨by simp, ?_⟩, hJx3⟩⟩
        rw [HP1.out]
        exact List.take_prefix _ _
    · gi_wp2
      refine ⟨(by intro f hf; cases hf), ?_⟩
      rename_i hKK _ _ _ _
      refine hKK _ _ ?_
      gi_wp2
      go_end0
      refine ⟨⟨_, rfl⟩, .inl ⟨pre, ?_, hJs⟩⟩
      rw [HP.out, hik, List.take_of_length_le]
      unfold ups
      rw [List.length_map, List.length_range, HK.out]
      exact Nat.le_refl _

end Go.Proofs.YtfdphcgfdodnoaaDoor
