/-
  Contracts of bytes.Equal, bytes.Clone, sum.Seal and sum.Open.
-/
import Derived.WalkKit
import Derived.Laws.BitsAllLaws
import Derived.Test.YtohffiehmmcgbaaGreatDoorXA
import Derived.WalkSpells
import Derived.Lib.SlBytesConst
import Derived.WalkLawsBesides
import Derived.RegionTactic
import Derived.ChangeAlike
import Derived.BigRegion
import Derived.Test.YtohffiehmmcgbaaGreatDoorXC
import Derived.Laws.BytesArg
import Derived.Deep.RegionHeld3
namespace Go.Proofs.YtohffiehmmcgbaaGreatDoor
open Go.RowKit
def crcPoly : Nat := 3988292384
def crcStep (s : Nat) : Nat := s / 2 ^^^ (if s % 2 = 1 then crcPoly else 0)
def crcRounds : Nat → Nat → Nat
  | 0, s => s
  | k + 1, s => crcRounds k (crcStep s)
theorem crcRounds_succ (k s : Nat) : crcRounds (k + 1) s = crcStep (crcRounds k s) := by
  induction k generalizing s with
  | zero => rfl
  | succ k ih => rw [crcRounds, ih]; rfl
theorem crcStep_lt {s : Nat} (h : s < 4294967296) : crcStep s < 4294967296 := by
  unfold crcStep
  have : (if s % 2 = 1 then crcPoly else 0) < 2 ^ 32 := by split <;> decide
  exact Nat.xor_lt_two_pow (n := 32) (by omega) this
theorem crcRounds_lt (k : Nat) {s : Nat} (h : s < 4294967296) : crcRounds k s < 4294967296 := by
  induction k generalizing s with
  | zero => exact h
  | succ k ih => exact ih (crcStep_lt h)
def crcByte (s c : Nat) : Nat := crcRounds 8 (s ^^^ c)
def crcFold (s : Nat) (l : List Nat) : Nat := l.foldl crcByte s
def crcOf (l : List Nat) : Nat := 4294967295 - crcFold 4294967295 l
theorem xor_lt32 {a b : Nat} (ha : a < 4294967296) (hb : b < 4294967296) : a ^^^ b < 4294967296 := Nat.xor_lt_two_pow (n := 32) ha hb
theorem crcByte_lt {s c : Nat} (hs : s < 4294967296) (hc : c < 256) : crcByte s c < 4294967296 := crcRounds_lt 8 (xor_lt32 hs (by omega))
theorem crcFold_lt {s : Nat} {l : List Nat} (hs : s < 4294967296) (hl : ∀ x ∈ l, x < 256) : crcFold s l < 4294967296 := by
  induction l generalizing s with
  | nil => exact hs
  | cons c l ih => exact ih (crcByte_lt hs (hl c (by simp))) (fun x hx => hl x (by simp [hx]))
theorem crcFold_take {l : List Nat} {k : Nat} (s : Nat) (h : k < l.length) : crcFold s (l.take (k + 1)) = crcByte (crcFold s (l.take k)) l[k] := by
  unfold crcFold
  rw [List.take_succ_eq_append_getElem h, List.foldl_append]
  rfl
theorem crcFold_append (s : Nat) (a b : List Nat) : crcFold s (a ++ b) = crcFold (crcFold s a) b := by
  unfold crcFold; rw [List.foldl_append]
theorem ones_sub {x : Nat} (hx : x < 4294967296) : 4294967295 - x = 4294967295 ^^^ x := by
  apply Nat.eq_of_testBit_eq
  intro i
  have e : 4294967295 - x = 2 ^ 32 - (x + 1) := by omega
  rw [e, Nat.testBit_two_pow_sub_succ hx, Nat.testBit_xor]
  have e2 : (4294967295 : Nat).testBit i = decide (i < 32) := by
    rw [show (4294967295 : Nat) = 2 ^ 32 - 1 by decide, Nat.testBit_two_pow_sub_one]
  rw [e2]
  by_cases hi : i < 32
  · simp [hi]
  · have : x.testBit i = false := Nat.testBit_lt_two_pow (Nat.lt_of_lt_of_le hx (Nat.pow_le_pow_right (n := 2) (i := 32) (by decide) (by omega)))
    simp [hi, this]
theorem crcOf_xor {l : List Nat} (hl : ∀ x ∈ l, x < 256) : crcOf l = 4294967295 ^^^ crcFold 4294967295 l := ones_sub (crcFold_lt (by decide) hl)
theorem crcOf_lt (l : List Nat) : crcOf l < 4294967296 := by unfold crcOf; omega
end Go.Proofs.YtohffiehmmcgbaaGreatDoor
namespace Go.Proofs.YtohffiehmmcgbaaGreatDoor
open Go.RowKit
theorem crc_step_walk (s : Nat) (hs : s < 4294967296) :
    bits BinOp.xor IntKind.u32 ((s : Int) / 2) (bits BinOp.and IntKind.u32 3988292384 (-bits BinOp.and IntKind.u32 (s : Int) 1 % 4294967296)) = ((crcStep s : Nat) : Int) := by
  have ea : bits BinOp.and IntKind.u32 (s : Int) 1 = ((s % 2 : Nat) : Int) := by
    have := u32_and_nat s 1 hs (by omega)
    rw [nat_mask1] at this
    exact this
  have eh : (s : Int) / 2 = ((s / 2 : Nat) : Int) := by omega
  rw [ea, eh]
  unfold crcStep
  by_cases hp : s % 2 = 1
  · rw [if_pos hp, hp]
    have e0 : -((1 : Nat) : Int) % 4294967296 = ((4294967295 : Nat) : Int) := by omega
    have e1 : bits BinOp.and IntKind.u32 3988292384 ((4294967295 : Nat) : Int) = ((crcPoly : Nat) : Int) := u32_and_nat 3988292384 4294967295 (by omega) (by omega)
    rw [e0, e1]
    exact u32_xor_nat _ _ (by omega) (by decide)
  · have h0 : s % 2 = 0 := by omega
    rw [if_neg hp, h0]
    have e0 : -((0 : Nat) : Int) % 4294967296 = ((0 : Nat) : Int) := by omega
    have e1 : bits BinOp.and IntKind.u32 3988292384 ((0 : Nat) : Int) = ((0 : Nat) : Int) := u32_and_nat 3988292384 0 (by omega) (by omega)
    rw [e0, e1]
    exact u32_xor_nat _ _ (by omega) (by omega)
theorem crc_in_walk (s c : Nat) (hs : s < 4294967296) (hc : c < 256) : bits BinOp.xor IntKind.u32 (s : Int) (c : Int) = ((s ^^^ c : Nat) : Int) := u32_xor_nat s c hs (by omega)
theorem take_one {l : List Nat} {k : Nat} (h : k < l.length) : l[k] ∈ l := List.getElem_mem h
def BehindRel (s : Nat) (l : List Nat) (v i : Value) : Prop := ∃ k : Nat, k ≤ l.length ∧ i = .int .i64 (k : Int) ∧ v = .int .u32 (crcFold s (l.take k) : Int)
def RoundRel (t : Nat) (v i : Value) : Prop := ∃ k : Nat, k ≤ 8 ∧ i = .int .i64 (k : Int) ∧ v = .int .u32 (crcRounds k t : Int)
set_option maxRecDepth 100000 in
set_option maxHeartbeats 400000 in
theorem behind_any (s : Nat) (A : Option Addr) (l : List Nat) (ca : Nat) (w : World) (hs : s < 4294967296) (hl : l.length ≤ 9223372036854775807) (h8 : ∀ x ∈ l, x < 256) (hA : Sees .u8 w A l) :
    Calls Tryz.prog 187 #[.int .u32 s, .slice A l.length ca] w fun e w' => e = .returned (.int .u32 (crcFold s l)) ∧ w = w' := by
  have HA := hid hA
  have H8 := hid h8
  have HS := hid hs
  clear hA h8 hs
  go_enter Tryz.func187, Tryz.ntmps187
  go_wp2
  go_loop [0, 9] (fun v i => BehindRel s l v i) (fun _ i => l.length - (intOf i).toNat)
  case atStart => exact ⟨0, Nat.zero_le _, rfl, rfl⟩
  case round =>
    obtain ⟨k, hk, rfl, rfl⟩ := hrel
    by_cases hlt : k < l.length
    · obtain ⟨b, o, rfl, _, hc⟩ := HA.out k l[k] (List.getElem?_eq_getElem hlt)
      have HT := hid (crcFold_take s hlt)
      have hc8 := H8.out _ (take_one hlt)
      have hm : crcFold s (l.take k) < 4294967296 := crcFold_lt HS.out (fun x hx => H8.out x (List.mem_of_mem_take hx))
      have HX := hid (crc_in_walk _ _ hm hc8)
      have HL := hid (xor_lt32 hm (show l[k] < 4294967296 by omega))
      generalize crcFold s (l.take k) = m at *
      generalize l[k] = c at *
      go_wp2
      rw [HX.out]
      generalize ht : m ^^^ c = t at *
      have HY : Hid (crcByte m c = crcRounds 8 t) := hid (by rw [← ht]; rfl)
      clear ht
      go_loop [0, 17] (fun v i => RoundRel t v i) (fun _ i => 8 - (intOf i).toNat)
      case atStart => exact ⟨0, Nat.zero_le _, rfl, rfl⟩
      case round =>
        obtain ⟨j, hj, rfl, rfl⟩ := hrel
        have hr : crcRounds j t < 4294967296 := crcRounds_lt j HL.out
        have HW := hid (crc_step_walk _ hr)
        have HZ := hid (crcRounds_succ j t)
        have HE : Hid (¬ j < 8 → crcRounds 8 t = crcRounds j t) := hid (fun h => by rw [show j = 8 by omega])
        generalize crcRounds j t = q at *
        by_cases h8 : j < 8
        · go_wp2
          go_round
          case rel => exact ⟨j + 1, by omega, by go_num, by rw [HZ.out, ← HW.out]⟩
          case measure => simp only [intOf]; omega
        · go_wp2
          go_round
          case rel => exact ⟨k + 1, by omega, by go_num, by rw [HT.out, HY.out, HE.out h8]⟩
          case measure => simp only [intOf]; omega
    · go_wp2
      go_ret
      have e : l.take k = l := List.take_of_length_le (by omega)
      exact ⟨ret_num (by rw [e]), rfl⟩
def SeesRows (w : World) (A : Option Addr) (ls : List (List Nat)) : Prop :=
  ∀ (j : Nat) (l : List Nat), ls[j]? = some l → ∃ b o B c, A = some ⟨b, o, none⟩ ∧ b < w.heap.size ∧ w.cell? ⟨b, o + j, none⟩ = some (.slice B l.length c) ∧ l.length ≤ 9223372036854775807 ∧ (∀ x ∈ l, x < 256) ∧ Sees .u8 w B l
theorem SeesRows.nil (w : World) (A : Option Addr) : SeesRows w A [] := fun j x h => by simp at h
theorem flatten_take {ls : List (List Nat)} {k : Nat} (h : k < ls.length) : (ls.take (k + 1)).flatten = (ls.take k).flatten ++ ls[k] := by
  rw [List.take_succ_eq_append_getElem h, List.flatten_append, List.flatten_singleton]
def OfRel (ls : List (List Nat)) (v i : Value) : Prop := ∃ k : Nat, k ≤ ls.length ∧ i = .int .i64 (k : Int) ∧ v = .int .u32 (crcFold 4294967295 (ls.take k).flatten : Int)
theorem of_step {ls : List (List Nat)} {k : Nat} (h : k < ls.length) : crcFold 4294967295 (ls.take (k + 1)).flatten = crcFold (crcFold 4294967295 (ls.take k).flatten) ls[k] := by
  rw [flatten_take h, crcFold_append]
theorem of_end {l : List Nat} (hl : ∀ x ∈ l, x < 256) : bits BinOp.xor IntKind.u32 IntKind.u32.max (crcFold 4294967295 l : Int) = (crcOf l : Int) := by
  rw [crcOf_xor hl]
  exact u32_xor_nat 4294967295 _ (by omega) (crcFold_lt (by decide) hl)
set_option maxRecDepth 100000 in
set_option maxHeartbeats 400000 in
theorem crcof_any (A : Option Addr) (ls : List (List Nat)) (ca : Nat) (w : World) (hl : ls.length ≤ 9223372036854775807) (hb : ∀ x ∈ ls.flatten, x < 256) (hA : SeesRows w A ls) :
    Calls Tryz.prog 159 #[.slice A ls.length ca] w fun e w' => e = .returned (.int .u32 (crcOf ls.flatten)) ∧ w = w' := by
  have HA := hid hA
  have HB := hid hb
  clear hA hb
  go_enter Tryz.func159, Tryz.ntmps159
  go_wp2
  go_loop [3, 8] (fun v i => OfRel ls v i) (fun _ i => ls.length - (intOf i).toNat)
  case atStart => exact ⟨0, Nat.zero_le _, rfl, rfl⟩
  case round =>
    obtain ⟨k, hk, rfl, rfl⟩ := hrel
    by_cases hlt : k < ls.length
    · obtain ⟨b, o, B, c, rfl, _, hc, hn, hx, hs⟩ := HA.out k ls[k] (List.getElem?_eq_getElem hlt)
      have HT := hid (of_step hlt)
      have HM : Hid (crcFold 4294967295 (ls.take k).flatten < 4294967296) := hid (crcFold_lt (by decide) (fun x hx => by
        obtain ⟨l, h1, h2⟩ := List.mem_flatten.1 hx
        exact HB.out x (List.mem_flatten.2 ⟨l, List.mem_of_mem_take h1, h2⟩)))
      have HX := hid hx
      have HS := hid hs
      clear hx hs
      generalize crcFold 4294967295 (ls.take k).flatten = m at *
      generalize ls[k] = l at *
      go_wp2_with (go_at_call 187; ((with_reducible refine (behind_any m B l c _ HM.out hn HX.out HS.out).mono ?_); rintro e w' ⟨rfl, rfl⟩))
      go_round
      case rel => exact ⟨k + 1, by omega, by go_num, by rw [HT.out]⟩
      case measure => simp only [intOf]; omega
    · go_wp2
      go_ret
      have e : ls.take k = ls := List.take_of_length_le (by omega)
      exact ⟨ret_num (by rw [e]; exact of_end HB.out), rfl⟩
theorem sees_row1 {w : World} {g : Nat} {B : Option Addr} {l : List Nat} {c : Nat} (hg : g < w.heap.size) (hc : w.cell? ⟨g, 0, none⟩ = some (.slice B l.length c)) (hn : l.length ≤ 9223372036854775807) (hx : ∀ x ∈ l, x < 256) (hs : Sees .u8 w B l) : SeesRows w (some ⟨g, 0, none⟩) [l] := by
  intro j l' hj
  match j, hj with
  | 0, hj =>
    simp at hj
    subst hj
    exact ⟨g, 0, B, c, rfl, hg, hc, hn, hx, hs⟩
theorem of_one (g : Nat) (B : Option Addr) (l : List Nat) (n c ca : Nat) (w : World) (hnn : l.length = n) (hg : g < w.heap.size) (hc : w.cell? ⟨g, 0, none⟩ = some (.slice B n c)) (hn : n ≤ 9223372036854775807) (hx : ∀ x ∈ l, x < 256) (hs : Sees .u8 w B l) :
    Calls Tryz.prog 159 #[.slice (some ⟨g, 0, none⟩) 1 ca] w fun e w' => e = .returned (.int .u32 (crcOf l)) ∧ w = w' := by
  subst hnn
  have h := crcof_any (some ⟨g, 0, none⟩) [l] ca w (by simp) (by simpa using hx) (sees_row1 hg hc hn hx hs)
  simpa using h
theorem of_made (W : World) (B : Option Addr) (l : List Nat) (n c ca : Nat) (hnn : l.length = n) (hn : n ≤ 9223372036854775807) (hx : ∀ x ∈ l, x < 256) (hs : Sees .u8 W B l) :
    Calls Tryz.prog 159 #[.slice (some ⟨W.heap.size, 0, none⟩) 1 ca] (W.alloc (.cells #[.slice B n c] 22)) fun e w' => e = .returned (.int .u32 (crcOf l)) ∧ (W.alloc (.cells #[.slice B n c] 22)) = w' := by
  have h := heap_alloc_new W (.cells #[.slice B n c] 22)
  exact of_one _ B l n c ca _ hnn (by simp) (cell_of_row (W.alloc (.cells #[.slice B n c] 22)) W.heap.size 0 #[.slice B n c] 22 (0, 0) h) hn hx (hs.alloc_ _)
end Go.Proofs.YtohffiehmmcgbaaGreatDoor
namespace Go.Proofs.YtohffiehmmcgbaaGreatDoor
open Go.RowKit
theorem grown_none {w : World} {n c : Nat} {e : TypeId} {z : Value} (hzs : z.cells.size = 1) (hc : n ≤ c) (hm : c ≤ maxLen) :
    (w.drew.alloc (.cells (Builtin.zeroCells z.cells n ++ Builtin.zeroCells z.cells (c - n)) e)).ownsRow w.heap.size e 1 (.slice (some ⟨w.heap.size, 0, none⟩) 0 c) 0 [] := by
  refine ⟨rfl, .inr ⟨w.heap.size, c, _, rfl, Nat.le_refl _, heap_alloc_new w.drew _, Nat.zero_le _, hm, ?_, by simp⟩⟩
  rw [Array.size_append, size_zeroCells, size_zeroCells, hzs]
  omega
def Grows (w : World) (e : Ending) (w' : World) : Prop := ∃ v, e = .returned v ∧ w'.ownsRow w.heap.size 5 1 v 0 [] ∧ Below w.heap.size w w'
theorem grow_end {w : World} {n c : Nat} (hc : c = grownCap w n 0 5) (hn : n ≤ maxLen) :
    Grows w (.returned (.slice (some ⟨w.heap.size, 0, none⟩) 0 c)) (w.drew.alloc (.cells (Builtin.zeroCells #[.int .u8 0] n ++ Builtin.zeroCells #[.int .u8 0] (c - n)) 5)) := by
  subst hc
  exact ⟨_, rfl, grown_none (z := .int .u8 0) rfl (grownCap_ge _ _ _ _) (grownCap_le_maxLen _ _ _ _ hn), (below_drew (Below.refl _ _)).alloc (Nat.le_refl _) _⟩
set_option maxRecDepth 100000 in
set_option maxHeartbeats 400000 in
theorem grow_nil (n : Nat) (w : World) (h0 : 0 < n) (hn : n ≤ 140737488355328) : Calls Tryz.prog 157 #[.slice none 0 0, .int .i64 (n : Int)] w (Grows w) := by
  have hb : Tryz.t5.bytes = 1 := by kernel_rfl
  have hns := nextslicecap_zero h0
  have hn0 : ¬ n = 0 := by omega
  go_enter Tryz.func157, Tryz.ntmps157
  go_wp2
  go_ret
  exact grow_end rfl (by unfold maxLen; omega)
def NilBare (w : World) (A : Option Addr) (m : Nat) : Prop := ∀ j b o B n c, j < m → A = some ⟨b, o, none⟩ → w.cell? ⟨b, o + j, none⟩ = some (.slice B n c) → B = none → c = 0
theorem flat_len {ls : List (List Nat)} {k : Nat} (h : k < ls.length) : (ls.take (k + 1)).flatten.length = (ls.take k).flatten.length + ls[k].length := by rw [flatten_take h, List.length_append]
theorem flat_le (ls : List (List Nat)) (k : Nat) : (ls.take k).flatten.length ≤ ls.flatten.length := by
  have : ls.flatten = (ls.take k).flatten ++ (ls.drop k).flatten := by rw [← List.flatten_append, List.take_append_drop]
  rw [this, List.length_append]
  omega
def SizeRel (ls : List (List Nat)) (v i : Value) : Prop := ∃ k : Nat, k ≤ ls.length ∧ i = .int .i64 (k : Int) ∧ v = .int .i64 ((ls.take k).flatten.length : Int)
def JoinRel (ls : List (List Nat)) (w : World) (v i : Value) (wr : World) : Prop := ∃ k : Nat, k ≤ ls.length ∧ i = .int .i64 (k : Int) ∧ wr.ownsRow w.heap.size 5 1 v (ls.take k).flatten.length ((ls.take k).flatten.map bv) ∧ Below w.heap.size w wr
theorem join_step {ls : List (List Nat)} {k : Nat} {w wr w1 : World} {v v' : Value} (h : k < ls.length) (hown : wr.ownsRow w.heap.size 5 1 v (ls.take k).flatten.length ((ls.take k).flatten.map bv)) (hb : Below w.heap.size w wr)
    (hown' : w1.ownsRow w.heap.size 5 1 v' ((ls.take k).flatten.length + ls[k].length) ((ls.take k).flatten.map bv ++ ls[k].map bv)) (hg : wr.grownBy w1 v.ownBlock) : JoinRel ls w v' (.int .i64 ((k : Int) + 1)) w1 := by
  refine ⟨k + 1, h, by go_num, ?_, hb.grown hg hb.size (fun j hj => (hown.lt j hj).1)⟩
  rw [flat_len h, flatten_take h, List.map_append]
  exact hown'
set_option maxRecDepth 100000 in
set_option maxHeartbeats 400000 in
theorem concat_any (A : Option Addr) (ls : List (List Nat)) (ca N : Nat) (w : World) (hl : ls.length ≤ 9223372036854775807) (hNf : ls.flatten.length = N) (h0 : 0 < N) (hn : N ≤ 140737488355328) (hA : SeesRows w A ls) (hN : NilBare w A ls.length) :
    Calls Tryz.prog 124 #[.slice A ls.length ca] w (Makes ls.flatten w) := by
  obtain ⟨i0, hi, hz0, hz1, hz2⟩ := info_parts info_u8
  have HA := hid hA
  have HN := hid hN
  have HF := hid hNf
  clear hA hN hNf
  go_enter Tryz.func124, Tryz.ntmps124
  go_wp2
  go_loop [3, 11] (fun v i => SizeRel ls v i) (fun _ i => ls.length - (intOf i).toNat)
  case atStart => exact ⟨0, Nat.zero_le _, rfl, rfl⟩
  case round =>
    obtain ⟨k, hk, rfl, rfl⟩ := hrel
    have hfl := flat_le ls k
    rw [HF.out] at hfl
    by_cases hlt : k < ls.length
    · obtain ⟨b, o, B, c, rfl, _, hc, hx, _, _⟩ := HA.out k ls[k] (List.getElem?_eq_getElem hlt)
      have HL := hid (flat_len hlt)
      have hfl2 := flat_le ls (k + 1)
      rw [HL.out, HF.out] at hfl2
      generalize ls[k] = l at *
      generalize (ls.take k).flatten.length = m at *
      go_wp2
      go_round
      case rel => exact ⟨k + 1, by omega, by go_num, by rw [HL.out]; go_num⟩
      case measure => simp only [intOf]; omega
    · have HE : Hid ((ls.take k).flatten.length = N) := hid (by rw [List.take_of_length_le (by omega)]; exact HF.out)
      generalize (ls.take k).flatten.length = m at *
      obtain rfl := HE.out
      clear hfl HE
      go_wp2_with (go_at_call 157; ((with_reducible refine (grow_nil _ _ h0 hn).mono ?_); rintro e w1 ⟨v, rfl, hown1, hb1⟩))
      have HO := hid hown1
      have HB := hid hb1
      clear hown1 hb1
      go_loopw [6, 27] (fun v i wr => JoinRel ls w v i wr) (fun _ i _ => ls.length - (intOf i).toNat)
      case atStart => exact ⟨0, Nat.zero_le _, rfl, HO.out, HB.out⟩
      case round =>
        obtain ⟨j, hj, rfl, hown, hb⟩ := hrel
        have hfl := flat_le ls j
        rw [HF.out] at hfl
        have hsz := hb.size
        by_cases hlt2 : j < ls.length
        · obtain ⟨b, o, B, c, rfl, hbl, hc, hx, _, hs⟩ := HA.out j ls[j] (List.getElem?_eq_getElem hlt2)
          have hc2 := (hb.cell (by exact hbl)).trans hc
          have hcn : Hid (B = none → c = 0) := hid (HN.out j b o B _ c hlt2 rfl hc)
          have HS := hid (hs.below hb)
          have hfl2 := flat_le ls (j + 1)
          rw [flat_len hlt2, HF.out] at hfl2
          have HJ := hid (fun (w1 : World) (v' : Value) => join_step (w1 := w1) (v' := v') hlt2 hown hb)
          have HW := hid hown
          clear hc hs hown hb
          generalize (ls.take j).flatten.length = q at *
          generalize (ls.take j).flatten = F at *
          generalize ls[j] = l at *
          go_wp2_with (at_builtin; refine wpList_append_sees rfl (.tmp 31) (.tmp 32) 22 rfl w.heap.size 5 i0 (.int .u8 0) 1 Tryz.underlying22 hi hz0 hz1 hz2 rfl _ _ _ rfl HW.out .u8 B c l rfl hcn.out HS.out (by unfold maxLen; omega) (by omega) hsz ?_; intro v' w2 hown2 hg2)
          have R := hid (HJ.out _ _ hown2 hg2)
          clear hown2 hg2
          go_wp2
          go_roundw
          case rel => exact R.out
          case measure => simp only [intOf]; omega
        · go_wp2
          go_ret
          have e : ls.take j = ls := List.take_of_length_le (by omega)
          rw [e] at hown
          exact ⟨_, rfl, hown, hb⟩
end Go.Proofs.YtohffiehmmcgbaaGreatDoor
namespace Go.Proofs.YtohffiehmmcgbaaGreatDoor
open Go.RowKit
def BytesRelS (V n base : Nat) (w : World) (v i : Value) (wr : World) : Prop :=
  (∃ (k m : Nat) (tail : List Nat), i = .int .i64 (k : Int) ∧ k < n ∧ v = .int .u64 (m : Int) ∧ m < 18446744073709551616 ∧ tail.length + (k + 1) = n ∧ bytesN m (k + 1) ++ tail = bytesN V n ∧
    wr.ownsRow base 5 1 (.slice (some ⟨base, 0, none⟩) n n) n ((List.replicate (k + 1) 0 ++ tail).map bv) ∧ Below base w wr) ∨
  (i = .int .i64 (-1) ∧ wr.ownsRow base 5 1 (.slice (some ⟨base, 0, none⟩) n n) n ((bytesN V n).map bv) ∧ Below base w wr)
theorem bytes_stepS {V n base k m : Nat} {tail : List Nat} {w wr : World} {x a i : Int} (hk : k < n) (hm : m < 18446744073709551616) (hlen : tail.length + (k + 1) = n) (heq : bytesN m (k + 1) ++ tail = bytesN V n)
    (hown : wr.ownsRow base 5 1 (.slice (some ⟨base, 0, none⟩) n n) n ((List.replicate (k + 1) 0 ++ tail).map bv)) (hb : Below base w wr) (hx : x = (m : Int) % 256) (ha : a = (m : Int) / 256) (hi : i = (k : Int) - 1) :
    BytesRelS V n base w (.int .u64 a) (.int .i64 i) (wr.setCell ⟨base, k, none⟩ (.int .u8 x)) := by
  subst hx; subst ha; subst hi
  have hs := (hown.stored k (.int .u8 ((m : Int) % 256))).1
  have ev : (Value.int .u8 ((m : Int) % 256)) = bv (m % 256) := by unfold bv; congr 1
  rw [ev] at hs ⊢
  rw [← List.map_set, replicate_set] at hs
  have hb' : Below base w (wr.setCell ⟨base, k, none⟩ (bv (m % 256))) := hb.setCell (Nat.le_refl _) _
  rw [bytesN, List.append_assoc, List.singleton_append] at heq
  cases k with
  | zero =>
    right
    refine ⟨by simp, ?_, hb'⟩
    rw [← heq]
    simpa [bytesN] using hs
  | succ k =>
    left
    refine ⟨k, m / 256, m % 256 :: tail, ?_, by omega, by congr 1, by omega, by simp; omega, heq, hs, hb'⟩
    congr 1
    omega
theorem zeros_of_madeS (n : Nat) : (madeCells (Value.int .u8 0).cells (n * 1)).toList = (List.replicate n 0).map bv := by
  rw [Nat.mul_one, show (Value.int IntKind.u8 0).cells = #[.int .u8 0] from rfl, toList_madeCells_one, List.map_replicate]
  rfl
theorem bytes_startS {V n : Nat} {w w1 : World} (hV : V < 18446744073709551616) (h : w1.ownsRow w.heap.size 5 1 (.slice (some ⟨w.heap.size, 0, none⟩) n n) n (madeCells (Value.int .u8 0).cells (n * 1)).toList) (hg : w.grownBy w1 none) :
    BytesRelS V n w.heap.size w (.int .u64 (V : Int)) (.int .i64 ((n : Int) - 1)) w1 := by
  have hb : Below w.heap.size w w1 := (Below.refl _ _).grown hg (Nat.le_refl _) (by intro k hk; cases hk)
  rw [zeros_of_madeS] at h
  cases n with
  | zero => right; exact ⟨by simp, by simpa [bytesN] using h, hb⟩
  | succ n =>
    left
    refine ⟨n, V, [], ?_, by omega, rfl, hV, by simp, by simp, by simpa using h, hb⟩
    congr 1
    omega
set_option maxRecDepth 100000 in
set_option maxHeartbeats 400000 in
theorem bytes4_any (V : Nat) (w : World) (hV : V < 18446744073709551616) :
    Calls Tryz.prog 158 #[.int .u64 V, .int .i64 4] w (fun e w' => e = .returned (.slice (some ⟨w.heap.size, 0, none⟩) 4 4) ∧ w'.ownsRow w.heap.size 5 1 (.slice (some ⟨w.heap.size, 0, none⟩) 4 4) 4 ((bytesN V 4).map bv) ∧ Below w.heap.size w w') := by
  obtain ⟨i0, hi, hz0, hz1, hz2⟩ := info_parts info_u8
  have HV := hid hV
  clear hV
  go_enter Tryz.func158, Tryz.ntmps158
  go_wp2_with (at_make; refine wpList_make_full _ rfl _ _ 22 rfl w.heap.size 5 i0 (.int .u8 0) 1 Tryz.underlying22 hi hz0 hz1 .i64 .i64 _ _ 4 rfl rfl (by omega) (by omega) (by rw [hz2]; omega) (by unfold maxLen; omega) (Nat.le_refl _) ?_; intro w1 hown hg)
  have HR := hid (bytes_startS HV.out hown hg)
  clear hown hg
  go_loopw [0, 6] (fun v i wr => BytesRelS V 4 w.heap.size w v i wr) (fun _ i _ => (intOf i + 1).toNat)
  case atStart => exact HR.out
  case round =>
    rcases hrel with ⟨k, m, tail, rfl, hk, rfl, hm, hlen, heq, hown, hb⟩ | ⟨rfl, hown, hb⟩
    · have HS := hid (bytes_stepS hk hm hlen heq hown hb rfl rfl rfl)
      obtain ⟨u, hc⟩ : ∃ u, wr.cell? ⟨w.heap.size, k, none⟩ = some u := ⟨_, (hown.cellAt k (by omega)).trans (List.getElem?_eq_getElem (by simp; omega))⟩
      have hf := hown.frozenAt k
      have hmI : (m : Int) ≤ 18446744073709551615 := by omega
      clear heq hown hm
      go_wp2
      go_roundw
      case rel => exact HS.out
      case measure => simp only [intOf]; omega
    · go_wp2
      go_ret
      exact ⟨rfl, hown, hb⟩
theorem own4 {g base x0 x1 x2 x3 : Nat} {w : World} (h : w.ownsRow base 5 1 (.slice (some ⟨g, 0, none⟩) 4 4) 4 ([x0, x1, x2, x3].map bv)) :
    (w.cell? ⟨g, 0, none⟩ = some (.int .u8 (x0 : Int)) ∧ w.cell? ⟨g, 1, none⟩ = some (.int .u8 (x1 : Int)) ∧ w.cell? ⟨g, 2, none⟩ = some (.int .u8 (x2 : Int)) ∧ w.cell? ⟨g, 3, none⟩ = some (.int .u8 (x3 : Int))) ∧
    w.frozen? ⟨g, 0, none⟩ = false ∧ w.frozen? ⟨g, 1, none⟩ = false ∧ w.frozen? ⟨g, 2, none⟩ = false ∧ w.frozen? ⟨g, 3, none⟩ = false :=
  ⟨⟨h.cellAt 0 (by omega), h.cellAt 1 (by omega), h.cellAt 2 (by omega), h.cellAt 3 (by omega)⟩, h.frozenAt 0, h.frozenAt 1, h.frozenAt 2, h.frozenAt 3⟩
theorem swap03 {g base x0 x1 x2 x3 : Nat} {w : World} (hbase : base ≤ g) (h : w.ownsRow base 5 1 (.slice (some ⟨g, 0, none⟩) 4 4) 4 ([x0, x1, x2, x3].map bv)) :
    ((w.setCell ⟨g, 0, none⟩ (bv x3)).setCell ⟨g, 3, none⟩ (bv x0)).drew.ownsRow base 5 1 (.slice (some ⟨g, 0, none⟩) 4 4) 4 ([x3, x1, x2, x0].map bv) ∧ Below base w ((w.setCell ⟨g, 0, none⟩ (bv x3)).setCell ⟨g, 3, none⟩ (bv x0)).drew :=
  ⟨((h.stored 0 (bv x3)).1.stored 3 (bv x0)).1.drew, below_drew (((Below.refl _ _).setCell (by exact hbase) _).setCell (by exact hbase) _)⟩
theorem swap12 {g base x0 x1 x2 x3 : Nat} {w : World} (hbase : base ≤ g) (h : w.ownsRow base 5 1 (.slice (some ⟨g, 0, none⟩) 4 4) 4 ([x0, x1, x2, x3].map bv)) :
    ((w.setCell ⟨g, 1, none⟩ (bv x2)).setCell ⟨g, 2, none⟩ (bv x1)).drew.ownsRow base 5 1 (.slice (some ⟨g, 0, none⟩) 4 4) 4 ([x0, x2, x1, x3].map bv) ∧ Below base w ((w.setCell ⟨g, 1, none⟩ (bv x2)).setCell ⟨g, 2, none⟩ (bv x1)).drew :=
  ⟨((h.stored 1 (bv x2)).1.stored 2 (bv x1)).1.drew, below_drew (((Below.refl _ _).setCell (by exact hbase) _).setCell (by exact hbase) _)⟩
set_option maxRecDepth 100000 in
set_option maxHeartbeats 400000 in
theorem reverse4_any (g base : Nat) (x0 x1 x2 x3 : Nat) (w : World) (hbase : base ≤ g) (hown : w.ownsRow base 5 1 (.slice (some ⟨g, 0, none⟩) 4 4) 4 ([x0, x1, x2, x3].map bv)) :
    Calls Tryz.prog 160 #[.slice (some ⟨g, 0, none⟩) 4 4] w (fun e w' => e = .returned (.tuple #[]) ∧ w'.ownsRow base 5 1 (.slice (some ⟨g, 0, none⟩) 4 4) 4 ([x3, x2, x1, x0].map bv) ∧ Below base w w') := by
  obtain ⟨⟨c0, c1, c2, c3⟩, f0, f1, f2, f3⟩ := own4 hown
  have HO := hid (swap03 hbase hown)
  clear hown
  go_enter Tryz.func160, Tryz.ntmps160
  go_wp2
  refine wp_loop_rounds 3 ?_
  rw [rounds_succ]
  go_wp2
  go_region
  have HO2 := HO.out
  unfold bv at HO2
  generalize ((w.setCell ⟨g, 0, none⟩ (.int .u8 (x3 : Int))).setCell ⟨g, 3, none⟩ (.int .u8 (x0 : Int))).drew = w2 at *
  obtain ⟨hown2, hb2⟩ := HO2
  clear c0 c1 c2 c3 f0 f1 f2 f3 HO
  obtain ⟨⟨c0, c1, c2, c3⟩, f0, f1, f2, f3⟩ := own4 hown2
  have HP := hid (swap12 hbase hown2)
  have HB := hid hb2
  clear hown2 hb2
  go_wp2
  rw [rounds_succ]
  go_wp2
  go_region
  have HP2 := HP.out
  unfold bv at HP2
  generalize ((w2.setCell ⟨g, 1, none⟩ (.int .u8 (x2 : Int))).setCell ⟨g, 2, none⟩ (.int .u8 (x1 : Int))).drew = w3 at *
  have HQ := hid HP2
  clear HP2 HP c0 c1 c2 c3 f0 f1 f2 f3
  go_wp2
  rw [rounds_succ]
  go_wp2
  go_end0
  exact ⟨rfl, HQ.out.1, HB.out.trans HQ.out.2⟩
theorem own_low {w : World} {base base' n : Nat} {e : TypeId} {v : Value} {xs : List Value} (h : w.ownsRow base e 1 v n xs) (hb : base' ≤ base) : w.ownsRow base' e 1 v n xs := by
  refine ⟨h.1, ?_⟩
  rcases h.2 with h2 | ⟨g, cap, cur, h3, h4, h5⟩
  · exact .inl h2
  · exact .inr ⟨g, cap, cur, h3, Nat.le_trans hb h4, h5⟩
def le4 (y : Nat) : List Nat := [y % 256, y / 256 % 256, y / 256 / 256 % 256, y / 256 / 256 / 256 % 256]
theorem bytesN_4 (y : Nat) : bytesN y 4 = [y / 256 / 256 / 256 % 256, y / 256 / 256 % 256, y / 256 % 256, y % 256] := by simp [bytesN]
theorem le4_byte (y : Nat) : ∀ x ∈ le4 y, x < 256 := by
  intro x hx
  simp [le4] at hx
  omega
def Four (V g : Nat) (w w' : World) : Prop := w'.ownsRow g 5 1 (.slice (some ⟨g, 0, none⟩) 4 4) 4 ((bytesN V 4).map bv) ∧ Below g w w'
theorem bytes4_hid (V g : Nat) (w : World) (hg : w.heap.size = g) (hV : V < 18446744073709551616) :
    Calls Tryz.prog 158 #[.int .u64 V, .int .i64 4] w (fun e w' => e = .returned (.slice (some ⟨g, 0, none⟩) 4 4) ∧ Four V g w w') := by
  subst hg
  exact (bytes4_any V w hV).mono fun _ _ ⟨h1, h2, h3⟩ => ⟨h1, h2, h3⟩
theorem own4_of {V g : Nat} {w w' : World} (h : Four V g w w') : w'.ownsRow g 5 1 (.slice (some ⟨g, 0, none⟩) 4 4) 4 ([V / 256 / 256 / 256 % 256, V / 256 / 256 % 256, V / 256 % 256, V % 256].map bv) ∧ Below g w w' := by
  have h1 := h.1
  rw [bytesN_4] at h1
  exact ⟨h1, h.2⟩
set_option maxRecDepth 100000 in
set_option maxHeartbeats 400000 in
theorem tail_any (A : Option Addr) (l : List Nat) (n c : Nat) (w : World) (hn : l.length = n) (hl : n ≤ 9223372036854775807) (h8 : ∀ x ∈ l, x < 256) (hA : Sees .u8 w A l) :
    Calls Tryz.prog 125 #[.slice A n c] w (Makes (le4 (crcOf l)) w) := by
  have HA := hid hA
  have H8 := hid h8
  have HN := hid hn
  have hlt := crcOf_lt l
  clear hA h8 hn
  go_enter Tryz.func125, Tryz.ntmps125
  go_wp2_with (first
    | (go_at_call 159; ((with_reducible refine (of_made w A l n c 1 HN.out hl H8.out HA.out).mono ?_); rintro e w' ⟨rfl, rfl⟩))
    | (go_at_call 158; ((with_reducible refine (bytes4_hid (crcOf l) (w.heap.size + 1) _ (by simp) (by omega)).mono ?_); rintro e w2 ⟨rfl, H2⟩; have H3 := hid (own4_of H2)))
    | (go_at_call 160; ((with_reducible refine (reverse4_any (w.heap.size + 1) (w.heap.size + 1) _ _ _ _ w2 (Nat.le_refl _) H3.out.1).mono ?_); rintro e w3 ⟨rfl, hown3, hb3⟩)))
  go_ret
  have hb1 : Below w.heap.size w (w.alloc (.cells #[.slice A n c] 22)) := (Below.refl _ _).alloc (Nat.le_refl _) _
  exact ⟨_, rfl, own_low hown3 (by omega), hb1.trans ((H3.out.2.trans hb3).mono (by omega))⟩
end Go.Proofs.YtohffiehmmcgbaaGreatDoor
namespace Go.Proofs.YtohffiehmmcgbaaGreatDoor
open Go.RowKit
def sameB (a b : List Nat) : Bool := (strN a).toList == (strN b).toList
theorem sameB_yes (a : List Nat) : sameB a a = true := by unfold sameB; simp
set_option maxRecDepth 100000 in
set_option maxHeartbeats 400000 in
theorem equal_any (A B : Option Addr) (a b : List Nat) (n m ca cb : Nat) (w : World) (hn : a.length = n) (hm : b.length = m) (hA : Sees .u8 w A a) (hB : Sees .u8 w B b) :
    Calls Tryz.prog 129 #[.slice A n ca, .slice B m cb] w fun e w' => e = .returned (.bool (sameB a b)) ∧ w = w' := by
  have h1 := sees_convert hA hn ca
  have h2 := sees_convert hB hm cb
  have HS : Hid (sameB a b = ((strN a).toList == (strN b).toList)) := hid rfl
  clear hA hB hn hm
  generalize strN a = s at *
  generalize strN b = t at *
  go_enter Tryz.func129, Tryz.ntmps129
  go_wp2
  go_ret
  exact ⟨by rw [HS.out]; rfl, rfl⟩
theorem concat_two (W : World) (A1 A2 : Option Addr) (l1 l2 : List Nat) (n1 n2 c1 c2 : Nat) (e1 : l1.length = n1) (e2 : l2.length = n2) (h0 : 0 < n1 + n2) (hn : n1 + n2 ≤ 140737488355328) (k1 : A1 = none → c1 = 0) (k2 : A2 = none → c2 = 0)
    (x1 : ∀ x ∈ l1, x < 256) (x2 : ∀ x ∈ l2, x < 256) (s1 : Sees .u8 W A1 l1) (s2 : Sees .u8 W A2 l2) :
    Calls Tryz.prog 124 #[.slice (some ⟨W.heap.size, 0, none⟩) 2 2] (W.alloc (.cells #[.slice A1 n1 c1, .slice A2 n2 c2] 22)) (Makes (l1 ++ l2) (W.alloc (.cells #[.slice A1 n1 c1, .slice A2 n2 c2] 22))) := by
  subst e1
  subst e2
  have h := heap_alloc_new W (.cells #[.slice A1 l1.length c1, .slice A2 l2.length c2] 22)
  have hc := fun i => cell_of_row _ W.heap.size i #[.slice A1 l1.length c1, .slice A2 l2.length c2] 22 (0, 0) h
  have hs : SeesRows (W.alloc (.cells #[.slice A1 l1.length c1, .slice A2 l2.length c2] 22)) (some ⟨W.heap.size, 0, none⟩) [l1, l2] := by
    intro j l hj
    match j, hj with
    | 0, hj =>
      simp at hj
      subst hj
      exact ⟨W.heap.size, 0, A1, c1, rfl, by simp, hc 0, by omega, x1, s1.alloc_ _⟩
    | 1, hj =>
      simp at hj
      subst hj
      exact ⟨W.heap.size, 0, A2, c2, rfl, by simp, hc 1, by omega, x2, s2.alloc_ _⟩
  have hb : NilBare (W.alloc (.cells #[.slice A1 l1.length c1, .slice A2 l2.length c2] 22)) (some ⟨W.heap.size, 0, none⟩) [l1, l2].length := by
    intro j b o B n c hj he hcell hB
    injection he with he
    injection he with he1 he2
    subst he1; subst he2
    rw [Nat.zero_add, hc j] at hcell
    match j, hj with
    | 0, _ =>
      simp at hcell
      obtain ⟨rfl, rfl, rfl⟩ := hcell
      exact k1 hB
    | 1, _ =>
      simp at hcell
      obtain ⟨rfl, rfl, rfl⟩ := hcell
      exact k2 hB
  have r := concat_any (some ⟨W.heap.size, 0, none⟩) [l1, l2] 2 (l1.length + l2.length) _ (by simp) (by simp) h0 hn hs hb
  simpa using r
def sealed (l : List Nat) : List Nat := l ++ le4 (crcOf l)
theorem le4_len (y : Nat) : (le4 y).length = 4 := rfl
theorem sealed_len (l : List Nat) : (sealed l).length = l.length + 4 := by unfold sealed; rw [List.length_append, le4_len]
set_option maxRecDepth 100000 in
set_option maxHeartbeats 400000 in
theorem seal_any (A : Option Addr) (l : List Nat) (n c : Nat) (w : World) (hn : l.length = n) (hl : n ≤ 140737488351232) (hA0 : A = none → c = 0) (h8 : ∀ x ∈ l, x < 256) (hA : Sees .u8 w A l) :
    Calls Tryz.prog 70 #[.slice A n c] w (Makes (sealed l) w) := by
  have HA := hid hA
  have H8 := hid h8
  have HN := hid hn
  have H0 := hid hA0
  clear hA h8 hn hA0
  go_enter Tryz.func70, Tryz.ntmps70
  go_wp2_with (first
    | (go_at_call 125; ((with_reducible refine (tail_any A l n c w HN.out (by omega) H8.out HA.out).mono ?_); rintro e w1 hm; obtain ⟨A2, c2, rfl, hk2, _, hs2, hb1⟩ := hm.hands; have HK := hid hk2; have HS := hid hs2; have HB := hid hb1; clear hk2 hs2 hb1 hm; rw [le4_len]))
    | (go_at_call 124; ((with_reducible refine (concat_two w1 A A2 l (le4 (crcOf l)) n 4 c c2 HN.out rfl (by omega) (by omega) H0.out HK.out H8.out (le4_byte _) (HA.out.below HB.out) HS.out).mono ?_); rintro e w2 hm; obtain ⟨s, rfl, hown, hb2⟩ := hm)))
  go_ret
  have z := HB.out.size
  refine ⟨_, rfl, own_low hown (by simp; omega), HB.out.trans ?_⟩
  exact ((Below.refl _ _).alloc z _).trans (hb2.mono (by simp; omega))
def Opens (l : List Nat) (n : Nat) (w : World) (e : Ending) (w' : World) : Prop :=
  ∃ A cap, e = .returned (.tuple #[.slice A n cap, .int .i64 0]) ∧ (A = none → cap = 0) ∧ Sees .u8 w' A l ∧ Below w.heap.size w w'
set_option maxRecDepth 100000 in
set_option maxHeartbeats 400000 in
theorem open_ok (b o : Nat) (p t : List Nat) (n c : Nat) (w : World) (hp : p.length = n) (ht : t.length = 4) (hn : n ≤ 140737488351232) (hc : n + 4 ≤ c) (xp : ∀ x ∈ p, x < 256) (hA : Sees .u8 w (some ⟨b, o, none⟩) (p ++ t)) (hs : t = le4 (crcOf p)) :
    Calls Tryz.prog 76 #[.slice (some ⟨b, o, none⟩) (n + 4) c] w (Opens p n w) := by
  have SP : Hid (Sees .u8 w (some ⟨b, o, none⟩) p) := hid (by have := hA.take n; rwa [List.take_left' hp] at this)
  have ST : Hid (Sees .u8 w (some ⟨b, o + n, none⟩) t) := hid (by have := hA.rest (i := n) rfl; rwa [List.drop_left' hp] at this)
  have HP := hid hp
  have HT := hid ht
  have XP := hid xp
  have HY : Hid (sameB t (le4 (crcOf p)) = true) := hid (by rw [hs]; exact sameB_yes _)
  clear hA hp ht xp hs
  have hc1 : ¬ c = n := by omega
  have hc2 : (n : Int) ≤ (c : Int) := by omega
  have hc3 : (n : Int) + 4 ≤ (c : Int) := by omega
  have hc4 : (0 : Int) ≤ (n : Int) := by omega
  have hc5 : (n : Int) ≤ (n : Int) + 4 := by omega
  go_enter Tryz.func76, Tryz.ntmps76
  go_wp2_with fail
  go_region_held3 (fun _ => True) (exact trivial) (first
    | (go_at_call 125; ((with_reducible refine (tail_any (some ⟨b, o, none⟩) p n c _ HP.out (by omega) XP.out SP.out.drew_).mono ?_); rintro e w1 hm; obtain ⟨A2, c2, rfl, hk2, _, hs2, hb1⟩ := hm.hands; have HS := hid hs2; have HB := hid hb1; clear hk2 hs2 hb1 hm; rw [le4_len]))
    | (go_at_call 129; ((with_reducible refine (equal_any (some ⟨b, o + n, none⟩) A2 t (le4 (crcOf p)) 4 4 (c - n) c2 w1 HT.out rfl (ST.out.drew_.below HB.out) HS.out).mono ?_); rintro e w' ⟨rfl, rfl⟩; rw [HY.out])))
  have SQ := hid (SP.out.drew_.below HB.out)
  have BQ := hid ((below_drew (Below.refl w.heap.size w)).trans HB.out)
  clear SP ST HB HS HY
  go_wp2_with (go_at_call 89; ((with_reducible refine (clone_some b o p n c w1 HP.out (by omega) SQ.out).mono ?_); rintro e w2 hm; obtain ⟨A3, c3, rfl, hk3, _, hs3, hb3⟩ := hm.hands; have HS3 := hid hs3; have HK3 := hid hk3; have HB3 := hid hb3; clear hk3 hs3 hb3 hm; rw [HP.out]))
  go_ret2
  exact ⟨A3, c3, rfl, HK3.out, HS3.out, BQ.out.trans (HB3.out.mono BQ.out.size)⟩
end Go.Proofs.YtohffiehmmcgbaaGreatDoor
