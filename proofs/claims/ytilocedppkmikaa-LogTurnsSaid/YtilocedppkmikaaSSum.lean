/-
  The contracts of package sum's Of and of what it calls.
-/
import Derived.Test.YtilocedppkmikaaCrc
import Derived.Test.YtilocedppkmikaaBase
import Derived.WalkKit
import Derived.WalkSpells
import Derived.Lib.SlBytesConst
import Derived.WalkLawsBesides
namespace Go.Proofs.Ytilocedppkmikaa
open Go.RowKit

theorem crc_step_walk (s : Nat) (hs : s < 4294967296) :
    bits BinOp.xor IntKind.u32 ((s : Int) / 2) (bits BinOp.and IntKind.u32 3988292384 (-bits BinOp.and IntKind.u32 (s : Int) 1 % 4294967296)) = ((crcStep s : Nat) : Int) := by
  have ea : bits BinOp.and IntKind.u32 (s : Int) 1 = ((s % 2 : Nat) : Int) := by
    have := u32_and_nat s 1 hs (by omega)
    rw [nat_mask1] at this
    exact this
  have eh : (s : Int) / 2 = ((s / 2 : Nat) : Int) := by omega
  rw [ea, eh]
  unfold crcStep
  by_cases hp : s % 2 = 1
  · rw [if_pos hp, hp]
    have e0 : -((1 : Nat) : Int) % 4294967296 = ((4294967295 : Nat) : Int) := by omega
    have e1 : bits BinOp.and IntKind.u32 3988292384 ((4294967295 : Nat) : Int) = ((crcPoly : Nat) : Int) := u32_and_nat 3988292384 4294967295 (by omega) (by omega)
    rw [e0, e1]
    exact u32_xor_nat _ _ (by omega) (by decide)
  · have h0 : s % 2 = 0 := by omega
    rw [if_neg hp, h0]
    have e0 : -((0 : Nat) : Int) % 4294967296 = ((0 : Nat) : Int) := by omega
    have e1 : bits BinOp.and IntKind.u32 3988292384 ((0 : Nat) : Int) = ((0 : Nat) : Int) := u32_and_nat 3988292384 0 (by omega) (by omega)
    rw [e0, e1]
    exact u32_xor_nat _ _ (by omega) (by omega)

theorem crc_in_walk (s c : Nat) (hs : s < 4294967296) (hc : c < 256) : bits BinOp.xor IntKind.u32 (s : Int) (c : Int) = ((s ^^^ c : Nat) : Int) := u32_xor_nat s c hs (by omega)

theorem take_one {l : List Nat} {k : Nat} (h : k < l.length) : l[k] ∈ l := List.getElem_mem h

def BehindRel (s : Nat) (l : List Nat) (v i : Value) : Prop := ∃ k : Nat, k ≤ l.length ∧ i = .int .i64 (k : Int) ∧ v = .int .u32 (crcFold s (l.take k) : Int)
def RoundRel (t : Nat) (v i : Value) : Prop := ∃ k : Nat, k ≤ 8 ∧ i = .int .i64 (k : Int) ∧ v = .int .u32 (crcRounds k t : Int)

set_option maxRecDepth 100000 in
set_option maxHeartbeats 400000 in
theorem behind_any (s : Nat) (A : Option Addr) (l : List Nat) (ca : Nat) (w : World) (hs : s < 4294967296) (hl : l.length ≤ 9223372036854775807) (h8 : ∀ x ∈ l, x < 256) (hA : Sees .u8 w A l) :
    Calls Try.prog 34 #[.int .u32 s, .slice A l.length ca] w fun e w' => e = .returned (.int .u32 (crcFold s l)) ∧ w = w' := by
  have HA := hid hA
  have H8 := hid h8
  have HS := hid hs
  clear hA h8 hs
  go_enter Try.func34, Try.ntmps34
  go_wp2
  go_loop [0, 9] (fun v i => BehindRel s l v i) (fun _ i => l.length - (intOf i).toNat)
  case atStart => exact ⟨0, Nat.zero_le _, rfl, rfl⟩
  case round =>
    obtain ⟨k, hk, rfl, rfl⟩ := hrel
    by_cases hlt : k < l.length
    · obtain ⟨b, o, rfl, _, hc⟩ := HA.out k l[k] (List.getElem?_eq_getElem hlt)
      have HT := hid (crcFold_take s hlt)
      have hc8 := H8.out _ (take_one hlt)
      have hm : crcFold s (l.take k) < 4294967296 := crcFold_lt HS.out (fun x hx => H8.out x (List.mem_of_mem_take hx))
      have HX := hid (crc_in_walk _ _ hm hc8)
      have HL := hid (xor_lt32 hm (show l[k] < 4294967296 by omega))
      generalize crcFold s (l.take k) = m at *
      generalize l[k] = c at *
      go_wp2
      rw [HX.out]
      generalize ht : m ^^^ c = t at *
      have HY : Hid (crcByte m c = crcRounds 8 t) := hid (by rw [← ht]; rfl)
      clear ht
      go_loop [0, 17] (fun v i => RoundRel t v i) (fun _ i => 8 - (intOf i).toNat)
      case atStart => exact ⟨0, Nat.zero_le _, rfl, rfl⟩
      case round =>
        obtain ⟨j, hj, rfl, rfl⟩ := hrel
        have hr : crcRounds j t < 4294967296 := crcRounds_lt j HL.out
        have HW := hid (crc_step_walk _ hr)
        have HZ := hid (crcRounds_succ j t)
        have HE : Hid (¬ j < 8 → crcRounds 8 t = crcRounds j t) := hid (fun h => by rw [show j = 8 by omega])
        generalize crcRounds j t = q at *
        by_cases h8 : j < 8
        · go_wp2
          go_round
          case rel => exact ⟨j + 1, by omega, by go_num, by rw [HZ.out, ← HW.out]⟩
          case measure => simp only [intOf]; omega
        · go_wp2
          go_round
          case rel => exact ⟨k + 1, by omega, by go_num, by rw [HT.out, HY.out, HE.out h8]⟩
          case measure => simp only [intOf]; omega
    · go_wp2
      go_ret
      have e : l.take k = l := List.take_of_length_le (by omega)
      exact ⟨ret_num (by rw [e]), rfl⟩

/-- A slice of slices of bytes that reads as lists. -/
def SeesRows (w : World) (A : Option Addr) (ls : List (List Nat)) : Prop :=
  ∀ (j : Nat) (l : List Nat), ls[j]? = some l → ∃ b o B c, A = some ⟨b, o, none⟩ ∧ b < w.heap.size ∧ w.cell? ⟨b, o + j, none⟩ = some (.slice B l.length c) ∧ l.length ≤ 9223372036854775807 ∧ (∀ x ∈ l, x < 256) ∧ Sees .u8 w B l

theorem SeesRows.nil (w : World) (A : Option Addr) : SeesRows w A [] := fun j x h => by simp at h

theorem flatten_take {ls : List (List Nat)} {k : Nat} (h : k < ls.length) : (ls.take (k + 1)).flatten = (ls.take k).flatten ++ ls[k] := by
  rw [List.take_succ_eq_append_getElem h, List.flatten_append, List.flatten_singleton]

def OfRel (ls : List (List Nat)) (v i : Value) : Prop := ∃ k : Nat, k ≤ ls.length ∧ i = .int .i64 (k : Int) ∧ v = .int .u32 (crcFold 4294967295 (ls.take k).flatten : Int)

theorem of_step {ls : List (List Nat)} {k : Nat} (h : k < ls.length) : crcFold 4294967295 (ls.take (k + 1)).flatten = crcFold (crcFold 4294967295 (ls.take k).flatten) ls[k] := by
  rw [flatten_take h, crcFold_append]

theorem of_end {l : List Nat} (hl : ∀ x ∈ l, x < 256) : bits BinOp.xor IntKind.u32 IntKind.u32.max (crcFold 4294967295 l : Int) = (crcOf l : Int) := by
  rw [crcOf_xor hl]
  exact u32_xor_nat 4294967295 _ (by omega) (crcFold_lt (by decide) hl)

set_option maxRecDepth 100000 in
set_option maxHeartbeats 400000 in
theorem crcof_any (A : Option Addr) (ls : List (List Nat)) (ca : Nat) (w : World) (hl : ls.length ≤ 9223372036854775807) (hb : ∀ x ∈ ls.flatten, x < 256) (hA : SeesRows w A ls) :
    Calls Try.prog 30 #[.slice A ls.length ca] w fun e w' => e = .returned (.int .u32 (crcOf ls.flatten)) ∧ w = w' := by
  have HA := hid hA
  have HB := hid hb
  clear hA hb
  go_enter Try.func30, Try.ntmps30
  go_wp2
  go_loop [3, 8] (fun v i => OfRel ls v i) (fun _ i => ls.length - (intOf i).toNat)
  case atStart => exact ⟨0, Nat.zero_le _, rfl, rfl⟩
  case round =>
    obtain ⟨k, hk, rfl, rfl⟩ := hrel
    by_cases hlt : k < ls.length
    · obtain ⟨b, o, B, c, rfl, _, hc, hn, hx, hs⟩ := HA.out k ls[k] (List.getElem?_eq_getElem hlt)
      have HT := hid (of_step hlt)
      have HM : Hid (crcFold 4294967295 (ls.take k).flatten < 4294967296) := hid (crcFold_lt (by decide) (fun x hx => by
        obtain ⟨l, h1, h2⟩ := List.mem_flatten.1 hx
        exact HB.out x (List.mem_flatten.2 ⟨l, List.mem_of_mem_take h1, h2⟩)))
      have HX := hid hx
      have HS := hid hs
      clear hx hs
      generalize crcFold 4294967295 (ls.take k).flatten = m at *
      generalize ls[k] = l at *
      go_wp2_with (go_at_call 34; ((with_reducible refine (behind_any m B l c _ HM.out hn HX.out HS.out).mono ?_); rintro e w' ⟨rfl, rfl⟩))
      go_round
      case rel => exact ⟨k + 1, by omega, by go_num, by rw [HT.out]⟩
      case measure => simp only [intOf]; omega
    · go_wp2
      go_ret
      have e : ls.take k = ls := List.take_of_length_le (by omega)
      exact ⟨ret_num (by rw [e]; exact of_end HB.out), rfl⟩

/-- The nine letters of the document's example. -/
def nine : List Nat := [49, 50, 51, 52, 53, 54, 55, 56, 57]
theorem crc_nine : crcOf nine = 3421780262 := by decide +kernel
theorem crc_none : crcOf [] = 0 := by decide +kernel

/-- A slice of one slice. -/
theorem sees_row1 {w : World} {g : Nat} {B : Option Addr} {l : List Nat} {c : Nat} (hg : g < w.heap.size) (hc : w.cell? ⟨g, 0, none⟩ = some (.slice B l.length c)) (hn : l.length ≤ 9223372036854775807) (hx : ∀ x ∈ l, x < 256) (hs : Sees .u8 w B l) : SeesRows w (some ⟨g, 0, none⟩) [l] := by
  intro j l' hj
  match j, hj with
  | 0, hj =>
    simp at hj
    subst hj
    exact ⟨g, 0, B, c, rfl, hg, hc, hn, hx, hs⟩

theorem of_one (g : Nat) (B : Option Addr) (l : List Nat) (n c ca : Nat) (w : World) (hnn : l.length = n) (hg : g < w.heap.size) (hc : w.cell? ⟨g, 0, none⟩ = some (.slice B n c)) (hn : n ≤ 9223372036854775807) (hx : ∀ x ∈ l, x < 256) (hs : Sees .u8 w B l) :
    Calls Try.prog 30 #[.slice (some ⟨g, 0, none⟩) 1 ca] w fun e w' => e = .returned (.int .u32 (crcOf l)) ∧ w = w' := by
  subst hnn
  have h := crcof_any (some ⟨g, 0, none⟩) [l] ca w (by simp) (by simpa using hx) (sees_row1 hg hc hn hx hs)
  simpa using h

/-- The slice of one slice that has just been made, and a draw behind it. -/
theorem of_new (W : World) (B : Option Addr) (l : List Nat) (n c ca g : Nat) (hg : g = W.heap.size) (hnn : l.length = n) (hn : n ≤ 9223372036854775807) (hx : ∀ x ∈ l, x < 256) (hs : Sees .u8 W B l) :
    Calls Try.prog 30 #[.slice (some ⟨g, 0, none⟩) 1 ca] (W.alloc (.cells #[.slice B n c] 22)).drew fun e w' => e = .returned (.int .u32 (crcOf l)) ∧ (W.alloc (.cells #[.slice B n c] 22)).drew = w' := by
  subst hg
  have h := heap_alloc_new W (.cells #[.slice B n c] 22)
  exact of_one _ B l n c ca _ hnn (by simp) (cell_of_row (W.alloc (.cells #[.slice B n c] 22)) W.heap.size 0 #[.slice B n c] 22 (0, 0) h) hn hx ((hs.alloc_ _).drew_)

/-- The slice of one slice that has just been made. -/
theorem of_made (W : World) (B : Option Addr) (l : List Nat) (n c ca : Nat) (hnn : l.length = n) (hn : n ≤ 9223372036854775807) (hx : ∀ x ∈ l, x < 256) (hs : Sees .u8 W B l) :
    Calls Try.prog 30 #[.slice (some ⟨W.heap.size, 0, none⟩) 1 ca] (W.alloc (.cells #[.slice B n c] 22)) fun e w' => e = .returned (.int .u32 (crcOf l)) ∧ (W.alloc (.cells #[.slice B n c] 22)) = w' := by
  have h := heap_alloc_new W (.cells #[.slice B n c] 22)
  exact of_one _ B l n c ca _ hnn (by simp) (cell_of_row (W.alloc (.cells #[.slice B n c] 22)) W.heap.size 0 #[.slice B n c] 22 (0, 0) h) hn hx (hs.alloc_ _)

theorem of_none (w : World) : Calls Try.prog 30 #[.slice none 0 0] w fun e w' => e = .returned (.int .u32 0) ∧ w = w' := by
  have h := crcof_any none [] 0 w (by simp) (by simp) (SeesRows.nil _ _)
  simpa [crc_none] using h

theorem alloc2_old (w : World) (o1 o2 : Obj) : ((w.alloc o1).alloc o2).heap[w.heap.size]? = some o1 := by
  show ((w.heap.push o1).push o2)[w.heap.size]? = some o1
  simp [Array.getElem?_push]
theorem alloc2_new (w : World) (o1 : Obj) (v : Value) (E : TypeId) : ((w.alloc o1).alloc (.cells #[v] E)).cell? ⟨w.heap.size + 1, 0, none⟩ = some v := by
  have h : ((w.alloc o1).alloc (.cells #[v] E)).heap[w.heap.size + 1]? = some (.cells #[v] E (0, 0)) := by
    have := heap_alloc_new (w.alloc o1) (.cells #[v] E)
    simpa using this
  rw [cell_of_row _ _ _ _ _ _ h]
  rfl

theorem of_nine (g g' : Nat) (fz : Nat × Nat) (w : World) (hg' : g' < w.heap.size) (hc' : w.cell? ⟨g', 0, none⟩ = some (.slice (some ⟨g, 0, none⟩) 9 9)) (hg : w.heap[g]? = some (.cells #[.int .u8 49, .int .u8 50, .int .u8 51, .int .u8 52, .int .u8 53, .int .u8 54, .int .u8 55, .int .u8 56, .int .u8 57] 5 fz)) :
    Calls Try.prog 30 #[.slice (some ⟨g', 0, none⟩) 1 1] w fun e w' => e = .returned (.int .u32 3421780262) ∧ w = w' := by
  have hg : w.heap[g]? = some (.cells (nine.map bv).toArray 5 fz) := hg
  have hs : Sees .u8 w (some ⟨g, 0, none⟩) nine := by
    intro j x hj
    refine ⟨g, 0, rfl, (Array.getElem?_eq_some_iff.1 hg).1, ?_⟩
    rw [cell_of_row w g _ _ _ _ hg, Nat.zero_add]
    simp only [List.getElem?_toArray, List.getElem?_map, hj]
    rfl
  have h := of_one g' (some ⟨g, 0, none⟩) nine 9 9 1 w rfl hg' hc' (by omega) (by decide) hs
  rw [crc_nine] at h
  exact h

end Go.Proofs.Ytilocedppkmikaa
