/-
  Contracts of strings.Cut at one byte, read, kindOf, word (package cmd), and the law's digits.
-/
import Derived.Test.YtfdphcgfdodnoaaDoorKFmt
import Derived.Lib.Strings
import Derived.Lib.IndexBytes
import Derived.RegionTactic
import Derived.LoopTactic
namespace Go.Proofs.YtfdphcgfdodnoaaDoor
open Go.ChangeShapes Go.WideShapes Go.ChangeAt Go.RowKit Go.Lib
set_option linter.unusedVariables false
set_option linter.unusedSimpArgs false
attribute [local go_sem] Oper.semAt_some

/-- What a cut at the first byte of one kind tells. -/
def CutAtC (c : UInt8) (s : ByteArray) (w : World) (e : Ending) (w' : World) : Prop :=
  ∃ (a b : ByteArray) (f : Bool), e = .returned (.tuple #[.string a, .string b, .bool f]) ∧ cutC c (L s) = (L a, L b) ∧ Below w.heap.size w w'

theorem below_dN7 (w : World) (n : Nat) : Below w.heap.size w (w.drewN n) := ⟨rfl, rfl, rfl, Nat.le_refl _, fun _ _ => rfl⟩

set_option maxHeartbeats 2000000 in
set_option maxRecDepth 100000 in
theorem cutlite7 (c : UInt8) (s : ByteArray) (w : World) (hs : s.size ≤ 4611686018427387904) : Calls Tryd.prog 70 #[.string s, .string ⟨#[c]⟩] w (CutAtC c s w) := by
  rcases cutC_index c (L s) with ⟨h1, h2⟩ | ⟨k, h1, h2, h3⟩
  · have H := hid h2
    clear h2
    go_enter Tryd.func70, Tryd.ntmps70
    go_wp2_with (go_at_call 87; refine (Tryd.stringslite_Index_one s c _).mono ?_; rintro e w' ⟨rfl, rfl⟩; rw [show Lib.indexByte s.data.toList c = _ from h1])
    go_ret3
    exact ⟨s, ⟨#[]⟩, false, rfl, H.out, Below.refl _ _⟩
  · rw [L_length] at h2
    have H := hid h3
    have H1 := hid h1
    clear h3 h1
    have c1 : (0 : Int) ≤ ↑k := by omega
    have c2 : (↑k : Int) ≤ ↑s.size := by omega
    have c3 : (0 : Int) ≤ ↑k + 1 := by omega
    have c4 : (↑k + 1 : Int) ≤ ↑s.size := by omega
    go_enter Tryd.func70, Tryd.ntmps70
    go_wp2_with (go_at_call 87; refine (Tryd.stringslite_Index_one s c _).mono ?_; rintro e w' ⟨rfl, rfl⟩; rw [show Lib.indexByte s.data.toList c = _ from H1.out])
    go_region
    go_wp2
    go_ret3
    refine ⟨s.extract 0 k, s.extract (k + 1) s.size, true, rfl, ?_, below_dN7 _ 1⟩
    rw [L_rest, L_extract, H.out]; simp

set_option maxHeartbeats 1000000 in
theorem cut7 (c : UInt8) (s : ByteArray) (w : World) (hs : s.size ≤ 4611686018427387904) : Calls Tryd.prog 52 #[.string s, .string ⟨#[c]⟩] w (CutAtC c s w) := by
  go_enter Tryd.func52, Tryd.ntmps52
  go_wp2_with fail
  refine (cutlite7 c s _ hs).mono ?_
  rintro e w1 ⟨a, b, f, rfl, hc, hb⟩
  have H := hid hc
  have HB := hid hb
  clear hc hb
  go_wp2
  go_ret3
  exact ⟨a, b, f, rfl, H.out, HB.out⟩

set_option maxRecDepth 100000 in
set_option maxHeartbeats 1000000 in
theorem read7 (s : ByteArray) (w : World) (hs : s.size ≤ 281474976710656) (hL : Laid7 w) :
    Calls Tryd.prog 55 #[.string s] w fun e w' => e = .returned (.int .u64 (readL (L s) : Int)) ∧ Below w.heap.size w w' := by
  obtain ⟨_, _, _, ⟨t, p, h3⟩, t', p', h4⟩ := hL
  have key : Calls Tryd.prog 71 #[.string s, .int .i64 10, .int .i64 64] w fun e w' => (∃ z : Value, e = .returned (.tuple #[.int .u64 (readL (L s) : Int), z])) ∧ Below w.heap.size w w' := by
    rcases h : parseUintB 64 (L s) with v | _ | _
    · rw [show readL (L s) = v by unfold readL; rw [h]]
      refine (Tryd.strconv_ParseUint_10_at64_ok s (by omega) v h w).mono fun e w' ⟨he, hw⟩ => ⟨⟨_, he⟩, ?_⟩
      rcases hw with rfl | rfl
      · exact Below.refl _ _
      · exact bytesWorld_below _ _ _
    · rw [show readL (L s) = 0 by unfold readL; rw [h]]
      exact (Go.Proofs.Any.strconv_ParseUint_10_at64_syntax_var Tryd.laysPu14 s hs h t p w h3).mono fun e w' ⟨N, he, _, _, hw⟩ => ⟨⟨_, he⟩, hw⟩
    · rw [show readL (L s) = 18446744073709551615 by unfold readL; rw [h]]
      exact (Tryd.strconv_ParseUint_10_at64_range_var s hs h t' p' w h4).mono fun e w' ⟨N, he, _, _, hw⟩ => ⟨⟨_, he⟩, hw⟩
  have KEY := hid key
  clear h3 h4 key
  go_enter Tryd.func55, Tryd.ntmps55
  go_wp2_with fail
  refine KEY.out.mono ?_
  rintro e w1 ⟨⟨z, rfl⟩, hb⟩
  have HB := hid hb
  clear hb
  go_wp2
  go_ret
  exact ⟨rfl, HB.out⟩

set_option maxRecDepth 100000 in
set_option maxHeartbeats 400000 in
theorem word7 (n v : ByteArray) (w : World) (hn : n.size ≤ 1000) (hv : v.size ≤ 100000) : Calls Tryd.prog 32 #[.string n, .string v] w (TellsL (wordL (L n) (L v)) w) := by
  go_enter Tryd.func32, Tryd.ntmps32
  go_wp2
  go_ret
  exact ⟨_, rfl, by simp [L_append, wordL, L], Below.refl _ _⟩

theorem dec_len7 {v : Nat} (hv : v < 18446744073709551616) : (decDigits v).length ≤ 20 := by rw [decDigits_length]; exact nDigits_le20 v hv
theorem size_of_L {r : ByteArray} {l : List UInt8} {n : Nat} (h : L r = l) (hl : l.length ≤ n) : r.size ≤ n := by rw [← L_length, h]; exact hl
theorem wordL_len (n v : List UInt8) : (wordL n v).length = n.length + v.length + 2 := by simp [wordL]; omega
theorem gNames : Tryd.prog.globalNamed "moothill/cmd.names" = some 0 := by kernel_rfl
theorem names_cell {w : World} (h : NamesIs w) (k : Nat) (hk : k ≤ 8) : w.cell? ⟨0, k, none⟩ = some (.string (mk (nameL (k : Int)))) := by
  have h1 : w.cell? ⟨0, k, none⟩ = namesV[k]? := World.var?_cell gNames h k
  rw [h1]
  have : k = 0 ∨ k = 1 ∨ k = 2 ∨ k = 3 ∨ k = 4 ∨ k = 5 ∨ k = 6 ∨ k = 7 ∨ k = 8 := by omega
  rcases this with rfl | rfl | rfl | rfl | rfl | rfl | rfl | rfl | rfl <;> rfl
theorem name_len (k : Int) : (nameL k).length ≤ 7 := by
  unfold nameL
  repeat' split
  all_goals decide
theorem word_size {n v b : ByteArray} {i j k : Nat} (h : L b = wordL (L n) (L v)) (hn : n.size ≤ i) (hv : v.size ≤ j) (hk : i + j + 2 = k) : b.size ≤ k := by
  have h1 := congrArg List.length h
  rw [wordL_len, L_length, L_length, L_length] at h1
  omega
theorem L_num : L ⟨#[110, 117, 109]⟩ = nNum := rfl
theorem L_foot : L ⟨#[102, 111, 111, 116]⟩ = nFoot := rfl
theorem L_req : L ⟨#[114, 101, 113, 117, 101, 115, 116]⟩ = nReq := rfl
theorem L_path : L ⟨#[112, 97, 116, 104]⟩ = nPath := rfl
theorem L_mode : L ⟨#[109, 111, 100, 101]⟩ = nMode := rfl
theorem L_n : L ⟨#[110]⟩ = nN := rfl
theorem L_time : L ⟨#[116, 105, 109, 101]⟩ = nTime := rfl

end Go.Proofs.YtfdphcgfdodnoaaDoor
