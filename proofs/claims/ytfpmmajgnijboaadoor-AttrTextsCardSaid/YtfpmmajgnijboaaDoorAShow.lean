/-
  Contracts of attributes' text (package attr, and the law's own): strings.Cut at one byte, number, guess, strings.Join, Show, digits, text.
-/
import Derived.Test.YtfpmmajgnijboaaDoorAEq
import Derived.Test.YtfpmmajgnijboaaDoorAText
import Derived.Test.YtfpmmajgnijboaaDoorMShow
import Derived.Test.YtfpmmajgnijboaaDoorVals
import Derived.OwnWalk
import Derived.RegionTactic
namespace Go.Proofs.YtfpmmajgnijboaaDoor
open Go.ChangeShapes Go.WideShapes Go.ChangeAt Go.RowKit Go.Lib
set_option linter.unusedVariables false
set_option linter.unusedSimpArgs false
attribute [local go_sem] Oper.semAt_some

/-- What a cut at the first byte of one kind tells. -/
def CutAtC (c : UInt8) (s : ByteArray) (w : World) (e : Ending) (w' : World) : Prop :=
  ∃ (a b : ByteArray) (f : Bool), e = .returned (.tuple #[.string a, .string b, .bool f]) ∧ cutC c (Sb s) = (Sb a, Sb b) ∧ Below w.heap.size w w'

theorem below_dN9 (w : World) (n : Nat) : Below w.heap.size w (w.drewN n) := ⟨rfl, rfl, rfl, Nat.le_refl _, fun _ _ => rfl⟩
theorem Sb_cut (s : ByteArray) (a b : Nat) : Sb (s.extract a b) = ((Sb s).drop a).take (b - a) := Lib.extract_data s a b
theorem Sb_tail (s : ByteArray) (a : Nat) : Sb (s.extract a s.size) = (Sb s).drop a := Lib.extract_to_end s a

set_option maxHeartbeats 2000000 in
set_option maxRecDepth 100000 in
theorem cutlite9 (c : UInt8) (s : ByteArray) (w : World) (hs : s.size ≤ 4611686018427387904) : Calls Tryd.prog 27 #[.string s, .string ⟨#[c]⟩] w (CutAtC c s w) := by
  rcases cutC_index c (Sb s) with ⟨h1, h2⟩ | ⟨k, h1, h2, h3⟩
  · have H := hid h2
    clear h2
    go_enter Tryd.func27, Tryd.ntmps27
    go_wp2_with (go_at_call 35; refine (Tryd.stringslite_Index_one s c _).mono ?_; rintro e w' ⟨rfl, rfl⟩; rw [show Lib.indexByte s.data.toList c = _ from h1])
    go_ret3
    exact ⟨s, ⟨#[]⟩, false, rfl, H.out, Below.refl _ _⟩
  · rw [Sb_length] at h2
    have H := hid h3
    have H1 := hid h1
    clear h3 h1
    have c1 : (0 : Int) ≤ ↑k := by omega
    have c2 : (↑k : Int) ≤ ↑s.size := by omega
    have c3 : (0 : Int) ≤ ↑k + 1 := by omega
    have c4 : (↑k + 1 : Int) ≤ ↑s.size := by omega
    go_enter Tryd.func27, Tryd.ntmps27
    go_wp2_with (go_at_call 35; refine (Tryd.stringslite_Index_one s c _).mono ?_; rintro e w' ⟨rfl, rfl⟩; rw [show Lib.indexByte s.data.toList c = _ from H1.out])
    go_region
    go_wp2
    go_ret3
    refine ⟨s.extract 0 k, s.extract (k + 1) s.size, true, rfl, ?_, below_dN9 _ 1⟩
    rw [Sb_tail, Sb_cut, H.out]; simp

set_option maxHeartbeats 1000000 in
theorem cut9 (c : UInt8) (s : ByteArray) (w : World) (hs : s.size ≤ 4611686018427387904) : Calls Tryd.prog 21 #[.string s, .string ⟨#[c]⟩] w (CutAtC c s w) := by
  go_enter Tryd.func21, Tryd.ntmps21
  go_wp2_with fail
  refine (cutlite9 c s _ hs).mono ?_
  rintro e w1 ⟨a, b, f, rfl, hc, hb⟩
  have H := hid hc
  have HB := hid hb
  clear hc hb
  go_wp2
  go_ret3
  exact ⟨a, b, f, rfl, H.out, HB.out⟩

/-- A number that is a text's, if it has one. -/
def Num (l : List UInt8) (w : World) (e : Ending) (w' : World) : Prop := ∃ v : Int, e = .returned (.int .i64 v) ∧ (∀ x, atoiAll l = .ok x → v = x) ∧ Below w.heap.size w w'

set_option maxRecDepth 100000 in
set_option maxHeartbeats 400000 in
theorem number_any (s : ByteArray) (w : World) (hs : s.size ≤ 281474976710656) (hL : Laid w) : Calls Tryd.prog 22 #[.string s] w (Num (Sb s) w) := by
  have HL := hid hL
  clear hL
  go_enter Tryd.func22, Tryd.ntmps22
  go_wp2_with fail
  with_reducible refine (atoi_any s _ hs HL.out).mono ?_
  rintro e w1 ⟨hb, ⟨v, hv, rfl⟩ | ⟨hv, v, N, rfl⟩⟩
  · have HB := hid hb
    have HV := hid hv
    clear hb hv
    go_wp2
    go_ret
    exact ⟨v, rfl, fun x hx => by rw [HV.out] at hx; injection hx, HB.out⟩
  · have HB := hid hb
    have HV := hid hv
    clear hb hv
    go_wp2
    go_ret
    exact ⟨v, rfl, fun x hx => absurd hx (HV.out x), HB.out⟩

/-- Attributes whose numbers are a text's, where it has such. -/
def Guessed (l : List UInt8) (w : World) (e : Ending) (w' : World) : Prop := ∃ V : Nat → Int, e = .returned (.agg #[.int .i64 (V 0), .int .i64 (V 1), .int .i64 (V 2), .int .i64 (V 3), .int .i64 (V 4), .int .i64 (V 5), .int .i64 (V 6), .int .i64 (V 7)]) ∧ Fits V l 8 ∧ Below w.heap.size w w'

theorem first_a (v : Int) : (#[.int .i64 v, .int .i64 0, .int .i64 0, .int .i64 0, .int .i64 0, .int .i64 0, .int .i64 0, .int .i64 0] : Array Value) = rowA (upd (fun _ => 0) 0 v) := rfl

set_option maxRecDepth 100000 in
set_option maxHeartbeats 2000000 in
theorem guess_any (s : ByteArray) (w : World) (hs : s.size ≤ 100000) (hL : Laid w) : Calls Tryd.prog 14 #[.string s] w (Guessed (Sb s) w) := by
  obtain ⟨l, hl⟩ : ∃ l, Sb s = l := ⟨_, rfl⟩
  have HS := hid hl
  have hll : l.length ≤ 100000 := by rw [← hl, Sb_length]; exact hs
  rw [hl]
  have HL := hid hL
  obtain ⟨k, hk⟩ : ∃ k, w.heap.size = k := ⟨_, rfl⟩
  have HK := hid hk
  clear hL hl
  go_enter Tryd.func14, Tryd.ntmps14
  go_upto_region 1 with fail
  obtain ⟨W, hW⟩ : ∃ W, w.alloc (.cells #[.int .i64 0, .int .i64 0, .int .i64 0, .int .i64 0, .int .i64 0, .int .i64 0, .int .i64 0, .int .i64 0] 24) = W := ⟨_, rfl⟩
  rw [hW]
  obtain ⟨K0, B0⟩ := one_new hW
  rw [zeros_row, hk] at K0
  have L0 := hid (HL.out.below B0.out)
  rw [hk] at B0
  clear hW hk
  go_wp2_with fail
  with_reducible refine (cut9 124 s _ (by omega)).mono ?_
  rintro e w1 ⟨x, r, b, rfl, hc, hb⟩
  rw [HS.out] at hc
  have hx : Sb x = pieceA l 0 := by unfold pieceA; rw [hc]
  have hr : Sb r = restA l 0 := by unfold restA; rw [hc]
  have hxs : x.size ≤ 100000 := by rw [← Sb_length, hx]; exact Nat.le_trans (pieceA_len l 0) hll
  have HX := hid hx
  have HR := hid hr
  have K1 := hid (K0.out.below hb K0.out.lt)
  have B1 := hid (B0.out.trans (hb.mono (by have := K0.out.lt; omega)))
  have L1 := hid (L0.out.below hb)
  clear hc hb hx hr K0 B0 L0
  go_wp2_with fail
  with_reducible refine (number_any x _ (by omega) L1.out).mono ?_
  rintro e w2 ⟨v, rfl, hv, hb⟩
  rw [HX.out] at hv
  have HV : Hid (Fits (upd (fun _ => 0) 0 v) l (0 + 1)) := hid (Fits.next (fun i hi => absurd hi (by omega)) hv)
  have K2 := hid (K1.out.below hb K1.out.lt)
  have B2 := hid (B1.out.trans (hb.mono (by have := K1.out.lt; omega)))
  have L2 := hid (L1.out.below hb)
  clear hv hb K1 B1 L1
  go_wp2_with fail
  obtain ⟨W3, hW3⟩ : ∃ W3, w2.alloc (.cells #[.int .i64 v, .int .i64 0, .int .i64 0, .int .i64 0, .int .i64 0, .int .i64 0, .int .i64 0, .int .i64 0] 24) = W3 := ⟨_, rfl⟩
  rw [hW3]
  obtain ⟨M3, hb⟩ := one_new hW3
  rw [first_a] at M3
  have hkm : k < w2.heap.size := K2.out.lt
  have K3 := hid (K2.out.below hb.out K2.out.lt)
  have B3 := hid (B2.out.trans (hb.out.mono (by omega)))
  have L3 := hid (L2.out.below hb.out)
  obtain ⟨m, hm⟩ : ∃ m, w2.heap.size = m := ⟨_, rfl⟩
  rw [hm] at M3 hkm ⊢
  clear hW3 hb hm K2 B2 L2
  go_loopw [4, 18] (fun rv iv wr => ∃ (j : Nat) (r : ByteArray) (F : Nat → Int), j ≤ 7 ∧ rv = .string r ∧ iv = .int .i64 j ∧ Hid (Sb r = restA l j) ∧ Hid (Fits F l (1 + j)) ∧ Hid (Blk wr k 24 (rowA fun _ => 0)) ∧ Hid (Blk wr m 24 (rowA F)) ∧ Hid (Below k w wr) ∧ Hid (Laid wr)) (fun _ iv _ => 7 - (RowKit.intOf iv).toNat)
  case atStart => exact ⟨0, r, _, by omega, rfl, rfl, HR, HV, K3, M3, B3, L3⟩
  case round =>
    obtain ⟨j, r, F, hj, rfl, rfl, HR, HF, K, M, B, LL⟩ := hrel
    have hrs : r.size ≤ 100000 := by rw [← Sb_length, HR.out]; exact Nat.le_trans (restA_len l j) hll
    by_cases hlt : j < 7
    · go_wp2_with fail
      with_reducible refine (cut9 44 r _ (by omega)).mono ?_
      rintro e w4 ⟨x, r2, b, rfl, hc, hb⟩
      rw [HR.out] at hc
      have hx : Sb x = pieceA l (1 + j) := by rw [Nat.add_comm]; show _ = (cutC 44 (restA l j)).1; rw [hc]
      have hr : Sb r2 = restA l (j + 1) := by show _ = (cutC 44 (restA l j)).2; rw [hc]
      have hxs : x.size ≤ 100000 := by rw [← Sb_length, hx]; exact Nat.le_trans (pieceA_len l _) hll
      have HX := hid hx
      have HR2 := hid hr
      have K4 := hid (K.out.below hb K.out.lt)
      have M4 := hid (M.out.below hb M.out.lt)
      have B4 := hid (B.out.trans (hb.mono (by have := K.out.lt; omega)))
      have L4 := hid (LL.out.below hb)
      clear hc hb hx hr K M B LL
      go_wp2_with fail
      with_reducible refine (number_any x _ (by omega) L4.out).mono ?_
      rintro e w5 ⟨v, rfl, hv, hb⟩
      rw [HX.out] at hv
      have HV : Hid (Fits (upd F (1 + j) v) l (1 + (j + 1))) := hid (HF.out.next hv)
      have K5 := hid (K4.out.below hb K4.out.lt)
      have M5 := hid (M4.out.below hb M4.out.lt)
      have B5 := hid (B4.out.trans (hb.mono (by have := K4.out.lt; omega)))
      have L5 := hid (L4.out.below hb)
      clear hv hb K4 M4 B4 L4
      have q0 := M5.out.att (i := 1 + j) (by omega)
      have q1 := M5.out.frozen (1 + j)
      have K6 := hid (K5.out.far (p := ⟨m, 1 + j, none⟩) (by simp <;> omega) (.int .i64 v))
      have M6 := hid (M5.out.attSet (1 + j) v)
      have B6 := hid (B5.out.setCell (p := ⟨m, 1 + j, none⟩) (by show k ≤ m; omega) (.int .i64 v))
      have L6 : Hid (Laid (w5.setCell ⟨m, 1 + j, none⟩ (.int .i64 v))) := hid (HL.out.below (by rw [HK.out]; exact B6.out))
      go_wp2
      go_roundw
      case rel => exact ⟨j + 1, r2, _, by omega, rfl, by go_num, HR2, HV, K6, M6, B6, L6⟩
      case measure => simp only [RowKit.intOf]; omega
    · obtain rfl : j = 7 := by omega
      have Z1 := hid (len_attr F)
      have Z2 := hid (size_zero F)
      have Z3 := hid (rowA_one F)
      go_wp2_with (first
        | (with_reducible refine wpList_load_row (o := ⟨some 33, _, _, _, _, _⟩) rfl 24 (.tmp 6) rfl m rfl 24 (rowA F) (0, 0) _ M.out.heap Tryd.underlying24 rfl Z1.out ?_)
        | (with_reducible refine wpList_store_row (o := ⟨none, _, _, _, _, _⟩) rfl 24 (.tmp 2) (.tmp 33) rfl k (rowA F) rfl rfl 24 _ K.out.heap Z1.out Z2.out Z3.out ?_))
      exact bodyPost_ret (v := .agg (rowA F)) (results_cell_row (p := 2) (ty := 24) (by kernel_rfl) _ _ k 24 (rowA F) (0, 0) _ rfl (setRow_heap wr k _ (rowA F) _ _ K.out.heap) Tryd.underlying24 rfl Z1.out) rfl ⟨F, rfl, HF.out, by rw [HK.out]; exact below_setRow_ B.out (Nat.le_refl _)⟩

/-- Strings' join with a comma. -/
theorem joinc_any (A : Option Addr) (n c : Nat) (xs : List ByteArray) (w : World) (hn : xs.length = n) (h0 : 0 < n) (hc : n ≤ c) (hl : n ≤ 1000) (hz : ∀ x ∈ xs, x.size ≤ 1000) (hv : Vals w A (strs xs)) :
    Calls Tryd.prog 13 #[.slice A n c, .string ⟨#[44]⟩] w (Says (join (xs.map Sb) [44]) w) := by
  subst hn
  obtain ⟨b, o, rfl, hb, _⟩ := strs_at hv h0
  have hle := join_len (xs.map Sb) 1000 (by intro x hx; obtain ⟨y, hy, rfl⟩ := List.mem_map.1 hx; rw [Sb_length]; exact hz y hy)
  rw [List.length_map] at hle
  have hm : xs.length * 1001 ≤ 1000 * 1001 := Nat.mul_le_mul_right _ hl
  refine (Tryd.strings_Join b o c xs ⟨#[44]⟩ w ?_ hb (by omega) hc ?_).mono ?_
  · intro j x hj
    obtain ⟨b', o', he, _, hcell⟩ := hv j (.string x) (by simp [strs, hj])
    injection he with he
    injection he with h1 h2
    subst h1; subst h2
    exact hcell
  · show (join (xs.map Sb) [44]).length ≤ _
    omega
  · rintro e w' ⟨rfl, hb⟩
    exact ⟨_, rfl, Sb_mk _, hb⟩

end Go.Proofs.YtfpmmajgnijboaaDoor
