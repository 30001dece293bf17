/-
  Contracts of two numbers' text (package mark): digits, pair, show, strings.Cut at a dot, strconv.Atoi, read.
-/
import Derived.Test.YtfpmmajgnijboaaDoorRows
import Derived.Test.YtfpmmajgnijboaaDoorMText
import Derived.Test.YtfpmmajgnijboaaDoorShelf
import Derived.Test.YtfpmmajgnijboaaDoorMWord
import Derived.Lib.Strings
import Derived.Lib.IndexBytes
import Derived.RegionTactic
import Derived.LaidEql
namespace Go.Proofs.YtfpmmajgnijboaaDoor
open Go.ChangeShapes Go.WideShapes Go.ChangeAt Go.RowKit Go.Lib
attribute [local go_sem] Oper.semAt_some

theorem var_below {P : Program} {w w' : World} {n : String} {cs : Array Value} (h : w.var? P n = some cs) (hb : Below w.heap.size w w') : w'.var? P n = some cs := by
  unfold World.var? at h ⊢
  cases hg : P.globalNamed n with
  | none => rw [hg] at h; cases h
  | some g =>
    rw [hg] at h
    simp only [Option.bind_some] at h ⊢
    rcases Nat.lt_or_ge g w.heap.size with hlt | hge
    · rw [hb.block g hlt]; exact h
    · rw [Array.getElem?_eq_none hge] at h; cases h

/-- What the library's variables hold. -/
def Laid (w : World) : Prop :=
  TabIs Tryd.prog w "internal/strconv.uint64pow10" .u64 pow10Tab ∧ (∃ t p, w.var? Tryd.prog "strconv.ErrSyntax" = some #[.iface t p]) ∧ (∃ t p, w.var? Tryd.prog "strconv.ErrRange" = some #[.iface t p])
theorem Laid.below {w w' : World} (h : Laid w) (hb : Below w.heap.size w w') : Laid w' := by
  obtain ⟨h1, ⟨t, p, h2⟩, t', p', h3⟩ := h
  exact ⟨var_below h1 hb, ⟨t, p, var_below h2 hb⟩, t', p', var_below h3 hb⟩
theorem Laid.drew {w : World} (h : Laid w) : Laid w.drew := h

/-- A text of bytes. -/
def Says (l : List UInt8) (w : World) (e : Ending) (w' : World) : Prop := ∃ r : ByteArray, e = .returned (.string r) ∧ Sb r = l ∧ Below w.heap.size w w'

theorem below_grown_drawn (w : World) (k : Nat) (os : Array Obj) : Below w.heap.size w (Go.Sort.grow (w.drewN k) os) := by
  refine ⟨rfl, rfl, rfl, ?_, ?_⟩
  · simp [Go.Sort.grow, World.drewN]
  · intro j hj
    simp only [Go.Sort.grow, World.drewN]
    rw [Array.getElem?_append_left hj]

theorem itoa_any (n : Int) (w : World) (h0 : -9223372036854775808 ≤ n) (h1 : n ≤ 9223372036854775807) (hL : Laid w) :
    Calls Tryd.prog 12 #[.int .i64 n] w (Says (itoa n) w) :=
  (Tryd.strconv_Itoa n h0 h1 w hL.1).mono fun _ _ ⟨he, k, os, hw⟩ => ⟨_, he, Sb_mk _, hw ▸ below_grown_drawn w k os⟩

theorem conv_one (y : Int) (w : World) (c : ByteArray) (hc : c = ⟨#[UInt8.ofNat y.toNat]⟩) :
    (convert 44 9 (.slice (some ⟨w.heap.size, 0, none⟩) 1 1)).run Tryd.prog (w.alloc (.cells #[.int .u8 y] 5)) = .ok (.string c) (w.alloc (.cells #[.int .u8 y] 5)) := by
  subst hc
  refine run_convert_bytes_arg _ 44 5 Tryd.underlying44 Tryd.underlying5 w.heap.size 0 1 1 [y] rfl ?_ 9 Tryd.underlying9
  intro i hi
  obtain rfl : i = 0 := by omega
  rw [(Blk.new w 5 #[.int .u8 y]).cell]
  rfl

theorem dec_len {v : Nat} (hv : v < 18446744073709551616) : (decDigits v).length ≤ 20 := by rw [decDigits_length]; exact nDigits_le20 v hv
theorem says_size {r : ByteArray} {l : List UInt8} {n : Nat} (h : Sb r = l) (hl : l.length ≤ n) : r.size ≤ n := by rw [← Sb_length, h]; exact hl
theorem dot_text (a b : ByteArray) : Sb (a ++ ⟨#[46]⟩ ++ b) = Sb a ++ 46 :: Sb b := by
  rw [Sb_append, Sb_append, show Sb ⟨#[46]⟩ = [46] from rfl]; simp

/-- What a cut at the first dot tells. -/
def CutDot (s : ByteArray) (w : World) (e : Ending) (w' : World) : Prop :=
  ∃ (a b : ByteArray) (f : Bool), e = .returned (.tuple #[.string a, .string b, .bool f]) ∧ (cutP (Sb s)) = (Sb a, Sb b) ∧ ∃ n, w' = w.drewN n

theorem Sb_extract (s : ByteArray) (a b : Nat) : Sb (s.extract a b) = ((Sb s).drop a).take (b - a) := Lib.extract_data s a b
theorem Sb_rest (s : ByteArray) (a : Nat) : Sb (s.extract a s.size) = (Sb s).drop a := Lib.extract_to_end s a

set_option maxHeartbeats 2000000 in
set_option maxRecDepth 100000 in
theorem cutdot_lite (s : ByteArray) (w : World) (hs : s.size ≤ 4611686018427387904) : Calls Tryd.prog 27 #[.string s, .string ⟨#[46]⟩] w (CutDot s w) := by
  rcases cut_index (Sb s) with ⟨h1, h2⟩ | ⟨k, h1, h2, h3⟩
  · have H := hid h2
    clear h2
    go_enter Tryd.func27, Tryd.ntmps27
    go_wp2_with (go_at_call 35; refine (Tryd.stringslite_Index_one s 46 _).mono ?_; rintro e w' ⟨rfl, rfl⟩; rw [show Lib.indexByte s.data.toList 46 = _ from h1])
    go_ret3
    exact ⟨s, ⟨#[]⟩, false, rfl, H.out, 0, rfl⟩
  · rw [Sb_length] at h2
    have H := hid h3
    have H1 := hid h1
    clear h3 h1
    have c1 : (0 : Int) ≤ ↑k := by omega
    have c2 : (↑k : Int) ≤ ↑s.size := by omega
    have c3 : (0 : Int) ≤ ↑k + 1 := by omega
    have c4 : (↑k + 1 : Int) ≤ ↑s.size := by omega
    go_enter Tryd.func27, Tryd.ntmps27
    go_wp2_with (go_at_call 35; refine (Tryd.stringslite_Index_one s 46 _).mono ?_; rintro e w' ⟨rfl, rfl⟩; rw [show Lib.indexByte s.data.toList 46 = _ from H1.out])
    go_region
    go_wp2
    go_ret3
    refine ⟨s.extract 0 k, s.extract (k + 1) s.size, true, rfl, ?_, 1, rfl⟩
    rw [Sb_rest, Sb_extract, H.out]; simp

set_option maxHeartbeats 1000000 in
theorem cutdot_any (s : ByteArray) (w : World) (hs : s.size ≤ 4611686018427387904) : Calls Tryd.prog 21 #[.string s, .string ⟨#[46]⟩] w (CutDot s w) := by
  go_enter Tryd.func21, Tryd.ntmps21
  go_wp2_with fail
  refine (cutdot_lite s _ hs).mono ?_
  rintro e w1 ⟨a, b, f, rfl, hc, n, rfl⟩
  have H := hid hc
  clear hc
  go_wp2
  go_ret3
  exact ⟨a, b, f, rfl, H.out, n, rfl⟩

/-- What strconv.Atoi tells: the number and no error, or some number and an error. -/
def Reads (l : List UInt8) (w : World) (e : Ending) (w' : World) : Prop :=
  Below w.heap.size w w' ∧ ((∃ v, atoiAll l = .ok v ∧ e = .returned (.tuple #[.int .i64 v, .nilIface])) ∨ ((∀ v, atoiAll l ≠ .ok v) ∧ ∃ (v : Int) (N : Nat), e = .returned (.tuple #[.int .i64 v, .iface 80 (.pointer (some ⟨N, 0, none⟩))])))

theorem atoi_any (s : ByteArray) (w : World) (hs : s.size ≤ 281474976710656) (hL : Laid w) : Calls Tryd.prog 28 #[.string s] w (Reads (Sb s) w) := by
  obtain ⟨_, ⟨t, p, h2⟩, t', p', h3⟩ := hL
  rcases h : atoiAll (Sb s) with v | _ | _
  · refine (Tryd.strconv_Atoi_ok s (by omega) v h w).mono fun e w' ⟨he, hw⟩ => ⟨?_, .inl ⟨v, h, he⟩⟩
    rcases hw with rfl | ⟨t, rfl⟩
    · exact Below.refl _ _
    · exact bytesWorld_below _ _ _
  · exact (Go.Proofs.Any.strconv_Atoi_syntax_var Tryd.laysC172 s hs h t p w h2).mono fun e w' ⟨N, he, _, _, hw⟩ => ⟨hw, .inr ⟨(fun v hv => by rw [h] at hv; cases hv), 0, N, he⟩⟩
  · exact (Tryd.strconv_Atoi_range_var s hs h t' p' w h3).mono fun e w' ⟨N, he, _, _, hw⟩ => ⟨hw, .inr ⟨(fun v hv => by rw [h] at hv; cases hv), _, N, he⟩⟩

theorem read_parts {l x y : List UInt8} {a b : Int} (hc : cutP l = (x, y)) (h : readOf l = some (a, b)) : atoiAll x = .ok a ∧ atoiAll y = .ok b := by
  unfold readOf at h
  rw [hc] at h
  simp only at h
  split at h
  · rename_i u v hu hv
    split at h
    · simp only [Option.some.injEq, Prod.mk.injEq] at h
      obtain ⟨rfl, rfl⟩ := h
      exact ⟨hu, hv⟩
    · cases h
  · cases h
theorem read_text_ne {l x y : List UInt8} {a b : Int} (hc : cutP l = (x, y)) (h : readOf l = none) (ha : atoiAll x = .ok a) (hb : atoiAll y = .ok b) : textOf a b ≠ l := by
  intro ht
  unfold readOf at h
  rw [hc] at h
  simp only [ha, hb, ht, if_true] at h
  cases h
theorem cut_sizes {s x y : ByteArray} (hc : cutP (Sb s) = (Sb x, Sb y)) : x.size ≤ s.size ∧ y.size ≤ s.size := by
  have h := cutP_len (Sb s)
  rw [hc] at h
  simp only [Sb_length] at h
  exact h
theorem below_drawnN (w : World) (n : Nat) : Below w.heap.size w (w.drewN n) := ⟨rfl, rfl, rfl, Nat.le_refl _, fun _ _ => rfl⟩

end Go.Proofs.YtfpmmajgnijboaaDoor
