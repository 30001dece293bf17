/-
  Contracts of two numbers' text (package mark): digits, pair, show, strings.Cut at a dot, strconv.Atoi, read.
-/
import Derived.Test.YtmihfalekbgdhaaDoorRows
import Derived.Test.YtmihfalekbgdhaaDoorMText
import Derived.Test.YtmihfalekbgdhaaDoorShelf
import Derived.Test.YtmihfalekbgdhaaDoorMWord
import Derived.Lib.Strings
import Derived.Lib.IndexBytes
import Derived.RegionTactic
import Derived.LaidEql
namespace Go.Proofs.YtmihfalekbgdhaaDoor
open Go.ChangeShapes Go.WideShapes Go.ChangeAt Go.RowKit Go.Lib
attribute [local go_sem] Oper.semAt_some

theorem var_below {P : Program} {w w' : World} {n : String} {cs : Array Value} (h : w.var? P n = some cs) (hb : Below w.heap.size w w') : w'.var? P n = some cs := by
  unfold World.var? at h ⊢
  cases hg : P.globalNamed n with
  | none => rw [hg] at h; cases h
  | some g =>
    rw [hg] at h
    simp only [Option.bind_some] at h ⊢
    rcases Nat.lt_or_ge g w.heap.size with hlt | hge
    · rw [hb.block g hlt]; exact h
    · rw [Array.getElem?_eq_none hge] at h; cases h

/-- What the library's variables hold. -/
def Laid (w : World) : Prop :=
  TabIs Tryd.prog w "internal/strconv.uint64pow10" .u64 pow10Tab ∧ (∃ t p, w.var? Tryd.prog "strconv.ErrSyntax" = some #[.iface t p]) ∧ (∃ t p, w.var? Tryd.prog "strconv.ErrRange" = some #[.iface t p])
theorem Laid.below {w w' : World} (h : Laid w) (hb : Below w.heap.size w w') : Laid w' := by
  obtain ⟨h1, ⟨t, p, h2⟩, t', p', h3⟩ := h
  exact ⟨var_below h1 hb, ⟨t, p, var_below h2 hb⟩, t', p', var_below h3 hb⟩
theorem Laid.drew {w : World} (h : Laid w) : Laid w.drew := h

/-- A text of bytes. -/
def Says (l : List UInt8) (w : World) (e : Ending) (w' : World) : Prop := ∃ r : ByteArray, e = .returned (.string r) ∧ Sb r = l ∧ Below w.heap.size w w'

theorem below_grown_drawn (w : World) (k : Nat) (os : Array Obj) : Below w.heap.size w (Go.Sort.grow (w.drewN k) os) := by
  refine ⟨rfl, rfl, rfl, ?_, ?_⟩
  · simp [Go.Sort.grow, World.drewN]
  · intro j hj
    simp only [Go.Sort.grow, World.drewN]
    rw [Array.getElem?_append_left hj]

theorem itoa_any (n : Int) (w : World) (h0 : -9223372036854775808 ≤ n) (h1 : n ≤ 9223372036854775807) (hL : Laid w) :
    Calls Tryd.prog 25 #[.int .i64 n] w (Says (itoa n) w) :=
  (Tryd.strconv_Itoa n h0 h1 w hL.1).mono fun _ _ ⟨he, k, os, hw⟩ => ⟨_, he, Sb_mk _, hw ▸ below_grown_drawn w k os⟩

theorem conv_one (y : Int) (w : World) (c : ByteArray) (hc : c = ⟨#[UInt8.ofNat y.toNat]⟩) :
    (convert 57 9 (.slice (some ⟨w.heap.size, 0, none⟩) 1 1)).run Tryd.prog (w.alloc (.cells #[.int .u8 y] 5)) = .ok (.string c) (w.alloc (.cells #[.int .u8 y] 5)) := by
  subst hc
  refine run_convert_bytes_arg _ 57 5 Tryd.underlying57 Tryd.underlying5 w.heap.size 0 1 1 [y] rfl ?_ 9 Tryd.underlying9
  intro i hi
  obtain rfl : i = 0 := by omega
  rw [(Blk.new w 5 #[.int .u8 y]).cell]
  rfl

set_option maxRecDepth 100000 in
set_option maxHeartbeats 1000000 in
theorem digits_any (v : Nat) (w : World) (hv : v < 18446744073709551616) :
    Calls Tryd.prog 18 #[.int .u64 (v : Int)] w (Says (decDigits v) w) := by
  have hlen : (decDigits v).length ≤ 20 := by rw [decDigits_length]; exact nDigits_le20 v hv
  go_enter Tryd.func18, Tryd.ntmps18
  go_wp2
  go_loopw [0, 3] (fun n s wr => ∃ (u : Nat) (r : ByteArray), n = .int .u64 (u : Int) ∧ s = .string r ∧ u < 18446744073709551616 ∧ Hid (decDigits v = decDigits u ++ Sb r) ∧ Hid (Below w.heap.size w wr)) (fun n _ _ => (RowKit.intOf n).toNat)
  case atStart => exact ⟨v, ⟨#[]⟩, rfl, rfl, hv, hid (by simp [Sb]), hid (Below.refl _ _)⟩
  case round =>
    obtain ⟨u, r, rfl, rfl, hu, H, HB⟩ := hrel
    have hr : r.size ≤ 20 := by
      have h := congrArg List.length H.out
      rw [List.length_append, Sb_length] at h
      omega
    obtain ⟨q, hq⟩ : ∃ q : Int, (u : Int) / 10 = q := ⟨_, rfl⟩
    obtain ⟨m, hm⟩ : ∃ m : Int, (u : Int) % 10 = m := ⟨_, rfl⟩
    have hm0 : 0 ≤ m := by omega
    have hm1 : m < 10 := by omega
    have hq0 : 0 ≤ q := by omega
    have hq1 : q < 18446744073709551616 := by omega
    obtain ⟨c1, hc1⟩ : ∃ c1 : ByteArray, c1 = ⟨#[UInt8.ofNat (48 + m).toNat]⟩ := ⟨_, rfl⟩
    have hcv := conv_one (48 + m) wr c1 hc1
    have hs1 : c1.size ≤ 1 := by rw [hc1]; exact Nat.le_refl _
    have HC : Hid (Sb (c1 ++ r) = UInt8.ofNat (48 + u % 10) :: Sb r) := hid (by
      rw [Sb_append, hc1, show (48 + m).toNat = 48 + u % 10 by omega]; rfl)
    have HB1 := hid (HB.out.alloc HB.out.size (.cells #[.int .u8 (48 + m)] 5))
    clear hc1
    rcases Decidable.em (q = 0) with h0 | h0
    · subst h0
      have HD : Hid (decDigits v = Sb (c1 ++ r)) := hid (by rw [H.out, HC.out, dec_small (by omega), show u % 10 = u by omega]; rfl)
      go_wp2
      go_ret
      exact ⟨_, rfl, HD.out.symm, HB1.out⟩
    · have hz : (q == 0) = false := beq_eq_false_iff_ne.2 h0
      have HD : Hid (decDigits v = decDigits (u / 10) ++ Sb (c1 ++ r)) := hid (by rw [H.out, HC.out, dec_big (by omega)]; simp)
      go_wp2
      go_roundw
      case rel => exact ⟨u / 10, _, by rw [← hq]; congr 1, rfl, by omega, HD, HB1⟩
      case measure => simp only [RowKit.intOf]; omega

theorem dec_len {v : Nat} (hv : v < 18446744073709551616) : (decDigits v).length ≤ 20 := by rw [decDigits_length]; exact nDigits_le20 v hv
theorem says_size {r : ByteArray} {l : List UInt8} {n : Nat} (h : Sb r = l) (hl : l.length ≤ n) : r.size ≤ n := by rw [← Sb_length, h]; exact hl
theorem dot_text (a b : ByteArray) : Sb (a ++ ⟨#[46]⟩ ++ b) = Sb a ++ 46 :: Sb b := by
  rw [Sb_append, Sb_append, show Sb ⟨#[46]⟩ = [46] from rfl]; simp

set_option maxRecDepth 100000 in
set_option maxHeartbeats 400000 in
theorem pair_any (a b : Nat) (w : World) (ha : a < 18446744073709551616) (hb : b < 18446744073709551616) :
    Calls Tryd.prog 9 #[.int .u64 (a : Int), .int .u64 (b : Int)] w (Says (textOf a b) w) := by
  go_enter Tryd.func9, Tryd.ntmps9
  go_wp2_with fail
  with_reducible refine (digits_any a _ ha).mono ?_
  rintro e w1 ⟨r1, rfl, hr1, hb1⟩
  have hs1 := says_size hr1 (dec_len ha)
  have HR1 := hid hr1
  have HB1 := hid hb1
  clear hr1 hb1
  go_wp2_with fail
  with_reducible refine (digits_any b _ hb).mono ?_
  rintro e w2 ⟨r2, rfl, hr2, hb2⟩
  have hs2 := says_size hr2 (dec_len hb)
  have HR2 := hid hr2
  have HB2 := hid (below_on HB1.out hb2)
  clear hr2 hb2
  go_wp2
  go_ret
  exact ⟨_, rfl, by rw [dot_text, HR1.out, HR2.out, textOf, itoa_nonneg, itoa_nonneg], HB2.out⟩

set_option maxRecDepth 100000 in
set_option maxHeartbeats 400000 in
theorem show_any (a b : Int) (w : World) (ha0 : -9223372036854775808 ≤ a) (ha1 : a ≤ 9223372036854775807) (hb0 : -9223372036854775808 ≤ b) (hb1 : b ≤ 9223372036854775807) (hL : Laid w) :
    Calls Tryd.prog 15 #[.int .i64 a, .int .i64 b] w (Says (textOf a b) w) := by
  have HL := hid hL
  clear hL
  go_enter Tryd.func15, Tryd.ntmps15
  go_wp2_with fail
  with_reducible refine (itoa_any a _ ha0 ha1 HL.out).mono ?_
  rintro e w1 ⟨r1, rfl, hr1, hb1⟩
  have hs1 := says_size hr1 (itoa_length_le a ha0 ha1)
  have HR1 := hid hr1
  have HB1 := hid hb1
  have HL1 := hid (HL.out.below hb1)
  clear hr1 hb1
  go_wp2_with fail
  with_reducible refine (itoa_any b _ hb0 hb1 HL1.out).mono ?_
  rintro e w2 ⟨r2, rfl, hr2, hb2⟩
  have hs2 := says_size hr2 (itoa_length_le b hb0 hb1)
  have HR2 := hid hr2
  have HB2 := hid (below_on HB1.out hb2)
  clear hr2 hb2
  go_wp2
  go_ret
  exact ⟨_, rfl, by rw [dot_text, HR1.out, HR2.out, textOf], HB2.out⟩

/-- What a cut at the first dot tells. -/
def CutDot (s : ByteArray) (w : World) (e : Ending) (w' : World) : Prop :=
  ∃ (a b : ByteArray) (f : Bool), e = .returned (.tuple #[.string a, .string b, .bool f]) ∧ (cutP (Sb s)) = (Sb a, Sb b) ∧ ∃ n, w' = w.drewN n

theorem Sb_extract (s : ByteArray) (a b : Nat) : Sb (s.extract a b) = ((Sb s).drop a).take (b - a) := Lib.extract_data s a b
theorem Sb_rest (s : ByteArray) (a : Nat) : Sb (s.extract a s.size) = (Sb s).drop a := Lib.extract_to_end s a

set_option maxHeartbeats 2000000 in
set_option maxRecDepth 100000 in
theorem cutdot_lite (s : ByteArray) (w : World) (hs : s.size ≤ 4611686018427387904) : Calls Tryd.prog 29 #[.string s, .string ⟨#[46]⟩] w (CutDot s w) := by
  rcases cut_index (Sb s) with ⟨h1, h2⟩ | ⟨k, h1, h2, h3⟩
  · have H := hid h2
    clear h2
    go_enter Tryd.func29, Tryd.ntmps29
    go_wp2_with (go_at_call 33; refine (Tryd.stringslite_Index_one s 46 _).mono ?_; rintro e w' ⟨rfl, rfl⟩; rw [show Lib.indexByte s.data.toList 46 = _ from h1])
    go_ret3
    exact ⟨s, ⟨#[]⟩, false, rfl, H.out, 0, rfl⟩
  · rw [Sb_length] at h2
    have H := hid h3
    have H1 := hid h1
    clear h3 h1
    have c1 : (0 : Int) ≤ ↑k := by omega
    have c2 : (↑k : Int) ≤ ↑s.size := by omega
    have c3 : (0 : Int) ≤ ↑k + 1 := by omega
    have c4 : (↑k + 1 : Int) ≤ ↑s.size := by omega
    go_enter Tryd.func29, Tryd.ntmps29
    go_wp2_with (go_at_call 33; refine (Tryd.stringslite_Index_one s 46 _).mono ?_; rintro e w' ⟨rfl, rfl⟩; rw [show Lib.indexByte s.data.toList 46 = _ from H1.out])
    go_region
    go_wp2
    go_ret3
    refine ⟨s.extract 0 k, s.extract (k + 1) s.size, true, rfl, ?_, 1, rfl⟩
    rw [Sb_rest, Sb_extract, H.out]; simp

set_option maxHeartbeats 1000000 in
theorem cutdot_any (s : ByteArray) (w : World) (hs : s.size ≤ 4611686018427387904) : Calls Tryd.prog 26 #[.string s, .string ⟨#[46]⟩] w (CutDot s w) := by
  go_enter Tryd.func26, Tryd.ntmps26
  go_wp2_with fail
  refine (cutdot_lite s _ hs).mono ?_
  rintro e w1 ⟨a, b, f, rfl, hc, n, rfl⟩
  have H := hid hc
  clear hc
  go_wp2
  go_ret3
  exact ⟨a, b, f, rfl, H.out, n, rfl⟩

/-- What strconv.Atoi tells: the number and no error, or some number and an error. -/
def Reads (l : List UInt8) (w : World) (e : Ending) (w' : World) : Prop :=
  Below w.heap.size w w' ∧ ((∃ v, atoiAll l = .ok v ∧ e = .returned (.tuple #[.int .i64 v, .nilIface])) ∨ ((∀ v, atoiAll l ≠ .ok v) ∧ ∃ (v : Int) (N : Nat), e = .returned (.tuple #[.int .i64 v, .iface 65 (.pointer (some ⟨N, 0, none⟩))])))

theorem atoi_any (s : ByteArray) (w : World) (hs : s.size ≤ 281474976710656) (hL : Laid w) : Calls Tryd.prog 27 #[.string s] w (Reads (Sb s) w) := by
  obtain ⟨_, ⟨t, p, h2⟩, t', p', h3⟩ := hL
  rcases h : atoiAll (Sb s) with v | _ | _
  · refine (Tryd.strconv_Atoi_ok s (by omega) v h w).mono fun e w' ⟨he, hw⟩ => ⟨?_, .inl ⟨v, h, he⟩⟩
    rcases hw with rfl | ⟨t, rfl⟩
    · exact Below.refl _ _
    · exact bytesWorld_below _ _ _
  · exact (Go.Proofs.Any.strconv_Atoi_syntax_var Tryd.laysC172 s hs h t p w h2).mono fun e w' ⟨N, he, _, _, hw⟩ => ⟨hw, .inr ⟨(fun v hv => by rw [h] at hv; cases hv), 0, N, he⟩⟩
  · exact (Tryd.strconv_Atoi_range_var s hs h t' p' w h3).mono fun e w' ⟨N, he, _, _, hw⟩ => ⟨hw, .inr ⟨(fun v hv => by rw [h] at hv; cases hv), _, N, he⟩⟩

theorem read_parts {l x y : List UInt8} {a b : Int} (hc : cutP l = (x, y)) (h : readOf l = some (a, b)) : atoiAll x = .ok a ∧ atoiAll y = .ok b := by
  unfold readOf at h
  rw [hc] at h
  simp only at h
  split at h
  · rename_i u v hu hv
    split at h
    · simp only [Option.some.injEq, Prod.mk.injEq] at h
      obtain ⟨rfl, rfl⟩ := h
      exact ⟨hu, hv⟩
    · cases h
  · cases h
theorem read_text_ne {l x y : List UInt8} {a b : Int} (hc : cutP l = (x, y)) (h : readOf l = none) (ha : atoiAll x = .ok a) (hb : atoiAll y = .ok b) : textOf a b ≠ l := by
  intro ht
  unfold readOf at h
  rw [hc] at h
  simp only [ha, hb, ht, if_true] at h
  cases h
theorem cut_sizes {s x y : ByteArray} (hc : cutP (Sb s) = (Sb x, Sb y)) : x.size ≤ s.size ∧ y.size ≤ s.size := by
  have h := cutP_len (Sb s)
  rw [hc] at h
  simp only [Sb_length] at h
  exact h
theorem below_drawnN (w : World) (n : Nat) : Below w.heap.size w (w.drewN n) := ⟨rfl, rfl, rfl, Nat.le_refl _, fun _ _ => rfl⟩

set_option maxRecDepth 100000 in
set_option maxHeartbeats 1000000 in
theorem read_yes (s : ByteArray) (a b : Int) (w : World) (hs : s.size ≤ 281474976710656) (hL : Laid w) (h : readOf (Sb s) = some (a, b)) :
    Calls Tryd.prog 16 #[.string s] w fun e w' => e = .returned (.tuple #[.int .i64 a, .int .i64 b, .bool true]) ∧ Below w.heap.size w w' := by
  obtain ⟨ht, ⟨ha0, ha1⟩, hb0, hb1⟩ := read_some h
  have HT := hid ht
  have H := hid h
  have HL := hid hL
  clear ht h hL
  go_enter Tryd.func16, Tryd.ntmps16
  go_wp2_with fail
  with_reducible refine (cutdot_any s _ (by omega)).mono ?_
  rintro e w1 ⟨x, y, f, rfl, hc, n, rfl⟩
  obtain ⟨hx, hy⟩ := cut_sizes hc
  obtain ⟨px, py⟩ := read_parts hc H.out
  have PX := hid px
  have PY := hid py
  have HB1 := hid (below_drawnN w n)
  have HL1 := hid (HL.out.below (below_drawnN w n))
  clear hc px py
  go_wp2_with fail
  with_reducible refine (atoi_any x _ (by omega) HL1.out).mono ?_
  rintro e w2 ⟨hb2, ⟨v, hv, rfl⟩ | ⟨hv, _⟩⟩
  case inr => exact absurd PX.out (hv a)
  rw [PX.out] at hv
  injection hv with hv
  subst hv
  have HB2 := hid (below_on HB1.out hb2)
  have HL2 := hid (HL1.out.below hb2)
  clear hb2
  go_wp2_with fail
  with_reducible refine (atoi_any y _ (by omega) HL2.out).mono ?_
  rintro e w3 ⟨hb3, ⟨v, hv, rfl⟩ | ⟨hv, _⟩⟩
  case inr => exact absurd PY.out (hv b)
  rw [PY.out] at hv
  injection hv with hv
  subst hv
  have HB3 := hid (below_on HB2.out hb3)
  have HL3 := hid (HL2.out.below hb3)
  clear hb3
  go_wp2_with fail
  with_reducible refine (show_any a b _ ha0 ha1 hb0 hb1 HL3.out).mono ?_
  rintro e w4 ⟨r, rfl, hr, hb4⟩
  obtain rfl : r = s := Sb_inj.1 (hr.trans HT.out)
  have HB4 := hid (below_on HB3.out hb4)
  clear hb4 hr
  go_wp2
  go_ret3
  exact ⟨rfl, HB4.out⟩

set_option maxRecDepth 100000 in
set_option maxHeartbeats 1000000 in
theorem read_no (s : ByteArray) (w : World) (hs : s.size ≤ 281474976710656) (hL : Laid w) (h : readOf (Sb s) = none) :
    Calls Tryd.prog 16 #[.string s] w fun e w' => e = .returned (.tuple #[.int .i64 0, .int .i64 0, .bool false]) ∧ Below w.heap.size w w' := by
  have H := hid h
  have HL := hid hL
  clear h hL
  go_enter Tryd.func16, Tryd.ntmps16
  go_wp2_with fail
  with_reducible refine (cutdot_any s _ (by omega)).mono ?_
  rintro e w1 ⟨x, y, f, rfl, hc, n, rfl⟩
  obtain ⟨hx, hy⟩ := cut_sizes hc
  have HC := hid hc
  have HB1 := hid (below_drawnN w n)
  have HL1 := hid (HL.out.below (below_drawnN w n))
  clear hc
  go_wp2_with fail
  with_reducible refine (atoi_any x _ (by omega) HL1.out).mono ?_
  rintro e w2 ⟨hb2, ⟨a, ha, rfl⟩ | ⟨_, a, N, rfl⟩⟩
  · have HB2 := hid (below_on HB1.out hb2)
    have HL2 := hid (HL1.out.below hb2)
    have HA := hid ha
    obtain ⟨ha0, ha1⟩ := atoi_range ha
    clear hb2 ha
    go_wp2_with fail
    with_reducible refine (atoi_any y _ (by omega) HL2.out).mono ?_
    rintro e w3 ⟨hb3, ⟨b, hb, rfl⟩ | ⟨_, b, N, rfl⟩⟩
    · have HB3 := hid (below_on HB2.out hb3)
      have HL3 := hid (HL2.out.below hb3)
      have HNE := hid (read_text_ne HC.out H.out HA.out hb)
      obtain ⟨hb0, hb1⟩ := atoi_range hb
      clear hb3 hb
      go_wp2_with fail
      with_reducible refine (show_any a b _ ha0 ha1 hb0 hb1 HL3.out).mono ?_
      rintro e w4 ⟨r, rfl, hr, hb4⟩
      have hne : (r.toList == s.toList) = false := by rw [Sb_eq, hr]; exact decide_eq_false HNE.out
      have HB4 := hid (below_on HB3.out hb4)
      clear hb4 hr
      go_wp2
      go_ret3
      exact ⟨rfl, HB4.out⟩
    · have HB3 := hid (below_on HB2.out hb3)
      clear hb3
      go_wp2
      go_ret3
      exact ⟨rfl, HB3.out⟩
  · have HB2 := hid (below_on HB1.out hb2)
    have HL2 := hid (HL1.out.below hb2)
    clear hb2
    go_wp2_with fail
    with_reducible refine (atoi_any y _ (by omega) HL2.out).mono ?_
    rintro e w3 ⟨hb3, ⟨b, hb, rfl⟩ | ⟨_, b, N2, rfl⟩⟩
    all_goals
      have HB3 := hid (below_on HB2.out hb3)
      clear hb3
      go_wp2
      go_ret3
      exact ⟨rfl, HB3.out⟩

end Go.Proofs.YtmihfalekbgdhaaDoor
