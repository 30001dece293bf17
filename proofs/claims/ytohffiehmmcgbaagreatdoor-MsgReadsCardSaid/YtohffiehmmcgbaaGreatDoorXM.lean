/-
  Contracts of two numbers' text (package mark): digits, pair, show, strings.Cut at a dot, strconv.Atoi, read.
-/
import Derived.Test.YtohffiehmmcgbaaGreatDoorRows
import Derived.Test.YtohffiehmmcgbaaGreatDoorXA
import Derived.Test.YtohffiehmmcgbaaGreatDoorXShelf2
import Derived.Lib.Strings
import Derived.Lib.IndexBytes
import Derived.RegionTactic
import Derived.LaidEql
import Derived.Lib.Join
import Derived.Test.YtohffiehmmcgbaaGreatDoorXE
import Derived.OwnWalk
namespace Go.Proofs.YtohffiehmmcgbaaGreatDoor
open Go.ChangeShapes Go.WideShapes Go.ChangeAt Go.RowKit Go.Lib
attribute [local go_sem] Oper.semAt_some
theorem mvar_below {P : Program} {w w' : World} {n : String} {cs : Array Value} (h : w.var? P n = some cs) (hb : Below w.heap.size w w') : w'.var? P n = some cs := by
  unfold World.var? at h ⊢
  cases hg : P.globalNamed n with
  | none => rw [hg] at h; cases h
  | some g =>
    rw [hg] at h
    simp only [Option.bind_some] at h ⊢
    rcases Nat.lt_or_ge g w.heap.size with hlt | hge
    · rw [hb.block g hlt]; exact h
    · rw [Array.getElem?_eq_none hge] at h; cases h
def Laid (w : World) : Prop :=
  TabIs Tryz.prog w "internal/strconv.uint64pow10" .u64 pow10Tab ∧ (∃ t p, w.var? Tryz.prog "strconv.ErrSyntax" = some #[.iface t p]) ∧ (∃ t p, w.var? Tryz.prog "strconv.ErrRange" = some #[.iface t p])
theorem Laid.below {w w' : World} (h : Laid w) (hb : Below w.heap.size w w') : Laid w' := by
  obtain ⟨h1, ⟨t, p, h2⟩, t', p', h3⟩ := h
  exact ⟨mvar_below h1 hb, ⟨t, p, mvar_below h2 hb⟩, t', p', mvar_below h3 hb⟩
theorem Laid.drew {w : World} (h : Laid w) : Laid w.drew := h
def Says (l : List UInt8) (w : World) (e : Ending) (w' : World) : Prop := ∃ r : ByteArray, e = .returned (.string r) ∧ Sb r = l ∧ Below w.heap.size w w'
theorem below_grown_drawn (w : World) (k : Nat) (os : Array Obj) : Below w.heap.size w (Go.Sort.grow (w.drewN k) os) := by
  refine ⟨rfl, rfl, rfl, ?_, ?_⟩
  · simp [Go.Sort.grow, World.drewN]
  · intro j hj
    simp only [Go.Sort.grow, World.drewN]
    rw [Array.getElem?_append_left hj]
theorem itoa_any (n : Int) (w : World) (h0 : -9223372036854775808 ≤ n) (h1 : n ≤ 9223372036854775807) (hL : Laid w) :
    Calls Tryz.prog 85 #[.int .i64 n] w (Says (itoa n) w) :=
  (Tryz.strconv_Itoa n h0 h1 w hL.1).mono fun _ _ ⟨he, k, os, hw⟩ => ⟨_, he, Sb_mk _, hw ▸ below_grown_drawn w k os⟩
theorem says_size {r : ByteArray} {l : List UInt8} {n : Nat} (h : Sb r = l) (hl : l.length ≤ n) : r.size ≤ n := by rw [← Sb_length, h]; exact hl
theorem dot_text (a b : ByteArray) : Sb (a ++ ⟨#[46]⟩ ++ b) = Sb a ++ 46 :: Sb b := by
  rw [Sb_append, Sb_append, show Sb ⟨#[46]⟩ = [46] from rfl]; simp
set_option maxRecDepth 100000 in
set_option maxHeartbeats 400000 in
theorem show_any (a b : Int) (w : World) (ha0 : -9223372036854775808 ≤ a) (ha1 : a ≤ 9223372036854775807) (hb0 : -9223372036854775808 ≤ b) (hb1 : b ≤ 9223372036854775807) (hL : Laid w) :
    Calls Tryz.prog 106 #[.int .i64 a, .int .i64 b] w (Says (textOf a b) w) := by
  have HL := hid hL
  clear hL
  go_enter Tryz.func106, Tryz.ntmps106
  go_wp2_with fail
  with_reducible refine (itoa_any a _ ha0 ha1 HL.out).mono ?_
  rintro e w1 ⟨r1, rfl, hr1, hb1⟩
  have hs1 := says_size hr1 (itoa_length_le a ha0 ha1)
  have HR1 := hid hr1
  have HB1 := hid hb1
  have HL1 := hid (HL.out.below hb1)
  clear hr1 hb1
  go_wp2_with fail
  with_reducible refine (itoa_any b _ hb0 hb1 HL1.out).mono ?_
  rintro e w2 ⟨r2, rfl, hr2, hb2⟩
  have hs2 := says_size hr2 (itoa_length_le b hb0 hb1)
  have HR2 := hid hr2
  have HB2 := hid (below_on HB1.out hb2)
  clear hr2 hb2
  go_wp2
  go_ret
  exact ⟨_, rfl, by rw [dot_text, HR1.out, HR2.out, textOf], HB2.out⟩
def CutDot (s : ByteArray) (w : World) (e : Ending) (w' : World) : Prop :=
  ∃ (a b : ByteArray) (f : Bool), e = .returned (.tuple #[.string a, .string b, .bool f]) ∧ (cutP (Sb s)) = (Sb a, Sb b) ∧ ∃ n, w' = w.drewN n
theorem Sb_extract (s : ByteArray) (a b : Nat) : Sb (s.extract a b) = ((Sb s).drop a).take (b - a) := Lib.extract_data s a b
theorem Sb_rest (s : ByteArray) (a : Nat) : Sb (s.extract a s.size) = (Sb s).drop a := Lib.extract_to_end s a
set_option maxHeartbeats 2000000 in
set_option maxRecDepth 100000 in
theorem cutdot_lite (s : ByteArray) (w : World) (hs : s.size ≤ 4611686018427387904) : Calls Tryz.prog 163 #[.string s, .string ⟨#[46]⟩] w (CutDot s w) := by
  rcases cut_index (Sb s) with ⟨h1, h2⟩ | ⟨k, h1, h2, h3⟩
  · have H := hid h2
    clear h2
    go_enter Tryz.func163, Tryz.ntmps163
    go_wp2_with (go_at_call 188; refine (Tryz.stringslite_Index_one s 46 _).mono ?_; rintro e w' ⟨rfl, rfl⟩; rw [show Lib.indexByte s.data.toList 46 = _ from h1])
    go_ret3
    exact ⟨s, ⟨#[]⟩, false, rfl, H.out, 0, rfl⟩
  · rw [Sb_length] at h2
    have H := hid h3
    have H1 := hid h1
    clear h3 h1
    have c1 : (0 : Int) ≤ ↑k := by omega
    have c2 : (↑k : Int) ≤ ↑s.size := by omega
    have c3 : (0 : Int) ≤ ↑k + 1 := by omega
    have c4 : (↑k + 1 : Int) ≤ ↑s.size := by omega
    go_enter Tryz.func163, Tryz.ntmps163
    go_wp2_with (go_at_call 188; refine (Tryz.stringslite_Index_one s 46 _).mono ?_; rintro e w' ⟨rfl, rfl⟩; rw [show Lib.indexByte s.data.toList 46 = _ from H1.out])
    go_region
    go_wp2
    go_ret3
    refine ⟨s.extract 0 k, s.extract (k + 1) s.size, true, rfl, ?_, 1, rfl⟩
    rw [Sb_rest, Sb_extract, H.out]; simp
set_option maxHeartbeats 1000000 in
theorem cutdot_any (s : ByteArray) (w : World) (hs : s.size ≤ 4611686018427387904) : Calls Tryz.prog 135 #[.string s, .string ⟨#[46]⟩] w (CutDot s w) := by
  go_enter Tryz.func135, Tryz.ntmps135
  go_wp2_with fail
  refine (cutdot_lite s _ hs).mono ?_
  rintro e w1 ⟨a, b, f, rfl, hc, n, rfl⟩
  have H := hid hc
  clear hc
  go_wp2
  go_ret3
  exact ⟨a, b, f, rfl, H.out, n, rfl⟩
def Reads (l : List UInt8) (w : World) (e : Ending) (w' : World) : Prop :=
  Below w.heap.size w w' ∧ ((∃ v, atoiAll l = .ok v ∧ e = .returned (.tuple #[.int .i64 v, .nilIface])) ∨ ((∀ v, atoiAll l ≠ .ok v) ∧ ∃ (v : Int) (N : Nat), e = .returned (.tuple #[.int .i64 v, .iface 221 (.pointer (some ⟨N, 0, none⟩))])))
theorem atoi_any (s : ByteArray) (w : World) (hs : s.size ≤ 281474976710656) (hL : Laid w) : Calls Tryz.prog 136 #[.string s] w (Reads (Sb s) w) := by
  obtain ⟨_, ⟨t, p, h2⟩, t', p', h3⟩ := hL
  rcases h : atoiAll (Sb s) with v | _ | _
  · refine (Tryz.strconv_Atoi_ok s (by omega) v h w).mono fun e w' ⟨he, hw⟩ => ⟨?_, .inl ⟨v, h, he⟩⟩
    rcases hw with rfl | ⟨t, rfl⟩
    · exact Below.refl _ _
    · exact bytesWorld_below _ _ _
  · exact (Go.Proofs.Any.strconv_Atoi_syntax_var Tryz.laysC172 s hs h t p w h2).mono fun e w' ⟨N, he, _, _, hw⟩ => ⟨hw, .inr ⟨(fun v hv => by rw [h] at hv; cases hv), 0, N, he⟩⟩
  · exact (Tryz.strconv_Atoi_range_var s hs h t' p' w h3).mono fun e w' ⟨N, he, _, _, hw⟩ => ⟨hw, .inr ⟨(fun v hv => by rw [h] at hv; cases hv), _, N, he⟩⟩
theorem read_parts {l x y : List UInt8} {a b : Int} (hc : cutP l = (x, y)) (h : readOf l = some (a, b)) : atoiAll x = .ok a ∧ atoiAll y = .ok b := by
  unfold readOf at h
  rw [hc] at h
  simp only at h
  split at h
  · rename_i u v hu hv
    split at h
    · simp only [Option.some.injEq, Prod.mk.injEq] at h
      obtain ⟨rfl, rfl⟩ := h
      exact ⟨hu, hv⟩
    · cases h
  · cases h
theorem read_text_ne {l x y : List UInt8} {a b : Int} (hc : cutP l = (x, y)) (h : readOf l = none) (ha : atoiAll x = .ok a) (hb : atoiAll y = .ok b) : textOf a b ≠ l := by
  intro ht
  unfold readOf at h
  rw [hc] at h
  simp only [ha, hb, ht, if_true] at h
  cases h
theorem cut_sizes {s x y : ByteArray} (hc : cutP (Sb s) = (Sb x, Sb y)) : x.size ≤ s.size ∧ y.size ≤ s.size := by
  have h := cutP_len (Sb s)
  rw [hc] at h
  simp only [Sb_length] at h
  exact h
theorem below_drawnN (w : World) (n : Nat) : Below w.heap.size w (w.drewN n) := ⟨rfl, rfl, rfl, Nat.le_refl _, fun _ _ => rfl⟩
set_option maxRecDepth 100000 in
set_option maxHeartbeats 1000000 in
theorem read_yes (s : ByteArray) (a b : Int) (w : World) (hs : s.size ≤ 281474976710656) (hL : Laid w) (h : readOf (Sb s) = some (a, b)) :
    Calls Tryz.prog 151 #[.string s] w fun e w' => e = .returned (.tuple #[.int .i64 a, .int .i64 b, .bool true]) ∧ Below w.heap.size w w' := by
  obtain ⟨ht, ⟨ha0, ha1⟩, hb0, hb1⟩ := read_some h
  have HT := hid ht
  have H := hid h
  have HL := hid hL
  clear ht h hL
  go_enter Tryz.func151, Tryz.ntmps151
  go_wp2_with fail
  with_reducible refine (cutdot_any s _ (by omega)).mono ?_
  rintro e w1 ⟨x, y, f, rfl, hc, n, rfl⟩
  obtain ⟨hx, hy⟩ := cut_sizes hc
  obtain ⟨px, py⟩ := read_parts hc H.out
  have PX := hid px
  have PY := hid py
  have HB1 := hid (below_drawnN w n)
  have HL1 := hid (HL.out.below (below_drawnN w n))
  clear hc px py
  go_wp2_with fail
  with_reducible refine (atoi_any x _ (by omega) HL1.out).mono ?_
  rintro e w2 ⟨hb2, ⟨v, hv, rfl⟩ | ⟨hv, _⟩⟩
  case inr => exact absurd PX.out (hv a)
  rw [PX.out] at hv
  injection hv with hv
  subst hv
  have HB2 := hid (below_on HB1.out hb2)
  have HL2 := hid (HL1.out.below hb2)
  clear hb2
  go_wp2_with fail
  with_reducible refine (atoi_any y _ (by omega) HL2.out).mono ?_
  rintro e w3 ⟨hb3, ⟨v, hv, rfl⟩ | ⟨hv, _⟩⟩
  case inr => exact absurd PY.out (hv b)
  rw [PY.out] at hv
  injection hv with hv
  subst hv
  have HB3 := hid (below_on HB2.out hb3)
  have HL3 := hid (HL2.out.below hb3)
  clear hb3
  go_wp2_with fail
  with_reducible refine (show_any a b _ ha0 ha1 hb0 hb1 HL3.out).mono ?_
  rintro e w4 ⟨r, rfl, hr, hb4⟩
  obtain rfl : r = s := Sb_inj.1 (hr.trans HT.out)
  have HB4 := hid (below_on HB3.out hb4)
  clear hb4 hr
  go_wp2
  go_ret3
  exact ⟨rfl, HB4.out⟩
set_option maxRecDepth 100000 in
set_option maxHeartbeats 1000000 in
theorem read_no (s : ByteArray) (w : World) (hs : s.size ≤ 281474976710656) (hL : Laid w) (h : readOf (Sb s) = none) :
    Calls Tryz.prog 151 #[.string s] w fun e w' => e = .returned (.tuple #[.int .i64 0, .int .i64 0, .bool false]) ∧ Below w.heap.size w w' := by
  have H := hid h
  have HL := hid hL
  clear h hL
  go_enter Tryz.func151, Tryz.ntmps151
  go_wp2_with fail
  with_reducible refine (cutdot_any s _ (by omega)).mono ?_
  rintro e w1 ⟨x, y, f, rfl, hc, n, rfl⟩
  obtain ⟨hx, hy⟩ := cut_sizes hc
  have HC := hid hc
  have HB1 := hid (below_drawnN w n)
  have HL1 := hid (HL.out.below (below_drawnN w n))
  clear hc
  go_wp2_with fail
  with_reducible refine (atoi_any x _ (by omega) HL1.out).mono ?_
  rintro e w2 ⟨hb2, ⟨a, ha, rfl⟩ | ⟨_, a, N, rfl⟩⟩
  · have HB2 := hid (below_on HB1.out hb2)
    have HL2 := hid (HL1.out.below hb2)
    have HA := hid ha
    obtain ⟨ha0, ha1⟩ := atoi_range ha
    clear hb2 ha
    go_wp2_with fail
    with_reducible refine (atoi_any y _ (by omega) HL2.out).mono ?_
    rintro e w3 ⟨hb3, ⟨b, hb, rfl⟩ | ⟨_, b, N, rfl⟩⟩
    · have HB3 := hid (below_on HB2.out hb3)
      have HL3 := hid (HL2.out.below hb3)
      have HNE := hid (read_text_ne HC.out H.out HA.out hb)
      obtain ⟨hb0, hb1⟩ := atoi_range hb
      clear hb3 hb
      go_wp2_with fail
      with_reducible refine (show_any a b _ ha0 ha1 hb0 hb1 HL3.out).mono ?_
      rintro e w4 ⟨r, rfl, hr, hb4⟩
      have hne : (r.toList == s.toList) = false := by rw [Sb_eq, hr]; exact decide_eq_false HNE.out
      have HB4 := hid (below_on HB3.out hb4)
      clear hb4 hr
      go_wp2
      go_ret3
      exact ⟨rfl, HB4.out⟩
    · have HB3 := hid (below_on HB2.out hb3)
      clear hb3
      go_wp2
      go_ret3
      exact ⟨rfl, HB3.out⟩
  · have HB2 := hid (below_on HB1.out hb2)
    have HL2 := hid (HL1.out.below hb2)
    clear hb2
    go_wp2_with fail
    with_reducible refine (atoi_any y _ (by omega) HL2.out).mono ?_
    rintro e w3 ⟨hb3, ⟨b, hb, rfl⟩ | ⟨_, b, N2, rfl⟩⟩
    all_goals
      have HB3 := hid (below_on HB2.out hb3)
      clear hb3
      go_wp2
      go_ret3
      exact ⟨rfl, HB3.out⟩
end Go.Proofs.YtohffiehmmcgbaaGreatDoor
namespace Go.Proofs.YtohffiehmmcgbaaGreatDoor
open Go.ChangeShapes Go.WideShapes Go.ChangeAt Go.RowKit Go.Lib
theorem name_bounds {r s : Int} (h : nameB r s = true) : (0 ≤ r ∧ r ≤ 6) ∧ 0 ≤ s ∧ s ≤ 1023 := by
  unfold nameB at h
  rw [decide_eq_true_eq] at h
  omega
set_option maxRecDepth 100000 in
set_option maxHeartbeats 400000 in
theorem idshow_yes (r s : Int) (w : World) (hL : Laid w) (h : nameB r s = true) :
    Calls Tryz.prog 51 #[nm r s] w fun e w' => (∃ t : ByteArray, e = .returned (.tuple #[.string t, .int .i64 0]) ∧ Sb t = textOf r s) ∧ Below w.heap.size w w' := by
  have HX := hid h
  obtain ⟨⟨hr0, hr1⟩, hs0, hs1⟩ := name_bounds h
  have HL := hid hL
  clear h hL
  go_enter Tryz.func51, Tryz.ntmps51
  go_wp2_with fail
  with_reducible refine (nright_any r s _).mono ?_
  rintro e w1 ⟨rfl, hb1⟩
  rw [HX.out]
  have hb0 : Below w.heap.size w w1 := ((Below.refl _ _).alloc (Nat.le_refl _) _).trans (hb1.mono (by simp))
  have HB1 := hid hb0
  have HL1 := hid (HL.out.below hb0)
  obtain ⟨⟨c0, c1⟩, _⟩ := blkn ((Blk.new w 25 #[.int .i64 r, .int .i64 s]).below hb1 (by simp))
  clear hb1 hb0
  go_wp2_with fail
  with_reducible refine (show_any r s _ (by omega) (by omega) (by omega) (by omega) HL1.out).mono ?_
  rintro e w2 ⟨t, rfl, ht, hb2⟩
  have HB2 := hid (below_on HB1.out hb2)
  have HT := hid ht
  clear hb2 ht
  go_wp2
  exact bodyPost_ret (v := .tuple #[.string t, .int .i64 0]) (by simp [results, Tryz.results51, go_sem]) rfl ⟨⟨t, rfl, HT.out⟩, HB2.out⟩
set_option maxRecDepth 100000 in
set_option maxHeartbeats 400000 in
theorem ballotshow_yes (b : Nat) (w : World) (hb : b < 4294967296) (hL : Laid w) (h : ballotB b = true) :
    Calls Tryz.prog 52 #[.int .u32 (b : Int)] w fun e w' => (∃ t : ByteArray, e = .returned (.tuple #[.string t, .int .i64 0]) ∧ Sb t = textOf ((b / 8 : Nat) : Int) ((b % 8 : Nat) : Int)) ∧ Below w.heap.size w w' := by
  have HX := hid h
  have HL := hid hL
  obtain ⟨x, hx⟩ : ∃ x : Int, ((b / 8 : Nat) : Int) = x := ⟨_, rfl⟩
  obtain ⟨y, hy⟩ : ∃ y : Int, ((b % 8 : Nat) : Int) = y := ⟨_, rfl⟩
  have hx0 : 0 ≤ x := by omega
  have hx1 : x < 4294967296 := by omega
  have hy0 : 0 ≤ y := by omega
  have hy1 : y < 8 := by omega
  rw [hx, hy]
  have HXX := hid hx
  have HYY := hid hy
  clear h hL hx hy
  go_enter Tryz.func52, Tryz.ntmps52
  go_wp2_with (first
    | (go_at_call 32; refine (ballotright_any _ _ hb).mono ?_; rintro e w' ⟨rfl, rfl⟩; rw [HX.out])
    | (go_at_call 82; refine (round_any _ _ hb).mono ?_; rintro e w' ⟨rfl, rfl⟩; rw [HXX.out])
    | (go_at_call 83; refine (replica_any _ _ hb).mono ?_; rintro e w' ⟨rfl, rfl⟩; rw [HYY.out]))
  with_reducible refine (show_any x y _ (by omega) (by omega) (by omega) (by omega) HL.out).mono ?_
  rintro e w2 ⟨t, rfl, ht, hb2⟩
  have HB2 := hid hb2
  have HT := hid ht
  clear hb2 ht
  go_wp2
  exact bodyPost_ret (v := .tuple #[.string t, .int .i64 0]) (by simp [results, Tryz.results52, go_sem]) rfl ⟨⟨t, rfl, HT.out⟩, HB2.out⟩
def nameOf (l : List UInt8) : (Int × Int) × Nat := match readOf l with
  | some (a, b) => ofN a b
  | none => ((0, 0), 10)
def ballotOf (l : List UInt8) : Nat × Nat := match readOf l with
  | some (a, b) => if partsB a b then (a.toNat * 8 + b.toNat, 0) else (0, 60)
  | none => (0, 10)
set_option maxRecDepth 100000 in
set_option maxHeartbeats 400000 in
theorem readid_any (t : ByteArray) (r s : Int) (e : Nat) (w : World) (hs : t.size ≤ 281474976710656) (hL : Laid w) (h : nameOf (Sb t) = ((r, s), e)) :
    Calls Tryz.prog 117 #[.string t] w fun en w' => en = .returned (.tuple #[nm r s, .int .i64 (e : Int)]) ∧ Below w.heap.size w w' := by
  have hal : Below w.heap.size w (w.alloc (.cells #[.int .i64 0, .int .i64 0] 25)) := (Below.refl _ _).alloc (Nat.le_refl _) _
  have HL := hid (hL.below hal)
  have H := hid h
  clear h hL
  cases hr : readOf (Sb t) with
  | none =>
    have HR := hid hr
    have h2 : r = 0 ∧ s = 0 ∧ e = 10 := by have := H.out; unfold nameOf at this; rw [hr] at this; simp only [Prod.mk.injEq] at this; exact ⟨this.1.1.symm, this.1.2.symm, this.2.symm⟩
    obtain ⟨rfl, rfl, rfl⟩ := h2
    clear hr H
    go_enter Tryz.func117, Tryz.ntmps117
    go_wp2_with fail
    with_reducible refine (read_no t _ hs HL.out HR.out).mono ?_
    rintro en w1 ⟨rfl, hb1⟩
    have HB1 := hid (hal.trans (hb1.mono (by simp)))
    obtain ⟨⟨c0, c1⟩, k0, k1⟩ := blkn ((Blk.new w 25 #[.int .i64 0, .int .i64 0]).below hb1 (by simp))
    clear hb1 hal
    go_wp2
    refine bodyPost_ret (v := .tuple #[nm 0 0, .int .i64 10]) (by simp [results, Tryz.results117, go_sem, c0, c1]) rfl ⟨rfl, ?_⟩
    exact Below.setCell (p := ⟨w.heap.size, 1, none⟩) (Below.setCell (p := ⟨w.heap.size, 0, none⟩) HB1.out (Nat.le_refl _) _) (Nat.le_refl _) _
  | some ab =>
    obtain ⟨a, b⟩ := ab
    have HR := hid hr
    have h2 : ofN a b = ((r, s), e) := by have := H.out; unfold nameOf at this; rw [hr] at this; exact this
    have HO1 : Hid ((ofN a b).1.1 = r) := hid (by rw [h2])
    have HO2 : Hid ((ofN a b).1.2 = s) := hid (by rw [h2])
    have HO3 : Hid ((ofN a b).2 = e) := hid (by rw [h2])
    clear hr H h2
    go_enter Tryz.func117, Tryz.ntmps117
    go_wp2_with fail
    with_reducible refine (read_yes t a b _ hs HL.out HR.out).mono ?_
    rintro en w1 ⟨rfl, hb1⟩
    have HB1 := hid (hal.trans (hb1.mono (by simp)))
    have K1 := hid ((Blk.new w 25 #[.int .i64 0, .int .i64 0]).below hb1 (by simp))
    clear hb1 hal
    go_wp2_with fail
    with_reducible refine (rightid_any a b _).mono ?_
    rintro en w2 ⟨rfl, hb2⟩
    rw [HO1.out, HO2.out, HO3.out]
    have HB2 := hid (below_on HB1.out hb2)
    obtain ⟨⟨c0, c1⟩, k0, k1⟩ := blkn (K1.out.below hb2 K1.out.lt)
    clear hb2
    go_wp2
    refine bodyPost_ret (v := .tuple #[nm r s, .int .i64 (e : Int)]) (by simp [results, Tryz.results117, go_sem, c0, c1]) rfl ⟨rfl, ?_⟩
    exact Below.setCell (p := ⟨w.heap.size, 1, none⟩) (Below.setCell (p := ⟨w.heap.size, 0, none⟩) HB2.out (Nat.le_refl _) _) (Nat.le_refl _) _
theorem parts_nat {a b : Int} (h : partsB a b = true) : ∃ n k : Nat, a = n ∧ b = k ∧ n ≤ 16777215 ∧ k < 8 := by
  unfold partsB at h
  rw [decide_eq_true_eq] at h
  exact ⟨a.toNat, b.toNat, by omega, by omega, by omega, by omega⟩
set_option maxRecDepth 100000 in
set_option maxHeartbeats 400000 in
theorem readballot_any (t : ByteArray) (v e : Nat) (w : World) (hs : t.size ≤ 281474976710656) (hL : Laid w) (h : ballotOf (Sb t) = (v, e)) :
    Calls Tryz.prog 118 #[.string t] w fun en w' => en = .returned (.tuple #[.int .u32 (v : Int), .int .i64 (e : Int)]) ∧ Below w.heap.size w w' := by
  have HL := hid hL
  have H := hid h
  clear h hL
  cases hr : readOf (Sb t) with
  | none =>
    have HR := hid hr
    have h2 : v = 0 ∧ e = 10 := by have := H.out; unfold ballotOf at this; rw [hr] at this; simp only [Prod.mk.injEq] at this; exact ⟨this.1.symm, this.2.symm⟩
    obtain ⟨rfl, rfl⟩ := h2
    clear hr H
    go_enter Tryz.func118, Tryz.ntmps118
    go_wp2_with fail
    with_reducible refine (read_no t _ hs HL.out HR.out).mono ?_
    rintro en w1 ⟨rfl, hb1⟩
    have HB1 := hid hb1
    clear hb1
    go_wp2
    exact bodyPost_ret (v := .tuple #[.int .u32 0, .int .i64 10]) (by simp [results, Tryz.results118, go_sem]) rfl ⟨rfl, HB1.out⟩
  | some ab =>
    obtain ⟨a, b⟩ := ab
    have HR := hid hr
    cases hp : partsB a b
    · have h2 : v = 0 ∧ e = 60 := by have := H.out; unfold ballotOf at this; rw [hr] at this; simp only [hp, Bool.false_eq_true, if_false, Prod.mk.injEq] at this; exact ⟨this.1.symm, this.2.symm⟩
      obtain ⟨rfl, rfl⟩ := h2
      have HP := hid hp
      clear hr H hp
      go_enter Tryz.func118, Tryz.ntmps118
      go_wp2_with fail
      with_reducible refine (read_yes t a b _ hs HL.out HR.out).mono ?_
      rintro en w1 ⟨rfl, hb1⟩
      have HB1 := hid hb1
      clear hb1
      go_wp2_with (go_at_call 81; refine (areparts_any _ _ _).mono ?_; rintro e w' ⟨rfl, rfl⟩; rw [HP.out])
      exact bodyPost_ret (v := .tuple #[.int .u32 0, .int .i64 60]) (by simp [results, Tryz.results118, go_sem]) rfl ⟨rfl, HB1.out⟩
    · obtain ⟨n, k, rfl, rfl, hn, hk⟩ := parts_nat hp
      have h2 : n * 8 + k = v ∧ e = 0 := by have := H.out; unfold ballotOf at this; rw [hr] at this; simp only [hp, if_true, Prod.mk.injEq, Int.toNat_natCast] at this; exact ⟨this.1, this.2.symm⟩
      obtain ⟨h3, rfl⟩ := h2
      have HV : Hid (((n * 8 + k : Nat) : Int) = (v : Int)) := hid (by rw [h3])
      have HP := hid hp
      clear hr H hp h3
      go_enter Tryz.func118, Tryz.ntmps118
      go_wp2_with fail
      with_reducible refine (read_yes t n k _ hs HL.out HR.out).mono ?_
      rintro en w1 ⟨rfl, hb1⟩
      have HB1 := hid hb1
      clear hb1
      go_wp2_with (first
        | (go_at_call 81; refine (areparts_any _ _ _).mono ?_; rintro e w' ⟨rfl, rfl⟩; rw [HP.out])
        | (go_at_call 153; refine (join_any n k _ hn hk).mono ?_; rintro e w' ⟨rfl, rfl⟩; rw [HV.out]))
      exact bodyPost_ret (v := .tuple #[.int .u32 (v : Int), .int .i64 0]) (by simp [results, Tryz.results118, go_sem]) rfl ⟨rfl, HB1.out⟩
end Go.Proofs.YtohffiehmmcgbaaGreatDoor
namespace Go.Proofs.YtohffiehmmcgbaaGreatDoor
open Go.Lib
set_option linter.unusedVariables false
def cutN (c : UInt8) : List UInt8 → List UInt8 × List UInt8
  | [] => ([], [])
  | d :: l => if d = c then ([], l) else (d :: (cutN c l).1, (cutN c l).2)
theorem cutN_app (c : UInt8) : ∀ (x y : List UInt8), (∀ d ∈ x, d ≠ c) → cutN c (x ++ c :: y) = (x, y)
  | [], y, _ => by simp [cutN]
  | d :: x, y, h => by
    have h1 := h d (by simp)
    simp only [List.cons_append, cutN, if_neg h1]
    rw [cutN_app c x y (fun e he => h e (List.mem_cons_of_mem _ he))]
theorem cutN_all (c : UInt8) : ∀ (x : List UInt8), (∀ d ∈ x, d ≠ c) → cutN c x = (x, [])
  | [], _ => rfl
  | d :: x, h => by
    have h1 := h d (by simp)
    simp only [cutN, if_neg h1]
    rw [cutN_all c x (fun e he => h e (List.mem_cons_of_mem _ he))]
theorem cutN_index (c : UInt8) : ∀ l : List UInt8, (indexByte l c = -1 ∧ cutN c l = (l, [])) ∨ ∃ k : Nat, indexByte l c = (k : Int) ∧ k < l.length ∧ cutN c l = (l.take k, l.drop (k + 1))
  | [] => .inl ⟨rfl, rfl⟩
  | d :: l => by
    by_cases hc : d = c
    · subst hc
      exact .inr ⟨0, by simp [indexByte], by simp, by simp [cutN]⟩
    · have hb : (d == c) = false := by simpa using hc
      rcases cutN_index c l with ⟨h1, h2⟩ | ⟨k, h1, h2, h3⟩
      · refine .inl ⟨?_, by simp only [cutN, if_neg hc, h2]⟩
        simp only [indexByte, hb, h1]; decide
      · refine .inr ⟨k + 1, ?_, by simp; omega, by simp only [cutN, if_neg hc, h3]; rfl⟩
        have hk : ((k : Int) == -1) = false := by simp
        simp [indexByte, hb, h1, hk]
theorem cutN_len (c : UInt8) : ∀ l : List UInt8, (cutN c l).1.length ≤ l.length ∧ (cutN c l).2.length ≤ l.length
  | [] => ⟨Nat.le_refl _, Nat.le_refl _⟩
  | d :: l => by
    have h := cutN_len c l
    unfold cutN
    split
    · exact ⟨by simp, by simp⟩
    · exact ⟨by simp; exact h.1, by simp; omega⟩
theorem itoa_none (n : Int) (c : UInt8) (h1 : c ≠ 45) (h2 : c.toNat < 48 ∨ 57 < c.toNat) : ∀ d ∈ itoa n, d ≠ c := by
  intro d hd he
  subst he
  unfold itoa at hd
  split at hd
  · rcases List.mem_cons.1 hd with h | h
    · exact h1 h
    · have := dec_digits _ _ h; omega
  · have := dec_digits _ _ hd; omega
def partsA (f : Nat → Int) : List (List UInt8) := (List.range 7).map fun i => itoa (f (1 + i))
def textA (f : Nat → Int) : List UInt8 := itoa (f 0) ++ 124 :: Lib.join (partsA f) [44]
theorem partsA_len (f : Nat → Int) : (partsA f).length = 7 := by simp [partsA]
theorem partsA_at (f : Nat → Int) {j : Nat} (hj : j < 7) : (partsA f)[j]? = some (itoa (f (1 + j))) := by simp [partsA, List.getElem?_range hj]
theorem parts_drop (f : Nat → Int) {j : Nat} (hj : j < 7) : (partsA f).drop j = itoa (f (1 + j)) :: (partsA f).drop (j + 1) := by
  rw [List.drop_eq_getElem_cons (by rw [partsA_len]; exact hj)]
  congr 1
  have h := partsA_at f hj
  rw [List.getElem?_eq_getElem (by rw [partsA_len]; exact hj)] at h
  exact Option.some.inj h
theorem joinTail_cons (sep y : List UInt8) (r : List (List UInt8)) : Lib.joinTail sep (y :: r) = sep ++ y ++ Lib.joinTail sep r := by simp [Lib.joinTail]
theorem cut_join {x : List UInt8} {r : List (List UInt8)} (hx : ∀ d ∈ x, d ≠ 44) : cutN 44 (Lib.join (x :: r) [44]) = (x, Lib.join r [44]) := by
  cases r with
  | nil => rw [Lib.join_one, cutN_all 44 x hx, Lib.join_nil]
  | cons y r =>
    rw [Lib.join_cons, joinTail_cons, Lib.join_cons]
    simp only [List.cons_append, List.nil_append]
    exact cutN_app 44 x _ hx
def restA (l : List UInt8) : Nat → List UInt8
  | 0 => (cutN 124 l).2
  | j + 1 => (cutN 44 (restA l j)).2
def pieceA (l : List UInt8) : Nat → List UInt8
  | 0 => (cutN 124 l).1
  | j + 1 => (cutN 44 (restA l j)).1
theorem restA_len (l : List UInt8) : ∀ j, (restA l j).length ≤ l.length
  | 0 => (cutN_len 124 l).2
  | j + 1 => Nat.le_trans (cutN_len 44 (restA l j)).2 (restA_len l j)
theorem pieceA_len (l : List UInt8) (j : Nat) : (pieceA l j).length ≤ l.length := by
  cases j with
  | zero => exact (cutN_len 124 l).1
  | succ j => exact Nat.le_trans (cutN_len 44 (restA l j)).1 (restA_len l j)
theorem rest_text (f : Nat → Int) : ∀ j, j ≤ 7 → restA (textA f) j = Lib.join ((partsA f).drop j) [44]
  | 0, _ => by
    unfold restA textA
    rw [cutN_app 124 _ _ (itoa_none _ _ (by decide) (by decide))]
    rfl
  | j + 1, hj => by
    unfold restA
    rw [rest_text f j (by omega), parts_drop f (by omega), cut_join (itoa_none _ _ (by decide) (by decide))]
theorem piece_text (f : Nat → Int) {j : Nat} (hj : j < 8) : pieceA (textA f) j = itoa (f j) := by
  cases j with
  | zero =>
    unfold pieceA textA
    rw [cutN_app 124 _ _ (itoa_none _ _ (by decide) (by decide))]
  | succ j =>
    show (cutN 44 (restA (textA f) j)).1 = itoa (f (j + 1))
    rw [rest_text f j (by omega), parts_drop f (by omega), cut_join (itoa_none _ _ (by decide) (by decide)), Nat.add_comm]
def Fits (V : Nat → Int) (l : List UInt8) (n : Nat) : Prop := ∀ i, i < n → ∀ x, atoiAll (pieceA l i) = .ok x → V i = x
theorem Fits.next {V : Nat → Int} {l : List UInt8} {n : Nat} {v : Int} (h : Fits V l n) (hv : ∀ x, atoiAll (pieceA l n) = .ok x → v = x) : Fits (upd V n v) l (n + 1) := by
  intro i hi x hx
  unfold upd
  by_cases e : i = n
  · rw [if_pos e]; exact hv x (e ▸ hx)
  · rw [if_neg e]; exact h i (by omega) x hx
theorem fits_text {f V : Nat → Int} (hf : okB f = true) (h : Fits V (textA f) 8) : ∀ i, i < 8 → V i = f i := by
  intro i hi
  refine h i hi _ ?_
  rw [piece_text f hi]
  obtain ⟨h0, h1⟩ := okB_iff.1 hf
  have hb : 0 ≤ f i ∧ f i ≤ 1073741824 := by
    cases i with
    | zero => exact h0
    | succ i => have := h1 i (by omega); omega
  exact atoi_itoa _ (by omega) (by omega)
theorem okB_congrA {f g : Nat → Int} (h : ∀ i, i < 8 → f i = g i) : okB f = okB g := by
  have e : ∀ {a b : Nat → Int}, (∀ i, i < 8 → a i = b i) → okB a = true → okB b = true := fun {a b} hab ha => by
    obtain ⟨h0, h1⟩ := okB_iff.1 ha
    exact okB_iff.2 ⟨by rw [← hab 0 (by decide)]; exact h0, fun i hi => by rw [← hab (i + 1) (by omega)]; exact h1 i hi⟩
  rw [Bool.eq_iff_iff]
  exact ⟨e h, e fun i hi => (h i hi).symm⟩
theorem textA_congr {f g : Nat → Int} (h : ∀ i, i < 8 → f i = g i) : textA f = textA g := by
  unfold textA partsA
  rw [h 0 (by decide)]
  congr 3
  refine List.map_congr_left fun i hi => ?_
  rw [h (1 + i) (by have := List.mem_range.1 hi; omega)]
theorem itoa_len21 (n : Int) (h0 : 0 ≤ n) (h1 : n ≤ 1073741824) : (itoa n).length ≤ 21 := by
  have := itoa_length_le n (by omega) (by omega)
  omega
theorem join_len (xs : List (List UInt8)) (m : Nat) (h : ∀ x ∈ xs, x.length ≤ m) : (Lib.join xs [44]).length ≤ xs.length * (m + 1) := by
  cases xs with
  | nil => simp [Lib.join_nil]
  | cons x r =>
    rw [Lib.join_cons, List.length_append, joinTail_length]
    have h1 := h x (by simp)
    have h2 : lens r ≤ r.length * m := by
      have h3 : ∀ y ∈ r, y.length ≤ m := fun y hy => h y (List.mem_cons_of_mem _ hy)
      clear h1 h
      induction r with
      | nil => simp [lens]
      | cons y r ih =>
        have h4 := h3 y (by simp)
        have h5 := ih fun z hz => h3 z (List.mem_cons_of_mem _ hz)
        simp only [lens, List.map_cons, List.sum_cons, List.length_cons, Nat.succ_mul] at h5 ⊢
        omega
    simp only [List.length_cons, List.length_nil, Nat.mul_add, Nat.succ_mul]
    omega
theorem textA_len {f : Nat → Int} (h : okB f = true) : (textA f).length ≤ 200 := by
  obtain ⟨h0, h1⟩ := okB_iff.1 h
  have ha := itoa_len21 (f 0) h0.1 h0.2
  have hb := join_len (partsA f) 21 (fun x hx => by
    unfold partsA at hx
    obtain ⟨i, hi, rfl⟩ := List.mem_map.1 hx
    have hi := List.mem_range.1 hi
    have := h1 i hi
    rw [Nat.add_comm] at this
    exact itoa_len21 _ (by omega) (by omega))
  rw [partsA_len] at hb
  unfold textA
  rw [List.length_append, List.length_cons]
  omega
end Go.Proofs.YtohffiehmmcgbaaGreatDoor
namespace Go.Proofs.YtohffiehmmcgbaaGreatDoor
open Go.ChangeShapes Go.WideShapes Go.ChangeAt Go.RowKit Go.Lib
set_option linter.unusedVariables false
set_option linter.unusedSimpArgs false
attribute [local go_sem] Oper.semAt_some
def CutAtN (c : UInt8) (s : ByteArray) (w : World) (e : Ending) (w' : World) : Prop :=
  ∃ (a b : ByteArray) (f : Bool), e = .returned (.tuple #[.string a, .string b, .bool f]) ∧ cutN c (Sb s) = (Sb a, Sb b) ∧ Below w.heap.size w w'
theorem below_dN9 (w : World) (n : Nat) : Below w.heap.size w (w.drewN n) := ⟨rfl, rfl, rfl, Nat.le_refl _, fun _ _ => rfl⟩
theorem Sb_cut (s : ByteArray) (a b : Nat) : Sb (s.extract a b) = ((Sb s).drop a).take (b - a) := Lib.extract_data s a b
theorem Sb_tail (s : ByteArray) (a : Nat) : Sb (s.extract a s.size) = (Sb s).drop a := Lib.extract_to_end s a
set_option maxHeartbeats 2000000 in
set_option maxRecDepth 100000 in
theorem cutlite9 (c : UInt8) (s : ByteArray) (w : World) (hs : s.size ≤ 4611686018427387904) : Calls Tryz.prog 163 #[.string s, .string ⟨#[c]⟩] w (CutAtN c s w) := by
  rcases cutN_index c (Sb s) with ⟨h1, h2⟩ | ⟨k, h1, h2, h3⟩
  · have H := hid h2
    clear h2
    go_enter Tryz.func163, Tryz.ntmps163
    go_wp2_with (go_at_call 188; refine (Tryz.stringslite_Index_one s c _).mono ?_; rintro e w' ⟨rfl, rfl⟩; rw [show Lib.indexByte s.data.toList c = _ from h1])
    go_ret3
    exact ⟨s, ⟨#[]⟩, false, rfl, H.out, Below.refl _ _⟩
  · rw [Sb_length] at h2
    have H := hid h3
    have H1 := hid h1
    clear h3 h1
    have c1 : (0 : Int) ≤ ↑k := by omega
    have c2 : (↑k : Int) ≤ ↑s.size := by omega
    have c3 : (0 : Int) ≤ ↑k + 1 := by omega
    have c4 : (↑k + 1 : Int) ≤ ↑s.size := by omega
    go_enter Tryz.func163, Tryz.ntmps163
    go_wp2_with (go_at_call 188; refine (Tryz.stringslite_Index_one s c _).mono ?_; rintro e w' ⟨rfl, rfl⟩; rw [show Lib.indexByte s.data.toList c = _ from H1.out])
    go_region
    go_wp2
    go_ret3
    refine ⟨s.extract 0 k, s.extract (k + 1) s.size, true, rfl, ?_, below_dN9 _ 1⟩
    rw [Sb_tail, Sb_cut, H.out]; simp
set_option maxHeartbeats 1000000 in
theorem cut9 (c : UInt8) (s : ByteArray) (w : World) (hs : s.size ≤ 4611686018427387904) : Calls Tryz.prog 135 #[.string s, .string ⟨#[c]⟩] w (CutAtN c s w) := by
  go_enter Tryz.func135, Tryz.ntmps135
  go_wp2_with fail
  refine (cutlite9 c s _ hs).mono ?_
  rintro e w1 ⟨a, b, f, rfl, hc, hb⟩
  have H := hid hc
  have HB := hid hb
  clear hc hb
  go_wp2
  go_ret3
  exact ⟨a, b, f, rfl, H.out, HB.out⟩
def Num (l : List UInt8) (w : World) (e : Ending) (w' : World) : Prop := ∃ v : Int, e = .returned (.int .i64 v) ∧ (∀ x, atoiAll l = .ok x → v = x) ∧ Below w.heap.size w w'
set_option maxRecDepth 100000 in
set_option maxHeartbeats 400000 in
theorem number_any (s : ByteArray) (w : World) (hs : s.size ≤ 281474976710656) (hL : Laid w) : Calls Tryz.prog 183 #[.string s] w (Num (Sb s) w) := by
  have HL := hid hL
  clear hL
  go_enter Tryz.func183, Tryz.ntmps183
  go_wp2_with fail
  with_reducible refine (atoi_any s _ hs HL.out).mono ?_
  rintro e w1 ⟨hb, ⟨v, hv, rfl⟩ | ⟨hv, v, N, rfl⟩⟩
  · have HB := hid hb
    have HV := hid hv
    clear hb hv
    go_wp2
    go_ret
    exact ⟨v, rfl, fun x hx => by rw [HV.out] at hx; injection hx, HB.out⟩
  · have HB := hid hb
    have HV := hid hv
    clear hb hv
    go_wp2
    go_ret
    exact ⟨v, rfl, fun x hx => absurd hx (HV.out x), HB.out⟩
def Guessed (l : List UInt8) (w : World) (e : Ending) (w' : World) : Prop := ∃ V : Nat → Int, e = .returned (.agg #[.int .i64 (V 0), .int .i64 (V 1), .int .i64 (V 2), .int .i64 (V 3), .int .i64 (V 4), .int .i64 (V 5), .int .i64 (V 6), .int .i64 (V 7)]) ∧ Fits V l 8 ∧ Below w.heap.size w w'
theorem first_a (v : Int) : (#[.int .i64 v, .int .i64 0, .int .i64 0, .int .i64 0, .int .i64 0, .int .i64 0, .int .i64 0, .int .i64 0] : Array Value) = rowA (upd (fun _ => 0) 0 v) := rfl
set_option maxRecDepth 100000 in
set_option maxHeartbeats 2000000 in
theorem aguess_any (s : ByteArray) (w : World) (hs : s.size ≤ 100000) (hL : Laid w) : Calls Tryz.prog 154 #[.string s] w (Guessed (Sb s) w) := by
  obtain ⟨l, hl⟩ : ∃ l, Sb s = l := ⟨_, rfl⟩
  have HS := hid hl
  have hll : l.length ≤ 100000 := by rw [← hl, Sb_length]; exact hs
  rw [hl]
  have HL := hid hL
  obtain ⟨k, hk⟩ : ∃ k, w.heap.size = k := ⟨_, rfl⟩
  have HK := hid hk
  clear hL hl
  go_enter Tryz.func154, Tryz.ntmps154
  go_upto_region 1 with fail
  obtain ⟨W, hW⟩ : ∃ W, w.alloc (.cells #[.int .i64 0, .int .i64 0, .int .i64 0, .int .i64 0, .int .i64 0, .int .i64 0, .int .i64 0, .int .i64 0] 35) = W := ⟨_, rfl⟩
  rw [hW]
  obtain ⟨K0, B0⟩ := one_new hW
  rw [zeros_row, hk] at K0
  have L0 := hid (HL.out.below B0.out)
  rw [hk] at B0
  clear hW hk
  go_wp2_with fail
  with_reducible refine (cut9 124 s _ (by omega)).mono ?_
  rintro e w1 ⟨x, r, b, rfl, hc, hb⟩
  rw [HS.out] at hc
  have hx : Sb x = pieceA l 0 := by unfold pieceA; rw [hc]
  have hr : Sb r = restA l 0 := by unfold restA; rw [hc]
  have hxs : x.size ≤ 100000 := by rw [← Sb_length, hx]; exact Nat.le_trans (pieceA_len l 0) hll
  have HX := hid hx
  have HR := hid hr
  have K1 := hid (K0.out.below hb K0.out.lt)
  have B1 := hid (B0.out.trans (hb.mono (by have := K0.out.lt; omega)))
  have L1 := hid (L0.out.below hb)
  clear hc hb hx hr K0 B0 L0
  go_wp2_with fail
  with_reducible refine (number_any x _ (by omega) L1.out).mono ?_
  rintro e w2 ⟨v, rfl, hv, hb⟩
  rw [HX.out] at hv
  have HV : Hid (Fits (upd (fun _ => 0) 0 v) l (0 + 1)) := hid (Fits.next (fun i hi => absurd hi (by omega)) hv)
  have K2 := hid (K1.out.below hb K1.out.lt)
  have B2 := hid (B1.out.trans (hb.mono (by have := K1.out.lt; omega)))
  have L2 := hid (L1.out.below hb)
  clear hv hb K1 B1 L1
  go_wp2_with fail
  obtain ⟨W3, hW3⟩ : ∃ W3, w2.alloc (.cells #[.int .i64 v, .int .i64 0, .int .i64 0, .int .i64 0, .int .i64 0, .int .i64 0, .int .i64 0, .int .i64 0] 35) = W3 := ⟨_, rfl⟩
  rw [hW3]
  obtain ⟨M3, hb⟩ := one_new hW3
  rw [first_a] at M3
  have hkm : k < w2.heap.size := K2.out.lt
  have K3 := hid (K2.out.below hb.out K2.out.lt)
  have B3 := hid (B2.out.trans (hb.out.mono (by omega)))
  have L3 := hid (L2.out.below hb.out)
  obtain ⟨m, hm⟩ : ∃ m, w2.heap.size = m := ⟨_, rfl⟩
  rw [hm] at M3 hkm ⊢
  clear hW3 hb hm K2 B2 L2
  go_loopw [4, 18] (fun rv iv wr => ∃ (j : Nat) (r : ByteArray) (F : Nat → Int), j ≤ 7 ∧ rv = .string r ∧ iv = .int .i64 j ∧ Hid (Sb r = restA l j) ∧ Hid (Fits F l (1 + j)) ∧ Hid (Blk wr k 35 (rowA fun _ => 0)) ∧ Hid (Blk wr m 35 (rowA F)) ∧ Hid (Below k w wr) ∧ Hid (Laid wr)) (fun _ iv _ => 7 - (RowKit.intOf iv).toNat)
  case atStart => exact ⟨0, r, _, by omega, rfl, rfl, HR, HV, K3, M3, B3, L3⟩
  case round =>
    obtain ⟨j, r, F, hj, rfl, rfl, HR, HF, K, M, B, LL⟩ := hrel
    have hrs : r.size ≤ 100000 := by rw [← Sb_length, HR.out]; exact Nat.le_trans (restA_len l j) hll
    by_cases hlt : j < 7
    · go_wp2_with fail
      with_reducible refine (cut9 44 r _ (by omega)).mono ?_
      rintro e w4 ⟨x, r2, b, rfl, hc, hb⟩
      rw [HR.out] at hc
      have hx : Sb x = pieceA l (1 + j) := by rw [Nat.add_comm]; show _ = (cutN 44 (restA l j)).1; rw [hc]
      have hr : Sb r2 = restA l (j + 1) := by show _ = (cutN 44 (restA l j)).2; rw [hc]
      have hxs : x.size ≤ 100000 := by rw [← Sb_length, hx]; exact Nat.le_trans (pieceA_len l _) hll
      have HX := hid hx
      have HR2 := hid hr
      have K4 := hid (K.out.below hb K.out.lt)
      have M4 := hid (M.out.below hb M.out.lt)
      have B4 := hid (B.out.trans (hb.mono (by have := K.out.lt; omega)))
      have L4 := hid (LL.out.below hb)
      clear hc hb hx hr K M B LL
      go_wp2_with fail
      with_reducible refine (number_any x _ (by omega) L4.out).mono ?_
      rintro e w5 ⟨v, rfl, hv, hb⟩
      rw [HX.out] at hv
      have HV : Hid (Fits (upd F (1 + j) v) l (1 + (j + 1))) := hid (HF.out.next hv)
      have K5 := hid (K4.out.below hb K4.out.lt)
      have M5 := hid (M4.out.below hb M4.out.lt)
      have B5 := hid (B4.out.trans (hb.mono (by have := K4.out.lt; omega)))
      have L5 := hid (L4.out.below hb)
      clear hv hb K4 M4 B4 L4
      have q0 := M5.out.att (i := 1 + j) (by omega)
      have q1 := M5.out.frozen (1 + j)
      have K6 := hid (K5.out.far (p := ⟨m, 1 + j, none⟩) (by simp <;> omega) (.int .i64 v))
      have M6 := hid (M5.out.attSet (1 + j) v)
      have B6 := hid (B5.out.setCell (p := ⟨m, 1 + j, none⟩) (by show k ≤ m; omega) (.int .i64 v))
      have L6 : Hid (Laid (w5.setCell ⟨m, 1 + j, none⟩ (.int .i64 v))) := hid (HL.out.below (by rw [HK.out]; exact B6.out))
      go_wp2
      go_roundw
      case rel => exact ⟨j + 1, r2, _, by omega, rfl, by go_num, HR2, HV, K6, M6, B6, L6⟩
      case measure => simp only [RowKit.intOf]; omega
    · obtain rfl : j = 7 := by omega
      have Z1 := hid (len_attr F)
      have Z2 := hid (size_zero F)
      have Z3 := hid (rowA_one F)
      go_wp2_with (first
        | (with_reducible refine wpList_load_row (o := ⟨some 33, _, _, _, _, _⟩) rfl 35 (.tmp 6) rfl m rfl 35 (rowA F) (0, 0) _ M.out.heap Tryz.underlying35 rfl Z1.out ?_)
        | (with_reducible refine wpList_store_row (o := ⟨none, _, _, _, _, _⟩) rfl 35 (.tmp 2) (.tmp 33) rfl k (rowA F) rfl rfl 35 _ K.out.heap Z1.out Z2.out Z3.out ?_))
      exact bodyPost_ret (v := .agg (rowA F)) (results_cell_row (p := 2) (ty := 35) (by kernel_rfl) _ _ k 35 (rowA F) (0, 0) _ rfl (setRow_heap wr k _ (rowA F) _ _ K.out.heap) Tryz.underlying35 rfl Z1.out) rfl ⟨F, rfl, HF.out, by rw [HK.out]; exact below_setRow_ B.out (Nat.le_refl _)⟩
theorem joinc_any (A : Option Addr) (n c : Nat) (xs : List ByteArray) (w : World) (hn : xs.length = n) (h0 : 0 < n) (hc : n ≤ c) (hl : n ≤ 1000) (hz : ∀ x ∈ xs, x.size ≤ 1000) (hv : Vals w A (strs xs)) :
    Calls Tryz.prog 54 #[.slice A n c, .string ⟨#[44]⟩] w (Says (Lib.join (xs.map Sb) [44]) w) := by
  subst hn
  obtain ⟨b, o, rfl, hb, _⟩ := strs_at hv h0
  have hle := join_len (xs.map Sb) 1000 (by intro x hx; obtain ⟨y, hy, rfl⟩ := List.mem_map.1 hx; rw [Sb_length]; exact hz y hy)
  rw [List.length_map] at hle
  have hm : xs.length * 1001 ≤ 1000 * 1001 := Nat.mul_le_mul_right _ hl
  refine (Tryz.strings_Join b o c xs ⟨#[44]⟩ w ?_ hb (by omega) hc ?_).mono ?_
  · intro j x hj
    obtain ⟨b', o', he, _, hcell⟩ := hv j (.string x) (by simp [strs, hj])
    injection he with he
    injection he with h1 h2
    subst h1; subst h2
    exact hcell
  · show (Lib.join (xs.map Sb) [44]).length ≤ _
    omega
  · rintro e w' ⟨rfl, hb⟩
    exact ⟨_, rfl, Sb_mk _, hb⟩
end Go.Proofs.YtohffiehmmcgbaaGreatDoor
namespace Go.Proofs.YtohffiehmmcgbaaGreatDoor
open Go.ChangeShapes Go.WideShapes Go.ChangeAt Go.RowKit Go.Lib
set_option linter.unusedVariables false
set_option linter.unusedSimpArgs false
theorem info_str9 : (Tryz.prog.info? 9).map (fun i => (i.zero, i.size, i.bytes)) = some (some (.string ⟨#[]⟩), 1, 16) := by kernel_rfl
theorem one_str9 {w : World} {x : Value} (E : TypeId) : Vals (w.alloc (.cells #[x] E)) (some ⟨w.heap.size, 0, none⟩) [x] := by
  intro j u hj
  match j, hj with
  | 0, hj =>
    simp at hj
    subst hj
    exact ⟨w.heap.size, 0, rfl, by simp, by simp⟩
theorem grown_below9 {w w' : World} (hb : Below w.heap.size w w') : w.grownBy w' none := ⟨hb.os, hb.tape, hb.output, hb.size, fun i hi _ => hb.block i hi⟩
theorem ok_bounds {f : Nat → Int} (h : okB f = true) : (0 ≤ f 0 ∧ f 0 ≤ 1073741824) ∧ ∀ j, j < 7 → 0 ≤ f (1 + j) ∧ f (1 + j) ≤ 1024 := by
  obtain ⟨h0, h1⟩ := okB_iff.1 h
  exact ⟨h0, fun j hj => by have := h1 j hj; rwa [Nat.add_comm] at this⟩
set_option maxRecDepth 100000 in
set_option maxHeartbeats 400000 in
theorem ashow_no (f : Nat → Int) (w : World) (h : okB f = false) :
    Calls Tryz.prog 107 #[.agg #[.int .i64 (f 0), .int .i64 (f 1), .int .i64 (f 2), .int .i64 (f 3), .int .i64 (f 4), .int .i64 (f 5), .int .i64 (f 6), .int .i64 (f 7)]] w fun e w' => e = .returned (.tuple #[.string ⟨#[]⟩, .int .i64 12]) ∧ Below w.heap.size w w' := by
  have HO := hid h
  clear h
  go_enter Tryz.func107, Tryz.ntmps107
  go_upto_region 1 with fail
  obtain ⟨W, hW⟩ : ∃ W, w.alloc (.cells #[.int .i64 (f 0), .int .i64 (f 1), .int .i64 (f 2), .int .i64 (f 3), .int .i64 (f 4), .int .i64 (f 5), .int .i64 (f 6), .int .i64 (f 7)] 35) = W := ⟨_, rfl⟩
  rw [hW]
  obtain ⟨K0, B0⟩ := one_new hW
  rw [show #[.int .i64 (f 0), .int .i64 (f 1), .int .i64 (f 2), .int .i64 (f 3), .int .i64 (f 4), .int .i64 (f 5), .int .i64 (f 6), .int .i64 (f 7)] = rowA f from rfl] at K0
  clear hW
  obtain ⟨c0, c1, c2, c3, c4, c5, c6, c7⟩ := K0.out.eight
  go_wp2_with fail
  clear c0 c1 c2 c3 c4 c5 c6 c7
  with_reducible refine (aright8 f _).mono ?_
  rw [HO.out]
  rintro e w1 ⟨rfl, hb⟩
  have B1 := hid (B0.out.trans (hb.mono (by have := K0.out.lt; omega)))
  clear hb
  go_wp2
  exact bodyPost_ret (v := .tuple #[.string ⟨#[]⟩, .int .i64 12]) (by simp [results, Tryz.results107, go_sem]) rfl ⟨rfl, B1.out⟩
set_option maxRecDepth 100000 in
set_option maxHeartbeats 2000000 in
theorem ashow_yes (f : Nat → Int) (w : World) (hL : Laid w) (h : okB f = true) :
    Calls Tryz.prog 107 #[.agg #[.int .i64 (f 0), .int .i64 (f 1), .int .i64 (f 2), .int .i64 (f 3), .int .i64 (f 4), .int .i64 (f 5), .int .i64 (f 6), .int .i64 (f 7)]] w fun e w' => (∃ t : ByteArray, e = .returned (.tuple #[.string t, .int .i64 0]) ∧ Sb t = textA f) ∧ Below w.heap.size w w' := by
  obtain ⟨i0, hi, hz0, hz1, hz2⟩ := info_parts info_str9
  have HO := hid h
  obtain ⟨⟨x0, x1⟩, hbd⟩ := ok_bounds h
  have HBD := hid hbd
  have HL := hid hL
  obtain ⟨k, hk⟩ : ∃ k, w.heap.size = k := ⟨_, rfl⟩
  have HK := hid hk
  clear h hL hbd
  go_enter Tryz.func107, Tryz.ntmps107
  go_upto_region 1 with fail
  obtain ⟨W, hW⟩ : ∃ W, w.alloc (.cells #[.int .i64 (f 0), .int .i64 (f 1), .int .i64 (f 2), .int .i64 (f 3), .int .i64 (f 4), .int .i64 (f 5), .int .i64 (f 6), .int .i64 (f 7)] 35) = W := ⟨_, rfl⟩
  rw [hW]
  obtain ⟨K0, B0⟩ := one_new hW
  have L0 := hid (HL.out.below B0.out)
  rw [show #[.int .i64 (f 0), .int .i64 (f 1), .int .i64 (f 2), .int .i64 (f 3), .int .i64 (f 4), .int .i64 (f 5), .int .i64 (f 6), .int .i64 (f 7)] = rowA f from rfl, hk] at K0
  rw [hk] at B0
  clear hW hk
  obtain ⟨c0, c1, c2, c3, c4, c5, c6, c7⟩ := K0.out.eight
  go_wp2_with fail
  clear c0 c1 c2 c3 c4 c5 c6 c7
  with_reducible refine (aright8 f _).mono ?_
  rw [HO.out]
  rintro e w1 ⟨rfl, hb⟩
  have K1 := hid (K0.out.below hb K0.out.lt)
  have B1 := hid (B0.out.trans (hb.mono (by have := K0.out.lt; omega)))
  have L1 := hid (L0.out.below hb)
  clear hb K0 B0 L0
  have MR := hid K1.out.range
  have H7 := hid (len_seven f)
  go_wp2_with (with_reducible refine wpList_load_mid (op := ⟨some 11, _, _, _, _, _⟩) rfl 33 (.tmp 10) rfl k 1 rfl (lsD f) _ MR.out Tryz.underlying33 rfl H7.out ?_)
  have HI : Hid (∀ j : Nat, j < 7 → (lsD f)[j]? = some (.int .i64 (f (1 + j)))) := hid (fun j hj => by rw [lsD_get f hj, Nat.add_comm])
  obtain ⟨ds, hds⟩ : ∃ ds, lsD f = ds := ⟨_, rfl⟩
  rw [hds] at HI
  rw [hds]
  clear hds MR H7
  go_loopw [4, 12] (fun dv iv wr => ∃ (j : Nat) (xs : List ByteArray), j ≤ 7 ∧ iv = .int .i64 j ∧ Hid (wr.ownsRow (k + 1) 9 1 dv j (strs xs)) ∧ Hid (xs.map Sb = (partsA f).take j) ∧ Hid (Blk wr k 35 (rowA f)) ∧ Hid (Below k w wr) ∧ Hid (Laid wr)) (fun _ iv _ => 7 - (RowKit.intOf iv).toNat)
  case atStart => exact ⟨0, [], by omega, rfl, hid (World.ownsRow_nil _ _ _ _), hid rfl, K1, B1, L1⟩
  case round =>
    obtain ⟨j, xs, hj, rfl, HR, HX, K, B, LL⟩ := hrel
    by_cases hlt : j < 7
    · have hx := run_index_seven ds.toArray j _ hlt ((List.getElem?_toArray ..).trans (HI.out j hlt))
      have HP := hid (partsA_at f hlt)
      obtain ⟨y0, y1⟩ := HBD.out j hlt
      obtain ⟨y, hy⟩ : ∃ y, f (1 + j) = y := ⟨_, rfl⟩
      rw [hy] at hx HP y0 y1
      clear hy
      go_wp2_with fail
      with_reducible refine (itoa_any y _ (by omega) (by omega) LL.out).mono ?_
      rintro e w2 ⟨r, rfl, hr, hb⟩
      have HS := hid hr
      have R2 := hid (HR.out.kept (grown_below9 hb) (Classical.em _))
      have K2 := hid (K.out.below hb K.out.lt)
      have B2 := hid (B.out.trans (hb.mono (by have := K.out.lt; omega)))
      have hk2 := K2.out.lt
      clear hr hb HR K B LL
      go_wp2_with (at_builtin; refine wpList_append_vals rfl (.tmp 15) (.tmp 18) 100 rfl (k + 1) 9 i0 _ 16 Tryz.underlying100 hi hz0 hz1 hz2 rfl _ j (strs xs) rfl (R2.out.alloc _) _ 1 [.string r] 1 rfl rfl (fun h => nomatch h) (one_str9 _) (by intro u hu; simp at hu; subst hu; rfl) (by unfold maxLen; omega) (by omega) (by simp; omega) ?_; intro v3 w3 hown3 hg3; have hb3 : Below (k + 1) w2 w3 := ((Below.refl (k + 1) w2).alloc (by omega) _).grown hg3 (by simp; omega) (fun j hj => (R2.out.lt j hj).1); have K3 := hid (K2.out.below hb3 (by omega)); have B3 := hid (B2.out.trans (hb3.mono (by omega))); have R3 := hid hown3; clear hb3 hg3 hown3)
      have L3 := hid (HL.out.below (by rw [HK.out]; exact B3.out))
      go_roundw
      case rel => exact ⟨j + 1, xs ++ [r], by omega, by go_num, by rw [← strs_append]; exact R3, hid (by rw [List.map_append, HX.out, List.take_add_one, HP.out, List.map_singleton, HS.out]; rfl), K3, B3, L3⟩
      case measure => simp only [RowKit.intOf]; omega
    · obtain rfl : j = 7 := by omega
      obtain ⟨Ad, cd, rfl, hl7, hn7, hc7, hm7, hv7⟩ := own_vals HR.out
      rw [strs_length] at hl7
      have HV := hid hv7
      have c0 := K.out.att (i := 0) (by decide)
      have HP : Hid (xs.map Sb = partsA f) := hid (by rw [HX.out, List.take_of_length_le (by rw [partsA_len]; omega)])
      have HZ : Hid (∀ x ∈ xs, x.size ≤ 1000) := hid (fun x hx => by
        have h1 : Sb x ∈ partsA f := by rw [← HP.out]; exact List.mem_map_of_mem hx
        unfold partsA at h1
        obtain ⟨i, hi, h2⟩ := List.mem_map.1 h1
        have h3 := HBD.out i (List.mem_range.1 hi)
        have h4 := itoa_len21 (f (1 + i)) (by omega) (by omega)
        rw [h2, Sb_length] at h4
        omega)
      have HT := hid (textA_len HO.out)
      have HTT : Hid (textA f = itoa (f 0) ++ 124 :: Lib.join (partsA f) [44]) := hid rfl
      obtain ⟨y, hy⟩ : ∃ y, f 0 = y := ⟨_, rfl⟩
      rw [hy] at c0 x0 x1 HTT
      clear hv7 HR HX hy
      go_wp2_with fail
      with_reducible refine (itoa_any y _ (by omega) (by omega) LL.out).mono ?_
      rintro e w2 ⟨r, rfl, hr, hb⟩
      have hrs : r.size ≤ 21 := says_size hr (itoa_len21 y x0 x1)
      have HS := hid hr
      have V2 := hid (HV.out.below hb)
      have B2 := hid (B.out.trans (hb.mono (by have := K.out.lt; omega)))
      have hk2 : k ≤ w2.heap.size := by have := K.out.lt; have := hb.size; omega
      clear hr hb K B LL HV c0
      go_wp2_with fail
      with_reducible refine (joinc_any Ad 7 cd xs _ hl7 (by omega) hc7 (by omega) HZ.out V2.out).mono ?_
      rintro e w3 ⟨r3, rfl, hr, hb⟩
      have H3 := hid hr
      have B3 := hid (B2.out.trans (hb.mono hk2))
      have hz : Sb (r ++ ⟨#[124]⟩ ++ r3) = textA f := by rw [HTT.out, Sb_append, Sb_append, HS.out, H3.out, HP.out, show Sb ⟨#[124]⟩ = [124] from rfl]; simp
      have hzs : r.size + 1 + r3.size ≤ 200 := by
        have h1 := congrArg List.length hz
        rw [Sb_append, Sb_append, List.length_append, List.length_append, Sb_length, Sb_length, Sb_length] at h1
        have h2 : (⟨#[124]⟩ : ByteArray).size = 1 := rfl
        have := HT.out
        omega
      have HZ3 := hid hz
      clear hr hb hz B2
      go_wp2
      exact bodyPost_ret (v := .tuple #[.string (r ++ ⟨#[124]⟩ ++ r3), .int .i64 0]) (by simp [results, Tryz.results107, go_sem]) rfl ⟨⟨_, rfl, HZ3.out⟩, by rw [HK.out]; exact B3.out⟩
theorem dec_len9 {v : Nat} (hv : v < 18446744073709551616) : (decDigits v).length ≤ 20 := by rw [decDigits_length]; exact nDigits_le20 v hv
def ReadsA (l : List UInt8) (w : World) (e : Ending) (w' : World) : Prop :=
  Below w.heap.size w w' ∧ ((∃ V : Nat → Int, okB V = true ∧ textA V = l ∧ e = .returned (.tuple #[.agg #[.int .i64 (V 0), .int .i64 (V 1), .int .i64 (V 2), .int .i64 (V 3), .int .i64 (V 4), .int .i64 (V 5), .int .i64 (V 6), .int .i64 (V 7)], .int .i64 0])) ∨
    ((∀ f, okB f = true → textA f ≠ l) ∧ e = .returned (.tuple #[.agg #[.int .i64 0, .int .i64 0, .int .i64 0, .int .i64 0, .int .i64 0, .int .i64 0, .int .i64 0, .int .i64 0], .int .i64 10])))
theorem fits_none {V : Nat → Int} {l : List UInt8} (h : Fits V l 8) (hn : okB V = true → textA V ≠ l) : ∀ f, okB f = true → textA f ≠ l := by
  intro f hf ht
  have h1 := fits_text hf (by rw [ht]; exact h)
  refine hn ?_ ?_
  · rw [okB_congrA h1]; exact hf
  · rw [textA_congr h1]; exact ht
def Duo (w W : World) (k m : Nat) (V : Nat → Int) : Prop := Blk W k 35 (rowA fun _ => 0) ∧ Blk W m 35 (rowA V) ∧ Below k w W ∧ k < m
theorem Duo.on {w W W' : World} {k m : Nat} {V : Nat → Int} (H : Duo w W k m V) (hb : Below W.heap.size W W') : Duo w W' k m V := ⟨H.1.below hb H.1.lt, H.2.1.below hb H.2.1.lt, H.2.2.1.trans (hb.mono (by have := H.1.lt; omega)), H.2.2.2⟩
theorem Duo.res {w W : World} {k m : Nat} {V : Nat → Int} (H : Duo w W k m V) : Blk W k 35 (rowA fun _ => 0) := H.1
theorem Duo.got {w W : World} {k m : Nat} {V : Nat → Int} (H : Duo w W k m V) : Blk W m 35 (rowA V) := H.2.1
theorem Duo.below {w W : World} {k m : Nat} {V : Nat → Int} (H : Duo w W k m V) : Below k w W := H.2.2.1
set_option maxRecDepth 100000 in
set_option maxHeartbeats 2000000 in
theorem read_any9 (s : ByteArray) (w : World) (hs : s.size ≤ 100000) (hL : Laid w) : Calls Tryz.prog 120 #[.string s] w (ReadsA (Sb s) w) := by
  have HL := hid hL
  obtain ⟨k, hk⟩ : ∃ k, w.heap.size = k := ⟨_, rfl⟩
  have HK := hid hk
  clear hL
  go_enter Tryz.func120, Tryz.ntmps120
  go_upto_region 1 with fail
  obtain ⟨W, hW⟩ : ∃ W, w.alloc (.cells #[.int .i64 0, .int .i64 0, .int .i64 0, .int .i64 0, .int .i64 0, .int .i64 0, .int .i64 0, .int .i64 0] 35) = W := ⟨_, rfl⟩
  rw [hW]
  obtain ⟨K0, B0⟩ := one_new hW
  have L0 := hid (HL.out.below B0.out)
  rw [zeros_row, hk] at K0
  rw [hk] at B0
  clear hW hk
  go_wp2_with fail
  with_reducible refine (aguess_any s _ hs L0.out).mono ?_
  rintro e w1 ⟨V, rfl, hf, hb⟩
  have HF := hid hf
  have K1 := hid (K0.out.below hb K0.out.lt)
  have B1 := hid (B0.out.trans (hb.mono (by have := K0.out.lt; omega)))
  have L1 := hid (L0.out.below hb)
  clear hf hb K0 B0 L0
  go_upto_region 2 with fail
  obtain ⟨W2, hW2⟩ : ∃ W2, w1.alloc (.cells #[.int .i64 (V 0), .int .i64 (V 1), .int .i64 (V 2), .int .i64 (V 3), .int .i64 (V 4), .int .i64 (V 5), .int .i64 (V 6), .int .i64 (V 7)] 35) = W2 := ⟨_, rfl⟩
  rw [hW2]
  obtain ⟨M2, hb⟩ := one_new hW2
  rw [show #[.int .i64 (V 0), .int .i64 (V 1), .int .i64 (V 2), .int .i64 (V 3), .int .i64 (V 4), .int .i64 (V 5), .int .i64 (V 6), .int .i64 (V 7)] = rowA V from rfl] at M2
  have D2 := hid (show Duo w W2 k w1.heap.size V from ⟨K1.out.below hb.out K1.out.lt, M2.out, B1.out.trans (hb.out.mono (by have := K1.out.lt; omega)), K1.out.lt⟩)
  have L2 := hid (L1.out.below hb.out)
  obtain ⟨m, hm⟩ : ∃ m, w1.heap.size = m := ⟨_, rfl⟩
  rw [hm] at D2 ⊢
  clear hW2 hb hm M2 K1 B1 L1
  obtain ⟨c0, c1, c2, c3, c4, c5, c6, c7⟩ := D2.out.2.1.eight
  cases ho : okB V with
  | true =>
    have HO := hid ho
    clear ho
    go_wp2_with fail
    clear c0 c1 c2 c3 c4 c5 c6 c7
    with_reducible refine (ashow_yes V _ L2.out HO.out).mono ?_
    rintro e w3 ⟨⟨t, rfl, ht⟩, hb⟩
    have D3 := hid (D2.out.on hb)
    have HT := hid ht
    clear hb D2 L2 ht
    by_cases he : t = s
    · obtain rfl : t = s := he
      have Z1 := hid (len_attr V)
      have Z2 := hid (size_zero V)
      have Z3 := hid (rowA_one V)
      go_wp2_with (first
        | (with_reducible refine wpList_load_row (o := ⟨some 22, _, _, _, _, _⟩) rfl 35 (.tmp 4) rfl m rfl 35 (rowA V) (0, 0) _ D3.out.got.heap Tryz.underlying35 rfl Z1.out ?_)
        | (with_reducible refine wpList_store_row (o := ⟨none, _, _, _, _, _⟩) rfl 35 (.tmp 2) (.tmp 22) rfl k (rowA V) rfl rfl 35 _ D3.out.res.heap Z1.out Z2.out Z3.out ?_))
      obtain ⟨W9, hW9⟩ : ∃ W9, w3.setRow k (rowA V) = W9 := ⟨_, rfl⟩
      rw [hW9]
      have K9 : Blk W9 k 35 (rowA V) := by rw [← hW9]; exact setRow_heap w3 k _ _ _ _ D3.out.res.heap
      have B9 : Hid (Below k w W9) := hid (by rw [← hW9]; exact below_setRow_ D3.out.below (Nat.le_refl _))
      clear hW9
      obtain ⟨z0, z1, z2, z3, z4, z5, z6, z7⟩ := K9.eight
      exact bodyPost_ret (v := .tuple #[.agg #[.int .i64 (V 0), .int .i64 (V 1), .int .i64 (V 2), .int .i64 (V 3), .int .i64 (V 4), .int .i64 (V 5), .int .i64 (V 6), .int .i64 (V 7)], .int .i64 0]) (by simp [results, Tryz.results120, go_sem, z0, z1, z2, z3, z4, z5, z6, z7]) rfl ⟨by rw [HK.out]; exact B9.out, .inl ⟨V, HO.out, HT.out.symm, rfl⟩⟩
    · have hne : (t.toList == s.toList) = false := by rw [Sb_eq]; exact decide_eq_false (fun h => he (Sb_inj.1 h))
      have HE : Hid (∀ f, okB f = true → textA f ≠ Sb s) := hid (fits_none HF.out (fun _ h => he (Sb_inj.1 (HT.out.trans h))))
      clear he
      have Z1 : Hid ((Tryz.prog.info? 35).map (·.size) = some (#[.int .i64 0, .int .i64 0, .int .i64 0, .int .i64 0, .int .i64 0, .int .i64 0, .int .i64 0, .int .i64 0] : Array Value).size) := hid info_attr
      have Z3 : Hid ((#[.int .i64 0, .int .i64 0, .int .i64 0, .int .i64 0, .int .i64 0, .int .i64 0, .int .i64 0, .int .i64 0] : Array Value).all (·.oneCell') = true) := hid (rowA_one fun _ => 0)
      go_wp2_with (with_reducible refine wpList_store_row (o := ⟨none, _, _, _, _, _⟩) rfl 35 (.tmp 2) (.tmp 21) rfl k #[.int .i64 0, .int .i64 0, .int .i64 0, .int .i64 0, .int .i64 0, .int .i64 0, .int .i64 0, .int .i64 0] rfl rfl 35 _ D3.out.res.heap Z1.out rfl Z3.out ?_)
      obtain ⟨W9, hW9⟩ : ∃ W9, w3.setRow k #[.int .i64 0, .int .i64 0, .int .i64 0, .int .i64 0, .int .i64 0, .int .i64 0, .int .i64 0, .int .i64 0] = W9 := ⟨_, rfl⟩
      rw [hW9]
      have K9 : Blk W9 k 35 (rowA fun _ => 0) := by rw [← hW9]; exact setRow_heap w3 k _ _ _ _ D3.out.res.heap
      have B9 : Hid (Below k w W9) := hid (by rw [← hW9]; exact below_setRow_ D3.out.below (Nat.le_refl _))
      clear hW9
      obtain ⟨z0, z1, z2, z3, z4, z5, z6, z7⟩ := K9.eight
      exact bodyPost_ret (v := .tuple #[.agg #[.int .i64 0, .int .i64 0, .int .i64 0, .int .i64 0, .int .i64 0, .int .i64 0, .int .i64 0, .int .i64 0], .int .i64 10]) (by simp [results, Tryz.results120, go_sem, z0, z1, z2, z3, z4, z5, z6, z7]) rfl ⟨by rw [HK.out]; exact B9.out, .inr ⟨HE.out, rfl⟩⟩
  | false =>
    have HE : Hid (∀ f, okB f = true → textA f ≠ Sb s) := hid (fits_none HF.out (fun h => by rw [ho] at h; cases h))
    have HO := hid ho
    clear ho
    go_wp2_with fail
    clear c0 c1 c2 c3 c4 c5 c6 c7
    with_reducible refine (ashow_no V _ HO.out).mono ?_
    rintro e w3 ⟨rfl, hb⟩
    have D3 := hid (D2.out.on hb)
    clear hb D2 L2
    have Z1 : Hid ((Tryz.prog.info? 35).map (·.size) = some (#[.int .i64 0, .int .i64 0, .int .i64 0, .int .i64 0, .int .i64 0, .int .i64 0, .int .i64 0, .int .i64 0] : Array Value).size) := hid info_attr
    have Z3 : Hid ((#[.int .i64 0, .int .i64 0, .int .i64 0, .int .i64 0, .int .i64 0, .int .i64 0, .int .i64 0, .int .i64 0] : Array Value).all (·.oneCell') = true) := hid (rowA_one fun _ => 0)
    go_wp2_with (with_reducible refine wpList_store_row (o := ⟨none, _, _, _, _, _⟩) rfl 35 (.tmp 2) (.tmp 21) rfl k #[.int .i64 0, .int .i64 0, .int .i64 0, .int .i64 0, .int .i64 0, .int .i64 0, .int .i64 0, .int .i64 0] rfl rfl 35 _ D3.out.res.heap Z1.out rfl Z3.out ?_)
    obtain ⟨W9, hW9⟩ : ∃ W9, w3.setRow k #[.int .i64 0, .int .i64 0, .int .i64 0, .int .i64 0, .int .i64 0, .int .i64 0, .int .i64 0, .int .i64 0] = W9 := ⟨_, rfl⟩
    rw [hW9]
    have K9 : Blk W9 k 35 (rowA fun _ => 0) := by rw [← hW9]; exact setRow_heap w3 k _ _ _ _ D3.out.res.heap
    have B9 : Hid (Below k w W9) := hid (by rw [← hW9]; exact below_setRow_ D3.out.below (Nat.le_refl _))
    clear hW9
    obtain ⟨z0, z1, z2, z3, z4, z5, z6, z7⟩ := K9.eight
    exact bodyPost_ret (v := .tuple #[.agg #[.int .i64 0, .int .i64 0, .int .i64 0, .int .i64 0, .int .i64 0, .int .i64 0, .int .i64 0, .int .i64 0], .int .i64 10]) (by simp [results, Tryz.results120, go_sem, z0, z1, z2, z3, z4, z5, z6, z7]) rfl ⟨by rw [HK.out]; exact B9.out, .inr ⟨HE.out, rfl⟩⟩
end Go.Proofs.YtohffiehmmcgbaaGreatDoor
