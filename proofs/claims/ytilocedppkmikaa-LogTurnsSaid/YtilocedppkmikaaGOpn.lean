/-
  Contracts of sum.Open as package log asks it: of whole sealed texts, of others, of too short ones; of head, Frame and Size; of the document's Same at unlike bytes.
-/
import Derived.Test.YtilocedppkmikaaGMath
import Derived.Test.YtilocedppkmikaaNShort
import Derived.Test.YtilocedppkmikaaRSame
import Derived.Test.YtilocedppkmikaaHeld
import Derived.RegionTactic
import Derived.Deep.RegionHeld3
namespace Go.Proofs.Ytilocedppkmikaa
open Go.RowKit

/-- What Open hands back, in a row of its own. -/
def OpensOwn (l : List Nat) (n : Nat) (w : World) (e : Ending) (w' : World) : Prop :=
  ∃ s, e = .returned (.tuple #[s, .int .i64 0]) ∧ w'.ownsRow w.heap.size 5 1 s n (l.map bv) ∧ Below w.heap.size w w'

set_option maxRecDepth 100000 in
set_option maxHeartbeats 400000 in
theorem open_own (b o : Nat) (p t : List Nat) (n c : Nat) (w : World) (hp : p.length = n) (ht : t.length = 4) (hn : n ≤ 140737488351232) (hc : n + 4 ≤ c) (xp : ∀ x ∈ p, x < 256) (hA : Sees .u8 w (some ⟨b, o, none⟩) (p ++ t)) (hs : t = le4 (crcOf p)) :
    Calls Try.prog 28 #[.slice (some ⟨b, o, none⟩) (n + 4) c] w (OpensOwn p n w) := by
  have SP : Hid (Sees .u8 w (some ⟨b, o, none⟩) p) := hid (by have := hA.take n; rwa [List.take_left' hp] at this)
  have ST : Hid (Sees .u8 w (some ⟨b, o + n, none⟩) t) := hid (by have := hA.rest (i := n) rfl; rwa [List.drop_left' hp] at this)
  have HP := hid hp
  have HT := hid ht
  have XP := hid xp
  have HY : Hid (sameB t (le4 (crcOf p)) = true) := hid (by rw [hs]; exact sameB_yes _)
  clear hA hp ht xp hs
  have hc1 : ¬ c = n := by omega
  have hc2 : (n : Int) ≤ (c : Int) := by omega
  have hc3 : (n : Int) + 4 ≤ (c : Int) := by omega
  have hc4 : (0 : Int) ≤ (n : Int) := by omega
  have hc5 : (n : Int) ≤ (n : Int) + 4 := by omega
  go_enter Try.func28, Try.ntmps28
  go_wp2_with fail
  go_region_held3 (fun _ => True) (exact trivial) (first
    | (go_at_call 25; ((with_reducible refine (tail_any (some ⟨b, o, none⟩) p n c _ HP.out (by omega) XP.out SP.out.drew_).mono ?_); rintro e w1 hm; obtain ⟨A2, c2, rfl, hk2, _, hs2, hb1⟩ := hm.hands; have HS := hid hs2; have HB := hid hb1; clear hk2 hs2 hb1 hm; rw [le4_len]))
    | (go_at_call 32; ((with_reducible refine (equal_any (some ⟨b, o + n, none⟩) A2 t (le4 (crcOf p)) 4 4 (c - n) c2 w1 HT.out rfl (ST.out.drew_.below HB.out) HS.out).mono ?_); rintro e w' ⟨rfl, rfl⟩; rw [HY.out])))
  have SQ := hid (SP.out.drew_.below HB.out)
  have BQ := hid ((below_drew (Below.refl w.heap.size w)).trans HB.out)
  clear SP ST HB HS HY
  go_wp2_with (go_at_call 33; ((with_reducible refine (clone_some b o p n c w1 HP.out (by omega) SQ.out).mono ?_); rintro e w2 ⟨s3, rfl, hown3, hb3⟩; have HO3 := hid hown3; have HB3 := hid hb3; clear hown3 hb3))
  go_ret2
  exact ⟨s3, rfl, own_low (by have := HO3.out; rwa [HP.out] at this) BQ.out.size, BQ.out.trans (HB3.out.mono BQ.out.size)⟩

set_option maxRecDepth 100000 in
set_option maxHeartbeats 400000 in
theorem open_short (A : Option Addr) (n c : Nat) (w : World) (hn : n < 4) :
    Calls Try.prog 28 #[.slice A n c] w (fun e w' => e = .returned (.tuple #[.slice none 0 0, .int .i64 20]) ∧ w = w') := by
  have h : (n : Int) < 4 := by omega
  go_enter Try.func28, Try.ntmps28
  go_wp2
  go_ret2
  exact ⟨rfl, rfl⟩

theorem short_as (x : Int) (v : Nat) (w : World) (hx : x = (v : Int)) (hv : v < 18446744073709551616) : Calls Try.prog 24 #[.int .u64 x] w (Makes (shortN v) w) := by
  subst hx; exact short_any v w hv

set_option maxRecDepth 100000 in
set_option maxHeartbeats 400000 in
theorem head_any (A : Option Addr) (n c : Nat) (w : World) (hn : n ≤ 16384) :
    Calls Try.prog 17 #[.slice A n c] w (Makes (shortN (n + 4)) w) := by
  go_enter Try.func17, Try.ntmps17
  go_wp2_with (go_at_call 24; ((with_reducible refine (short_as _ (n + 4) _ (by omega) (by omega)).mono ?_); rintro e w1 ⟨s, rfl, hown, hb⟩; have HO := hid hown; have HB := hid hb; clear hown hb))
  go_ret
  exact ⟨_, rfl, HO.out, HB.out⟩

theorem head_hands (A : Option Addr) (n c N : Nat) (w : World) (hn : n ≤ 16384) (hN : (shortN (n + 4)).length = N) :
    Calls Try.prog 17 #[.slice A n c] w (fun e w' => ∃ A1 c1, e = .returned (.slice A1 N c1) ∧ (A1 = none → c1 = 0) ∧ Sees .u8 w' A1 (shortN (n + 4)) ∧ Below w.heap.size w w') := by
  subst hN
  refine (head_any A n c w hn).mono ?_
  intro e w' hm
  obtain ⟨A2, c2, rfl, hk2, _, hs2, hb1⟩ := hm.hands
  exact ⟨A2, c2, rfl, hk2, hs2, hb1⟩

set_option maxRecDepth 100000 in
set_option maxHeartbeats 400000 in
theorem size_any (A : Option Addr) (r : List Nat) (n c : Nat) (w : World) (hr : r.length = n) (hn : n ≤ 16384) :
    Calls Try.prog 9 #[.slice A n c] w (fun e w' => e = .returned (.int .i64 ((frameN r).length : Int)) ∧ Below w.heap.size w w') := by
  obtain ⟨N, hN⟩ : ∃ N, (shortN (n + 4)).length = N := ⟨_, rfl⟩
  have hN3 : N ≤ 3 := by rw [← hN]; exact shortN_len3 (by omega)
  have HN := hid hN
  have HL : Hid ((frameN r).length = N + (n + 4)) := hid (by rw [frameN_len, hr, hN])
  clear hN hr
  have hni : (n : Int) ≤ 16384 := by omega
  go_enter Try.func9, Try.ntmps9
  go_wp2_with (go_at_call 17; ((with_reducible refine (head_hands A n c N _ hn HN.out).mono ?_); rintro e w1 ⟨A1, c1, rfl, hk, hs, hb⟩; have HB := hid hb; clear hk hs hb))
  go_ret
  exact ⟨ret_num (by rw [HL.out]; omega), HB.out⟩

set_option maxRecDepth 100000 in
set_option maxHeartbeats 400000 in
theorem size_none (A : Option Addr) (n c : Nat) (w : World) (hn : 16384 < n) :
    Calls Try.prog 9 #[.slice A n c] w (fun e w' => e = .returned (.int .i64 0) ∧ w = w') := by
  have h : ¬ (n : Int) ≤ 16384 := by omega
  go_enter Try.func9, Try.ntmps9
  go_wp2
  go_ret
  exact ⟨rfl, rfl⟩

/-- What Frame hands back, in a row of its own. -/
def FramesOwn (r : List Nat) (w : World) (e : Ending) (w' : World) : Prop :=
  ∃ s, e = .returned (.tuple #[s, .int .i64 0]) ∧ w'.ownsRow w.heap.size 5 1 s (frameN r).length ((frameN r).map bv) ∧ Below w.heap.size w w'

set_option maxRecDepth 100000 in
set_option maxHeartbeats 400000 in
theorem frame_any (A : Option Addr) (r : List Nat) (n c : Nat) (w : World) (hr : r.length = n) (hn : n ≤ 16384) (hA0 : A = none → c = 0) (h8 : ∀ x ∈ r, x < 256) (hA : Sees .u8 w A r) :
    Calls Try.prog 8 #[.slice A n c] w (FramesOwn r w) := by
  obtain ⟨N, hN⟩ : ∃ N, (shortN (n + 4)).length = N := ⟨_, rfl⟩
  have hN3 : N ≤ 3 := by rw [← hN]; exact shortN_len3 (by omega)
  have hN0 : 0 < N := by rw [← hN]; exact shortN_pos _
  have HN := hid hN
  have HR := hid hr
  have HA := hid hA
  have H8 := hid h8
  have H0 := hid hA0
  have HF : Hid (shortN (n + 4) ++ sealed r = frameN r) := hid (by unfold frameN; rw [hr])
  have HSL : Hid ((sealed r).length = n + 4) := hid (by rw [sealed_len, hr])
  clear hN hr hA h8 hA0
  have hni : (n : Int) ≤ 16384 := by omega
  go_enter Try.func8, Try.ntmps8
  go_wp2_with (first
    | (go_at_call 17; ((with_reducible refine (head_hands A n c N _ hn HN.out).mono ?_); rintro e w1 ⟨A1, c1, rfl, hk, hs, hb⟩; have HK1 := hid hk; have HS1 := hid hs; have HB1 := hid hb; clear hk hs hb))
    | (go_at_call 18; ((with_reducible refine (seal_any A r n c _ HR.out (by omega) H0.out H8.out (HA.out.below HB1.out)).mono ?_); rintro e w2 hm; obtain ⟨A2, c2, rfl, hk2, _, hs2, hb2⟩ := hm.hands; have HK2 := hid hk2; have HS2 := hid hs2; have HB2 := hid hb2; clear hk2 hs2 hb2 hm; rw [HSL.out]))
    | (go_at_call 16; ((with_reducible refine (concat_two w2 A1 A2 (shortN (n + 4)) (sealed r) N (n + 4) c1 c2 HN.out HSL.out (by omega) (by omega) HK1.out HK2.out (shortN_byte _) (sealed_byte H8.out) (HS1.out.below HB2.out) HS2.out).mono ?_); rintro e w3 hm; obtain ⟨s, rfl, hown, hb3⟩ := hm)))
  go_ret2
  have z := HB1.out.size
  have z2 := HB2.out.size
  refine ⟨_, rfl, ?_, ?_⟩
  · rw [HF.out] at hown
    exact own_low hown (by simp; omega)
  · exact (below_on HB1.out HB2.out).trans (((Below.refl _ _).alloc (Nat.le_trans z z2) _).trans (hb3.mono (by simp; omega)))

set_option maxRecDepth 100000 in
set_option maxHeartbeats 400000 in
theorem frame_none (A : Option Addr) (n c : Nat) (w : World) (hn : 16384 < n) :
    Calls Try.prog 8 #[.slice A n c] w (fun e w' => e = .returned (.tuple #[.slice none 0 0, .int .i64 11]) ∧ w = w') := by
  have h : ¬ (n : Int) ≤ 16384 := by omega
  go_enter Try.func8, Try.ntmps8
  go_wp2
  go_ret2
  exact ⟨rfl, rfl⟩

/-- What Frame hands back, as a caller reads it. -/
theorem frame_hands (A : Option Addr) (r : List Nat) (n c N : Nat) (w : World) (hr : r.length = n) (hn : n ≤ 16384) (hA0 : A = none → c = 0) (h8 : ∀ x ∈ r, x < 256) (hA : Sees .u8 w A r) (hN : (frameN r).length = N) :
    Calls Try.prog 8 #[.slice A n c] w (fun e w' => ∃ b o cap, e = .returned (.tuple #[.slice (some ⟨b, o, none⟩) N cap, .int .i64 0]) ∧ N ≤ cap ∧ b < w'.heap.size ∧ Sees .u8 w' (some ⟨b, o, none⟩) (frameN r) ∧ Below w.heap.size w w') := by
  subst hN
  refine (frame_any A r n c w hr hn hA0 h8 hA).mono ?_
  rintro e w' ⟨s, rfl, hown, hb⟩
  obtain ⟨A2, c2, rfl, _, hc2, hs⟩ := own_slice (k := .u8) (l := frameN r) hown
  obtain ⟨b, o, rfl, hlt, _⟩ := hs 0 _ (List.getElem?_eq_getElem (show 0 < (frameN r).length by have := frameN_ge r; omega))
  exact ⟨b, o, c2, rfl, hc2, hlt, hs, hb⟩

theorem frame_nil (w : World) : Calls Try.prog 8 #[.slice none 0 0] w (fun e w' => ∃ b o cap, e = .returned (.tuple #[.slice (some ⟨b, o, none⟩) 5 cap, .int .i64 0]) ∧ b < w'.heap.size ∧
    w'.cell? ⟨b, o, none⟩ = some (.int .u8 4) ∧ w'.cell? ⟨b, o + 1, none⟩ = some (.int .u8 0) ∧ w'.cell? ⟨b, o + 4, none⟩ = some (.int .u8 0) ∧ Below w.heap.size w w') := by
  refine (frame_hands none [] 0 0 5 w rfl (by omega) (fun _ => rfl) (by simp) (Sees.nil _ _ _) (by rw [frameN_none]; rfl)).mono ?_
  rintro e w' ⟨b, o, cap, rfl, _, hlt, hs, hb⟩
  rw [frameN_none] at hs
  have g : ∀ j x : Nat, ([4, 0, 0, 0, 0] : List Nat)[j]? = some x → w'.cell? ⟨b, o + j, none⟩ = some (.int .u8 (x : Int)) := by
    intro j x hj
    obtain ⟨b', o', he, _, hc⟩ := hs j x hj
    injection he with he
    injection he with e1 e2
    subst e1; subst e2
    exact hc
  exact ⟨b, o, cap, rfl, hlt, g 0 4 rfl, g 1 0 rfl, g 4 0 rfl, hb⟩

set_option maxRecDepth 100000 in
set_option maxHeartbeats 400000 in
theorem anchor14_any (w : World) :
    Calls Try.prog 7 #[] w fun e w' => e = .returned (.bool true) ∧ Below w.heap.size w w' := by
  go_enter Try.func7, Try.ntmps7
  go_wp2_with (go_at_call 8; ((with_reducible refine (frame_nil _).mono ?_); rintro e w1 ⟨b, o, cap, rfl, hlt, c0, c1, c4, hb⟩))
  go_ret
  exact ⟨rfl, hb⟩

set_option maxRecDepth 100000 in
set_option maxHeartbeats 400000 in
/-- Of unlike bytes, as many of both, Same is false. -/
theorem same_false (A B : Option Addr) (a b : List Nat) (n ca cb : Nat) (w : World) (hl : n ≤ 9223372036854775807) (ha : a.length = n) (hb : b.length = n) (hne : a ≠ b) (hA : Sees .u8 w A a) (hB : Sees .u8 w B b) :
    Calls Try.prog 10 #[.slice A n ca, .slice B n cb] w fun e w' => e = .returned (.bool false) ∧ Below w.heap.size w w' := by
  have HA := hid hA
  have HB := hid hB
  have Ha := hid ha
  have Hb := hid hb
  have HNE := hid hne
  clear hA hB ha hb hne
  go_enter Try.func10, Try.ntmps10
  go_wp2
  go_loopw [5] (fun i wr => ∃ k : Nat, k ≤ n ∧ i = .int .i64 k ∧ a.take k = b.take k ∧ Below w.heap.size w wr) (fun i _ => n - (intOf i).toNat)
  case atStart => exact ⟨0, Nat.zero_le _, rfl, rfl, Below.refl _ _⟩
  case round =>
    obtain ⟨k, hk, rfl, htk, hb⟩ := hrel
    have HTK := hid htk
    clear htk
    by_cases hlt : k < n
    · have hka : k < a.length := by rw [Ha.out]; exact hlt
      have hkb : k < b.length := by rw [Hb.out]; exact hlt
      obtain ⟨g, o, rfl, _, hc⟩ := (HA.out.below hb) k a[k] (List.getElem?_eq_getElem hka)
      obtain ⟨g', o', rfl, _, hc'⟩ := (HB.out.below hb) k b[k] (List.getElem?_eq_getElem hkb)
      have HT : Hid (a[k] = b[k] → a.take (k + 1) = b.take (k + 1)) := hid (fun h => by rw [List.take_succ_eq_append_getElem hka, List.take_succ_eq_append_getElem hkb, HTK.out, h])
      generalize a[k] = x at *
      generalize b[k] = y at *
      by_cases hxy : x = y
      · have HX := hid (HT.out hxy)
        obtain rfl := hxy
        clear HT
        go_wp2
        go_quiet (fail)
        go_wp2
        go_roundw
        case rel => exact ⟨k + 1, by omega, by go_num, HX.out, below_drewN hb _⟩
        case measure => simp [intOf]; omega
      · have hxy2 : ¬ (x : Int) = (y : Int) := by omega
        clear HT hxy
        go_wp2
        go_quiet (fail)
        go_wp2
        go_ret
        exact ⟨rfl, below_drewN hb _⟩
    · refine absurd ?_ HNE.out
      have := HTK.out
      rwa [List.take_of_length_le (by rw [Ha.out]; omega), List.take_of_length_le (by rw [Hb.out]; omega)] at this

end Go.Proofs.Ytilocedppkmikaa
