/-
  LogFrames: its walk.
-/
import Derived.Test.YtilocedppkmikaaGOpen
namespace Go.Proofs.Ytilocedppkmikaa.logFrames
open Go.ChangeShapes Go.WideShapes Go.ChangeAt Go.RowKit
set_option linter.unusedVariables false

set_option maxRecDepth 100000 in
set_option maxHeartbeats 400000 in
theorem walk_big (A : Option Addr) (n c : Nat) (w : World) (hn : 16384 < n) :
    Calls Try.prog 3 #[.slice A n c] w fun e w' => e = .returned (.bool true) ∧ Below w.heap.size w w' := by
  have hni : ¬ (n : Int) ≤ 16384 := by omega
  go_enter Try.func3, Try.ntmps3
  go_wp2_with (first
    | (go_at_call 7; ((with_reducible refine (anchor14_any _).mono ?_); rintro e w1 ⟨rfl, hb1⟩))
    | (go_at_call 8; ((with_reducible refine (frame_none A n c _ hn).mono ?_); rintro e w2 ⟨rfl, rfl⟩))
    | (go_at_call 9; ((with_reducible refine (size_none A n c _ hn).mono ?_); rintro e w3 ⟨rfl, rfl⟩)))
  go_ret
  exact ⟨rfl, hb1⟩

set_option maxRecDepth 100000 in
set_option maxHeartbeats 400000 in
theorem walk_mid (A : Option Addr) (l : List Nat) (n c : Nat) (w : World) (hln : l.length = n) (hA0 : A = none → c = 0) (h4 : 400 < n) (hn : n ≤ 16384) (h8 : ∀ x ∈ l, x < 256) (hA : Sees .u8 w A l) :
    Calls Try.prog 3 #[.slice A n c] w fun e w' => e = .returned (.bool true) ∧ Below w.heap.size w w' := by
  have hni : (n : Int) ≤ 16384 := by omega
  obtain ⟨N, hN⟩ : ∃ N, (frameN l).length = N := ⟨_, rfl⟩
  have HN := hid hN
  have HA := hid hA
  have H8 := hid h8
  have H0 := hid hA0
  have HL := hid hln
  clear hN hA h8 hA0 hln
  go_enter Try.func3, Try.ntmps3
  go_wp2_with (first
    | (go_at_call 7; ((with_reducible refine (anchor14_any _).mono ?_); rintro e w1 ⟨rfl, hb1⟩; have HB1 := hid hb1; clear hb1))
    | (go_at_call 8; ((with_reducible refine (frame_hands A l n c N _ HL.out hn H0.out H8.out (HA.out.below HB1.out) HN.out).mono ?_); rintro e w2 ⟨b, o, cap, rfl, _, _, hs2, hb2⟩; have HB2 := hid (below_on HB1.out hb2); clear hs2 hb2))
    | (go_at_call 9; ((with_reducible refine (size_any A l n c _ HL.out hn).mono ?_); rintro e w3 ⟨rfl, hb3⟩; rw [HN.out]; have HB3 := hid (below_on HB2.out hb3); clear hb3)))
  go_ret
  exact ⟨rfl, HB3.out⟩

set_option maxRecDepth 100000 in
set_option maxHeartbeats 400000 in
theorem walk_small (A : Option Addr) (l : List Nat) (n c : Nat) (w : World) (hln : l.length = n) (hA0 : A = none → c = 0) (hn : n ≤ 400) (h8 : ∀ x ∈ l, x < 256) (hA : Sees .u8 w A l) :
    Calls Try.prog 3 #[.slice A n c] w fun e w' => e = .returned (.bool true) ∧ Below w.heap.size w w' := by
  have hni : (n : Int) ≤ 400 := by omega
  have hN407 : (frameN l).length ≤ 407 := by have := frameN_le (r := l) (by omega); omega
  obtain ⟨N, hN⟩ : ∃ N, (frameN l).length = N := ⟨_, rfl⟩
  rw [hN] at hN407
  have HN := hid hN
  have HA := hid hA
  have H8 := hid h8
  have H0 := hid hA0
  have HL := hid hln
  clear hN hA h8 hA0 hln
  go_enter Try.func3, Try.ntmps3
  go_wp2_with (first
    | (go_at_call 7; ((with_reducible refine (anchor14_any _).mono ?_); rintro e w1 ⟨rfl, hb1⟩; have HB1 := hid hb1; clear hb1))
    | (go_at_call 8; ((with_reducible refine (frame_hands A l n c N _ HL.out (by omega) H0.out H8.out (HA.out.below HB1.out) HN.out).mono ?_); rintro e w2 ⟨b, o, cap, rfl, _, _, hs2, hb2⟩; have HB2 := hid (below_on HB1.out hb2); have HS2 := hid hs2; clear hs2 hb2))
    | (go_at_call 9; ((with_reducible refine (size_any A l n c _ HL.out (by omega)).mono ?_); rintro e w3 ⟨rfl, hb3⟩; rw [HN.out]; have HB3 := hid (below_on HB2.out hb3); have HS3 := hid (HS2.out.below hb3); clear hb3))
    | (go_at_call 11; ((with_reducible refine (refframe_hands A l n c N _ HL.out (by omega) H0.out H8.out (HA.out.below HB3.out) HN.out).mono ?_); rintro e w4 ⟨A4, c4, rfl, hs4, hb4⟩; have HB4 := hid (below_on HB3.out hb4); have HS4 := hid hs4; have HS5 := hid (HS3.out.below hb4); clear hs4 hb4))
    | (go_at_call 10; ((with_reducible refine (same_as (some ⟨b, o, none⟩) A4 (frameN l) N cap c4 _ (by omega) HN.out HS5.out HS4.out).mono ?_); rintro e w5 ⟨rfl, hb5⟩; have HB5 := hid (below_on HB4.out hb5); clear hb5)))
  go_ret
  exact ⟨rfl, HB5.out⟩

/-- The Go text returns true. -/
theorem walk (A : Option Addr) (l : List Nat) (c : Nat) (hn : A = none → c = 0) (hl : l.length ≤ c) (hm : c ≤ maxLen) (hr : l.length * 1 ≤ 140737488351232) (h8 : ∀ x ∈ l, (Lit.int .u8 (x : Int)).wf = true) (w : World) (hA : Sees .u8 w A l) :
    Calls Try.prog 3 #[.slice A l.length c] w fun e w' => e = .returned (.bool true) ∧ Below w.heap.size w w' := by
  have x8 : ∀ x ∈ l, x < 256 := fun x hx => by have := u8_lt _ (h8 x hx); omega
  by_cases h1 : 16384 < l.length
  · exact walk_big A l.length c w h1
  · by_cases h2 : 400 < l.length
    · exact walk_mid A l l.length c w rfl hn h2 (by omega) x8 hA
    · exact walk_small A l l.length c w rfl hn (by omega) x8 hA

end Go.Proofs.Ytilocedppkmikaa.logFrames
