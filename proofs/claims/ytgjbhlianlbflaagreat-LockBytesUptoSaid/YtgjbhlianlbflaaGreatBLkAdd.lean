/-
  The contracts of lock's May, Granted, Could.
-/
import Derived.Test.YtgjbhlianlbflaaGreatBLkSmall
namespace Go.Proofs.YtgjbhlianlbflaaGreat
open Go.ChangeShapes Go.WideShapes Go.ChangeAt Go.RowKit Go.Maps Go.WideMaps
set_option linter.unusedVariables false
set_option linter.unusedSimpArgs false
set_option maxRecDepth 100000 in
set_option maxHeartbeats 1000000 in
theorem lkmay_any (base b de dc n : Nat) (first : Int) (l : List EnL) (cs : CnL) (p : ByteArray) (u : Int) (f : ByteArray) (mode : Int) (w : World) (h : BkK w base b de dc n first l cs) (hn : n ≤ 1000000) (hp : OkK p) (hu : IsUk u) (hf : OkK f) :
    Calls Tryz.prog 32 #[.pointer (some ⟨b, 0, none⟩), .string p, .agg #[.int .u64 u, .string f], .int .i64 mode] w (Asks (.int .i64 (mayE first l cs p u f mode)) w) := by
  have C1 := hid (fun w => lkright_any p mode w hp.le4)
  have C2 := hid (fun w' (k : Below w.heap.size w w') => lkhas_any base b de dc n first l cs p u f w' (h.on k) hp hu hf)
  have C3 := hid (fun w' (k : Below w.heap.size w w') => lkheld_any base b de dc n first l cs u f w' (h.on k) hn)
  have C4 := hid (fun w' (k : Below w.heap.size w w') => lkcounter_any base b de dc n first l cs p w' (h.on k) hp)
  have HM : Hid (mayE first l cs p u f mode = mayE first l cs p u f mode) := hid rfl
  obtain ⟨r1, h1⟩ : ∃ r, rightE p mode = r := ⟨_, rfl⟩
  obtain ⟨r2, h2⟩ : ∃ r, (findE l p u f).isSome = r := ⟨_, rfl⟩
  obtain ⟨r3, h3⟩ : ∃ r, heldE l u f = r := ⟨_, rfl⟩
  obtain ⟨r4, h4⟩ : ∃ r, cntE first cs p = r := ⟨_, rfl⟩
  have HE : Hid (mayE first l cs p u f mode = if r1 = true then if r2 = true then 15 else if 64 ≤ r3 then 14 else if 9223372036854775807 ≤ r4 then 53 else 0 else 10) := hid (by unfold mayE; rw [h1, h2, h3, h4])
  rw [h1] at C1
  rw [h2] at C2
  rw [h3] at C3
  rw [h4] at C4
  clear h h1 h2 h3 h4 hp hu hf
  go_enter Tryz.func32, Tryz.ntmps32
  go_upto_region 1 with fail
  obtain ⟨W, hW⟩ : ∃ W, w.alloc (.cells #[.int .u64 u, .string f] 33) = W := ⟨_, rfl⟩
  rw [hW]
  obtain ⟨K0, KB⟩ := lone_new hW
  clear hW
  obtain ⟨k, hk⟩ : ∃ k, w.heap.size = k := ⟨_, rfl⟩
  rw [hk] at K0 C2 C3 C4 KB ⊢
  have HK := hid hk
  clear hk
  cases r1 with
  | false =>
    go_wp2_with (first
      | (go_at_call 36; (with_reducible refine (C1.out _).mono ?_); rintro e w1 ⟨rfl, b1⟩; have B1 := hid (KB.out.trans (b1.mono (by have := K0.out.lt; omega))); clear b1))
    go_ret
    exact ⟨by rw [HE.out]; rfl, by rw [HK.out]; exact B1.out⟩
  | true =>
    cases r2 with
    | true =>
      go_wp2_with (first
        | (go_at_call 36; (with_reducible refine (C1.out _).mono ?_); rintro e w1 ⟨rfl, b1⟩; have B1 := hid (KB.out.trans (b1.mono (by have := K0.out.lt; omega))); have K1 := hid (ent_low K0.out b1); clear b1; obtain ⟨x0, x1⟩ := lcells2 K1.out)
        | (go_at_call 62; (with_reducible refine (C2.out _ B1.out).mono ?_); rintro e w2 ⟨rfl, b2⟩; have B2 := hid (B1.out.trans (b2.mono (by have := K1.out.lt; omega))); clear b2))
      go_ret
      exact ⟨by rw [HE.out]; rfl, by rw [HK.out]; exact B2.out⟩
    | false =>
      by_cases q3 : 64 ≤ r3
      · have q3' : (64 : Int) ≤ (r3 : Int) := by omega
        have HE2 : Hid (mayE first l cs p u f mode = 14) := hid (by rw [HE.out]; simp [q3])
        go_wp2_with (first
          | (go_at_call 36; (with_reducible refine (C1.out _).mono ?_); rintro e w1 ⟨rfl, b1⟩; have B1 := hid (KB.out.trans (b1.mono (by have := K0.out.lt; omega))); have K1 := hid (ent_low K0.out b1); clear b1; obtain ⟨x0, x1⟩ := lcells2 K1.out)
          | (go_at_call 62; (with_reducible refine (C2.out _ B1.out).mono ?_); rintro e w2 ⟨rfl, b2⟩; have B2 := hid (B1.out.trans (b2.mono (by have := K1.out.lt; omega))); have K2 := hid (ent_low K1.out b2); clear b2 x0 x1; obtain ⟨x0, x1⟩ := lcells2 K2.out)
          | (go_at_call 59; (with_reducible refine (C3.out _ B2.out).mono ?_); rintro e w3 ⟨rfl, b3⟩; have B3 := hid (B2.out.trans (b3.mono (by have := K2.out.lt; omega))); clear b3))
        go_ret
        exact ⟨by rw [HE2.out]; rfl, by rw [HK.out]; exact B3.out⟩
      · have q3' : ¬ (64 : Int) ≤ (r3 : Int) := by omega
        by_cases q4 : 9223372036854775807 ≤ r4
        · have HE2 : Hid (mayE first l cs p u f mode = 53) := hid (by rw [HE.out]; simp [q3, q4])
          go_wp2_with (first
            | (go_at_call 36; (with_reducible refine (C1.out _).mono ?_); rintro e w1 ⟨rfl, b1⟩; have B1 := hid (KB.out.trans (b1.mono (by have := K0.out.lt; omega))); have K1 := hid (ent_low K0.out b1); clear b1; obtain ⟨x0, x1⟩ := lcells2 K1.out)
            | (go_at_call 62; (with_reducible refine (C2.out _ B1.out).mono ?_); rintro e w2 ⟨rfl, b2⟩; have B2 := hid (B1.out.trans (b2.mono (by have := K1.out.lt; omega))); have K2 := hid (ent_low K1.out b2); clear b2 x0 x1; obtain ⟨x0, x1⟩ := lcells2 K2.out)
            | (go_at_call 59; (with_reducible refine (C3.out _ B2.out).mono ?_); rintro e w3 ⟨rfl, b3⟩; have B3 := hid (B2.out.trans (b3.mono (by have := K2.out.lt; omega))); clear b3)
            | (go_at_call 14; (with_reducible refine (C4.out _ B3.out).mono ?_); rintro e w4 ⟨rfl, rfl⟩))
          go_ret
          exact ⟨by rw [HE2.out]; rfl, by rw [HK.out]; exact B3.out⟩
        · have HE2 : Hid (mayE first l cs p u f mode = 0) := hid (by rw [HE.out]; simp [q3, q4])
          go_wp2_with (first
            | (go_at_call 36; (with_reducible refine (C1.out _).mono ?_); rintro e w1 ⟨rfl, b1⟩; have B1 := hid (KB.out.trans (b1.mono (by have := K0.out.lt; omega))); have K1 := hid (ent_low K0.out b1); clear b1; obtain ⟨x0, x1⟩ := lcells2 K1.out)
            | (go_at_call 62; (with_reducible refine (C2.out _ B1.out).mono ?_); rintro e w2 ⟨rfl, b2⟩; have B2 := hid (B1.out.trans (b2.mono (by have := K1.out.lt; omega))); have K2 := hid (ent_low K1.out b2); clear b2 x0 x1; obtain ⟨x0, x1⟩ := lcells2 K2.out)
            | (go_at_call 59; (with_reducible refine (C3.out _ B2.out).mono ?_); rintro e w3 ⟨rfl, b3⟩; have B3 := hid (B2.out.trans (b3.mono (by have := K2.out.lt; omega))); clear b3)
            | (go_at_call 14; (with_reducible refine (C4.out _ B3.out).mono ?_); rintro e w4 ⟨rfl, rfl⟩))
          go_ret
          exact ⟨by rw [HE2.out]; rfl, by rw [HK.out]; exact B3.out⟩
end Go.Proofs.YtgjbhlianlbflaaGreat
