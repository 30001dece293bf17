/-
  NumOrder: of any two numbers the bytes, eight of each, are in the numbers' order. No condition.
-/
import Derived.Test.YtklehahedjbkjaaBytes
namespace Go.Proofs.Ytklehahedjbkjaa.numOrder
open Go.ChangeShapes Go.WideShapes Go.ChangeAt Go.RowKit
set_option linter.unusedVariables false

theorem own : ownKnob Try.prog.godebug = none := by kernel_rfl
theorem laidOut : laidOutB Try.prog = true := by kernel_rfl

def CmpRel (X Y : List Nat) (w : World) (c i : Value) (wr : World) : Prop :=
  ∃ k : Nat, k ≤ 8 ∧ i = .int .i64 (k : Int) ∧ c = .int .i64 (cmpAt X Y k) ∧ Below w.heap.size w wr
theorem CmpRel.next {X Y : List Nat} {w wr : World} {k x y : Nat} {c d i : Int} (hk : k < 8) (hb : Below w.heap.size w wr) (hc : cmpAt X Y k = c) (hx : X[k]? = some x) (hy : Y[k]? = some y) (hd : d = stepC c x y) (hi : i = (k : Int) + 1) :
    CmpRel X Y w (.int .i64 d) (.int .i64 i) wr := by
  subst hd; subst hi
  refine ⟨k + 1, by omega, by congr 1, ?_, hb⟩
  rw [cmpAt, hc, List.getD_eq_getElem?_getD, List.getD_eq_getElem?_getD, hx, hy]
  rfl

set_option maxRecDepth 100000 in
set_option maxHeartbeats 1000000 in
theorem walk_nat (a b : Nat) (w : World) (ha : a < 18446744073709551616) (hb : b < 18446744073709551616) :
    Calls Try.prog 8 #[.int .u64 a, .int .u64 b] w fun e w' => e = .returned (.bool true) ∧ Below w.heap.size w w' := by
  have HA := hid ha
  have HB := hid hb
  have HC := hid (cmpAt_bytesN 8 a b (by have e8 : (256 : Nat) ^ 8 = 18446744073709551616 := (by decide); omega) (by have e8 : (256 : Nat) ^ 8 = 18446744073709551616 := (by decide); omega))
  obtain ⟨X, hX⟩ : ∃ X, X = bytesN a 8 := ⟨_, rfl⟩
  obtain ⟨Y, hY⟩ : ∃ Y, Y = bytesN b 8 := ⟨_, rfl⟩
  have LX : X.length = 8 := by rw [hX, bytesN_len]
  have LY : Y.length = 8 := by rw [hY, bytesN_len]
  rw [← hX, ← hY] at HC
  have HX := hid hX
  have HY := hid hY
  have HLX := hid LX
  have HLY := hid LY
  clear ha hb hX hY LX LY
  go_enter Try.func8, Try.ntmps8
  go_wp2_with (first
    | (go_at_call 10; refine (anchor_any _).mono ?_; rintro e w1 ⟨rfl, hw1⟩)
    | (go_at_call 11; ((with_reducible refine (bytes_hands a 8 8 _ HA.out (by decide) (.inr (.inl rfl))).mono ?_); rintro e w2 ⟨A1, c1, rfl, _, _, hs1, hb1⟩))
    | (go_at_call 11; ((with_reducible refine (bytes_hands b 8 8 _ HB.out (by decide) (.inr (.inl rfl))).mono ?_); rintro e w3 ⟨A2, c2, rfl, _, _, hs2, hb2⟩)))
  rw [← HX.out] at hs1
  rw [← HY.out] at hs2
  have S1 := hid (hs1.below hb2)
  have S2 := hid hs2
  have B3 := below_on (below_on hw1 hb1) hb2
  clear hs1 hs2 hw1 hb1 hb2
  go_loopw [7, 25] (fun c i wr => CmpRel X Y w3 c i wr) (fun _ i _ => 8 - (intOf i).toNat)
  case atStart => exact ⟨0, by decide, rfl, rfl, Below.refl _ _⟩
  case round =>
    obtain ⟨k, hk, rfl, rfl, hbr⟩ := hrel
    by_cases hlt : k < 8
    · have hkI : (k : Int) < 8 := by omega
      have hx := List.getElem?_eq_getElem (l := X) (i := k) (by rw [HLX.out]; exact hlt)
      have hy := List.getElem?_eq_getElem (l := Y) (i := k) (by rw [HLY.out]; exact hlt)
      generalize X[k]'(by rw [HLX.out]; exact hlt) = x at *
      generalize Y[k]'(by rw [HLY.out]; exact hlt) = y at *
      obtain ⟨b1, o1, rfl, _, hc1⟩ := (S1.out.below hbr) k x hx
      obtain ⟨b2, o2, rfl, _, hc2⟩ := (S2.out.below hbr) k y hy
      have HXk := hid hx
      have HYk := hid hy
      have hcase := cmpAt_cases X Y k
      generalize hcc : cmpAt X Y k = c at *
      have HN := hid (fun d i (hd : d = stepC c x y) (hi : i = (k : Int) + 1) wr (hbr : Below w3.heap.size w3 wr) => CmpRel.next (X := X) (Y := Y) (w := w3) (wr := wr) (k := k) (x := x) (y := y) (c := c) (d := d) (i := i) hlt hbr hcc hx hy hd hi)
      clear hcc hx hy
      rcases hcase with rfl | rfl | rfl
      · rcases Nat.lt_trichotomy x y with hxy | rfl | hxy
        · have hne : ((x : Int) != (y : Int)) = true := by simp; omega
          have hxyI : (x : Int) < (y : Int) := by omega
          have HS := hid (show (-1 : Int) = stepC 0 x y by unfold stepC; rw [if_pos rfl, if_pos hxy])
          go_wp2
          go_quiet (fail)
          go_wp2
          go_quiet (fail)
          go_wp2
          go_roundw
          case rel => exact HN.out _ _ HS.out rfl _ (below_drewN hbr _)
          case measure => simp only [intOf]; omega
        · have HS := hid (show (0 : Int) = stepC 0 x x by unfold stepC; rw [if_pos rfl, if_neg (by omega), if_neg (by omega)])
          go_wp2
          go_quiet (fail)
          go_wp2
          go_roundw
          case rel => exact HN.out _ _ HS.out rfl _ (below_drewN hbr _)
          case measure => simp only [intOf]; omega
        · have hne : ((x : Int) != (y : Int)) = true := by simp; omega
          have hxyI : (y : Int) < (x : Int) := by omega
          have HS := hid (show (1 : Int) = stepC 0 x y by unfold stepC; rw [if_pos rfl, if_neg (by omega), if_pos hxy])
          go_wp2
          go_quiet (fail)
          go_wp2
          go_quiet (fail)
          go_wp2
          go_roundw
          case rel => exact HN.out _ _ HS.out rfl _ (below_drewN hbr _)
          case measure => simp only [intOf]; omega
      · go_wp2
        go_quiet (fail)
        go_wp2
        go_roundw
        case rel => exact HN.out _ _ (by rfl) rfl _ (below_drewN hbr _)
        case measure => simp only [intOf]; omega
      · go_wp2
        go_quiet (fail)
        go_wp2
        go_roundw
        case rel => exact HN.out _ _ (by rfl) rfl _ (below_drewN hbr _)
        case measure => simp only [intOf]; omega
    · have hk8 : k = 8 := by omega
      subst hk8
      rw [HC.out]
      rcases Nat.lt_trichotomy a b with hab | rfl | hab
      · rw [if_pos hab]
        have hI : (a : Int) < (b : Int) := by omega
        go_wp2
        go_ret
        exact ⟨ret_bool (by simp; omega), below_on B3 hbr⟩
      · rw [if_neg (by omega), if_neg (by omega)]
        go_wp2
        go_ret
        exact ⟨rfl, below_on B3 hbr⟩
      · rw [if_neg (by omega), if_pos hab]
        have hI : (b : Int) < (a : Int) := by omega
        go_wp2
        go_ret
        exact ⟨ret_bool (by simp; omega), below_on B3 hbr⟩

/-- The Go text returns true. -/
theorem walk (a b : Int) (wa : (Lit.int .u64 a).wf = true) (wb : (Lit.int .u64 b).wf = true) (w : World) :
    Calls Try.prog 8 #[.int .u64 a, .int .u64 b] w fun e w' => e = .returned (.bool true) ∧ Below w.heap.size w w' := by
  have h0 := u64_lt a wa
  have h1 := u64_lt b wb
  obtain ⟨n, rfl⟩ := Int.eq_ofNat_of_zero_le (u64_pos a wa)
  obtain ⟨m, rfl⟩ := Int.eq_ofNat_of_zero_le (u64_pos b wb)
  exact walk_nat n m w (by omega) (by omega)

set_option maxRecDepth 100000 in
theorem lifted (os : Os) (started : os.Started) (H : Type) (enc : TypeId × Value → H) :
    ReturnsInHanded {} Try.checked os 8 .any (Rows.numOrderSpec.pre6 enc Try.prog Try.f8 Rows.numOrderRow.domain false) (Rows.numOrderSpec.post enc Try.prog Try.f8 false true false false) := by
  refine returnsInHanded_of_change (C := Try.checked) own started (by kernel_rfl) Try.func8
    (ChangeSpec.witness6 (enc := enc) (C := Try.checked) false ⟨#[], #[.int .u64 0, .int .u64 0], []⟩ 8 (by kernel_rfl) (by kernel_rfl) (by kernel_rfl) (by kernel_rfl)) ?_
  intro W base args ds gs before hval0 hW _ _
  have hval : ∀ (j : Nat) t v, Try.f8.params[j]? = some t → args[j]? = some v → Value.okWide Try.prog W .any base t v := hval0
  have hW' := hW
  obtain ⟨p, q, hA0, hV, rfl, _, _⟩ := hW
  have hA : DataW.TrodAll enc Try.prog W 0 (fun _ => true) true Try.f8.params.toList args.toList ds p := hA0
  rw [Try.params8] at hA hval
  have hlt : ∀ x ∈ p, x.block < W.heap.size := fun x hx => by simpa using hW'.lt x (List.mem_append_left _ hx)
  obtain ⟨v0, vs0, d0, ds0, p0, q0, hargs, rfl, rfl, g0, r0⟩ := trodAll_cons hA
  obtain ⟨v1, vs1, d1, ds1, p1, q1, rfl, rfl, rfl, g1, r1⟩ := trodAll_cons r0
  obtain ⟨rfl, rfl, rfl⟩ := trodAll_nil r1
  obtain rfl : args = #[v0, v1] := by cases args; simp_all
  obtain ⟨rfl, rfl⟩ := trodVars_none hV
  obtain ⟨a0, rfl, rfl, rfl, w0⟩ := open_int Try.underlying22 (hval 0 22 v0 rfl rfl) g0
  obtain ⟨a1, rfl, rfl, rfl, w1⟩ := open_int Try.underlying22 (hval 1 22 v1 rfl rfl) g1
  refine (walk a0 a1 w0 w1 W).mono fun e W' ⟨he, hg⟩ => ?_
  subst he
  exact ⟨_, rfl, law_post laidOut hW' (by kernel_rfl) rfl rfl Try.underlying4 rfl hg⟩

theorem proved : Rows.NumOrderSaid :=
  OpenClaim.holds_of_wide 8 Try.f8 rfl rfl rfl rfl rfl rfl rfl ⟨rfl, rfl, rfl, rfl, rfl⟩ rfl rfl rfl rfl rfl (by kernel_rfl) Try.func8 (by kernel_rfl)
    (of_decide_eq_true (by kernel_rfl)) (by unfold Func.isWrapper; first | (rw [if_pos (by decide +kernel)]; kernel_rfl) | (rw [if_neg (by decide +kernel)]; exact ⟨rfl, rfl⟩))
    (fun os started H enc _ => lifted os started H enc)
#print axioms proved
end Go.Proofs.Ytklehahedjbkjaa.numOrder
