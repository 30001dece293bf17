/-
  LeaseFull: its walk.
-/
import Derived.Test.YtbeeklpfbnhdnaaLsFull
namespace Go.Proofs.Ytbeeklpfbnhdnaa
open Go.ChangeShapes Go.WideShapes Go.ChangeAt Go.RowKit Go.Maps Go.WideMaps
set_option linter.unusedVariables false
set_option linter.unusedSimpArgs false

/-- Where the law stands: a book of the call's own. -/
def FullAt (h : Nat) (w W : World) (n : Nat) (l : List SeL) : Prop := BkAt W h (h + 1) h n l ∧ Below w.heap.size w W ∧ w.heap.size ≤ h
theorem FullAt.on {h n : Nat} {w W W' : World} {l : List SeL} (a : FullAt h w W n l) (b : Below W.heap.size W W') : FullAt h w W' n l := ⟨a.1.on b, below_on a.2.1 b, a.2.2⟩
theorem FullAt.step {h n n' : Nat} {w W W' : World} {l l' : List SeL} (a : FullAt h w W n l) {S : Nat → Prop} (k : BkAt W' h (h + 1) h n' l') (t : TurnsD S W W') (hS : ∀ i, S i → h ≤ i) : FullAt h w W' n' l' :=
  ⟨k, a.2.1.trans ((t.below (B := w.heap.size) (by have := a.2.1.size; omega) (fun i hi hs => by have := hS i hs; have := a.2.2; omega))), a.2.2⟩
theorem FullAt.told {h n : Nat} {w W W' : World} {l : List SeL} {r : Int} {x : AnL} {u : Int} {f : ByteArray} (a : FullAt h w W n l) (k : TellOut W W' h (h + 1) h n l (getL l u f) r x) :
    ∃ l', FullAt h w W' (n + 1) l' ∧ ((¬ tellP (getL l u f) r ∧ l' = l) ∨ (tellP (getL l u f) r ∧ ∃ p, l' = putL (tellS (getL l u f) r x p) l)) := by
  obtain ⟨t, k⟩ := k
  have hS : ∀ i, (i = h ∨ (getL l u f).m = some i) → h ≤ i := fun i hi => by
    rcases hi with rfl | hi
    · exact Nat.le_refl _
    · exact ((a.1.got u f).2.2.1 i hi).2.2
  rcases k with ⟨k1, k2⟩ | ⟨k1, p, k2, _⟩
  · exact ⟨l, a.step k2 t hS, .inl ⟨k1, rfl⟩⟩
  · exact ⟨_, a.step k2 t hS, .inr ⟨k1, p, rfl⟩⟩

set_option maxRecDepth 100000 in
set_option maxHeartbeats 4000000 in
theorem lfull_walk (foot : ByteArray) (extra : Int) (w : World) : Calls Try.prog 6 #[.string foot, .int .i64 extra] w fun e w' => e = .returned (.bool true) ∧ Below w.heap.size w w' := by
  have HA := hid (fun w => lanchor_any w)
  by_cases h1 : extra < 1
  · go_enter Try.func6, Try.ntmps6
    go_wp2_with (first
      | (go_at_call 7; (with_reducible refine (HA.out _).mono ?_); rintro e w1 ⟨rfl, b1⟩; have B1 := hid b1; clear b1))
    go_ret
    exact ⟨rfl, B1.out⟩
  by_cases h2 : 20 < extra
  · go_enter Try.func6, Try.ntmps6
    go_wp2_with (first
      | (go_at_call 7; (with_reducible refine (HA.out _).mono ?_); rintro e w1 ⟨rfl, b1⟩; have B1 := hid b1; clear b1))
    go_ret
    exact ⟨rfl, B1.out⟩
  by_cases h3 : 100 < foot.size
  · have h3' : (100 : Int) < (foot.size : Int) := by omega
    go_enter Try.func6, Try.ntmps6
    go_wp2_with (first
      | (go_at_call 7; (with_reducible refine (HA.out _).mono ?_); rintro e w1 ⟨rfl, b1⟩; have B1 := hid b1; clear b1))
    go_ret
    exact ⟨rfl, B1.out⟩
  have h3' : ¬ (100 : Int) < (foot.size : Int) := by omega
  have of : OkF foot := by unfold OkF; omega
  have HN := hid (fun w => lnew_any w)
  have HF := hid of
  have HS := hid (fun u w => lsession_any u foot w)
  have HE := hid (And.intro h1 h2)
  clear of
  obtain ⟨ex, hex⟩ : ∃ ex : Nat, extra = (ex : Int) := ⟨extra.toNat, by omega⟩
  subst hex
  have q1 : IntKind.i64.wrap (32 + (ex : Int)) = ((32 + ex : Nat) : Int) := by rw [IntWalk.i64_in _ (by omega)]; omega
  have q2 : IntKind.i64.wrap (256 + (ex : Int)) = ((256 + ex : Nat) : Int) := by rw [IntWalk.i64_in _ (by omega)]; omega
  go_enter Try.func6, Try.ntmps6
  go_upto_region 6 with (first
    | (go_at_call 7; (with_reducible refine (HA.out _).mono ?_); rintro e w1 ⟨rfl, b1⟩; have B1 := hid b1; clear b1)
    | (go_at_call 8; (with_reducible refine (HN.out _).mono ?_); rintro e w2 ⟨rfl, b2, k2⟩; have A2 : Hid (FullAt w1.heap.size w w2 0 []) := hid ⟨k2, below_on B1.out b2, B1.out.size⟩; clear b2 k2))
  obtain ⟨h, hh⟩ : ∃ h, w1.heap.size = h := ⟨_, rfl⟩
  rw [hh] at A2 ⊢
  clear hh B1
  go_wp2_with fail
  go_loopw [25] (fun iv wr => ∃ (j : Nat) (l : List SeL), iv = .int .i64 (j : Int) ∧ j ≤ 32 + ex ∧ Hid (FullAt h w wr j l ∧ Opened foot j l)) (fun iv _ => 32 + ex - (intOf iv).toNat)
  case atStart => exact ⟨0, [], rfl, by omega, hid ⟨A2.out, Opened.start foot⟩⟩
  case round =>
    obtain ⟨j, l, rfl, hj, HJ⟩ := hrel
    have hex : (ex : Int) ≤ 20 := HE.out.2
    by_cases hlt : j < 32 + ex
    · have hlt' : (j : Int) < 32 + (ex : Int) := by omega
      have HO := hid (fun w' (k : Below wr.heap.size wr w') => lopen_any h (h + 1) h j l (j : Int) foot 1 1 w' (HJ.out.1.1.on k) (by omega) (by unfold IsU; omega) HF.out)
      rw [HJ.out.2.gone] at HO
      have q5 : IntKind.u64.wrap (j : Int) = (j : Int) := IntWalk.u64_in _ (by omega)
      by_cases h32 : j < 32
      · have h32' : (j : Int) < 32 := by omega
        have HX := hid (HJ.out.2.less HJ.out.1.1.rise h32)
        rw [HX.out.1] at HO
        have KK : Hid (∀ W' l', BkAt W' h (h + 1) h (j + 1) l' → TurnsD (fun i => i = h) wr W' → l' = openB l (zeroL (j : Int) foot) 1 1 → FullAt h w W' (j + 1) l' ∧ Opened foot (j + 1) l') := hid (fun W' l' k t e => by
          subst e
          exact ⟨HJ.out.1.step k t (fun i hi => by omega), HX.out.2⟩)
        clear hlt
        go_wp2_with (first
          | (go_at_call 24; (with_reducible refine (HS.out _ _).mono ?_); rintro e w3 ⟨rfl, b3⟩; have B3 := hid b3; clear b3)
          | (go_at_call 16; (with_reducible refine (HO.out _ B3.out).mono ?_); rintro e w4 ⟨rfl, k4, t4⟩; have K4 := hid (And.intro k4 t4); clear k4 t4))
        go_roundw
        case rel => exact ⟨j + 1, _, rfl, by omega, hid (KK.out _ _ K4.out.1 ((TurnsD.of_below B3.out).trans K4.out.2 (fun _ _ e => e)) rfl)⟩
        case measure => simp only [intOf]; omega
      · have h32' : ¬ (j : Int) < 32 := by omega
        have HX := hid (HJ.out.2.more h32)
        rw [HX.out.1] at HO
        have KK : Hid (∀ W' l', BkAt W' h (h + 1) h (j + 1) l' → TurnsD (fun i => i = h) wr W' → l' = openB l (zeroL (j : Int) foot) 1 1 → FullAt h w W' (j + 1) l' ∧ Opened foot (j + 1) l') := hid (fun W' l' k t e => by
          subst e
          exact ⟨HJ.out.1.step k t (fun i hi => by omega), HX.out.2⟩)
        clear hlt
        go_wp2_with (first
          | (go_at_call 24; (with_reducible refine (HS.out _ _).mono ?_); rintro e w3 ⟨rfl, b3⟩; have B3 := hid b3; clear b3)
          | (go_at_call 16; (with_reducible refine (HO.out _ B3.out).mono ?_); rintro e w4 ⟨rfl, k4, t4⟩; have K4 := hid (And.intro k4 t4); clear k4 t4))
        go_roundw
        case rel => exact ⟨j + 1, _, rfl, by omega, hid (KK.out _ _ K4.out.1 ((TurnsD.of_below B3.out).trans K4.out.2 (fun _ _ e => e)) rfl)⟩
        case measure => simp only [intOf]; omega
    · have hlt' : ¬ (j : Int) < 32 + (ex : Int) := by omega
      have hjj : j = 32 + ex := by omega
      have A3 : Hid (FullAt h w wr (32 + ex) l ∧ ToldF foot 0 l) := hid ⟨by rw [← hjj]; exact HJ.out.1, HJ.out.2.told (by omega)⟩
      clear HJ hjj hlt
      go_wp2_with fail
      go_loopw [50] (fun iv wr => ∃ (j : Nat) (l : List SeL), iv = .int .i64 (j : Int) ∧ j ≤ 256 + ex ∧ Hid (FullAt h w wr (32 + ex + j) l ∧ ToldF foot j l)) (fun iv _ => 256 + ex - (intOf iv).toNat)
      case atStart => exact ⟨0, l, rfl, by omega, A3⟩
      case round =>
        clear A3
        obtain ⟨j, l, rfl, hj, HJ⟩ := hrel
        have hex : (ex : Int) ≤ 20 := HE.out.2
        by_cases hlt : j < 256 + ex
        · have hlt' : (j : Int) < 256 + (ex : Int) := by omega
          have HO := hid (fun a w' (k : Below wr.heap.size wr w') => ltell_any h (h + 1) h (32 + ex + j) l 0 foot (j : Int) a w' (HJ.out.1.1.on k) (by omega) (by unfold IsU; omega) HF.out (by unfold IsU; omega))
          have q5 : IntKind.u64.wrap (j : Int) = (j : Int) := IntWalk.u64_in _ (by omega)
          have KK : Hid (∀ W1 W' a, Below wr.heap.size wr W1 → TellOut W1 W' h (h + 1) h (32 + ex + j) l (getL l 0 foot) (j : Int) a → ∃ l', FullAt h w W' (32 + ex + (j + 1)) l' ∧ ToldF foot (j + 1) l') := hid (fun W1 W' a k t => by
            obtain ⟨l', k1, k2⟩ := (HJ.out.1.on k).told t
            exact ⟨l', k1, HJ.out.2.step HJ.out.1.1.rise k2 (HJ.out.1.1.got 0 foot).2.1.rise⟩)
          clear hlt
          go_wp2_with (first
            | (go_at_call 24; (with_reducible refine (HS.out _ _).mono ?_); rintro e w3 ⟨rfl, b3⟩; have B3 := hid b3; clear b3)
            | (go_at_call 25; refine (HO.out ⟨0, (j : Int), false⟩ _ B3.out).mono ?_; rintro e w4 ⟨rfl, t4⟩; have K4 := hid (KK.out _ _ _ B3.out t4); clear t4))
          go_roundw
          case rel =>
            obtain ⟨l', k1⟩ := K4.out
            exact ⟨j + 1, l', rfl, by omega, hid k1⟩
          case measure => simp only [intOf]; omega
        · have hlt' : ¬ (j : Int) < 256 + (ex : Int) := by omega
          have hjj : j = 256 + ex := by omega
          subst hjj
          have HV := HJ.out.2.served (by omega)
          obtain ⟨z1, z2, z3⟩ := HJ.out.2.fin HJ.out.1.1.rise
          dsimp only at z2 z3
          obtain ⟨N, hN⟩ : ∃ N, 32 + ex + (256 + ex) = N := ⟨_, rfl⟩
          have hNN : N ≤ 1000 := by omega
          rw [hN] at HJ
          have u0 : IsU 0 := by unfold IsU; omega
          have u1 : IsU 1 := by unfold IsU; omega
          have u2 : IsU 1099511627776 := by unfold IsU; omega
          have u3 : IsU 2199023255552 := by unfold IsU; omega
          have HI := hid (fun w' (k : Below wr.heap.size wr w') => linfo_any h (h + 1) h N l 0 foot w' (HJ.out.1.1.on k) u0 HF.out)
          have HR0 := hid (fun w' (k : Below wr.heap.size wr w') => lroom_any h (h + 1) h N l 0 foot w' (HJ.out.1.1.on k) u0 HF.out)
          have HR1 := hid (fun w' (k : Below wr.heap.size wr w') => lroom_any h (h + 1) h N l 1 foot w' (HJ.out.1.1.on k) u1 HF.out)
          have HEn := hid (fun w' (k : Below wr.heap.size wr w') => lend_any h (h + 1) h N l 0 foot w' (HJ.out.1.1.on k) (by omega) u0 HF.out)
          have HO1 := hid (fun W (k : FullAt h w W (N + 1) (endB l (getL l 0 foot))) => lopen_any h (h + 1) h (N + 1) (endB l (getL l 0 foot)) 1099511627776 foot 1 1 W k.1 (by omega) u2 HF.out)
          rw [z2] at HO1
          have HO2 := hid (fun W (k : FullAt h w W (N + 1 + 1) (openB (endB l (getL l 0 foot)) (getL (endB l (getL l 0 foot)) 1099511627776 foot) 1 1)) => lopen_any h (h + 1) h (N + 1 + 1) (openB (endB l (getL l 0 foot)) (getL (endB l (getL l 0 foot)) 1099511627776 foot) 1 1) 2199023255552 foot 1 1 W k.1 (by omega) u3 HF.out)
          rw [z3] at HO2
          rw [z1] at HEn
          rw [HV.2.1] at HR0
          rw [HV.2.2] at HR1
          obtain ⟨l1, hl1⟩ : ∃ x, endB l (getL l 0 foot) = x := ⟨_, rfl⟩
          rw [hl1] at HEn HO1 HO2
          obtain ⟨l2, hl2⟩ : ∃ x, openB l1 (getL l1 1099511627776 foot) 1 1 = x := ⟨_, rfl⟩
          rw [hl2] at HO1 HO2
          obtain ⟨s0, hs0⟩ : ∃ x, getL l 0 foot = x := ⟨_, rfl⟩
          have hv1 := HV.1
          rw [hs0] at HI hv1
          simp only [infoV] at HI
          rw [hv1] at HI
          have q6 := fun w => lfield_served s0.opn s0.dead s0.dl s0.ttl (256 : Int) w
          have A9 := hid HJ.out.1
          clear hlt HV z1 z2 z3 hl1 hl2 hs0 hv1 u0 u1 u2 u3 HJ hNN hN
          go_upto_region 20 with (first
            | (go_at_call 24; (with_reducible refine (HS.out 0 wr).mono ?_); rintro e w3 ⟨rfl, b3⟩; have B3 := hid b3; clear b3)
            | (go_at_call 18; (with_reducible refine (HI.out _ B3.out).mono ?_); rintro e w4 ⟨rfl, b4⟩; have B4 := hid (below_on B3.out b4); clear b4)
            | (go_at_call 24; (with_reducible refine (HS.out 0 w4).mono ?_); rintro e w5 ⟨rfl, b5⟩; have B5 := hid (below_on B4.out b5); clear b5)
            | (go_at_call 26; (with_reducible refine (HR0.out _ B5.out).mono ?_); rintro e w6 ⟨rfl, b6⟩; have B6 := hid (below_on B5.out b6); clear b6)
            | (go_at_call 24; (with_reducible refine (HS.out 1 w6).mono ?_); rintro e w7 ⟨rfl, b7⟩; have B7 := hid (below_on B6.out b7); clear b7)
            | (go_at_call 26; (with_reducible refine (HR1.out _ B7.out).mono ?_); rintro e w8 ⟨rfl, b8⟩; have B8 := hid (below_on B7.out b8); clear b8))
          go_wp2_with (first
            | (go_at_call 24; (with_reducible refine (HS.out 0 w8).mono ?_); rintro e w9 ⟨rfl, b9⟩; have B9 := hid (below_on B8.out b9); clear b9)
            | (go_at_call 27; (with_reducible refine (HEn.out _ B9.out).mono ?_); rintro e v1 ⟨rfl, k4, t4⟩; have C1 := hid ((A9.out.on B9.out).step k4 t4 (fun i hi => by omega)); clear k4 t4)
            | (go_at_call 24; (with_reducible refine (HS.out 1099511627776 v1).mono ?_); rintro e v2 ⟨rfl, b9⟩; have C2 := hid (C1.out.on b9); clear b9)
            | (go_at_call 16; (with_reducible refine (HO1.out v2 C2.out).mono ?_); rintro e v3 ⟨rfl, k4, t4⟩; have C3 := hid (C2.out.step k4 t4 (fun i hi => by omega)); clear k4 t4)
            | (go_at_call 24; (with_reducible refine (HS.out 2199023255552 v3).mono ?_); rintro e v4 ⟨rfl, b9⟩; have C4 := hid (C3.out.on b9); clear b9)
            | (go_at_call 16; (with_reducible refine (HO2.out v4 C4.out).mono ?_); rintro e v5 ⟨rfl, k4, t4⟩; have C5 := hid (C4.out.step k4 t4 (fun i hi => by omega)); clear k4 t4))
          go_ret
          exact ⟨rfl, C5.out.2.1⟩
end Go.Proofs.Ytbeeklpfbnhdnaa
