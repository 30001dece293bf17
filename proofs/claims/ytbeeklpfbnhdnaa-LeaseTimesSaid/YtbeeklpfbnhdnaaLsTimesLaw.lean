/-
  LeaseTimes: its walk.
-/
import Derived.Test.YtbeeklpfbnhdnaaLsThose
import Derived.Test.YtbeeklpfbnhdnaaVals
namespace Go.Proofs.Ytbeeklpfbnhdnaa
open Go.ChangeShapes Go.WideShapes Go.ChangeAt Go.RowKit Go.Maps Go.WideMaps
set_option linter.unusedVariables false
set_option linter.unusedSimpArgs false

/-- A book of the call's own. -/
def BookAt (h : Nat) (w W : World) (n : Nat) (l : List SeL) : Prop := BkAt W h (h + 1) h n l ∧ Below w.heap.size w W ∧ w.heap.size ≤ h
theorem BookAt.on {h n : Nat} {w W W' : World} {l : List SeL} (a : BookAt h w W n l) (b : Below W.heap.size W W') : BookAt h w W' n l := ⟨a.1.on b, below_on a.2.1 b, a.2.2⟩
theorem BookAt.step {h n n' : Nat} {w W W' : World} {l l' : List SeL} (a : BookAt h w W n l) (k : BkAt W' h (h + 1) h n' l') (t : TurnsD (fun i => i = h) W W') : BookAt h w W' n' l' :=
  ⟨k, a.2.1.trans ((t.below (B := w.heap.size) (by have := a.2.1.size; omega) (fun i hi hs => by have := a.2.2; omega))), a.2.2⟩
theorem BookAt.mono {h n n' : Nat} {w W : World} {l : List SeL} (a : BookAt h w W n l) (hn : n ≤ n') : BookAt h w W n' l := ⟨a.1.mono hn, a.2⟩

def oneL (u : Int) (f : ByteArray) (dl ttl : Int) : SeL := ⟨u, f, true, false, dl, ttl, [], none⟩
def endL (u : Int) (f : ByteArray) : SeL := ⟨u, f, false, true, 0, 0, [], none⟩
theorem get_one (s : SeL) : getL [s] s.num s.foot = s := by
  unfold getL findL
  rw [List.find?_cons, isKL_self s]
  rfl
theorem put_one (s t : SeL) (h : s.num = t.num ∧ s.foot = t.foot) : putL t [s] = [t] := by unfold putL; rw [if_pos h]
theorem times_open (u : Int) (f : ByteArray) {ttl t : Int} (h0 : 0 ≤ ttl) (h1 : ttl ≤ 1048576) (h2 : 0 ≤ t) (h3 : t ≤ 1099511627776) :
    openE [] (getL [] u f) = 0 ∧ openB [] (getL [] u f) ttl t = [oneL u f (t + ttl) ttl] := by
  have e : getL [] u f = zeroL u f := rfl
  have e0 : openE [] (zeroL u f) = 0 := rfl
  rw [e]
  refine ⟨e0, ?_⟩
  unfold openB
  rw [if_pos e0]
  unfold putL openS oneL zeroL
  rw [cutL_in h0 (by omega), cutL_in h2 (by omega), cutL_in (t := t + ttl) (by omega) (by omega)]
theorem times_keep (u : Int) (f : ByteArray) {last ttl t : Int} (h0 : 0 ≤ ttl) (h1 : ttl ≤ 1048576) (h2 : 0 ≤ t) (h3 : t ≤ 1099511627776) (h4 : 0 ≤ last) (h5 : last ≤ 1099511627776) :
    getL [oneL u f (last + ttl) ttl] u f = oneL u f (last + ttl) ttl ∧ keepE [oneL u f (last + ttl) ttl] (oneL u f (last + ttl) ttl) = 0 ∧
    keepB [oneL u f (last + ttl) ttl] (oneL u f (last + ttl) ttl) t = [oneL u f ((if last < t then t else last) + ttl) ttl] := by
  refine ⟨get_one (oneL u f (last + ttl) ttl), rfl, ?_⟩
  unfold keepB
  rw [if_pos (show (oneL u f (last + ttl) ttl).opn = true from rfl), put_one (oneL u f (last + ttl) ttl) (keepS (oneL u f (last + ttl) ttl) t) ⟨rfl, rfl⟩]
  congr 1
  unfold keepS oneL
  dsimp only
  rw [cutL_in h2 (by omega), cutL_in (t := t + ttl) (by omega) (by omega)]
  congr 1
  split <;> split <;> omega
theorem times_exp (u : Int) (f : ByteArray) (dl ttl time : Int) : (time < dl → expE [oneL u f dl ttl] (oneL u f dl ttl) time = 54 ∧ expB [oneL u f dl ttl] (oneL u f dl ttl) time = [oneL u f dl ttl]) ∧
    (¬ time < dl → expE [oneL u f dl ttl] (oneL u f dl ttl) time = 0 ∧ expB [oneL u f dl ttl] (oneL u f dl ttl) time = [endL u f]) := by
  refine ⟨fun h => ?_, fun h => ?_⟩
  · unfold expE expB
    rw [if_pos ⟨rfl, h⟩, if_pos ⟨rfl, h⟩]
    exact ⟨rfl, rfl⟩
  · unfold expE expB
    rw [if_neg (fun e => h e.2), if_neg (fun e => h e.2)]
    refine ⟨rfl, ?_⟩
    unfold endB
    rw [if_pos (show (oneL u f dl ttl).opn = true from rfl), put_one (oneL u f dl ttl) (endS (oneL u f dl ttl)) ⟨rfl, rfl⟩]
    rfl
theorem times_dead (u : Int) (f : ByteArray) (ttl t : Int) : getL [endL u f] u f = endL u f ∧ openE [endL u f] (endL u f) = 50 ∧ openB [endL u f] (endL u f) ttl t = [endL u f] ∧ keepE [endL u f] (endL u f) = 50 ∧ keepB [endL u f] (endL u f) t = [endL u f] ∧
    expE [endL u f] (endL u f) t = 50 ∧ expB [endL u f] (endL u f) t = [endL u f] ∧ keysP (dueP t) [endL u f] = [] :=
  ⟨get_one (endL u f), rfl, rfl, rfl, rfl, rfl, rfl, rfl⟩
theorem lfield_dl (a b : Bool) (c e g : Int) (w : World) : (Instr.field 58 (.agg #[.bool a, .bool b, .int .i64 c, .int .i64 e, .int .i64 g]) 2).run Try.prog w = .ok (.int .i64 c) w := by kernel_rfl
theorem lfield_open (a b : Bool) (c e g : Int) (w : World) : (Instr.field 58 (.agg #[.bool a, .bool b, .int .i64 c, .int .i64 e, .int .i64 g]) 0).run Try.prog w = .ok (.bool a) w := by kernel_rfl
theorem lfield_dead (a b : Bool) (c e g : Int) (w : World) : (Instr.field 58 (.agg #[.bool a, .bool b, .int .i64 c, .int .i64 e, .int .i64 g]) 1).run Try.prog w = .ok (.bool b) w := by kernel_rfl

set_option maxRecDepth 100000 in
set_option maxHeartbeats 4000000 in
theorem ltimes_walk (u : Int) (f : ByteArray) (ttl opened : Int) (A : Option Addr) (kl : List Int) (ca : Nat) (time again : Int) (hu : IsU u) (hf : OkF f) (hl : kl.length ≤ 9223372036854775807) (w : World) (hV : Vals w A (kl.map (Value.int .i64))) :
    Calls Try.prog 4 #[sesV u f, .int .i64 ttl, .int .i64 opened, .slice A kl.length ca, .int .i64 time, .int .i64 again] w fun e w' => e = .returned (.bool true) ∧ Below w.heap.size w w' := by
  have HA := hid (fun w => lanchor_any w)
  obtain ⟨nk, hnk⟩ : ∃ n, kl.length = n := ⟨_, rfl⟩
  rw [hnk] at hl ⊢
  have HNk := hid hnk
  clear hnk
  by_cases h1 : ttl < 0
  · go_enter Try.func4, Try.ntmps4
    go_wp2_with (first
      | (go_at_call 7; (with_reducible refine (HA.out _).mono ?_); rintro e w1 ⟨rfl, b1⟩; have B1 := hid b1; clear b1))
    go_ret
    exact ⟨rfl, (((Below.refl _ _).alloc (Nat.le_refl _) _).trans (B1.out.mono (by simp)))⟩
  by_cases h2 : 1048576 < ttl
  · go_enter Try.func4, Try.ntmps4
    go_wp2_with (first
      | (go_at_call 7; (with_reducible refine (HA.out _).mono ?_); rintro e w1 ⟨rfl, b1⟩; have B1 := hid b1; clear b1))
    go_ret
    exact ⟨rfl, (((Below.refl _ _).alloc (Nat.le_refl _) _).trans (B1.out.mono (by simp)))⟩
  by_cases h3 : opened < 0
  · go_enter Try.func4, Try.ntmps4
    go_wp2_with (first
      | (go_at_call 7; (with_reducible refine (HA.out _).mono ?_); rintro e w1 ⟨rfl, b1⟩; have B1 := hid b1; clear b1))
    go_ret
    exact ⟨rfl, (((Below.refl _ _).alloc (Nat.le_refl _) _).trans (B1.out.mono (by simp)))⟩
  by_cases h4 : 1099511627776 < opened
  · go_enter Try.func4, Try.ntmps4
    go_wp2_with (first
      | (go_at_call 7; (with_reducible refine (HA.out _).mono ?_); rintro e w1 ⟨rfl, b1⟩; have B1 := hid b1; clear b1))
    go_ret
    exact ⟨rfl, (((Below.refl _ _).alloc (Nat.le_refl _) _).trans (B1.out.mono (by simp)))⟩
  by_cases h5 : 40 < nk
  · have h5' : (40 : Int) < (nk : Int) := by omega
    go_enter Try.func4, Try.ntmps4
    go_wp2_with (first
      | (go_at_call 7; (with_reducible refine (HA.out _).mono ?_); rintro e w1 ⟨rfl, b1⟩; have B1 := hid b1; clear b1))
    go_ret
    exact ⟨rfl, (((Below.refl _ _).alloc (Nat.le_refl _) _).trans (B1.out.mono (by simp)))⟩
  have h5' : ¬ (40 : Int) < (nk : Int) := by omega
  have HN := hid (fun w => lnew_any w)
  have HO := hid (fun h W (k : BookAt h w W 0 []) => lopen_any h (h + 1) h 0 [] u f ttl opened W k.1 (by omega) hu hf)
  obtain ⟨o1, o2⟩ := times_open u f (t := opened) (show 0 ≤ ttl by omega) (by omega) (show 0 ≤ opened by omega) (by omega)
  rw [o1, o2] at HO
  have HT := hid (show 0 ≤ ttl ∧ ttl ≤ 1048576 ∧ 0 ≤ opened ∧ opened ≤ 1099511627776 ∧ nk ≤ 40 by omega)
  have HU := hid (And.intro hu hf)
  have HVa := hid hV
  clear o1 o2 hV hu hf hl
  go_enter Try.func4, Try.ntmps4
  go_upto_region 1 with fail
  obtain ⟨wk, hwk⟩ : ∃ wk, w.alloc (.cells #[.int .u64 u, .string f] 25) = wk := ⟨_, rfl⟩
  obtain ⟨EK, DK⟩ := lone_new hwk
  obtain ⟨k, hk⟩ : ∃ k, w.heap.size = k := ⟨_, rfl⟩
  have HK := hid hk
  rw [hk] at EK ⊢
  rw [hwk]
  clear hk hwk
  go_upto_region 6 with (first
    | (go_at_call 7; (with_reducible refine (HA.out _).mono ?_); rintro e w1 ⟨rfl, b1⟩; have E1 := hid (EK.out.below b1 EK.out.lt); have B1 := hid (below_on DK.out b1); clear b1)
    | (go_at_call 8; (with_reducible refine (HN.out _).mono ?_); rintro e w2 ⟨rfl, b2, k2⟩; have E2 := hid (E1.out.below b2 E1.out.lt); have A2 : Hid (BookAt w1.heap.size w w2 0 []) := hid ⟨k2, below_on B1.out b2, B1.out.size⟩; have HH : Hid (k < w1.heap.size) := hid E1.out.lt; clear b2 k2))
  obtain ⟨h, hh⟩ : ∃ h, w1.heap.size = h := ⟨_, rfl⟩
  rw [hh] at A2 HH ⊢
  clear hh B1 E1 EK DK
  obtain ⟨c0, c1⟩ := lcells2 E2.out
  go_wp2_with (first
    | (go_at_call 16; (with_reducible refine (HO.out h _ A2.out).mono ?_); rintro e w3 ⟨rfl, k3, t3⟩; have A3 := hid (A2.out.step k3 t3); have E3 := hid (E2.out.turns t3 (by have := HH.out; omega)); clear k3 t3))
  have V3 : Hid (Vals w3 A (kl.map (Value.int .i64))) := hid (by
    have b : Below w.heap.size w w3 := A3.out.2.1
    intro j x hj
    obtain ⟨b', o', hA, hlt, hc⟩ := HVa.out j x hj
    exact ⟨b', o', hA, Nat.lt_of_lt_of_le hlt b.size, (b.cell (by exact hlt)).trans hc⟩)
  clear c0 c1 HO
  go_loopw [14, 49] (fun lv iv wr => ∃ (j : Nat) (last : Int), lv = .int .i64 last ∧ iv = .int .i64 (j : Int) ∧ j ≤ nk ∧ 0 ≤ last ∧ last ≤ 1099511627776 ∧ Hid (BookAt h w wr (1 + j) [oneL u f (last + ttl) ttl] ∧ Blk wr k 25 #[.int .u64 u, .string f])) (fun _ iv _ => nk - (intOf iv).toNat)
  case atStart => exact ⟨0, opened, rfl, rfl, by omega, HT.out.2.2.1, HT.out.2.2.2.1, hid ⟨A3.out, E3.out⟩⟩
  case round =>
    obtain ⟨j, last, rfl, rfl, hj, l0, l1, HJ⟩ := hrel
    have hT := HT.out
    by_cases hlt : j < nk
    · have hlt' : (j : Int) < (nk : Int) := by omega
      obtain ⟨x, hx⟩ : ∃ x, kl[j]? = some x := ⟨_, List.getElem?_eq_getElem (by rw [HNk.out]; exact hlt)⟩
      obtain ⟨ab, ao, hA, halt, hcell⟩ := HVa.out j (.int .i64 x) (by simp [hx])
      subst hA
      have hcw : wr.cell? ⟨ab, ao + j, none⟩ = some (.int .i64 x) := (HJ.out.1.2.1.cell (p := ⟨ab, ao + j, none⟩) halt).trans hcell
      clear hcell
      by_cases x0 : x < 0
      · go_wp2
        go_ret
        exact ⟨rfl, HJ.out.1.2.1⟩
      by_cases x1 : 1099511627776 < x
      · go_wp2
        go_ret
        exact ⟨rfl, HJ.out.1.2.1⟩
      obtain ⟨t1, t2, t3⟩ := times_keep u f (t := x) hT.1 hT.2.1 (show 0 ≤ x by omega) (by omega) l0 l1
      have HKp := hid (lkeep_any h (h + 1) h (1 + j) [oneL u f (last + ttl) ttl] u f x wr HJ.out.1.1 (by omega) HU.out.1 HU.out.2)
      rw [t1, t2, t3] at HKp
      obtain ⟨mx, hmx⟩ : ∃ mx, (if last < x then x else last) = mx := ⟨_, rfl⟩
      rw [hmx] at HKp
      have HMx := hid (run_maxE Try.prog last x mx hmx)
      have hm : 0 ≤ mx ∧ mx ≤ 1099511627776 := by rw [← hmx]; split <;> omega
      have KK : Hid (∀ W', BkAt W' h (h + 1) h (1 + j + 1) [oneL u f (mx + ttl) ttl] → TurnsD (fun i => i = h) wr W' → BookAt h w W' (1 + (j + 1)) [oneL u f (mx + ttl) ttl] ∧ Blk W' k 25 #[.int .u64 u, .string f]) := hid (fun W' a b =>
        ⟨HJ.out.1.step a b, HJ.out.2.turns b (by have := HH.out; omega)⟩)
      obtain ⟨c0, c1⟩ := lcells2 HJ.out.2
      have q7 := HMx.out
      clear t1 t2 t3 hmx hlt halt
      go_wp2_with (first
        | (go_at_call 17; (with_reducible refine HKp.out.mono ?_); rintro e w4 ⟨rfl, k4, t4⟩; have K4 := hid (KK.out _ k4 t4); clear k4 t4))
      go_roundw
      case rel => exact ⟨j + 1, mx, rfl, rfl, by omega, hm.1, hm.2, K4⟩
      case measure => simp only [intOf]; omega
    · have hlt' : ¬ (j : Int) < (nk : Int) := by omega
      have hjj : j = nk := by omega
      subst hjj
      obtain ⟨N, hN⟩ : ∃ N, 1 + j = N := ⟨_, rfl⟩
      have hN2 : N ≤ 41 := by omega
      rw [hN] at HJ
      obtain ⟨dl, hdl⟩ : ∃ dl, last + ttl = dl := ⟨_, rfl⟩
      have qw : IntKind.i64.wrap (last + ttl) = dl := by rw [IntWalk.i64_in _ (by omega), hdl]
      rw [hdl] at HJ
      have g1 : getL [oneL u f dl ttl] u f = oneL u f dl ttl := get_one (oneL u f dl ttl)
      obtain ⟨d1, d2, d3, d4, d5, d6, d7, d8⟩ := times_dead u f ttl again
      have HI := hid (fun W (k : BkAt W h (h + 1) h N [oneL u f dl ttl]) => linfo_any h (h + 1) h N [oneL u f dl ttl] u f W k HU.out.1 HU.out.2)
      have HI2 := hid (fun W (k : BkAt W h (h + 1) h (N + 1) [oneL u f dl ttl]) => linfo_any h (h + 1) h (N + 1) [oneL u f dl ttl] u f W k HU.out.1 HU.out.2)
      have HID := hid (fun W (k : BkAt W h (h + 1) h (N + 1) [endL u f]) => linfo_any h (h + 1) h (N + 1) [endL u f] u f W k HU.out.1 HU.out.2)
      have HEx := hid (fun W (k : BkAt W h (h + 1) h N [oneL u f dl ttl]) => lexpire_any h (h + 1) h N [oneL u f dl ttl] u f time W k (by omega) HU.out.1 HU.out.2)
      have HOp := hid (fun W (k : BkAt W h (h + 1) h (N + 1) [endL u f]) => lopen_any h (h + 1) h (N + 1) [endL u f] u f ttl again W k (by omega) HU.out.1 HU.out.2)
      have HKe := hid (fun W (k : BkAt W h (h + 1) h (N + 2) [endL u f]) => lkeep_any h (h + 1) h (N + 2) [endL u f] u f again W k (by omega) HU.out.1 HU.out.2)
      have HE2 := hid (fun W (k : BkAt W h (h + 1) h (N + 3) [endL u f]) => lexpire_any h (h + 1) h (N + 3) [endL u f] u f again W k (by omega) HU.out.1 HU.out.2)
      have HDu := hid (fun W (k : BkAt W h (h + 1) h (N + 4) [endL u f]) => ldue_any h (h + 1) h (N + 4) [endL u f] again W k (by omega))
      rw [g1] at HI HI2 HEx
      rw [d1] at HID HOp HKe HE2
      rw [d2, d3] at HOp
      rw [d4, d5] at HKe
      rw [d6, d7] at HE2
      simp only [infoV, oneL, endL] at HI HI2 HID
      have qa := fun (w : World) (g : Int) => lfield_dl true false dl ttl g w
      have qb := fun (w : World) (g : Int) => lfield_open true false dl ttl g w
      have qc := fun (w : World) (g : Int) => lfield_dead false true 0 0 g w
      have HX := hid (times_exp u f dl ttl time)
      have HD8 := hid d8
      have hk : k < h := HH.out
      have KS : Hid (∀ W W' n l n' l', BookAt h w W n l → Blk W k 25 #[.int .u64 u, .string f] → BkAt W' h (h + 1) h n' l' ∧ TurnsD (fun i => i = h) W W' → BookAt h w W' n' l' ∧ Blk W' k 25 #[.int .u64 u, .string f]) := hid (fun W W' n l n' l' a e b =>
        ⟨a.step b.1 b.2, e.turns b.2 (by omega)⟩)
      have J1 := hid HJ.out.1.1
      obtain ⟨c0, c1⟩ := lcells2 HJ.out.2
      clear g1 d1 d2 d3 d4 d5 d6 d7 d8 hN hN2 hdl hlt hj HVa V3 HNk
      go_upto_region 20 with (first
        | (go_at_call 18; (with_reducible refine (HI.out _ J1.out).mono ?_); rintro e w4 ⟨rfl, b4⟩; have A4 := hid (HJ.out.1.on b4); have E4 := hid (HJ.out.2.below b4 HJ.out.2.lt); clear b4))
      clear c0 c1
      obtain ⟨c0, c1⟩ := lcells2 E4.out
      have J4 := hid A4.out.1
      by_cases ht : time < dl
      · rw [(HX.out.1 ht).1, (HX.out.1 ht).2] at HEx
        go_upto_region 22 with (first
          | (go_at_call 19; (with_reducible refine (HEx.out _ J4.out).mono ?_); rintro e w5 ⟨rfl, k5⟩; have A5 := hid (KS.out _ _ _ _ _ _ A4.out E4.out k5); clear k5))
        clear c0 c1
        obtain ⟨c0, c1⟩ := lcells2 A5.out.2
        have J5 := hid A5.out.1.1
        go_wp2_with (first
          | (go_at_call 18; (with_reducible refine (HI2.out _ J5.out).mono ?_); rintro e w6 ⟨rfl, b6⟩; have A6 := hid (A5.out.1.on b6); clear b6))
        go_ret
        exact ⟨rfl, A6.out.2.1⟩
      · rw [(HX.out.2 (by omega)).1, (HX.out.2 (by omega)).2] at HEx
        go_upto_region 23 with (first
          | (go_at_call 19; (with_reducible refine (HEx.out _ J4.out).mono ?_); rintro e w5 ⟨rfl, k5⟩; have A5 := hid (KS.out _ _ _ _ _ _ A4.out E4.out k5); clear k5))
        clear c0 c1
        obtain ⟨c0, c1⟩ := lcells2 A5.out.2
        have J5 := hid A5.out.1.1
        go_wp2_with (first
          | (go_at_call 18; (with_reducible refine (HID.out _ J5.out).mono ?_); rintro e w6 ⟨rfl, b6⟩; have A6 := hid (A5.out.1.on b6); have E6 := hid (A5.out.2.below b6 A5.out.2.lt); have J6 := hid A6.out.1; clear b6 c0 c1; obtain ⟨c0, c1⟩ := lcells2 E6.out)
          | (go_at_call 16; (with_reducible refine (HOp.out _ J6.out).mono ?_); rintro e w7 ⟨rfl, k5⟩; have A7 := hid (KS.out _ _ _ _ _ _ A6.out E6.out k5); have J7 := hid A7.out.1.1; clear k5 c0 c1; obtain ⟨c0, c1⟩ := lcells2 A7.out.2)
          | (go_at_call 17; (with_reducible refine (HKe.out _ J7.out).mono ?_); rintro e w8 ⟨rfl, k5⟩; have A8 := hid (KS.out _ _ _ _ _ _ A7.out.1 A7.out.2 k5); have J8 := hid A8.out.1.1; clear k5 c0 c1; obtain ⟨c0, c1⟩ := lcells2 A8.out.2)
          | (go_at_call 19; (with_reducible refine (HE2.out _ J8.out).mono ?_); rintro e w9 ⟨rfl, k5⟩; have A9 := hid (KS.out _ _ _ _ _ _ A8.out.1 A8.out.2 k5); have J9 := hid A9.out.1.1; clear k5 c0 c1; obtain ⟨c0, c1⟩ := lcells2 A9.out.2)
          | (go_at_call 11; (with_reducible refine (HDu.out _ J9.out).mono ?_); rintro e w10 ⟨A', c', rfl, h1, h2, h3⟩; have A10 := hid (A9.out.1.on h3); rw [HD8.out]; clear h1 h2 h3))
        go_ret
        exact ⟨rfl, A10.out.2.1⟩
end Go.Proofs.Ytbeeklpfbnhdnaa
