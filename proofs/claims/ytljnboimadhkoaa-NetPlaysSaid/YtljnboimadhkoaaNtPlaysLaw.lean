/-
  The law's walk: every play of a net is the document's.
-/
import Derived.Test.YtljnboimadhkoaaNtOpens
import Derived.Test.YtljnboimadhkoaaNtAnch
namespace Go.Proofs.Ytljnboimadhkoaa
open Go.ChangeShapes Go.WideShapes Go.ChangeAt Go.RowKit
set_option linter.unusedVariables false
set_option linter.unusedSimpArgs false

theorem and_bitN {s x : Nat} (hs : s < 256) (hx : x < 7) : bits BinOp.and IntKind.u8 ((s : Int) / 2 ^ x) 1 = if hasB s (x : Int) = true then 1 else 0 := by
  have e : (s : Int) / 2 ^ x = ((s / 2 ^ x : Nat) : Int) := by push_cast; rfl
  have hlt : s / 2 ^ x < 256 := Nat.lt_of_le_of_lt (Nat.div_le_self _ _) hs
  have h := u8_and_nat (s / 2 ^ x) 1 hlt (by decide)
  rw [e]
  have h1 : ((1 : Nat) : Int) = 1 := rfl
  rw [h1] at h
  rw [h, Nat.and_one_is_mod, hasB_nat s hx, Nat.testBit_eq_decide_div_mod_eq]
  rcases Nat.mod_two_eq_zero_or_one (s / 2 ^ x) with h2 | h2 <;> rw [h2] <;> simp
/-- The first one that was found, of the first i. -/
def AtN (s : Nat) (l : List FrL) (i : Nat) (a f : Value) : Prop :=
  (∃ k, firstL s l = some k ∧ k < i ∧ a = .int .i64 (k : Int) ∧ f = .bool true) ∨ (a = .int .i64 0 ∧ f = .bool false ∧ ∀ k g, k < i → l[k]? = some g → amongN s g = false)
theorem AtN.more {s : Nat} {l : List FrL} {i : Nat} {a : Value} (h : ∀ k g, k < i → l[k]? = some g → amongN s g = false) (ha : a = .int .i64 0) {f : FrL} (hf : l[i]? = some f) (hno : amongN s f = false) : AtN s l (i + 1) a (.bool false) :=
  .inr ⟨ha, rfl, fun k g hk hg => by
    rcases (show k < i ∨ k = i by omega) with h1 | h1
    · exact h k g h1 hg
    · subst h1; rw [hf] at hg; injection hg with hg; rw [← hg]; exact hno⟩
set_option maxRecDepth 100000 in
set_option maxHeartbeats 8000000 in
theorem plays_walk19 (lim : Int) (A : Option Addr) (os : List OpN) (c : Nat) (s : Nat) (hs : s < 256) (hn9 : os.length ≤ 9223372036854775807) (w : World) (hS : SeesO w.heap.size w A os) :
    Calls Try.prog 3 #[.int .i64 lim, .slice A os.length c, .int .u8 (s : Int)] w fun e w' => e = .returned (.bool true) ∧ Below w.heap.size w w' := by
  have HS := hid hS
  have HA := hid anchor19
  have HNo := hid (fun h w => ntnew_no lim w h)
  have HNew := hid (fun h0 h1 w => ntnew_any lim w h0 h1)
  have Hs := hid hs
  obtain ⟨n, hn⟩ : ∃ n, os.length = n := ⟨_, rfl⟩
  have HN := hid hn
  rw [hn] at hn9 ⊢
  clear hS hn hs
  go_enter Try.func3, Try.ntmps3
  go_upto_region 3 with (go_at_call 5; (with_reducible refine (HA.out _).mono ?_); rintro e w1 ⟨rfl, b1⟩; have B1 := hid b1; clear b1)
  by_cases hr : lim < 1 ∨ 4096 < lim
  · have HN0 := hid (HNo.out hr w1)
    have hr2 : lim < 1 ∨ (¬ lim < 1 ∧ 4096 < lim) := by omega
    clear hr
    rcases hr2 with h1 | ⟨h1, h2⟩
    · go_wp2_with (go_at_call 6; (with_reducible refine HN0.out.mono ?_); rintro e w2 ⟨rfl, rfl⟩)
      go_ret
      exact ⟨rfl, B1.out⟩
    · go_wp2_with (go_at_call 6; (with_reducible refine HN0.out.mono ?_); rintro e w2 ⟨rfl, rfl⟩)
      go_ret
      exact ⟨rfl, B1.out⟩
  have hr1 : ¬ lim < 1 := by omega
  have hr2 : ¬ 4096 < lim := by omega
  have HN1 := hid (HNew.out (by omega) (by omega) w1)
  clear hr HNo HNew
  go_upto_region 8 with (go_at_call 6; (with_reducible refine HN1.out.mono ?_); rintro e w2 ⟨rfl, hN, b2⟩; have NN := hid hN; have B2 := hid (below_on B1.out b2); clear hN b2)
  have HSz : Hid (w.heap.size ≤ w1.heap.size) := hid B1.out.size
  obtain ⟨B, hB⟩ : ∃ B, w1.heap.size = B := ⟨_, rfl⟩
  rw [hB] at NN HSz ⊢
  clear hB
  by_cases h60 : (60 : Int) < (n : Int)
  · go_wp2
    go_ret
    exact ⟨rfl, B2.out⟩
  have H0 : Hid (BothN w2 w.heap.size B B lim (.slice none 0 0) [] (.slice none 0 0) []) := hid ⟨NN.out, RefAt.nil _ _ _, HSz.out, rfl, fun p hp => by simp at hp, fun p hp => by simp at hp⟩
  clear NN
  go_wp2_with fail
  go_loopw [9, 50] (fun rv iv wr => ∃ (j : Nat) (v : Value) (lp lr : List FrV), j ≤ n ∧ iv = .int .i64 (j : Int) ∧ Hid (BothN wr w.heap.size B B lim v lp rv lr) ∧ Hid (Below w.heap.size w wr)) (fun _ iv _ => n - (intOf iv).toNat)
  case atStart => exact ⟨0, _, [], [], Nat.zero_le _, rfl, H0, B2⟩
  case round =>
    clear H0 B2 B1 HN1
    obtain ⟨j, v, lp, lr, hj, rfl, HB, HBe⟩ := hrel
    by_cases hlt : j < n
    · have hlt' : (j : Int) < (n : Int) := by omega
      obtain ⟨o, ho⟩ : ∃ o, os[j]? = some o := ⟨_, List.getElem?_eq_getElem (by rw [HN.out]; exact hlt)⟩
      obtain ⟨ba, off, hA, hba, ⟨y0, y1, y2, y3, y4, y5⟩, hmo⟩ := (HS.out.below HBe.out) j o ho
      subst hA
      have HMo := hid hmo
      obtain ⟨m, hm⟩ : ∃ m, lr.length = m := ⟨_, rfl⟩
      have HM := hid hm
      obtain ⟨R, rc, hrv⟩ := own_shapeN HB.out.ref.row
      rw [hm] at hrv
      subst hrv
      have qi : IntKind.i64.wrap ((j : Int) + 1) = ((j + 1 : Nat) : Int) := by rw [IntWalk.i64_in _ (by omega)]; omega
      obtain ⟨W, hW⟩ : ∃ W, wr.alloc (.cells (opNC o) 34) = W := ⟨_, rfl⟩
      obtain ⟨K0, KB⟩ := lone_new hW
      have HSt := hid (ntstep_any w.heap.size B B lim v lp _ lr o W (HB.out.on KB.out) (HMo.out.below (KB.out.mono HB.out.size)))
      clear ho hmo hm
      obtain ⟨kd, i, bit, ⟨fr, to, d⟩, Ao, co⟩ := o
      simp only [opNC] at HSt hW K0
      have HW := hid hW
      clear hW
      go_upto_region 14 with fail
      obtain ⟨k, hk⟩ : ∃ k, wr.heap.size = k := ⟨_, rfl⟩
      rw [HW.out]
      rw [hk] at K0 ⊢
      clear hk y0 y1 y2 y3 y4 y5
      obtain ⟨c0, c1, c2, c3, c4, c5⟩ := lcells6N K0.out
      have HBW := hid (below_on HBe.out KB.out)
      have HNB := hid HB.out.size
      go_upto_region 18 with (go_at_call 7; (with_reducible refine HSt.out.mono ?_); rintro e w5 ⟨rv5, v5, lp5, lr5, rfl, hb5, bl5⟩; obtain ⟨R5, rc5, rfl⟩ := own_shapeN hb5.ref.row; have H5 := hid hb5; have B5 := hid (HBW.out.trans (bl5.mono HB.out.low)); clear hb5 bl5 c0 c1 c2 c3 c4 c5)
      obtain ⟨m5, hm5⟩ : ∃ m, lr5.length = m := ⟨_, rfl⟩
      have HM5 := hid hm5
      have HL5 : Hid (lp5.length = m5) := hid (by rw [H5.out.len, hm5])
      have hm9 : m5 ≤ 4096 := by rw [← HL5.out]; exact H5.out.net.len
      rw [hm5] at H5 ⊢
      have HLi := hid (ntlist_any B B lim v5 lp5 w5 H5.out.net)
      unfold ListN at HLi
      rw [HL5.out] at HLi
      clear hm5 HB HSt K0 KB HBW HBe
      go_upto_region 19 with (go_at_call 8; (with_reducible refine HLi.out.mono ?_); rintro e w6 ⟨v13, l13, rfl, hL⟩; obtain ⟨L6, lc6, rfl⟩ := own_shapeN hL.2.1; have HL6 := hid hL; have H6 := hid (H5.out.on (hL.2.2.2)); have B6 := hid (below_on B5.out hL.2.2.2); clear hL)
      have HCo := hid (ntcount_any B B lim v5 lp5 w6 H6.out.net)
      rw [HL5.out] at HCo
      have HFi := hid (fun w' (b : Below w6.heap.size w6 w') => ntfirst_any B B lim v5 lp5 s Hs.out w' (H6.out.net.on b))
      rw [H6.out.same] at HFi
      have HMap : Hid (l13.map (·.1) = lr5.map (·.1)) := hid (by rw [HL6.out.1, ← HL5.out, List.take_length]; exact H6.out.same)
      go_wp2_with (go_at_call 9; (with_reducible refine HCo.out.mono ?_); rintro e w7 ⟨rfl, rfl⟩)
      go_loopw [14, 15, 80] (fun a f iv wq => ∃ i : Nat, i ≤ m5 ∧ iv = .int .i64 (i : Int) ∧ Hid (AtN s (lr5.map (·.1)) i a f) ∧ Hid (Below w6.heap.size w6 wq)) (fun _ _ iv _ => m5 - (intOf iv).toNat)
      case atStart => exact ⟨0, Nat.zero_le _, rfl, hid (.inr ⟨rfl, rfl, fun k g hk => absurd hk (Nat.not_lt_zero k)⟩), hid (Below.refl _ _)⟩
      case round =>
        obtain ⟨q, hq, rfl, HAt, HBq⟩ := hrel
        by_cases hlq : q < m5
        · have hlq' : (q : Int) < (m5 : Int) := by omega
          have H7 := hid (H6.out.on HBq.out)
          obtain ⟨r, hr⟩ : ∃ r, lr5[q]? = some r := ⟨_, List.getElem?_eq_getElem (by rw [HM5.out]; exact hlq)⟩
          have HR := hid hr
          have hrm := List.mem_of_getElem? hr
          have HRf : Hid ((lr5.map (·.1))[q]? = some r.1) := hid (by rw [List.getElem?_map, hr]; rfl)
          have HKn := hid (H5.out.known r hrm)
          obtain ⟨Ar, cr, hr1, hr2, hr3⟩ := H7.out.ref.arg r hrm
          obtain ⟨p, hp⟩ : ∃ p, l13[q]? = some p := by
            have hh : (l13.map (·.1))[q]? = some r.1 := by rw [HMap.out]; exact HRf.out
            rw [List.getElem?_map] at hh
            cases hx : l13[q]? with
            | none => rw [hx] at hh; cases hh
            | some p => exact ⟨p, rfl⟩
          have hpf : p.1 = r.1 := by
            have hh : (l13.map (·.1))[q]? = some r.1 := by rw [HMap.out]; exact HRf.out
            rw [List.getElem?_map, hp] at hh
            injection hh
          have HL13 : Hid (l13.length = m5) := hid (by have hh := congrArg List.length HMap.out; rw [List.length_map, List.length_map, HM5.out] at hh; exact hh)
          have hrow := own_since HL6.out.2.1 HBq.out
          rw [← HL13.out] at hrow
          obtain ⟨bl, hLb⟩ : ∃ b, L6 = some ⟨b, 0, none⟩ := by
            obtain ⟨b, cv', hvv, _⟩ := rowN_at hrow hp
            injection hvv with e1
            exact ⟨b, e1⟩
          subst hLb
          obtain ⟨y0, y1, y2⟩ := rowN_cells hrow hp
          have hdat := own_since (HL6.out.2.2.1 p (List.mem_of_getElem? hp)) HBq.out
          obtain ⟨Ap, cp, hp2⟩ := own_shapeN hdat
          have HSp := hid hdat
          obtain ⟨bR, hRb⟩ : ∃ b, R5 = some ⟨b, 0, none⟩ := by
            obtain ⟨b, cv', hvv, _⟩ := rowN_at H7.out.ref.row hr
            injection hvv with e1
            exact ⟨b, e1⟩
          subst hRb
          have hsm : r.1.d.length ≤ 512 := by
            obtain ⟨uu, huu⟩ := H5.out.at_ hr
            exact H5.out.net.small (r.1, uu) (List.mem_of_getElem? huu)
          obtain ⟨pf, p2⟩ := p
          obtain ⟨⟨fr, to, d⟩, r2⟩ := r
          simp only at hpf hp2 hr1 hsm
          subst hpf hr1
          simp only at hp2
          subst hp2
          have HSq : Hid (Held w.heap.size wr Ar d) := hid hr3
          obtain ⟨W7, hW7⟩ : ∃ W7, wr.alloc (.cells #[.int .i64 fr, .int .i64 to, .slice Ap d.length cp] 32) = W7 := ⟨_, rfl⟩
          obtain ⟨K7, KB7⟩ := lone_new hW7
          have HB7 := hid (below_on HBq.out KB7.out)
          have HOf := hid (fun A n c w => ntof_any fr to A n c w)
          have HNW : Hid (w.heap.size ≤ w6.heap.size) := hid H6.out.size
          have HSm := hid (fun W' (x1 : Sees .u8 W' Ap d) (x2 : Sees .u8 W' Ar d) => ntsame_any ⟨fr, to, d⟩ ⟨fr, to, d⟩ Ap Ar d.length d.length cp cr W' rfl rfl (by omega) (by omega) x1 x2)
          rw [sameB_self] at HSm
          obtain ⟨k7, hk7⟩ : ∃ k, wr.heap.size = k := ⟨_, rfl⟩
          have S0 : Hid (∀ W', Below W7.heap.size W7 W' → ((W'.cell? ⟨k7, 0, none⟩ = some (.int .i64 fr) ∧ W'.cell? ⟨k7, 1, none⟩ = some (.int .i64 to) ∧ W'.cell? ⟨k7, 2, none⟩ = some (.slice Ap d.length cp)) ∧ (W'.cell? ⟨bR, q * 3, none⟩ = some (.int .i64 fr) ∧ W'.cell? ⟨bR, q * 3 + 1, none⟩ = some (.int .i64 to) ∧ W'.cell? ⟨bR, q * 3 + 2, none⟩ = some (.slice Ar d.length cr))) ∧ Sees .u8 W' Ap d ∧ Sees .u8 W' Ar d) := hid (fun W' b =>
            ⟨⟨lcells3N (by rw [← hk7]; exact K7.out.below b K7.out.lt), rowN_cells (H6.out.on (below_on HB7.out b)).ref.row HR.out⟩, Sees.of_own (own_since HSp.out (below_on KB7.out b)), (HSq.out.below ((below_on KB7.out b).mono (Nat.le_trans HNW.out HBq.out.size))).sees (Nat.le_trans HNW.out (below_on HB7.out b).size)⟩)
          have qi2 : IntKind.i64.wrap ((q : Int) + 1) = ((q + 1 : Nat) : Int) := by rw [IntWalk.i64_in _ (by omega)]; omega
          have D0 := hid (below_drew (Below.refl W7.heap.size W7))
          clear hr hrm hr2 hr3 hp hrow hdat hsm
          go_upto_region 25 with fail
          clear hW7 y0 y1 y2
          go_region_held3 (fun W' => (W'.cell? ⟨k7, 0, none⟩ = some (.int .i64 fr) ∧ W'.cell? ⟨k7, 1, none⟩ = some (.int .i64 to) ∧ W'.cell? ⟨k7, 2, none⟩ = some (.slice Ap d.length cp)) ∧ (W'.cell? ⟨bR, q * 3, none⟩ = some (.int .i64 fr) ∧ W'.cell? ⟨bR, q * 3 + 1, none⟩ = some (.int .i64 to) ∧ W'.cell? ⟨bR, q * 3 + 2, none⟩ = some (.slice Ar d.length cr)))
            (with_reducible exact (S0.out _ D0.out).1)
            (first
              | (go_at_call 11; (with_reducible refine (HOf.out _ _ _ _).mono ?_); rintro e w8 ⟨rfl, b8⟩; have D0 := hid (below_on D0.out b8); clear b8)
              | (go_at_call 10; (with_reducible refine (HSm.out _ (S0.out _ D0.out).2.1 (S0.out _ D0.out).2.2).mono ?_); rintro e w8 ⟨rfl, b8⟩; have D0 := hid (below_on D0.out b8); clear b8))
          all_goals (
            rename_i hHeld
            clear hHeld
            have HB8 := hid (below_on HB7.out D0.out)
            obtain ⟨m0, m1, m2⟩ := (S0.out _ D0.out).1.1
            rcases HAt.out with ⟨kk, hk1, hk2, rfl, rfl⟩ | ⟨rfl, rfl, hno⟩
            · go_wp2
              go_roundw
              case rel => exact ⟨q + 1, by omega, by push_cast; rfl, hid (.inl ⟨kk, hk1, by omega, rfl, rfl⟩), HB8⟩
              case measure => simp only [intOf]; omega
            · obtain ⟨xf, rfl⟩ : ∃ xf : Nat, fr = xf := ⟨fr.toNat, by have := HKn.out.1; unfold knownB at this; simp at this; omega⟩
              obtain ⟨xt, rfl⟩ : ∃ xt : Nat, to = xt := ⟨to.toNat, by have := HKn.out.2; unfold knownB at this; simp at this; omega⟩
              have hxf : xf < 7 := by have := HKn.out.1; unfold knownB at this; simp at this; omega
              have hxt : xt < 7 := by have := HKn.out.2; unfold knownB at this; simp at this; omega
              have qf : IntKind.u64.wrap (xf : Int) = (xf : Int) := IntWalk.u64_in _ (by omega)
              have qt : IntKind.u64.wrap (xt : Int) = (xt : Int) := IntWalk.u64_in _ (by omega)
              have zf := and_bitN Hs.out hxf
              have zt := and_bitN Hs.out hxt
              have HAm : Hid (amongN s ⟨xf, xt, d⟩ = (hasB s (xf : Int) && hasB s (xt : Int))) := hid rfl
              have HNx := hid (fun hno2 => AtN.more hno rfl HRf.out (f := ⟨xf, xt, d⟩) hno2)
              have HFd := hid (fun ha => firstL_at (s := s) HRf.out (f := ⟨xf, xt, d⟩) ha (fun k g hk hg => hno k g hk hg))
              obtain ⟨b1, hb1⟩ : ∃ b, hasB s (xf : Int) = b := ⟨_, rfl⟩
              obtain ⟨b2, hb2⟩ : ∃ b, hasB s (xt : Int) = b := ⟨_, rfl⟩
              rw [hb1] at zf HAm
              rw [hb2] at zt HAm
              clear hk7 S0 hno hb1 hb2 HAt
              cases b1
              · have HA1 := hid (HNx.out (by rw [HAm.out]; rfl))
                have zf0 : bits BinOp.and IntKind.u8 ((s : Int) / 2 ^ xf) 1 = 0 := by rw [zf]; simp
                clear zf zt HNx HFd HAm
                go_wp2
                go_roundw
                case rel => exact ⟨q + 1, by omega, by push_cast; rfl, HA1, HB8⟩
                case measure => simp only [intOf]; omega
              · have zf1 : bits BinOp.and IntKind.u8 ((s : Int) / 2 ^ xf) 1 = 1 := by rw [zf]; simp
                cases b2
                · have HA1 := hid (HNx.out (by rw [HAm.out]; rfl))
                  have zt0 : bits BinOp.and IntKind.u8 ((s : Int) / 2 ^ xt) 1 = 0 := by rw [zt]; simp
                  clear zf zt HNx HFd HAm
                  go_wp2
                  go_roundw
                  case rel => exact ⟨q + 1, by omega, by push_cast; rfl, HA1, HB8⟩
                  case measure => simp only [intOf]; omega
                · have HA1 := hid (HFd.out (by rw [HAm.out]; rfl))
                  have zt1 : bits BinOp.and IntKind.u8 ((s : Int) / 2 ^ xt) 1 = 1 := by rw [zt]; simp
                  clear zf zt HNx HFd HAm
                  go_wp2
                  go_roundw
                  case rel => exact ⟨q + 1, by omega, by push_cast; rfl, hid (.inl ⟨q, HA1.out, by omega, rfl, rfl⟩), HB8⟩
                  case measure => simp only [intOf]; omega)
        · have hjq : q = m5 := by omega
          subst hjq
          have HF := hid (HFi.out wr HBq.out)
          have HB9 := hid (H6.out.on HBq.out)
          have HBe9 := hid (below_on B6.out HBq.out)
          rcases HAt.out with ⟨kk, hk1, hk2, rfl, rfl⟩ | ⟨rfl, rfl, hno⟩
          · rw [hk1] at HF
            unfold firstV at HF
            clear HAt hk1
            go_wp2_with (go_at_call 12; (with_reducible refine HF.out.mono ?_); rintro e w9 ⟨rfl, b9⟩; have HX := hid b9; clear b9)
            go_roundw
            case rel => exact ⟨j + 1, v5, lp5, lr5, by omega, by push_cast; rfl, hid (HB9.out.on HX.out), hid (below_on HBe9.out HX.out)⟩
            case measure => simp only [intOf]; omega
          · rw [firstL_none (fun k g hg => hno k g (by have h1 := (List.getElem?_eq_some_iff.1 hg).1; rw [List.length_map, HM5.out] at h1; exact h1) hg)] at HF
            unfold firstV at HF
            clear HAt hno
            go_wp2_with (go_at_call 12; (with_reducible refine HF.out.mono ?_); rintro e w9 ⟨rfl, b9⟩; have HX := hid b9; clear b9)
            go_roundw
            case rel => exact ⟨j + 1, v5, lp5, lr5, by omega, by push_cast; rfl, hid (HB9.out.on HX.out), hid (below_on HBe9.out HX.out)⟩
            case measure => simp only [intOf]; omega
    · have hjn : j = n := by omega
      subst hjn
      go_wp2
      go_ret
      exact ⟨rfl, HBe.out⟩
end Go.Proofs.Ytljnboimadhkoaa
