/-
  LockBytes: its walk.
-/
import Derived.Test.YtgjbhlianlbflaaGreatBLkBytesA
namespace Go.Proofs.YtgjbhlianlbflaaGreat
open Go.ChangeShapes Go.WideShapes Go.ChangeAt Go.RowKit Go.Maps Go.WideMaps
set_option linter.unusedVariables false
set_option linter.unusedSimpArgs false
set_option maxRecDepth 100000 in
set_option maxHeartbeats 8000000 in
theorem lkbytes_law (first : Int) (A : Option Addr) (l : List OpK) (ca : Nat) (A2 : Option Addr) (m : List OpK) (ca2 : Nat) (w : World) (hf : IsUk first) (h : SeesOp w A l) (hm : ∀ o ∈ l, MadeK o) (hl : l.length ≤ 9223372036854775807)
    (h2 : SeesOp w A2 m) (hm2 : ∀ o ∈ m, MadeK o) (hl2 : m.length ≤ 9223372036854775807) (hz : ∀ o ∈ l, o.foot.size ≤ 1048576) (hz2 : ∀ o ∈ m, o.foot.size ≤ 1048576) :
    Calls Tryz.prog 4 #[.int .u64 first, .slice A l.length ca, .slice A2 m.length ca2] w (Asks (.bool true) w) := by
  have HA := hid (fun w => lkanchor_any w)
  have HF := hid (fun w' (k : Below w.heap.size w w') => lkfits_any A l ca 30 w' (h.below k) hl)
  have HF2 := hid (fun w' (k : Below w.heap.size w w') => lkfits_any A2 m ca2 30 w' (h2.below k) hl2)
  have HN := hid (fun w => lknew_any first w hf)
  have HS := hid h
  have HM := hid hm
  have HS2 := hid h2
  have HM2 := hid hm2
  have HFi := hid hf
  have HZ := hid hz
  have HZ2 := hid hz2
  obtain ⟨ft, hft⟩ : ∃ x, fitsK l 30 = x := ⟨_, rfl⟩
  obtain ⟨ft2, hft2⟩ : ∃ x, fitsK m 30 = x := ⟨_, rfl⟩
  have HFt := hid hft
  have HFt2 := hid hft2
  rw [hft] at HF
  rw [hft2] at HF2
  obtain ⟨ln, hln⟩ : ∃ x, l.length = x := ⟨_, rfl⟩
  obtain ⟨mn, hmn⟩ : ∃ x, m.length = x := ⟨_, rfl⟩
  have HLN := hid hln
  have HMN := hid hmn
  rw [hln] at HF hl ⊢
  rw [hmn] at HF2 hl2 ⊢
  clear h hm hf hft hln h2 hm2 hft2 hmn hz hz2
  go_enter Tryz.func4, Tryz.ntmps4
  cases ft with
  | false =>
    go_wp2_with (first
      | (go_at_call 6; (with_reducible refine (HA.out _).mono ?_); rintro e w1 ⟨rfl, b1⟩; have B1 := hid b1; clear b1)
      | (go_at_call 7; (with_reducible refine (HF.out _ B1.out).mono ?_); rintro e w2 ⟨rfl, b2⟩; have B2 := hid (below_on B1.out b2); clear b2))
    go_ret
    exact ⟨rfl, B2.out⟩
  | true =>
    cases ft2 with
    | false =>
      go_wp2_with (first
        | (go_at_call 6; (with_reducible refine (HA.out _).mono ?_); rintro e w1 ⟨rfl, b1⟩; have B1 := hid b1; clear b1)
        | (go_at_call 7; (with_reducible refine (HF.out _ B1.out).mono ?_); rintro e w2 ⟨rfl, b2⟩; have B2 := hid (below_on B1.out b2); clear b2)
        | (go_at_call 7; (with_reducible refine (HF2.out _ B2.out).mono ?_); rintro e w3 ⟨rfl, b3⟩; have B3 := hid (below_on B2.out b3); clear b3))
      go_ret
      exact ⟨rfl, B3.out⟩
    | true =>
      obtain ⟨HPa, hl30⟩ : Hid (∀ o ∈ l, o.path.size ≤ 100) ∧ ln ≤ 30 := by
        obtain ⟨x1, x2⟩ := fits_iff HFt.out
        exact ⟨hid x1, by rw [HLN.out] at x2; omega⟩
      obtain ⟨HPa2, hm30⟩ : Hid (∀ o ∈ m, o.path.size ≤ 100) ∧ mn ≤ 30 := by
        obtain ⟨x1, x2⟩ := fits_iff HFt2.out
        exact ⟨hid x1, by rw [HMN.out] at x2; omega⟩
      go_upto_region 6 with (first
        | (go_at_call 6; (with_reducible refine (HA.out _).mono ?_); rintro e w1 ⟨rfl, b1⟩; have B1 := hid b1; clear b1)
        | (go_at_call 7; (with_reducible refine (HF.out _ B1.out).mono ?_); rintro e w2 ⟨rfl, b2⟩; have B2 := hid (below_on B1.out b2); clear b2)
        | (go_at_call 7; (with_reducible refine (HF2.out _ B2.out).mono ?_); rintro e w3 ⟨rfl, b3⟩; have B3 := hid (below_on B2.out b3); clear b3)
        | (go_at_call 8; (with_reducible refine (HN.out w3).mono ?_); rintro e w4 ⟨rfl, b4, k4⟩; have B4 := hid (below_on B3.out b4); have K4 := hid (And.intro k4 (And.intro B3.out.size b4.size)); clear b4 k4)
        | (go_at_call 8; (with_reducible refine (HN.out w4).mono ?_); rintro e w5 ⟨rfl, b5, k5⟩; have B5 := hid (below_on B4.out b5); have K5 := hid (And.intro k5 b5); clear b5 k5))
      go_upto_region 7 with fail
      obtain ⟨w6, hw6⟩ : ∃ z, (w5.alloc (.cells #[.int .u64 first, .slice none 0 0, .slice none 0 0] 31)).alloc (.cells #[.int .u64 first, .slice none 0 0, .slice none 0 0] 31) = z := ⟨_, rfl⟩
      obtain ⟨G1, G2, KB⟩ := ltwo_new hw6
      rw [hw6]
      clear hw6
      have T0 : Hid (TwoP w w6 w3.heap.size w4.heap.size w5.heap.size first [] [] none 0 0 none 0 0 [] [] none 0 0 none 0 0 0 0 ∧ w3.heap.size + 3 ≤ w4.heap.size ∧ w4.heap.size + 3 ≤ w5.heap.size ∧ w.heap.size ≤ w3.heap.size) := hid (by
        have l4 := K4.out.1.lt
        have l5 := K5.out.1.lt
        have b1 : BkK w4 w.heap.size (w3.heap.size + 2) w3.heap.size (w3.heap.size + 1) 0 first [] [] := by
          have := K4.out.1
          exact ⟨this.blk, this.es, this.ct, this.good, this.many, this.ne, by have := K4.out.2.1; omega⟩
        have b2 : BkK w5 w.heap.size (w4.heap.size + 2) w4.heap.size (w4.heap.size + 1) 0 first [] [] := by
          have := K5.out.1
          exact ⟨this.blk, this.es, this.ct, this.good, this.many, this.ne, by have := K4.out.2; omega⟩
        have gd : GoodD 0 first [] [] := ⟨GoodK.nil HFi.out, Nat.le_refl _, fun e he => (by cases he), Nat.le_refl _⟩
        have bw := below_on B5.out KB.out
        have h3 := K4.out.2.1
        refine ⟨⟨⟨(b1.on K5.out.2).on KB.out, gd, DocK.nil _ _, G1.out, bw, by omega⟩, ⟨b2.on KB.out, gd, DocK.nil _ _, G2.out, bw, by omega⟩, fun e he => (by cases he), fun e he => (by cases he)⟩, by omega, by omega, h3⟩)
      obtain ⟨q, hq⟩ : ∃ x, w3.heap.size = x := ⟨_, rfl⟩
      obtain ⟨r, hr⟩ : ∃ x, w4.heap.size = x := ⟨_, rfl⟩
      obtain ⟨g, hg⟩ : ∃ x, w5.heap.size = x := ⟨_, rfl⟩
      rw [hq, hr, hg] at T0
      rw [hq, hr, hg]
      obtain ⟨hqr, hrg, hwq⟩ := T0.out.2
      have T1 := hid T0.out.1
      clear hq hr hg K4 K5 G1 G2 KB T0
      go_wp2_with fail
      go_loopw [46] (fun iv wr => ∃ (j : Nat) (ks : List EnL) (cs : CnL) (X : Option Addr) (n1 c1 : Nat) (Y : Option Addr) (n2 c2 : Nat), iv = .int .i64 (j : Int) ∧ j ≤ ln ∧ Hid (TwoP w wr q r g first ks cs X n1 c1 Y n2 c2 [] [] none 0 0 none 0 0 j 0)) (fun iv _ => ln - (intOf iv).toNat)
      case atStart => exact ⟨0, [], [], none, 0, 0, none, 0, 0, rfl, by omega, T1⟩
      case round =>
        obtain ⟨j, ks, cs, X, n1, c1, Y, n2, c2, rfl, hj, HP⟩ := hrel
        by_cases hlt : j < ln
        · have hlt' : (j : Int) < (ln : Int) := by omega
          obtain ⟨e, he⟩ : ∃ e, l[j]? = some e := ⟨_, List.getElem?_eq_getElem (by rw [HLN.out]; exact hlt)⟩
          have HE := hid he
          have HMe := hid (HM.out e (List.mem_of_getElem? he))
          have HPe := hid (HPa.out e (List.mem_of_getElem? he))
          have HZe := hid (HZ.out e (List.mem_of_getElem? he))
          obtain ⟨ob, oo, hA, hob, y0, y1, y2, y3, y4⟩ := (HS.out.below HP.out.one.bel).at_ he
          subst hA
          clear he hob
          have qi : IntKind.i64.wrap ((j : Int) + 1) = ((j + 1 : Nat) : Int) := by rw [IntWalk.i64_in _ (by omega)]; omega
          have HSt := hid (fun w' (k : PlayAt w w' (q + 2) q (q + 1) j g first ks cs X n1 c1 Y n2 c2) => lkstep_same w.heap.size (q + 2) q (q + 1) j first ks cs (.agg #[.int .u64 first, .slice X n1 c1, .slice Y n2 c2]) first ks cs j e w' k.book (by omega) k.doc k.good (by omega) HMe.out HPe.out ⟨rfl, rfl, rfl⟩)
          go_upto_region 10 with fail
          obtain ⟨w7, hw7⟩ : ∃ z, wr.alloc (.cells #[.int .i64 e.kd, .int .i64 e.mo, .string e.path, .int .u64 e.u, .string e.foot] 35) = z := ⟨_, rfl⟩
          obtain ⟨E5, K5⟩ := lone_new hw7
          have P5 := hid (HP.out.on K5.out)
          obtain ⟨og, hog⟩ : ∃ x, wr.heap.size = x := ⟨_, rfl⟩
          rw [hog] at E5 ⊢
          rw [hw7]
          clear hw7 hog K5 y0 y1 y2 y3 y4
          obtain ⟨b0, b1, b2⟩ := P5.out.one.c0
          have y0 := (E5.out.cell 0).trans rfl
          have y1 := (E5.out.cell 1).trans rfl
          have y2 := (E5.out.cell 2).trans rfl
          have y3 := (E5.out.cell 3).trans rfl
          have y4 := (E5.out.cell 4).trans rfl
          go_wp2_with (first
            | (go_at_call 9; (with_reducible refine (HSt.out _ P5.out.one).mono ?_); rintro rr w8 ⟨v6, t6, rfl, k6, d6, u6, _⟩; obtain ⟨Ba, a1, a2, Bb, a3, a4, rfl⟩ := d6.form; have hbx := P5.out.one.box.turns u6 (fun e => by have := P5.out.one.ne; rcases e with e | e <;> omega); have P7 := hid (And.intro (P5.out.one.step HMe.out k6 d6 u6) (P5.out.two.beside u6 P5.out.one.book.bare hbx (by omega) (by omega) (.int .u64 first) (.slice Ba a1 a2) (.slice Bb a3 a4))); clear k6 d6 u6 b0 b1 b2 y0 y1 y2 y3 y4; obtain ⟨b0, b1, b2⟩ := lcells3K hbx; have z0 := hbx.frozen 0; have z1 := hbx.frozen 1; have z2 := hbx.frozen 2))
          unfold put3K at P7
          go_roundw
          case rel => exact ⟨j + 1, _, _, _, _, _, _, _, _, by push_cast; rfl, by omega, hid ⟨P7.out.1, P7.out.2, feet_step P5.out.f1 HZe.out, P5.out.f2⟩⟩
          case measure => simp only [intOf]; omega
        · have hlt' : ¬ (j : Int) < (ln : Int) := by omega
          obtain rfl : ln = j := by omega
          go_wp2_with fail
          go_loopw [60] (fun iv wr => ∃ (j : Nat) (kt : List EnL) (ct : CnL) (X' : Option Addr) (m1 d1 : Nat) (Y' : Option Addr) (m2 d2 : Nat), iv = .int .i64 (j : Int) ∧ j ≤ mn ∧ Hid (TwoP w wr q r g first ks cs X n1 c1 Y n2 c2 kt ct X' m1 d1 Y' m2 d2 ln j)) (fun iv _ => mn - (intOf iv).toNat)
          case atStart => exact ⟨0, [], [], none, 0, 0, none, 0, 0, rfl, by omega, HP⟩
          case round =>
            obtain ⟨j, kt, ct, X', m1, d1, Y', m2, d2, rfl, hj, HP⟩ := hrel
            by_cases hlt : j < mn
            · have hlt' : (j : Int) < (mn : Int) := by omega
              obtain ⟨e, he⟩ : ∃ e, m[j]? = some e := ⟨_, List.getElem?_eq_getElem (by rw [HMN.out]; exact hlt)⟩
              have HE := hid he
              have HMe := hid (HM2.out e (List.mem_of_getElem? he))
              have HPe := hid (HPa2.out e (List.mem_of_getElem? he))
              have HZe := hid (HZ2.out e (List.mem_of_getElem? he))
              obtain ⟨ob, oo, hA, hob, y0, y1, y2, y3, y4⟩ := (HS2.out.below HP.out.one.bel).at_ he
              subst hA
              clear he hob
              have qi : IntKind.i64.wrap ((j : Int) + 1) = ((j + 1 : Nat) : Int) := by rw [IntWalk.i64_in _ (by omega)]; omega
              have HSt := hid (fun w' (k : PlayAt w w' (r + 2) r (r + 1) j (g + 1) first kt ct X' m1 d1 Y' m2 d2) => lkstep_same w.heap.size (r + 2) r (r + 1) j first kt ct (.agg #[.int .u64 first, .slice X' m1 d1, .slice Y' m2 d2]) first kt ct j e w' k.book (by omega) k.doc k.good (by omega) HMe.out HPe.out ⟨rfl, rfl, rfl⟩)
              go_upto_region 15 with fail
              obtain ⟨w7, hw7⟩ : ∃ z, wr.alloc (.cells #[.int .i64 e.kd, .int .i64 e.mo, .string e.path, .int .u64 e.u, .string e.foot] 35) = z := ⟨_, rfl⟩
              obtain ⟨E5, K5⟩ := lone_new hw7
              have P5 := hid (HP.out.on K5.out)
              obtain ⟨og, hog⟩ : ∃ x, wr.heap.size = x := ⟨_, rfl⟩
              rw [hog] at E5 ⊢
              rw [hw7]
              clear hw7 hog K5 y0 y1 y2 y3 y4
              obtain ⟨b0, b1, b2⟩ := P5.out.two.c0
              have y0 := (E5.out.cell 0).trans rfl
              have y1 := (E5.out.cell 1).trans rfl
              have y2 := (E5.out.cell 2).trans rfl
              have y3 := (E5.out.cell 3).trans rfl
              have y4 := (E5.out.cell 4).trans rfl
              go_wp2_with (first
                | (go_at_call 9; (with_reducible refine (HSt.out _ P5.out.two).mono ?_); rintro rr w8 ⟨v6, t6, rfl, k6, d6, u6, _⟩; obtain ⟨Ba, a1, a2, Bb, a3, a4, rfl⟩ := d6.form; have hbx := P5.out.two.box.turns u6 (fun e => by have := P5.out.two.ne; rcases e with e | e <;> omega); have P7 := hid (And.intro (P5.out.two.step HMe.out k6 d6 u6) (P5.out.one.beside u6 P5.out.two.book.bare hbx (by omega) (by omega) (.int .u64 first) (.slice Ba a1 a2) (.slice Bb a3 a4))); clear k6 d6 u6 b0 b1 b2 y0 y1 y2 y3 y4; obtain ⟨b0, b1, b2⟩ := lcells3K hbx; have z0 := hbx.frozen 0; have z1 := hbx.frozen 1; have z2 := hbx.frozen 2))
              unfold put3K at P7
              go_roundw
              case rel => exact ⟨j + 1, _, _, _, _, _, _, _, _, by push_cast; rfl, by omega, hid ⟨P7.out.2, P7.out.1, P5.out.f1, feet_step P5.out.f2 HZe.out⟩⟩
              case measure => simp only [intOf]; omega
            · have hlt' : ¬ (j : Int) < (mn : Int) := by omega
              obtain rfl : mn = j := by omega
              go_upto_region 18 with fail
              obtain ⟨wS, rfl⟩ : ∃ z, z = wr := ⟨_, rfl⟩
              obtain ⟨w8, hw8⟩ : ∃ z, (wS.alloc (.cells #[.slice none 0 0] 58)).alloc (.cells #[.slice none 0 0] 58) = z := ⟨_, rfl⟩
              obtain ⟨G1, G2, KB⟩ := ltwo_new hw8
              rw [hw8]
              clear hw8
              have T8 := hid (HP.out.on KB.out)
              obtain ⟨x, hx⟩ : ∃ z, wS.heap.size = z := ⟨_, rfl⟩
              have HXs := hid hx
              have hlo := HP.out.one.book.lt
              have hlo2 := HP.out.two.book.lt
              rw [hx] at G1 G2 KB hlo hlo2
              rw [hx]
              have hx2 : x + 2 ≤ w8.heap.size := by have := G2.out.lt; omega
              have HLen1 := hid (sumE_most HP.out.one.good (by omega) HP.out.f1)
              have HLen2 := hid (sumE_most HP.out.two.good (by omega) HP.out.f2)
              have HPu := hid (fun (W : World) (ho : OutZ W w8.heap.size x []) (k : BkK W w.heap.size (q + 2) q (q + 1) ln first ks cs) => lkput_any w8.heap.size x [] w.heap.size (q + 2) q (q + 1) ln first ks cs W k (by omega) (by have := HP.out.one.good.2.2.2; omega) ho (by omega) (by omega) (by have := HLen1.out; rw [List.length_nil]; omega))
              clear hx
              go_upto_region 19 with (first
                | (go_at_call 23; (with_reducible refine (HPu.out _ (outZ_nil G1.out (Nat.le_refl _)) T8.out.one.book).mono ?_); rintro en w9 ⟨ds, ps, rfl, hrd, hpd, hrp, hpp, ho, hz, hs⟩; have D1 := hid (And.intro hrd (And.intro hpd (And.intro hrp hpp))); have O9 := hid ho; have Z9 := hid hz; clear hrd hpd hrp hpp ho hz hs))
              have B9 : Hid (Below x w8 w9) := hid (TurnsD.below Z9.out (by omega) (fun i hi e => by rcases e with e | e <;> omega))
              have T9 : Hid (TwoP w w9 q r g first ks cs X n1 c1 Y n2 c2 kt ct X' m1 d1 Y' m2 d2 ln mn) := hid (HP.out.on (by rw [HXs.out]; exact KB.out.trans B9.out))
              have G9 : Hid (Blk w9 (x + 1) 58 #[.slice none 0 0]) := hid (G2.out.turns Z9.out (fun e => by rcases e with e | e <;> omega))
              have hz9 : w8.heap.size ≤ w9.heap.size := Z9.out.size
              have HPu2 := hid (fun (W : World) (ho : OutZ W w9.heap.size (x + 1) []) (k : BkK W w.heap.size (r + 2) r (r + 1) mn first kt ct) => lkput_any w9.heap.size (x + 1) [] w.heap.size (r + 2) r (r + 1) mn first kt ct W k (by omega) (by have := HP.out.two.good.2.2.2; omega) ho (by omega) (by omega) (by have := HLen2.out; rw [List.length_nil]; omega))
              go_upto_region 20 with (first
                | (go_at_call 23; (with_reducible refine (HPu2.out _ (outZ_nil G9.out (Nat.le_refl _)) T9.out.two.book).mono ?_); rintro en w10 ⟨ds', ps', rfl, hrd, hpd, hrp, hpp, ho, hz, hs⟩; have D2 := hid (And.intro hrd (And.intro hpd (And.intro hrp hpp))); have P10 := hid ho; have Z10 := hid hz; clear hrd hpd hrp hpp ho hz hs))
              have O10 : Hid (OutZ w10 w8.heap.size x ([] ++ encB cs ds ps)) := hid (O9.out.turns Z10.out (fun e => by rcases e with e | e <;> omega) (fun i h1 h2 e => by rcases e with e | e <;> omega))
              have B10 : Hid (Below x w9 w10) := hid (TurnsD.below Z10.out (by omega) (fun i hi e => by rcases e with e | e <;> omega))
              have T10 : Hid (TwoP w w10 q r g first ks cs X n1 c1 Y n2 c2 kt ct X' m1 d1 Y' m2 d2 ln mn) := hid (HP.out.on (by rw [HXs.out]; exact (KB.out.trans B9.out).trans B10.out))
              rw [List.nil_append] at O10 P10
              have HAl := hid (bytes_alike T10.out.one.good.1 T10.out.two.good.1 (fun e he => by have := T10.out.one.good.2.2.1 e he; omega) (fun e he => by have := T10.out.two.good.2.2.1 e he; omega) (by have h1 := T10.out.one.good.2; have h2 := T10.out.two.good.2; omega) D1.out.1 D2.out.1 D1.out.2.2.1 D2.out.2.2.1 D1.out.2.1 D2.out.2.1 D1.out.2.2.2 D2.out.2.2.2)
              obtain ⟨hn1, hn2⟩ : ks.length = n1 ∧ cs.length = n2 := ⟨T10.out.one.doc.seB.1.2, T10.out.one.doc.seB.2.2⟩
              obtain ⟨hm1, hm2⟩ : kt.length = m1 ∧ ct.length = m2 := ⟨T10.out.two.doc.seB.1.2, T10.out.two.doc.seB.2.2⟩
              have HN1 := hid hn1
              have HN2 := hid hn2
              have hb1 : n1 ≤ 30 := by have := T10.out.one.good.2.1; omega
              have hb2 : n2 ≤ 30 := by have := T10.out.one.good.2.2.2; omega
              have hb3 : m2 ≤ 30 := by have := T10.out.two.good.2.2.2; omega
              have HM2' := hid hm2
              have hb4 : m1 ≤ 30 := by have := T10.out.two.good.2.1; omega
              have HM1' := hid hm1
              obtain ⟨a0, ha0⟩ : ∃ z, (decide (n1 = m1) && decide (n2 = m2)) = z := ⟨_, rfl⟩
              have HA0 : Hid (alikeB ks kt cs ct = ((a0 && ks.all (sameE kt)) && cs.all (sameC ct))) := hid (by unfold alikeB; rw [hn1, hn2, hm1, hm2, ha0])
              have HE1 := hid (encB_most T10.out.one.good (by omega) T10.out.f1 D1.out.2.1 D1.out.2.2.2)
              have HE2 := hid (encB_most T10.out.two.good (by omega) T10.out.f2 D2.out.2.1 D2.out.2.2.2)
              clear hn1 hn2 hm1 hm2 HPu HPu2 T8 T9 HP O9 Z9 Z10 G1 G2 G9 B9 B10 KB D1 D2
              obtain ⟨b0, b1, b2⟩ := T10.out.one.c0
              obtain ⟨b3, b4, b5⟩ := T10.out.two.c0
              go_cut [17] (fun v wc => v = .bool a0 ∧ wc = w10)
              case first =>
                by_cases h1 : n1 = m1
                · by_cases h2 : n2 = m2
                  · have h3 : ((n1 : Int) == (m1 : Int)) = true := by simp; omega
                    have h4 : ((n2 : Int) == (m2 : Int)) = true := by simp; omega
                    have h5 : a0 = true := by rw [← ha0]; simp [h1, h2]
                    subst h5
                    go_wp2
                    go_meet
                    exact ⟨rfl, rfl⟩
                  · have h3 : ((n1 : Int) == (m1 : Int)) = true := by simp; omega
                    have h4 : ((n2 : Int) == (m2 : Int)) = false := by simp; omega
                    have h5 : a0 = false := by rw [← ha0]; simp [h2]
                    subst h5
                    go_wp2
                    go_meet
                    exact ⟨rfl, rfl⟩
                · have h3 : ((n1 : Int) == (m1 : Int)) = false := by simp; omega
                  have h5 : a0 = false := by rw [← ha0]; simp [h1]
                  subst h5
                  go_wp2
                  go_meet
                  exact ⟨rfl, rfl⟩
              case rest =>
                obtain ⟨rfl, hwc⟩ := hcut
                subst hwc
                clear ha0 b3 b4 b5
                go_wp2_with fail
                clear b0 b1 b2
                go_loopw [17, 101] (fun av iv wr => ∃ i : Nat, av = .bool (a0 && (ks.take i).all (sameE kt)) ∧ iv = .int .i64 (i : Int) ∧ i ≤ n1 ∧ Hid (Below wc.heap.size wc wr)) (fun _ iv _ => n1 - (intOf iv).toNat)
                case atStart => exact ⟨0, by simp, rfl, by omega, hid (Below.refl _ _)⟩
                case round =>
                  obtain ⟨i, rfl, rfl, hi, HB⟩ := hrel
                  obtain ⟨cu, hcu⟩ : ∃ z, (a0 && (ks.take i).all (sameE kt)) = z := ⟨_, rfl⟩
                  rw [hcu]
                  have HCu0 := hid hcu
                  clear hcu
                  by_cases hlt : i < n1
                  · have hlt' : (i : Int) < (n1 : Int) := by omega
                    obtain ⟨e, he⟩ : ∃ e, ks[i]? = some e := ⟨_, List.getElem?_eq_getElem (by rw [HN1.out]; exact hlt)⟩
                    have HSn := hid (all_snocB (sameE kt) he)
                    have HCu : Hid ((a0 && ((ks.take i).all (sameE kt) && sameE kt e)) = (cu && sameE kt e)) := hid (by rw [← Bool.and_assoc, HCu0.out])
                    obtain ⟨xb, xo, hX, hxb, y0, y1, y2, y3, y4, y5⟩ := ((T10.out.on HB.out).one.doc.seB.1.1).atP he
                    subst hX
                    have qi : IntKind.i64.wrap ((i : Int) + 1) = ((i + 1 : Nat) : Int) := by rw [IntWalk.i64_in _ (by omega)]; omega
                    have HFd := hid (fun w' (k : PlayAt w w' (r + 2) r (r + 1) mn (g + 1) first kt ct X' m1 d1 Y' m2 d2) => dlfind_any (.agg #[.int .u64 first, .slice X' m1 d1, .slice Y' m2 d2]) first kt ct e.path e.num e.foot w' k.doc (by have := k.good.2.1; omega))
                    obtain ⟨ix, hix⟩ : ∃ z, idxE kt e.path e.num e.foot = z := ⟨_, rfl⟩
                    have HIx := hid hix
                    rw [hix] at HFd
                    clear he hxb hix
                    go_upto_region 24 with fail
                    obtain ⟨w11, hw11⟩ : ∃ z, wr.alloc (.cells #[.string e.path, .int .u64 e.num, .string e.foot, .int .i64 e.mode, .int .u64 e.n, .int .i64 e.stamp] 47) = z := ⟨_, rfl⟩
                    obtain ⟨E11, K11⟩ := lone_new hw11
                    have B11 := hid (below_on HB.out K11.out)
                    have T11 := hid (T10.out.on B11.out)
                    obtain ⟨eg, heg⟩ : ∃ z, wr.heap.size = z := ⟨_, rfl⟩
                    rw [heg] at E11 ⊢
                    rw [hw11]
                    clear hw11 heg K11 y0 y1 y2 y3 y4 y5
                    obtain ⟨y0, y1, y2, y3, y4, y5⟩ := lcells6 E11.out
                    obtain ⟨b0, b1, b2⟩ := T11.out.two.c0
                    go_upto_region 25 with (first
                      | (go_at_call 17; (with_reducible refine (HFd.out _ T11.out.two).mono ?_); rintro en w12 ⟨rfl, bx⟩; have B12 := hid (below_on B11.out bx); have E12 := hid (E11.out.below bx E11.out.lt); clear bx y0 y1 y2 y3 y4 y5 b0 b1 b2))
                    have T12 := hid (T10.out.on (below_drew B12.out))
                    have B13 := hid (below_drew B12.out)
                    clear HFd T11 E11 B11
                    cases cu with
                    | false =>
                      refine wp_region_held_drew (S := fun W => (W.cell? ⟨eg, 0, none⟩ = some (.string e.path) ∧ W.cell? ⟨eg, 1, none⟩ = some (.int .u64 e.num) ∧ W.cell? ⟨eg, 2, none⟩ = some (.string e.foot) ∧ W.cell? ⟨eg, 3, none⟩ = some (.int .i64 e.mode) ∧ W.cell? ⟨eg, 4, none⟩ = some (.int .u64 e.n) ∧ W.cell? ⟨eg, 5, none⟩ = some (.int .i64 e.stamp)) ∧ W.cell? ⟨g + 1, 1, none⟩ = some (.slice X' m1 d1)) (by kernel_rfl) (by exact ⟨lcells6 E12.out.drew, T12.out.two.c0.2.1⟩) (fun hHeld => ?_)
                      refine tl 0 ?_ rfl ?_ hHeld ?_
                      rotate_left 1
                      focus (intro w' hSw; go_simp; try with_reducible rfl)
                      try simp only [Act.put, List.getElem_toArray, List.getElem_cons_zero, List.getElem_cons_succ, List.setIfInBounds_toArray, List.set_cons_zero, List.set_cons_succ]
                      refine tl 1 ?_ rfl ?_ hHeld ?_
                      rotate_left 1
                      focus (intro w' hSw; go_simp; try with_reducible rfl)
                      try simp only [Act.put, List.getElem_toArray, List.getElem_cons_zero, List.getElem_cons_succ, List.setIfInBounds_toArray, List.set_cons_zero, List.set_cons_succ]
                      refine tlu 2 rfl hHeld ?_
                      try simp only [Act.put, List.getElem_toArray, List.getElem_cons_zero, List.getElem_cons_succ, List.setIfInBounds_toArray, List.set_cons_zero, List.set_cons_succ]
                      refine tlu 3 rfl hHeld ?_
                      try simp only [Act.put, List.getElem_toArray, List.getElem_cons_zero, List.getElem_cons_succ, List.setIfInBounds_toArray, List.set_cons_zero, List.set_cons_succ]
                      refine tl 4 ?_ rfl ?_ hHeld ?_
                      rotate_left 1
                      focus (intro w' hSw; go_simp; try with_reducible rfl)
                      try simp only [Act.put, List.getElem_toArray, List.getElem_cons_zero, List.getElem_cons_succ, List.setIfInBounds_toArray, List.set_cons_zero, List.set_cons_succ]
                      refine tl 5 ?_ rfl ?_ hHeld ?_
                      rotate_left 1
                      focus (intro w' hSw; go_simp; try with_reducible rfl)
                      try simp only [Act.put, List.getElem_toArray, List.getElem_cons_zero, List.getElem_cons_succ, List.setIfInBounds_toArray, List.set_cons_zero, List.set_cons_succ]
                      refine tlu 6 rfl hHeld ?_
                      try simp only [Act.put, List.getElem_toArray, List.getElem_cons_zero, List.getElem_cons_succ, List.setIfInBounds_toArray, List.set_cons_zero, List.set_cons_succ]
                      refine tlu 7 rfl hHeld ?_
                      try simp only [Act.put, List.getElem_toArray, List.getElem_cons_zero, List.getElem_cons_succ, List.setIfInBounds_toArray, List.set_cons_zero, List.set_cons_succ]
                      refine tlu 8 rfl hHeld ?_
                      try simp only [Act.put, List.getElem_toArray, List.getElem_cons_zero, List.getElem_cons_succ, List.setIfInBounds_toArray, List.set_cons_zero, List.set_cons_succ]
                      refine tlu 9 rfl hHeld ?_
                      try simp only [Act.put, List.getElem_toArray, List.getElem_cons_zero, List.getElem_cons_succ, List.setIfInBounds_toArray, List.set_cons_zero, List.set_cons_succ]
                      refine tlu 10 rfl hHeld ?_
                      try simp only [Act.put, List.getElem_toArray, List.getElem_cons_zero, List.getElem_cons_succ, List.setIfInBounds_toArray, List.set_cons_zero, List.set_cons_succ]
                      refine tlu 11 rfl hHeld ?_
                      try simp only [Act.put, List.getElem_toArray, List.getElem_cons_zero, List.getElem_cons_succ, List.setIfInBounds_toArray, List.set_cons_zero, List.set_cons_succ]
                      refine tlu 12 rfl hHeld ?_
                      try simp only [Act.put, List.getElem_toArray, List.getElem_cons_zero, List.getElem_cons_succ, List.setIfInBounds_toArray, List.set_cons_zero, List.set_cons_succ]
                      refine tlu 13 rfl hHeld ?_
                      try simp only [Act.put, List.getElem_toArray, List.getElem_cons_zero, List.getElem_cons_succ, List.setIfInBounds_toArray, List.set_cons_zero, List.set_cons_succ]
                      refine tl 14 ?_ rfl ?_ hHeld ?_
                      rotate_left 1
                      focus (intro w' hSw; go_simp; try with_reducible rfl)
                      try simp only [Act.put, List.getElem_toArray, List.getElem_cons_zero, List.getElem_cons_succ, List.setIfInBounds_toArray, List.set_cons_zero, List.set_cons_succ]
                      refine tl 15 ?_ rfl ?_ hHeld ?_
                      rotate_left 1
                      focus (intro w' hSw; go_simp; try with_reducible rfl)
                      try simp only [Act.put, List.getElem_toArray, List.getElem_cons_zero, List.getElem_cons_succ, List.setIfInBounds_toArray, List.set_cons_zero, List.set_cons_succ]
                      refine wpAnyH_done (by kernel_rfl) ?_ _
                      clear hHeld
                      go_wp2
                      go_roundw
                      case rel => exact ⟨i + 1, by rw [HSn.out, HCu.out]; rfl, by push_cast; rfl, by omega, B13⟩
                      case measure => simp only [intOf]; omega
                    | true =>
                      cases hfe : findE kt e.path e.num e.foot with
                      | none =>
                        have HSe := hid (sameE_no hfe)
                        have hneg : ix < 0 := by rw [← HIx.out]; unfold idxE; rw [hfe]; simp
                        have hneg2 : ¬ 0 ≤ ix := by omega
                        clear hfe
                        refine wp_region_held_drew (S := fun W => (W.cell? ⟨eg, 0, none⟩ = some (.string e.path) ∧ W.cell? ⟨eg, 1, none⟩ = some (.int .u64 e.num) ∧ W.cell? ⟨eg, 2, none⟩ = some (.string e.foot) ∧ W.cell? ⟨eg, 3, none⟩ = some (.int .i64 e.mode) ∧ W.cell? ⟨eg, 4, none⟩ = some (.int .u64 e.n) ∧ W.cell? ⟨eg, 5, none⟩ = some (.int .i64 e.stamp)) ∧ W.cell? ⟨g + 1, 1, none⟩ = some (.slice X' m1 d1)) (by kernel_rfl) (by exact ⟨lcells6 E12.out.drew, T12.out.two.c0.2.1⟩) (fun hHeld => ?_)
                        refine tl 0 ?_ rfl ?_ hHeld ?_
                        rotate_left 1
                        focus (intro w' hSw; go_simp; try with_reducible rfl)
                        try simp only [Act.put, List.getElem_toArray, List.getElem_cons_zero, List.getElem_cons_succ, List.setIfInBounds_toArray, List.set_cons_zero, List.set_cons_succ]
                        refine tl 1 ?_ rfl ?_ hHeld ?_
                        rotate_left 1
                        focus (intro w' hSw; go_simp; try with_reducible rfl)
                        try simp only [Act.put, List.getElem_toArray, List.getElem_cons_zero, List.getElem_cons_succ, List.setIfInBounds_toArray, List.set_cons_zero, List.set_cons_succ]
                        refine tl 2 ?_ rfl ?_ hHeld ?_
                        rotate_left 1
                        focus (intro w' hSw; go_simp; try with_reducible rfl)
                        try simp only [Act.put, List.getElem_toArray, List.getElem_cons_zero, List.getElem_cons_succ, List.setIfInBounds_toArray, List.set_cons_zero, List.set_cons_succ]
                        refine tl 3 ?_ rfl ?_ hHeld ?_
                        rotate_left 1
                        focus (intro w' hSw; go_simp; try with_reducible rfl)
                        try simp only [Act.put, List.getElem_toArray, List.getElem_cons_zero, List.getElem_cons_succ, List.setIfInBounds_toArray, List.set_cons_zero, List.set_cons_succ]
                        refine tl 4 ?_ rfl ?_ hHeld ?_
                        rotate_left 1
                        focus (intro w' hSw; go_simp; try with_reducible rfl)
                        try simp only [Act.put, List.getElem_toArray, List.getElem_cons_zero, List.getElem_cons_succ, List.setIfInBounds_toArray, List.set_cons_zero, List.set_cons_succ]
                        refine tl 5 ?_ rfl ?_ hHeld ?_
                        rotate_left 1
                        focus (intro w' hSw; go_simp; try with_reducible rfl)
                        try simp only [Act.put, List.getElem_toArray, List.getElem_cons_zero, List.getElem_cons_succ, List.setIfInBounds_toArray, List.set_cons_zero, List.set_cons_succ]
                        refine tlu 6 rfl hHeld ?_
                        try simp only [Act.put, List.getElem_toArray, List.getElem_cons_zero, List.getElem_cons_succ, List.setIfInBounds_toArray, List.set_cons_zero, List.set_cons_succ]
                        refine tlu 7 rfl hHeld ?_
                        try simp only [Act.put, List.getElem_toArray, List.getElem_cons_zero, List.getElem_cons_succ, List.setIfInBounds_toArray, List.set_cons_zero, List.set_cons_succ]
                        refine tlu 8 rfl hHeld ?_
                        try simp only [Act.put, List.getElem_toArray, List.getElem_cons_zero, List.getElem_cons_succ, List.setIfInBounds_toArray, List.set_cons_zero, List.set_cons_succ]
                        refine tlu 9 rfl hHeld ?_
                        try simp only [Act.put, List.getElem_toArray, List.getElem_cons_zero, List.getElem_cons_succ, List.setIfInBounds_toArray, List.set_cons_zero, List.set_cons_succ]
                        refine tlu 10 rfl hHeld ?_
                        try simp only [Act.put, List.getElem_toArray, List.getElem_cons_zero, List.getElem_cons_succ, List.setIfInBounds_toArray, List.set_cons_zero, List.set_cons_succ]
                        refine tlu 11 rfl hHeld ?_
                        try simp only [Act.put, List.getElem_toArray, List.getElem_cons_zero, List.getElem_cons_succ, List.setIfInBounds_toArray, List.set_cons_zero, List.set_cons_succ]
                        refine tlu 12 rfl hHeld ?_
                        try simp only [Act.put, List.getElem_toArray, List.getElem_cons_zero, List.getElem_cons_succ, List.setIfInBounds_toArray, List.set_cons_zero, List.set_cons_succ]
                        refine tlu 13 rfl hHeld ?_
                        try simp only [Act.put, List.getElem_toArray, List.getElem_cons_zero, List.getElem_cons_succ, List.setIfInBounds_toArray, List.set_cons_zero, List.set_cons_succ]
                        refine tl 14 ?_ rfl ?_ hHeld ?_
                        rotate_left 1
                        focus (intro w' hSw; go_simp; try with_reducible rfl)
                        try simp only [Act.put, List.getElem_toArray, List.getElem_cons_zero, List.getElem_cons_succ, List.setIfInBounds_toArray, List.set_cons_zero, List.set_cons_succ]
                        refine tl 15 ?_ rfl ?_ hHeld ?_
                        rotate_left 1
                        focus (intro w' hSw; go_simp; try with_reducible rfl)
                        try simp only [Act.put, List.getElem_toArray, List.getElem_cons_zero, List.getElem_cons_succ, List.setIfInBounds_toArray, List.set_cons_zero, List.set_cons_succ]
                        refine wpAnyH_done (by kernel_rfl) ?_ _
                        clear hHeld
                        go_wp2
                        go_roundw
                        case rel => exact ⟨i + 1, by rw [HSn.out, HCu.out, HSe.out]; rfl, by push_cast; rfl, by omega, B13⟩
                        case measure => simp only [intOf]; omega
                      | some y =>
                        have HSe0 := hid (sameE_at hfe)
                        obtain ⟨kk, hkk, hik⟩ := idx_get T12.out.two.good.1 hfe
                        rw [HIx.out] at hik
                        subst hik
                        have hk0 : (0 : Int) ≤ (kk : Int) := by omega
                        have hkm : (kk : Int) < (m1 : Int) := by have h1 := (List.getElem?_eq_some_iff.1 hkk).1; have h2 := T12.out.two.doc.seB.1.2; omega
                        have hmx : max (kk : Int) 0 = (kk : Int) := by omega
                        obtain ⟨yb, yo, hY, _, p0, p1, p2, p3, p4, p5⟩ := (T12.out.two.doc.seB.1.1).atP hkk
                        subst hY
                        have q9 : ∀ w, (Op.equalIn 10000 47 (.agg #[.string y.path, .int .u64 y.num, .string y.foot, .int .i64 y.mode, .int .u64 y.n, .int .i64 y.stamp]) (.agg #[.string e.path, .int .u64 e.num, .string e.foot, .int .i64 e.mode, .int .u64 e.n, .int .i64 e.stamp])).run Tryz.prog w = .ok (eqE y e) w := fun w => eqk_entD y e w
                        obtain ⟨qe, hqe⟩ : ∃ z, eqE y e = z := ⟨_, rfl⟩
                        have HSe : Hid (sameE kt e = qe) := hid (HSe0.out.trans hqe)
                        simp only [hqe] at q9
                        clear hfe hkk hqe HSe0
                        refine wp_region_held_drew (S := fun W => (W.cell? ⟨eg, 0, none⟩ = some (.string e.path) ∧ W.cell? ⟨eg, 1, none⟩ = some (.int .u64 e.num) ∧ W.cell? ⟨eg, 2, none⟩ = some (.string e.foot) ∧ W.cell? ⟨eg, 3, none⟩ = some (.int .i64 e.mode) ∧ W.cell? ⟨eg, 4, none⟩ = some (.int .u64 e.n) ∧ W.cell? ⟨eg, 5, none⟩ = some (.int .i64 e.stamp)) ∧ W.cell? ⟨g + 1, 1, none⟩ = some (.slice (some ⟨yb, yo, none⟩) m1 d1) ∧ (W.cell? ⟨yb, yo + kk * 6, none⟩ = some (.string y.path) ∧ W.cell? ⟨yb, yo + kk * 6 + 1, none⟩ = some (.int .u64 y.num) ∧ W.cell? ⟨yb, yo + kk * 6 + 2, none⟩ = some (.string y.foot) ∧ W.cell? ⟨yb, yo + kk * 6 + 3, none⟩ = some (.int .i64 y.mode) ∧ W.cell? ⟨yb, yo + kk * 6 + 4, none⟩ = some (.int .u64 y.n) ∧ W.cell? ⟨yb, yo + kk * 6 + 5, none⟩ = some (.int .i64 y.stamp))) (by kernel_rfl) (by exact ⟨lcells6 E12.out.drew, T12.out.two.c0.2.1, p0, p1, p2, p3, p4, p5⟩) (fun hHeld => ?_)
                        refine tl 0 ?_ rfl ?_ hHeld ?_
                        rotate_left 1
                        focus (intro w' hSw; go_simp; try with_reducible rfl)
                        try simp only [Act.put, List.getElem_toArray, List.getElem_cons_zero, List.getElem_cons_succ, List.setIfInBounds_toArray, List.set_cons_zero, List.set_cons_succ]
                        refine tl 1 ?_ rfl ?_ hHeld ?_
                        rotate_left 1
                        focus (intro w' hSw; go_simp; try with_reducible rfl)
                        try simp only [Act.put, List.getElem_toArray, List.getElem_cons_zero, List.getElem_cons_succ, List.setIfInBounds_toArray, List.set_cons_zero, List.set_cons_succ]
                        refine tl 2 ?_ rfl ?_ hHeld ?_
                        rotate_left 1
                        focus (intro w' hSw; go_simp; try with_reducible rfl)
                        try simp only [Act.put, List.getElem_toArray, List.getElem_cons_zero, List.getElem_cons_succ, List.setIfInBounds_toArray, List.set_cons_zero, List.set_cons_succ]
                        refine tl 3 ?_ rfl ?_ hHeld ?_
                        rotate_left 1
                        focus (intro w' hSw; go_simp; try with_reducible rfl)
                        try simp only [Act.put, List.getElem_toArray, List.getElem_cons_zero, List.getElem_cons_succ, List.setIfInBounds_toArray, List.set_cons_zero, List.set_cons_succ]
                        refine tl 4 ?_ rfl ?_ hHeld ?_
                        rotate_left 1
                        focus (intro w' hSw; go_simp; try with_reducible rfl)
                        try simp only [Act.put, List.getElem_toArray, List.getElem_cons_zero, List.getElem_cons_succ, List.setIfInBounds_toArray, List.set_cons_zero, List.set_cons_succ]
                        refine tl 5 ?_ rfl ?_ hHeld ?_
                        rotate_left 1
                        focus (intro w' hSw; go_simp; try with_reducible rfl)
                        try simp only [Act.put, List.getElem_toArray, List.getElem_cons_zero, List.getElem_cons_succ, List.setIfInBounds_toArray, List.set_cons_zero, List.set_cons_succ]
                        refine tl 6 ?_ rfl ?_ hHeld ?_
                        rotate_left 1
                        focus (intro w' hSw; go_simp; try with_reducible rfl)
                        try simp only [Act.put, List.getElem_toArray, List.getElem_cons_zero, List.getElem_cons_succ, List.setIfInBounds_toArray, List.set_cons_zero, List.set_cons_succ]
                        refine tl 7 ?_ rfl ?_ hHeld ?_
                        rotate_left 1
                        focus (intro w' hSw; obtain ⟨⟨q0, q1, q2, q3, q4, q5⟩, r1, p0, p1, p2, p3, p4, p5⟩ := hSw; go_simp; try with_reducible rfl)
                        try simp only [Act.put, List.getElem_toArray, List.getElem_cons_zero, List.getElem_cons_succ, List.setIfInBounds_toArray, List.set_cons_zero, List.set_cons_succ]
                        refine tl 8 ?_ rfl ?_ hHeld ?_
                        rotate_left 1
                        focus (intro w' hSw; go_simp; try with_reducible rfl)
                        try simp only [Act.put, List.getElem_toArray, List.getElem_cons_zero, List.getElem_cons_succ, List.setIfInBounds_toArray, List.set_cons_zero, List.set_cons_succ]
                        refine tl 9 ?_ rfl ?_ hHeld ?_
                        rotate_left 1
                        focus (intro w' hSw; go_simp; try with_reducible rfl)
                        try simp only [Act.put, List.getElem_toArray, List.getElem_cons_zero, List.getElem_cons_succ, List.setIfInBounds_toArray, List.set_cons_zero, List.set_cons_succ]
                        refine tl 10 ?_ rfl ?_ hHeld ?_
                        rotate_left 1
                        focus (intro w' hSw; go_simp; try with_reducible rfl)
                        try simp only [Act.put, List.getElem_toArray, List.getElem_cons_zero, List.getElem_cons_succ, List.setIfInBounds_toArray, List.set_cons_zero, List.set_cons_succ]
                        refine tl 11 ?_ rfl ?_ hHeld ?_
                        rotate_left 1
                        focus (intro w' hSw; obtain ⟨⟨q0, q1, q2, q3, q4, q5⟩, r1, p0, p1, p2, p3, p4, p5⟩ := hSw; go_simp; try with_reducible rfl)
                        try simp only [Act.put, List.getElem_toArray, List.getElem_cons_zero, List.getElem_cons_succ, List.setIfInBounds_toArray, List.set_cons_zero, List.set_cons_succ]
                        refine tl 12 ?_ rfl ?_ hHeld ?_
                        rotate_left 1
                        focus (intro w' hSw; obtain ⟨⟨q0, q1, q2, q3, q4, q5⟩, r1, p0, p1, p2, p3, p4, p5⟩ := hSw; go_simp; try with_reducible rfl)
                        try simp only [Act.put, List.getElem_toArray, List.getElem_cons_zero, List.getElem_cons_succ, List.setIfInBounds_toArray, List.set_cons_zero, List.set_cons_succ]
                        refine tl 13 ?_ rfl ?_ hHeld ?_
                        rotate_left 1
                        focus (intro w' hSw; go_simp; try with_reducible rfl)
                        try simp only [Act.put, List.getElem_toArray, List.getElem_cons_zero, List.getElem_cons_succ, List.setIfInBounds_toArray, List.set_cons_zero, List.set_cons_succ]
                        refine tl 14 ?_ rfl ?_ hHeld ?_
                        rotate_left 1
                        focus (intro w' hSw; go_simp; try with_reducible rfl)
                        try simp only [Act.put, List.getElem_toArray, List.getElem_cons_zero, List.getElem_cons_succ, List.setIfInBounds_toArray, List.set_cons_zero, List.set_cons_succ]
                        refine tl 15 ?_ rfl ?_ hHeld ?_
                        rotate_left 1
                        focus (intro w' hSw; go_simp; try with_reducible rfl)
                        try simp only [Act.put, List.getElem_toArray, List.getElem_cons_zero, List.getElem_cons_succ, List.setIfInBounds_toArray, List.set_cons_zero, List.set_cons_succ]
                        refine wpAnyH_done (by kernel_rfl) ?_ _
                        clear hHeld
                        go_wp2
                        go_roundw
                        case rel => exact ⟨i + 1, by rw [HSn.out, HCu.out, HSe.out]; rfl, by push_cast; rfl, by omega, B13⟩
                        case measure => simp only [intOf]; omega
                  · have hlt' : ¬ (i : Int) < (n1 : Int) := by omega
                    obtain rfl : n1 = i := by omega
                    have HA1 : Hid ((a0 && ks.all (sameE kt)) = cu) := hid (by rw [← HCu0.out, List.take_of_length_le (by rw [HN1.out]; exact Nat.le_refl _)])
                    rw [HA1.out] at HA0
                    obtain ⟨wS, rfl⟩ : ∃ z, z = wr := ⟨_, rfl⟩
                    have TS := hid (T10.out.on HB.out)
                    obtain ⟨b0, b1, b2⟩ := TS.out.one.c0
                    clear HCu0 HA1
                    go_wp2_with fail
                    clear b0 b1 b2
                    go_loopw [17, 132] (fun av iv wr => ∃ i : Nat, av = .bool (cu && (cs.take i).all (sameC ct)) ∧ iv = .int .i64 (i : Int) ∧ i ≤ n2 ∧ Hid (Below wS.heap.size wS wr)) (fun _ iv _ => n2 - (intOf iv).toNat)
                    case atStart => exact ⟨0, by simp, rfl, by omega, hid (Below.refl _ _)⟩
                    case round =>
                      obtain ⟨i, rfl, rfl, hi, HB4⟩ := hrel
                      obtain ⟨cv, hcv⟩ : ∃ z, (cu && (cs.take i).all (sameC ct)) = z := ⟨_, rfl⟩
                      rw [hcv]
                      have HCv0 := hid hcv
                      clear hcv
                      by_cases hlt4 : i < n2
                      · have hlt4' : (i : Int) < (n2 : Int) := by omega
                        obtain ⟨c, hc⟩ : ∃ c, cs[i]? = some c := ⟨_, List.getElem?_eq_getElem (by rw [HN2.out]; exact hlt4)⟩
                        have HSn := hid (all_snocB (sameC ct) hc)
                        have HCv : Hid ((cu && ((cs.take i).all (sameC ct) && sameC ct c)) = (cv && sameC ct c)) := hid (by rw [← Bool.and_assoc, HCv0.out])
                        obtain ⟨xb, xo, hX, hxb, y0, y1⟩ := ((TS.out.on HB4.out).one.doc.seB.2.1).atB hc
                        subst hX
                        have qi : IntKind.i64.wrap ((i : Int) + 1) = ((i + 1 : Nat) : Int) := by rw [IntWalk.i64_in _ (by omega)]; omega
                        clear hc hxb
                        go_upto_region 30 with fail
                        obtain ⟨w11, hw11⟩ : ∃ z, wr.alloc (.cells #[.string c.1, .int .u64 c.2] 61) = z := ⟨_, rfl⟩
                        obtain ⟨E11, K11⟩ := lone_new hw11
                        have B11 := hid (below_on HB4.out K11.out)
                        have T11 := hid (TS.out.on B11.out)
                        obtain ⟨eg, heg⟩ : ∃ z, wr.heap.size = z := ⟨_, rfl⟩
                        rw [heg] at E11 ⊢
                        rw [hw11]
                        clear hw11 heg K11 y0 y1 HB4
                        obtain ⟨b0, b1, b2⟩ := T11.out.two.c0
                        go_wp2_with fail
                        clear b0 b1 b2
                        obtain ⟨qf, hqf⟩ : ∃ z : (ByteArray × Int) → Bool, (fun m => decide (m.1 = c.1) && decide (m.2 = c.2)) = z := ⟨_, rfl⟩
                        have HQf : Hid (∀ d, qf d = (decide (d.1 = c.1) && decide (d.2 = c.2))) := hid (fun d => by rw [← hqf])
                        have HSc : Hid (sameC ct c = ct.any qf) := hid (by unfold sameC; rw [hqf])
                        clear hqf
                        go_loopw [23, 139] (fun fv jv wr => ∃ j : Nat, fv = .bool ((ct.take j).any qf) ∧ jv = .int .i64 (j : Int) ∧ j ≤ m2 ∧ Hid (Below w11.heap.size w11 wr)) (fun _ jv _ => m2 - (intOf jv).toNat)
                        case atStart => exact ⟨0, rfl, rfl, by omega, hid (Below.refl _ _)⟩
                        case round =>
                          obtain ⟨j, rfl, rfl, hj, HB5⟩ := hrel
                          obtain ⟨fd, hfd⟩ : ∃ z, (ct.take j).any qf = z := ⟨_, rfl⟩
                          rw [hfd]
                          have HFd := hid hfd
                          clear hfd
                          by_cases hlt5 : j < m2
                          · have hlt5' : (j : Int) < (m2 : Int) := by omega
                            obtain ⟨d, hd⟩ : ∃ c, ct[j]? = some c := ⟨_, List.getElem?_eq_getElem (by rw [HM2'.out]; exact hlt5)⟩
                            have HAn := hid (any_snocB qf hd)
                            rw [HFd.out] at HAn
                            obtain ⟨zb, zo, hZ, hzb, z0, z1⟩ := ((T11.out.on HB5.out).two.doc.seB.2.1).atB hd
                            subst hZ
                            have qj : IntKind.i64.wrap ((j : Int) + 1) = ((j + 1 : Nat) : Int) := by rw [IntWalk.i64_in _ (by omega)]; omega
                            clear hd hzb
                            go_upto_region 34 with fail
                            obtain ⟨w13, hw13⟩ : ∃ z, wr.alloc (.cells #[.string d.1, .int .u64 d.2] 61) = z := ⟨_, rfl⟩
                            obtain ⟨E13, K13⟩ := lone_new hw13
                            have B13 := hid (below_on HB5.out K13.out)
                            obtain ⟨dg, hdg⟩ : ∃ z, wr.heap.size = z := ⟨_, rfl⟩
                            rw [hdg] at E13 ⊢
                            rw [hw13]
                            clear hw13 hdg K13 z0 z1
                            obtain ⟨z0, z1⟩ := lcells2 E13.out
                            obtain ⟨y0, y1⟩ := lcells2 (E11.out.below B13.out E11.out.lt)
                            have q9 : ∀ w, (Op.equalIn 10000 61 (.agg #[.string d.1, .int .u64 d.2]) (.agg #[.string c.1, .int .u64 c.2])).run Tryz.prog w = .ok (qf d) w := fun w => by rw [HQf.out]; exact eqk_cnt d.1 d.2 c.1 c.2 w
                            obtain ⟨qe, hqe⟩ : ∃ z, qf d = z := ⟨_, rfl⟩
                            simp only [hqe] at q9
                            rw [hqe] at HAn
                            clear hqe
                            cases fd with
                            | true =>
                              go_wp2_with fail
                              go_roundw
                              case rel => exact ⟨j + 1, by rw [HAn.out]; rfl, by push_cast; rfl, by omega, B13⟩
                              case measure => simp only [intOf]; omega
                            | false =>
                              go_wp2_with fail
                              go_roundw
                              case rel => exact ⟨j + 1, by rw [HAn.out]; rfl, by push_cast; rfl, by omega, B13⟩
                              case measure => simp only [intOf]; omega
                          · have hlt5' : ¬ (j : Int) < (m2 : Int) := by omega
                            obtain rfl : m2 = j := by omega
                            have HSf : Hid (sameC ct c = fd) := hid (by rw [HSc.out, ← HFd.out, List.take_of_length_le (by rw [HM2'.out]; exact Nat.le_refl _)])
                            have BF := hid (below_on B11.out HB5.out)
                            cases cv with
                            | true =>
                              go_wp2_with fail
                              go_roundw
                              case rel => exact ⟨i + 1, by rw [HSn.out, HCv.out, HSf.out]; rfl, by push_cast; rfl, by omega, BF⟩
                              case measure => simp only [intOf]; omega
                            | false =>
                              go_wp2_with fail
                              go_roundw
                              case rel => exact ⟨i + 1, by rw [HSn.out, HCv.out]; rfl, by push_cast; rfl, by omega, BF⟩
                              case measure => simp only [intOf]; omega
                      · have hlt4' : ¬ (i : Int) < (n2 : Int) := by omega
                        obtain rfl : n2 = i := by omega
                        have HA2' : Hid (alikeB ks kt cs ct = cv) := hid (by rw [HA0.out, ← HCv0.out, List.take_of_length_le (by rw [HN2.out]; exact Nat.le_refl _)])
                        rw [HA2'.out] at HAl
                        obtain ⟨N1, hN1⟩ : ∃ z, (encB cs ds ps).length = z := ⟨_, rfl⟩
                        obtain ⟨N2, hN2⟩ : ∃ z, (encB ct ds' ps').length = z := ⟨_, rfl⟩
                        have hz1 : N1 ≤ 33000040 := by rw [← hN1]; exact HE1.out
                        have hz2 : N2 ≤ 33000040 := by rw [← hN2]; exact HE2.out
                        have HNa := hid hN1
                        have HNb := hid hN2
                        have BW := hid (below_on HB.out HB4.out)
                        have HB1 := hid (outbytesz_any w8.heap.size x (encB cs ds ps) wr (O10.out.later BW.out) (by rw [hN1]; omega))
                        have HB2 := hid (fun W (k : Below wr.heap.size wr W) => outbytesz_any w9.heap.size (x + 1) (encB ct ds' ps') W ((P10.out.later BW.out).later k) (by rw [hN2]; omega))
                        have HSm := hid (fun W Aa ca Ab cb (h1 : Sees .u8 W Aa (encB cs ds ps)) (h2 : Sees .u8 W Ab (encB ct ds' ps')) => lksame_any Aa Ab (encB cs ds ps) (encB ct ds' ps') N1 N2 ca cb W (by omega) (by omega) hN1 hN2 h1 h2 cv HAl.out)
                        have HW : Hid (Below w.heap.size w wr) := hid ((TS.out.on HB4.out).one.bel)
                        have ecv : (cv == cv) = true := by simp
                        clear hN1 hN2
                        go_wp2_with (first
                          | (go_at_call 25; (with_reducible refine HB1.out.mono ?_); rintro en w20 hmk; obtain ⟨Aa, ka, rfl, _, _, hs, hb⟩ := (Makes.hands hmk).named HNa.out; have S20 := hid hs; have K20 := hid hb; clear hmk hs hb)
                          | (go_at_call 25; (with_reducible refine (HB2.out _ K20.out).mono ?_); rintro en w21 hmk; obtain ⟨Ab, kb, rfl, _, _, hs, hb⟩ := (Makes.hands hmk).named HNb.out; have S21 := hid hs; have S20' := hid (S20.out.below hb); have K21 := hid (below_on K20.out hb); clear hmk hs hb)
                          | (go_at_call 24; (with_reducible refine (HSm.out _ _ _ _ _ S20'.out S21.out).mono ?_); rintro en w22 ⟨rfl, hb⟩; have K22 := hid (below_on HW.out (below_on K21.out hb)); clear hb))
                        go_ret
                        exact ⟨by simp, K22.out⟩
end Go.Proofs.YtgjbhlianlbflaaGreat
