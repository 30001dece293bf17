/-
  LockAhead: its walk.
-/
import Derived.Test.YtnpnboegfokfeaaLkAheadMath
namespace Go.Proofs.Ytnpnboegfokfeaa
open Go.ChangeShapes Go.WideShapes Go.ChangeAt Go.RowKit Go.Maps Go.WideMaps
set_option linter.unusedVariables false
set_option linter.unusedSimpArgs false

theorem DocK.se {w : World} {first : Int} {l : List EnL} {cs : CnL} {A A' : Option Addr} {ln c n c' : Nat} (h : DocK w (.agg #[.int .u64 first, .slice A ln c, .slice A' n c']) first l cs) : SeesE w A l ∧ l.length = ln := by
  obtain ⟨B, d, B', d', h1, h2, h3, h4, h5⟩ := h
  injection h1 with h1
  injection h1 with h1
  injection h1 with _ h1
  injection h1 with e1 h1
  injection e1 with x1 x2 x3
  subst x1 x2 x3
  exact ⟨h4, rfl⟩
theorem SeesE.at_ {w : World} {A : Option Addr} {l : List EnL} (h : SeesE w A l) {j : Nat} {e : EnL} (he : l[j]? = some e) : ∃ b o, A = some ⟨b, o, none⟩ ∧ b < w.heap.size ∧ w.cell? ⟨b, o + j * 6, none⟩ = some (.string e.path) ∧ w.cell? ⟨b, o + j * 6 + 1, none⟩ = some (.int .u64 e.num) ∧ w.cell? ⟨b, o + j * 6 + 2, none⟩ = some (.string e.foot) ∧ w.cell? ⟨b, o + j * 6 + 3, none⟩ = some (.int .i64 e.mode) ∧ w.cell? ⟨b, o + j * 6 + 4, none⟩ = some (.int .u64 e.n) ∧ w.cell? ⟨b, o + j * 6 + 5, none⟩ = some (.int .i64 e.stamp) := by
  obtain ⟨b, o, h1, h2, h3⟩ := h j e he
  exact ⟨b, o, h1, h2, h3 0 _ rfl, h3 1 _ rfl, h3 2 _ rfl, h3 3 _ rfl, h3 4 _ rfl, h3 5 _ rfl⟩
theorem pair_sees {w : World} {g : Nat} {T : TypeId} (y e : EnL) (h : Blk w g T #[.string y.path, .int .u64 y.num, .string y.foot, .int .i64 y.mode, .int .u64 y.n, .int .i64 y.stamp, .string e.path, .int .u64 e.num, .string e.foot, .int .i64 e.mode, .int .u64 e.n, .int .i64 e.stamp]) : SeesE w (some ⟨g, 0, none⟩) [y, e] :=
  SeesE.of h.lt (fun j v hv => by rw [h.cell j]; simpa [flatE, entL] using hv)
theorem pair_a (w : World) (y e : EnL) {T U : TypeId} (v2 : Value) {W : World} (hW : ((w.alloc (.cells #[.string y.path, .int .u64 y.num, .string y.foot, .int .i64 y.mode, .int .u64 y.n, .int .i64 y.stamp, .string e.path, .int .u64 e.num, .string e.foot, .int .i64 e.mode, .int .u64 e.n, .int .i64 e.stamp] T)).alloc (.cells #[.int .u64 0, .slice (some ⟨w.heap.size, 0, none⟩) 2 2, v2] U)).drew = W) :
    Blk W (w.heap.size + 1) U #[.int .u64 0, .slice (some ⟨w.heap.size, 0, none⟩) 2 2, v2] ∧ SeesE W (some ⟨w.heap.size, 0, none⟩) [y, e] ∧ Below w.heap.size w W := by
  subst hW
  obtain ⟨h1, h2, h3⟩ := ltwo_new (w := w) (T := T) (U := U) (a := #[.string y.path, .int .u64 y.num, .string y.foot, .int .i64 y.mode, .int .u64 y.n, .int .i64 y.stamp, .string e.path, .int .u64 e.num, .string e.foot, .int .i64 e.mode, .int .u64 e.n, .int .i64 e.stamp]) (b := #[.int .u64 0, .slice (some ⟨w.heap.size, 0, none⟩) 2 2, v2]) rfl
  exact ⟨h2.out.drew, pair_sees y e h1.out.drew, below_drew h3.out⟩
theorem pair_b (w : World) (y e : EnL) {T U : TypeId} (v2 : Value) {W : World} (hW : ((w.alloc (.cells #[.int .u64 0, .slice (some ⟨w.heap.size + 1, 0, none⟩) 2 2, v2] U)).alloc (.cells #[.string y.path, .int .u64 y.num, .string y.foot, .int .i64 y.mode, .int .u64 y.n, .int .i64 y.stamp, .string e.path, .int .u64 e.num, .string e.foot, .int .i64 e.mode, .int .u64 e.n, .int .i64 e.stamp] T)).drew = W) :
    Blk W w.heap.size U #[.int .u64 0, .slice (some ⟨w.heap.size + 1, 0, none⟩) 2 2, v2] ∧ SeesE W (some ⟨w.heap.size + 1, 0, none⟩) [y, e] ∧ Below w.heap.size w W := by
  subst hW
  obtain ⟨h1, h2, h3⟩ := ltwo_new (w := w) (T := U) (U := T) (a := #[.int .u64 0, .slice (some ⟨w.heap.size + 1, 0, none⟩) 2 2, v2]) (b := #[.string y.path, .int .u64 y.num, .string y.foot, .int .i64 y.mode, .int .u64 y.n, .int .i64 y.stamp, .string e.path, .int .u64 e.num, .string e.foot, .int .i64 e.mode, .int .u64 e.n, .int .i64 e.stamp]) rfl
  exact ⟨h1.out.drew, pair_sees y e h2.out.drew, below_drew h3.out⟩
theorem lkbelow_drewN (w : World) (n : Nat) : Below w.heap.size w (w.drewN n) := ⟨rfl, rfl, rfl, Nat.le_refl _, fun _ _ => rfl⟩
theorem free_pair (y e : EnL) : freeD [y, e] 1 e = !wayE y e := by
  unfold freeD
  simp
theorem found_snoc {az : List EnL} {m : Nat} {a y : EnL} (ha : az[m]? = some a) : ((az.take (m + 1)).any fun x => eqE x y) = (((az.take m).any fun x => eqE x y) || eqE a y) := by
  rw [take_snoc' ha, List.any_append]
  simp
set_option maxRecDepth 100000 in
set_option maxHeartbeats 8000000 in
theorem lkahead_law (first : Int) (A : Option Addr) (l : List OpK) (ca : Nat) (ix : Int) (w : World) (hf : IsUk first) (h : SeesOp w A l) (hm : ∀ o ∈ l, MadeK o) (hl : l.length ≤ 9223372036854775807) :
    Calls Try.prog 5 #[.int .u64 first, .slice A l.length ca, .int .i64 ix] w (Asks (.bool true) w) := by
  have HA := hid (fun w => lkanchor_any w)
  have HF := hid (fun w' (k : Below w.heap.size w w') => lkfits_any A l ca 40 w' (h.below k) hl)
  have HN := hid (fun w => lknew_any first w hf)
  have HS := hid h
  have HM := hid hm
  have HFi := hid hf
  obtain ⟨ft, hft⟩ : ∃ x, fitsK l 40 = x := ⟨_, rfl⟩
  have HFt := hid hft
  rw [hft] at HF
  obtain ⟨ln, hln⟩ : ∃ x, l.length = x := ⟨_, rfl⟩
  have HLN := hid hln
  rw [hln] at HF hl ⊢
  clear h hm hf hft hln
  go_enter Try.func5, Try.ntmps5
  cases ft with
  | false =>
    go_wp2_with (first
      | (go_at_call 6; (with_reducible refine (HA.out _).mono ?_); rintro e w1 ⟨rfl, b1⟩; have B1 := hid b1; clear b1)
      | (go_at_call 7; (with_reducible refine (HF.out _ B1.out).mono ?_); rintro e w2 ⟨rfl, b2⟩; have B2 := hid (below_on B1.out b2); clear b2))
    go_ret
    exact ⟨rfl, B2.out⟩
  | true =>
    obtain ⟨HPa, hl40⟩ : Hid (∀ o ∈ l, o.path.size ≤ 100) ∧ ln ≤ 40 := by
      obtain ⟨x1, x2⟩ := fits_iff HFt.out
      exact ⟨hid x1, by rw [HLN.out] at x2; omega⟩
    go_upto_region 6 with (first
      | (go_at_call 6; (with_reducible refine (HA.out _).mono ?_); rintro e w1 ⟨rfl, b1⟩; have B1 := hid b1; clear b1)
      | (go_at_call 7; (with_reducible refine (HF.out _ B1.out).mono ?_); rintro e w2 ⟨rfl, b2⟩; have B2 := hid (below_on B1.out b2); clear b2)
      | (go_at_call 8; (with_reducible refine (HN.out _).mono ?_); rintro e w3 ⟨rfl, b3, k3⟩; have B3 := hid (below_on B2.out b3); have K3 := hid (And.intro k3 (And.intro B2.out.size b3.size)); clear b3 k3))
    obtain ⟨q, hq⟩ : ∃ x, w2.heap.size = x := ⟨_, rfl⟩
    rw [hq] at K3 ⊢
    clear hq
    go_upto_region 7 with fail
    obtain ⟨w4, hw4⟩ : ∃ w4, w3.alloc (.cells #[.int .u64 first, .slice none 0 0, .slice none 0 0] 36) = w4 := ⟨_, rfl⟩
    obtain ⟨g, hg⟩ : ∃ x, w3.heap.size = x := ⟨_, rfl⟩
    have P0 : Hid (PlayAt w w4 (q + 2) q (q + 1) 0 g first [] [] none 0 0 none 0 0) := hid (by
      rw [← hw4, ← hg]
      have hb : BkK w3 w.heap.size (q + 2) q (q + 1) 0 first [] [] := by
        have := K3.out.1
        exact ⟨this.blk, this.es, this.ct, this.good, this.many, this.ne, by have := K3.out.2.1; omega⟩
      have hlt := hb.lt
      have al := (Below.refl w3.heap.size w3).alloc (Nat.le_refl _) (.cells #[.int .u64 first, .slice none 0 0, .slice none 0 0] 36)
      exact ⟨hb.on al, ⟨GoodK.nil HFi.out, Nat.le_refl _, fun e he => (by cases he), Nat.le_refl _⟩, DocK.nil _ _, Blk.new w3 36 _, below_on B3.out al, by have := B3.out.size; omega⟩)
    rw [hw4, hg]
    clear hw4 hg
    go_wp2_with fail
    go_loopw [35] (fun iv wr => ∃ (j : Nat) (ks : List EnL) (cs : CnL) (X : Option Addr) (n1 c1 : Nat) (Y : Option Addr) (n2 c2 : Nat), iv = .int .i64 (j : Int) ∧ j ≤ ln ∧ Hid (PlayAt w wr (q + 2) q (q + 1) j g first ks cs X n1 c1 Y n2 c2)) (fun iv _ => ln - (intOf iv).toNat)
    case atStart => exact ⟨0, [], [], none, 0, 0, none, 0, 0, rfl, by omega, P0⟩
    case round =>
      obtain ⟨j, ks, cs, X, n1, c1, Y, n2, c2, rfl, hj, HP⟩ := hrel
      by_cases hlt : j < ln
      · have hlt' : (j : Int) < (ln : Int) := by omega
        obtain ⟨e, he⟩ : ∃ e, l[j]? = some e := ⟨_, List.getElem?_eq_getElem (by rw [HLN.out]; exact hlt)⟩
        have HE := hid he
        have HMe := hid (HM.out e (List.mem_of_getElem? he))
        have HPe := hid (HPa.out e (List.mem_of_getElem? he))
        obtain ⟨ob, oo, hA, hob, y0, y1, y2, y3, y4⟩ := (HS.out.below HP.out.bel).at_ he
        subst hA
        clear he hob
        have qi : IntKind.i64.wrap ((j : Int) + 1) = ((j + 1 : Nat) : Int) := by rw [IntWalk.i64_in _ (by omega)]; omega
        have HSt := hid (fun w' (k : PlayAt w w' (q + 2) q (q + 1) j g first ks cs X n1 c1 Y n2 c2) => lkstep_same w.heap.size (q + 2) q (q + 1) j first ks cs (.agg #[.int .u64 first, .slice X n1 c1, .slice Y n2 c2]) first ks cs j e w' k.book (by omega) k.doc k.good (by omega) HMe.out HPe.out ⟨rfl, rfl, rfl⟩)
        go_upto_region 10 with fail
        obtain ⟨w5, hw5⟩ : ∃ w5, wr.alloc (.cells #[.int .i64 e.kd, .int .i64 e.mo, .string e.path, .int .u64 e.u, .string e.foot] 32) = w5 := ⟨_, rfl⟩
        obtain ⟨E5, K5⟩ := lone_new hw5
        have P5 := hid (HP.out.on K5.out)
        obtain ⟨og, hog⟩ : ∃ x, wr.heap.size = x := ⟨_, rfl⟩
        rw [hog] at E5 ⊢
        rw [hw5]
        clear hw5 hog K5 y0 y1 y2 y3 y4
        obtain ⟨b0, b1, b2⟩ := P5.out.c0
        have y0 := (E5.out.cell 0).trans rfl
        have y1 := (E5.out.cell 1).trans rfl
        have y2 := (E5.out.cell 2).trans rfl
        have y3 := (E5.out.cell 3).trans rfl
        have y4 := (E5.out.cell 4).trans rfl
        go_wp2_with (first
          | (go_at_call 9; (with_reducible refine (HSt.out _ P5.out).mono ?_); rintro r w6 ⟨v6, t6, rfl, k6, d6, u6, _⟩; obtain ⟨B, m1, d1, B', m2, d2, rfl⟩ := d6.form; have P7 := hid (P5.out.step HMe.out k6 d6 u6); have hbx := P5.out.box.turns u6 (fun e => by have := P5.out.ne; rcases e with e | e <;> omega); clear k6 d6 u6 b0 b1 b2 y0 y1 y2 y3 y4; obtain ⟨b0, b1, b2⟩ := lcells3K hbx; have z0 := hbx.frozen 0; have z1 := hbx.frozen 1; have z2 := hbx.frozen 2))
        unfold put3K at P7
        go_roundw
        case rel => exact ⟨j + 1, _, _, _, _, _, _, _, _, by push_cast; rfl, by omega, P7⟩
        case measure => simp only [intOf]; omega
      · have hlt' : ¬ (j : Int) < (ln : Int) := by omega
        have HLs := hid (lklist_any w.heap.size (q + 2) q (q + 1) j first ks cs wr HP.out.book (by omega))
        unfold OutE at HLs
        go_upto_region 13 with (first
          | (go_at_call 10; (with_reducible refine HLs.out.mono ?_); rintro r w7 ⟨ds, LA, lc, _, h2, rfl, h3, h4, _, h6, b7⟩; have HDs := hid h3; have HPm := hid h2; have P7 := hid (HP.out.on b7); have HLc := hid h6; clear h2 h3 h4 h6 b7))
        obtain ⟨dn, hdn⟩ : ∃ x, ds.length = x := ⟨_, rfl⟩
        have HDn := hid hdn
        rw [hdn]
        have hdk : dn ≤ j := by
          rw [← hdn, HPm.out.length_eq]
          exact Nat.le_trans (List.length_filter_le _ _) P7.out.good.2.1
        clear hdn HLs HP
        by_cases hneg : ix < 0
        · go_wp2_with fail
          go_ret
          exact ⟨rfl, P7.out.bel⟩
        by_cases hbig : (dn : Int) ≤ ix
        · go_wp2_with fail
          go_ret
          exact ⟨rfl, P7.out.bel⟩
        obtain ⟨i0, rfl⟩ := Int.eq_ofNat_of_zero_le (show 0 ≤ ix by omega)
        have hi0 : (i0 : Int) < (dn : Int) := by omega
        obtain ⟨e, he⟩ : ∃ e, ds[i0]? = some e := ⟨_, List.getElem?_eq_getElem (by rw [HDn.out]; omega)⟩
        have hmem : e ∈ ks := (List.mem_filter.1 (HPm.out.mem_iff.1 (List.mem_of_getElem? he))).1
        obtain ⟨kk, hkk⟩ := List.mem_iff_getElem?.1 hmem
        have HKk := hid hkk
        have HOk := hid (P7.out.good.1.keys e hmem)
        have hkj : kk < j := by have := (List.getElem?_eq_some_iff.1 hkk).1; have := P7.out.good.2.1; omega
        have HIx := hid (idx_pos P7.out.good.1 hkk).1
        obtain ⟨ob, oo, hA, hob, hr⟩ := HDs.out i0 e he
        subst hA
        have y0 : w7.cell? ⟨ob, oo + i0 * 6, none⟩ = some (.string e.path) := hr 0 _ rfl
        have y1 : w7.cell? ⟨ob, oo + i0 * 6 + 1, none⟩ = some (.int .u64 e.num) := hr 1 _ rfl
        have y2 : w7.cell? ⟨ob, oo + i0 * 6 + 2, none⟩ = some (.string e.foot) := hr 2 _ rfl
        have y3 : w7.cell? ⟨ob, oo + i0 * 6 + 3, none⟩ = some (.int .i64 e.mode) := hr 3 _ rfl
        have y4 : w7.cell? ⟨ob, oo + i0 * 6 + 4, none⟩ = some (.int .u64 e.n) := hr 4 _ rfl
        have y5 : w7.cell? ⟨ob, oo + i0 * 6 + 5, none⟩ = some (.int .i64 e.stamp) := hr 5 _ rfl
        clear he hmem hkk hob hr HDs HPm
        go_upto_region 16 with fail
        obtain ⟨w8, hw8⟩ : ∃ w8, w7.alloc (.cells #[.string e.path, .int .u64 e.num, .string e.foot, .int .i64 e.mode, .int .u64 e.n, .int .i64 e.stamp] 41) = w8 := ⟨_, rfl⟩
        obtain ⟨E8, K8⟩ := lone_new hw8
        have P8 := hid (P7.out.on K8.out)
        obtain ⟨eg, heg⟩ : ∃ x, w7.heap.size = x := ⟨_, rfl⟩
        have HEg : Hid (w.heap.size ≤ eg ∧ eg ≠ q + 2 ∧ eg ≠ q ∧ eg ≠ q + 1 ∧ eg ≠ g) := hid (by
          have h1 := P7.out.bel.size
          have h2 := P7.out.book.lt
          have h3 := P7.out.box.lt
          omega)
        rw [heg] at E8 ⊢
        rw [hw8]
        clear hw8 heg K8 y0 y1 y2 y3 y4 y5
        obtain ⟨b0, b1, b2⟩ := P8.out.c0
        obtain ⟨y0, y1, y2, y3, y4, y5⟩ := lcells6 E8.out
        have HFd := hid (dlfind_any (.agg #[.int .u64 first, .slice X n1 c1, .slice Y n2 c2]) first ks cs e.path e.num e.foot w8 P8.out.doc (by have := P8.out.good.2.1; omega))
        rw [HIx.out] at HFd
        have hkn : ¬ (kk : Int) < 0 := by omega
        have HAh := hid (fun w' (k : PlayAt w w' (q + 2) q (q + 1) j g first ks cs X n1 c1 Y n2 c2) => lkahead_any w.heap.size (q + 2) q (q + 1) j first ks cs e w' k.book (by omega) HOk.out.2.1)
        unfold OutE at HAh
        go_upto_region 22 with (first
          | (go_at_call 18; (with_reducible refine HFd.out.mono ?_); rintro r w9 ⟨rfl, b9⟩; have P9 := hid (P8.out.on b9); have E9 := hid (E8.out.below b9 E8.out.lt); clear b9 b0 b1 b2 y0 y1 y2 y3 y4 y5; obtain ⟨b0, b1, b2⟩ := P9.out.c0; obtain ⟨y0, y1, y2, y3, y4, y5⟩ := lcells6 E9.out)
          | (go_at_call 19; (with_reducible refine (HAh.out _ P9.out).mono ?_); rintro r w10 ⟨az, ZA, zc, _, h2, rfl, h3, h4, _, h6, b10⟩; have HZs := hid h3; have HZp := hid h2; have P10 := hid (P9.out.on b10); have E10 := hid (E9.out.below b10 E9.out.lt); clear h2 h3 h4 h6 b10 b0 b1 b2 y0 y1 y2 y3 y4 y5))
        obtain ⟨an, han⟩ : ∃ x, az.length = x := ⟨_, rfl⟩
        have HAn := hid han
        rw [han]
        have hanj : an ≤ j := by rw [← han, HZp.out.length_eq]; exact Nat.le_trans (List.length_filter_le _ _) P10.out.good.2.1
        clear han HAh HFd
        go_loopw [15, 77] (fun nv iv wr => ∃ i : Nat, nv = .int .i64 ((cntW ks i e : Nat) : Int) ∧ iv = .int .i64 (i : Int) ∧ i ≤ kk ∧ Hid (PlayAt w wr (q + 2) q (q + 1) j g first ks cs X n1 c1 Y n2 c2 ∧ Blk wr eg 41 #[.string e.path, .int .u64 e.num, .string e.foot, .int .i64 e.mode, .int .u64 e.n, .int .i64 e.stamp] ∧ SeesE wr ZA az)) (fun _ iv _ => kk - (intOf iv).toNat)
        case atStart => exact ⟨0, rfl, rfl, by omega, hid ⟨P10.out, E10.out, HZs.out⟩⟩
        case round =>
          obtain ⟨i, rfl, rfl, hi, HL⟩ := hrel
          by_cases hlt2 : i < kk
          · have hlt2' : (i : Int) < (kk : Int) := by omega
            have hkl := (List.getElem?_eq_some_iff.1 HKk.out).1
            obtain ⟨y, hy⟩ : ∃ y, ks[i]? = some y := ⟨_, List.getElem?_eq_getElem (by omega)⟩
            have HYy := hid hy
            have hn1 : ks.length = n1 := HL.out.1.doc.se.2
            obtain ⟨xb, xo, hX, hxb, y0, y1, y2, y3, y4, y5⟩ := HL.out.1.doc.se.1.at_ hy
            have hz := HL.out.1.doc.se.1.at_ HKk.out
            subst hX
            obtain ⟨xb2, xo2, hX2, hxb2, z0, z1, z2, z3, z4, z5⟩ := hz
            injection hX2 with hX2
            injection hX2 with hx3 hx4
            subst hx3 hx4
            have hin1 : (i : Int) < (n1 : Int) := by omega
            have hkn1 : (kk : Int) < (n1 : Int) := by omega
            obtain ⟨b0, b1, b2⟩ := HL.out.1.c0
            have qi : IntKind.i64.wrap ((i : Int) + 1) = ((i + 1 : Nat) : Int) := by rw [IntWalk.i64_in _ (by omega)]; omega
            clear hy hn1 hkl
            go_upto_region 25 with fail
            obtain ⟨w11, hw11⟩ : ∃ w11, wr.alloc (.cells #[.string y.path, .int .u64 y.num, .string y.foot, .int .i64 y.mode, .int .u64 y.n, .int .i64 y.stamp] 57) = w11 := ⟨_, rfl⟩
            obtain ⟨Y11, K11⟩ := lone_new hw11
            have L11 : Hid (PlayAt w w11 (q + 2) q (q + 1) j g first ks cs (some ⟨xb, xo, none⟩) n1 c1 Y n2 c2 ∧ Blk w11 eg 41 #[.string e.path, .int .u64 e.num, .string e.foot, .int .i64 e.mode, .int .u64 e.n, .int .i64 e.stamp] ∧ SeesE w11 ZA az) := hid ⟨HL.out.1.on K11.out, HL.out.2.1.below K11.out HL.out.2.1.lt, HL.out.2.2.below K11.out⟩
            obtain ⟨yg, hyg⟩ : ∃ x, wr.heap.size = x := ⟨_, rfl⟩
            rw [hyg] at Y11 ⊢
            rw [hw11]
            clear hw11 hyg y0 y1 y2 y3 y4 y5 z0 z1 z2 z3 z4 z5 b0 b1 b2 hxb hxb2 HL K11
            have S11 : Hid (∀ W, Below w11.heap.size w11 W → (W.cell? ⟨yg, 0, none⟩ = some (.string y.path) ∧ W.cell? ⟨yg, 1, none⟩ = some (.int .u64 y.num) ∧ W.cell? ⟨yg, 2, none⟩ = some (.string y.foot) ∧ W.cell? ⟨yg, 3, none⟩ = some (.int .i64 y.mode) ∧ W.cell? ⟨yg, 4, none⟩ = some (.int .u64 y.n) ∧ W.cell? ⟨yg, 5, none⟩ = some (.int .i64 y.stamp)) ∧ W.cell? ⟨g, 1, none⟩ = some (.slice (some ⟨xb, xo, none⟩) n1 c1) ∧
                (W.cell? ⟨xb, xo + kk * 6, none⟩ = some (.string e.path) ∧ W.cell? ⟨xb, xo + kk * 6 + 1, none⟩ = some (.int .u64 e.num) ∧ W.cell? ⟨xb, xo + kk * 6 + 2, none⟩ = some (.string e.foot) ∧ W.cell? ⟨xb, xo + kk * 6 + 3, none⟩ = some (.int .i64 e.mode) ∧ W.cell? ⟨xb, xo + kk * 6 + 4, none⟩ = some (.int .u64 e.n) ∧ W.cell? ⟨xb, xo + kk * 6 + 5, none⟩ = some (.int .i64 e.stamp))) := hid (fun W hb => by
              have hp := L11.out.1.on hb
              obtain ⟨ab, ao, ha, _, u0, u1, u2, u3, u4, u5⟩ := hp.doc.se.1.at_ HKk.out
              injection ha with ha
              injection ha with ha1 ha2
              subst ha1 ha2
              exact ⟨lcells6 (Y11.out.below hb Y11.out.lt), hp.c0.2.1, u0, u1, u2, u3, u4, u5⟩)
            have dr := below_drew (Below.refl w11.heap.size w11)
            have A1 := hid (S11.out _ dr)
            have A2 := hid (fun o => S11.out _ (below_drew ((Below.refl w11.heap.size w11).alloc (Nat.le_refl _) o)))
            have A3 := hid (fun o o2 => S11.out _ (below_drew (((Below.refl w11.heap.size w11).alloc (Nat.le_refl _) o).alloc (by simp) o2)))
            go_cut [18] (fun c18 wc => ∃ pg sg, c18 = .pointer (some ⟨pg, 0, none⟩) ∧ Hid (Blk wc pg 36 #[.int .u64 0, .slice (some ⟨sg, 0, none⟩) 2 2, .slice none 0 0] ∧ SeesE wc (some ⟨sg, 0, none⟩) [y, e] ∧ Below w11.heap.size w11 wc))
            case first =>
              go_region_held3 (fun W => (W.cell? ⟨yg, 0, none⟩ = some (.string y.path) ∧ W.cell? ⟨yg, 1, none⟩ = some (.int .u64 y.num) ∧ W.cell? ⟨yg, 2, none⟩ = some (.string y.foot) ∧ W.cell? ⟨yg, 3, none⟩ = some (.int .i64 y.mode) ∧ W.cell? ⟨yg, 4, none⟩ = some (.int .u64 y.n) ∧ W.cell? ⟨yg, 5, none⟩ = some (.int .i64 y.stamp)) ∧ W.cell? ⟨g, 1, none⟩ = some (.slice (some ⟨xb, xo, none⟩) n1 c1) ∧
                (W.cell? ⟨xb, xo + kk * 6, none⟩ = some (.string e.path) ∧ W.cell? ⟨xb, xo + kk * 6 + 1, none⟩ = some (.int .u64 e.num) ∧ W.cell? ⟨xb, xo + kk * 6 + 2, none⟩ = some (.string e.foot) ∧ W.cell? ⟨xb, xo + kk * 6 + 3, none⟩ = some (.int .i64 e.mode) ∧ W.cell? ⟨xb, xo + kk * 6 + 4, none⟩ = some (.int .u64 e.n) ∧ W.cell? ⟨xb, xo + kk * 6 + 5, none⟩ = some (.int .i64 e.stamp)))
                (first | with_reducible exact A1.out | with_reducible exact A2.out _ | with_reducible exact A3.out _ _)
                (first | fail)
              all_goals go_wp2
              all_goals go_meet
              all_goals first
                | exact ⟨_, _, rfl, hid (pair_a w11 y e _ rfl)⟩
                | exact ⟨_, _, rfl, hid (pair_b w11 y e _ rfl)⟩
            case rest =>
              obtain ⟨pg, sg, rfl, HPr⟩ := hcut
              have L12 : Hid (PlayAt w wc (q + 2) q (q + 1) j g first ks cs (some ⟨xb, xo, none⟩) n1 c1 Y n2 c2 ∧ Blk wc eg 41 #[.string e.path, .int .u64 e.num, .string e.foot, .int .i64 e.mode, .int .u64 e.n, .int .i64 e.stamp] ∧ SeesE wc ZA az ∧ Blk wc yg 57 #[.string y.path, .int .u64 y.num, .string y.foot, .int .i64 y.mode, .int .u64 y.n, .int .i64 y.stamp]) := hid ⟨L11.out.1.on HPr.out.2.2, L11.out.2.1.below HPr.out.2.2 L11.out.2.1.lt, L11.out.2.2.below HPr.out.2.2, Y11.out.below HPr.out.2.2 Y11.out.lt⟩
              have HGr : Hid (Calls Try.prog 20 #[.agg #[.int .u64 0, .slice (some ⟨sg, 0, none⟩) 2 2, .slice none 0 0], .int .i64 1] wc (Asks (.bool (freeD [y, e] 1 e)) wc)) := hid (dlgranted_any (.agg #[.int .u64 0, .slice (some ⟨sg, 0, none⟩) 2 2, .slice none 0 0]) 0 [y, e] [] 1 e wc ⟨_, _, _, _, rfl, ⟨fun x => (by cases x), Nat.le_refl 2⟩, ⟨fun _ => rfl, Nat.le_refl 0⟩, HPr.out.2.1, SeesC.nil _ _⟩ (by simp) rfl (fun x hx => by
                have hs := L12.out.1.good.1.ok
                simp only [List.mem_cons, List.not_mem_nil, or_false] at hx
                rcases hx with rfl | rfl
                · have := size_right (hs x (List.mem_of_getElem? HYy.out)).1; omega
                · have := size_right (hs x (List.mem_of_getElem? HKk.out)).1; omega))
              rw [free_pair] at HGr
              have HCn := hid (cntW_snoc (e := e) HYy.out)
              obtain ⟨p0, p1, p2⟩ := lcells3K HPr.out.1
              clear A1 A2 A3 S11 L11 Y11
              obtain ⟨wy, hwy⟩ : ∃ x, wayE y e = x := ⟨_, rfl⟩
              have HWy := hid hwy
              rw [hwy] at HGr HCn
              clear hwy
              cases wy with
              | false =>
                go_wp2_with (first
                  | (go_at_call 20; (with_reducible refine HGr.out.mono ?_); rintro r w13 ⟨rfl, b13⟩; have L13 : Hid (PlayAt w w13 (q + 2) q (q + 1) j g first ks cs (some ⟨xb, xo, none⟩) n1 c1 Y n2 c2 ∧ Blk w13 eg 41 #[.string e.path, .int .u64 e.num, .string e.foot, .int .i64 e.mode, .int .u64 e.n, .int .i64 e.stamp] ∧ SeesE w13 ZA az) := hid ⟨L12.out.1.on b13, L12.out.2.1.below b13 L12.out.2.1.lt, L12.out.2.2.1.below b13⟩; clear b13 p0 p1 p2))
                go_roundw
                case rel => exact ⟨i + 1, by rw [HCn.out]; rfl, by push_cast; rfl, by omega, L13⟩
                case measure => simp only [intOf]; omega
              | true =>
                go_upto_region 29 with (first
                  | (go_at_call 20; (with_reducible refine HGr.out.mono ?_); rintro r w13 ⟨rfl, b13⟩; have L13 : Hid (PlayAt w w13 (q + 2) q (q + 1) j g first ks cs (some ⟨xb, xo, none⟩) n1 c1 Y n2 c2 ∧ Blk w13 eg 41 #[.string e.path, .int .u64 e.num, .string e.foot, .int .i64 e.mode, .int .u64 e.n, .int .i64 e.stamp] ∧ SeesE w13 ZA az ∧ Blk w13 yg 57 #[.string y.path, .int .u64 y.num, .string y.foot, .int .i64 y.mode, .int .u64 y.n, .int .i64 y.stamp]) := hid ⟨L12.out.1.on b13, L12.out.2.1.below b13 L12.out.2.1.lt, L12.out.2.2.1.below b13, L12.out.2.2.2.below b13 L12.out.2.2.2.lt⟩; clear b13 p0 p1 p2))
                go_loopw [19, 97] (fun fv mv wr => ∃ m : Nat, fv = .bool ((az.take m).any fun x => eqE x y) ∧ mv = .int .i64 (m : Int) ∧ m ≤ an ∧ Hid (PlayAt w wr (q + 2) q (q + 1) j g first ks cs (some ⟨xb, xo, none⟩) n1 c1 Y n2 c2 ∧ Blk wr eg 41 #[.string e.path, .int .u64 e.num, .string e.foot, .int .i64 e.mode, .int .u64 e.n, .int .i64 e.stamp] ∧ SeesE wr ZA az ∧ Blk wr yg 57 #[.string y.path, .int .u64 y.num, .string y.foot, .int .i64 y.mode, .int .u64 y.n, .int .i64 y.stamp])) (fun _ mv _ => an - (intOf mv).toNat)
                case atStart => exact ⟨0, rfl, rfl, by omega, L13⟩
                case round =>
                  obtain ⟨m, rfl, rfl, hm, HL3⟩ := hrel
                  have HFn := hid (fun (x : EnL) (hx : az[m]? = some x) => found_snoc (y := y) hx)
                  obtain ⟨fd, hfd⟩ : ∃ x, ((az.take m).any fun x => eqE x y) = x := ⟨_, rfl⟩
                  have HFd2 := hid hfd
                  rw [hfd] at HFn ⊢
                  clear hfd
                  by_cases hlt3 : m < an
                  · have hlt3' : (m : Int) < (an : Int) := by omega
                    obtain ⟨a, ha⟩ : ∃ a, az[m]? = some a := ⟨_, List.getElem?_eq_getElem (by rw [HAn.out]; exact hlt3)⟩
                    have HFn2 := hid (HFn.out a ha)
                    obtain ⟨ab, ao, hA2, hab, y0, y1, y2, y3, y4, y5⟩ := HL3.out.2.2.1.at_ ha
                    subst hA2
                    have qm : IntKind.i64.wrap ((m : Int) + 1) = ((m + 1 : Nat) : Int) := by rw [IntWalk.i64_in _ (by omega)]; omega
                    clear ha hab HFn
                    go_upto_region 31 with fail
                    obtain ⟨w14, hw14⟩ : ∃ w14, wr.alloc (.cells #[.string a.path, .int .u64 a.num, .string a.foot, .int .i64 a.mode, .int .u64 a.n, .int .i64 a.stamp] 41) = w14 := ⟨_, rfl⟩
                    obtain ⟨Q14, K14⟩ := lone_new hw14
                    have L14 := hid (show PlayAt w w14 (q + 2) q (q + 1) j g first ks cs (some ⟨xb, xo, none⟩) n1 c1 Y n2 c2 ∧ Blk w14 eg 41 #[.string e.path, .int .u64 e.num, .string e.foot, .int .i64 e.mode, .int .u64 e.n, .int .i64 e.stamp] ∧ SeesE w14 (some ⟨ab, ao, none⟩) az ∧ Blk w14 yg 57 #[.string y.path, .int .u64 y.num, .string y.foot, .int .i64 y.mode, .int .u64 y.n, .int .i64 y.stamp] from ⟨HL3.out.1.on K14.out, HL3.out.2.1.below K14.out HL3.out.2.1.lt, HL3.out.2.2.1.below K14.out, HL3.out.2.2.2.below K14.out HL3.out.2.2.2.lt⟩)
                    obtain ⟨ag, hag⟩ : ∃ x, wr.heap.size = x := ⟨_, rfl⟩
                    rw [hag] at Q14 ⊢
                    rw [hw14]
                    clear hw14 hag K14 HL3 y0 y1 y2 y3 y4 y5
                    cases fd with
                    | true =>
                      go_quiet (fail)
                      go_wp2_with fail
                      go_roundw
                      case rel => exact ⟨m + 1, by rw [HFn2.out]; rfl, by push_cast; rfl, by omega, hid ⟨L14.out.1.on (lkbelow_drewN _ _), L14.out.2.1.below (lkbelow_drewN _ _) L14.out.2.1.lt, L14.out.2.2.1.below (lkbelow_drewN _ _), L14.out.2.2.2.below (lkbelow_drewN _ _) L14.out.2.2.2.lt⟩⟩
                      case measure => simp only [intOf]; omega
                    | false =>
                      have HOf : Hid (∀ w, Calls Try.prog 21 #[.agg #[.string a.path, .int .u64 a.num, .string a.foot, .int .i64 a.mode, .int .u64 a.n, .int .i64 a.stamp]] w (Asks (.agg #[.string a.path, .int .u64 a.num, .string a.foot, .int .i64 a.mode, .int .u64 a.n, .int .i64 a.stamp]) w)) := hid (fun w => lkof_any a w)
                      have q9 : ∀ w, (Op.equalIn 10000 57 (.agg #[.string a.path, .int .u64 a.num, .string a.foot, .int .i64 a.mode, .int .u64 a.n, .int .i64 a.stamp]) (.agg #[.string y.path, .int .u64 y.num, .string y.foot, .int .i64 y.mode, .int .u64 y.n, .int .i64 y.stamp])).run Try.prog w = .ok (eqE a y) w := eqk_entD a y
                      have A1 := hid (And.intro (lcells6 Q14.out.drew) (lcells6 L14.out.2.2.2.drew))
                      have dr := hid (below_drew (Below.refl w14.heap.size w14))
                      obtain ⟨eq9, he9⟩ : ∃ x, eqE a y = x := ⟨_, rfl⟩
                      rw [he9] at HFn2
                      simp only [he9] at q9
                      clear he9
                      go_region_held3 (fun W => (W.cell? ⟨ag, 0, none⟩ = some (.string a.path) ∧ W.cell? ⟨ag, 1, none⟩ = some (.int .u64 a.num) ∧ W.cell? ⟨ag, 2, none⟩ = some (.string a.foot) ∧ W.cell? ⟨ag, 3, none⟩ = some (.int .i64 a.mode) ∧ W.cell? ⟨ag, 4, none⟩ = some (.int .u64 a.n) ∧ W.cell? ⟨ag, 5, none⟩ = some (.int .i64 a.stamp)) ∧ (W.cell? ⟨yg, 0, none⟩ = some (.string y.path) ∧ W.cell? ⟨yg, 1, none⟩ = some (.int .u64 y.num) ∧ W.cell? ⟨yg, 2, none⟩ = some (.string y.foot) ∧ W.cell? ⟨yg, 3, none⟩ = some (.int .i64 y.mode) ∧ W.cell? ⟨yg, 4, none⟩ = some (.int .u64 y.n) ∧ W.cell? ⟨yg, 5, none⟩ = some (.int .i64 y.stamp)))
                        (first | with_reducible exact A1.out | with_reducible exact A2.out)
                        (first
                          | (go_at_call 21; (with_reducible refine (HOf.out _).mono ?_); rintro r w15 ⟨rfl, b15⟩; have b16 := hid (dr.out.trans (b15.mono dr.out.size)); have A2 := hid (And.intro (lcells6 (Q14.out.below b16.out Q14.out.lt)) (lcells6 (L14.out.2.2.2.below b16.out L14.out.2.2.2.lt))); clear b15))
                      all_goals go_wp2
                      go_roundw
                      case rel => exact ⟨m + 1, by rw [HFn2.out]; rfl, by push_cast; rfl, by omega, hid ⟨L14.out.1.on b16.out, L14.out.2.1.below b16.out L14.out.2.1.lt, L14.out.2.2.1.below b16.out, L14.out.2.2.2.below b16.out L14.out.2.2.2.lt⟩⟩
                      case measure => simp only [intOf]; omega
                  · have hlt3' : ¬ (m : Int) < (an : Int) := by omega
                    have hmem : y ∈ az := HZp.out.mem_iff.2 (List.mem_filter.2 ⟨List.mem_of_getElem? HYy.out, (beh_at HL3.out.1.good.1 HKk.out HYy.out).2 ⟨hlt2, HWy.out⟩⟩)
                    have hfd : fd = true := by
                      rw [← HFd2.out, List.take_of_length_le (by rw [HAn.out]; omega), List.any_eq_true]
                      exact ⟨y, hmem, eqE_self y⟩
                    subst hfd
                    clear hmem HFn
                    have hcw := cntW_le ks i e
                    have qn : IntKind.i64.wrap (((cntW ks i e : Nat) : Int) + 1) = ((cntW ks i e + 1 : Nat) : Int) := by rw [IntWalk.i64_in _ (by omega)]; omega
                    go_wp2_with fail
                    go_roundw
                    case rel => exact ⟨i + 1, by rw [HCn.out]; first | done | rfl | (push_cast; rfl), by push_cast; rfl, by omega, hid ⟨HL3.out.1, HL3.out.2.1, HL3.out.2.2.1⟩⟩
                    case measure => simp only [intOf]; omega
          · have hlt2' : ¬ (i : Int) < (kk : Int) := by omega
            have hik : i = kk := by omega
            subst hik
            have hcb : cntW ks i e = an := by rw [← cnt_beh HL.out.1.good.1 HKk.out, ← HZp.out.length_eq]; exact HAn.out
            have HGt := hid (fun w' (k : Below wr.heap.size wr w') => lkgranted_any w.heap.size (q + 2) q (q + 1) j first ks cs e w' (HL.out.1.book.on k) (by omega) HOk.out.2.1 HOk.out.1 HOk.out.2.2)
            obtain ⟨gb, hgb⟩ : ∃ x, grantE ks e = x := ⟨_, rfl⟩
            have hgq : ((an : Int) == 0) = gb := by
              rw [← hgb, grant_at HL.out.1.good.1 HKk.out, hcb, Bool.eq_iff_iff]
              simp
            rw [hgb] at HGt
            rw [hcb]
            clear hgb hcb
            obtain ⟨y0, y1, y2, y3, y4, y5⟩ := lcells6 HL.out.2.1
            go_upto_region 39 with (first
              | (go_at_call 12; (with_reducible refine (HGt.out _ (Below.refl _ _)).mono ?_); rintro r w16 ⟨rfl, b16⟩; have L16 := hid (show PlayAt w w16 (q + 2) q (q + 1) j g first ks cs X n1 c1 Y n2 c2 ∧ Blk w16 eg 41 #[.string e.path, .int .u64 e.num, .string e.foot, .int .i64 e.mode, .int .u64 e.n, .int .i64 e.stamp] ∧ SeesE w16 ZA az from ⟨HL.out.1.on b16, HL.out.2.1.below b16 HL.out.2.1.lt, HL.out.2.2.below b16⟩); clear b16 y0 y1 y2 y3 y4 y5))
            have hbk := L16.out.1.book.low
            have hne := L16.out.1.ne
            have hgl := L16.out.1.box.lt
            have hGo := hid L16.out.1.good.1
            have N0 : Hid (BkK w16 w.heap.size (q + 2) q (q + 1) j first (leftE ks (az.take 0)) cs) := hid (by
              rw [List.take_zero, left_nil]
              exact L16.out.1.book)
            have M0 := hid L16.out.2.1
            have Z0 := hid L16.out.2.2
            have W0 := hid L16.out.1.bel
            clear L16 HL HGt hgq
            go_wp2_with fail
            go_loopw [128] (fun mv wr => ∃ m : Nat, mv = .int .i64 (m : Int) ∧ m ≤ an ∧ Hid (BkK wr w.heap.size (q + 2) q (q + 1) j first (leftE ks (az.take m)) cs ∧ Blk wr eg 41 #[.string e.path, .int .u64 e.num, .string e.foot, .int .i64 e.mode, .int .u64 e.n, .int .i64 e.stamp] ∧ SeesE wr ZA az ∧ Below w.heap.size w wr)) (fun mv _ => an - (intOf mv).toNat)
            case atStart => exact ⟨0, rfl, by omega, hid ⟨N0.out, M0.out, Z0.out, W0.out⟩⟩
            case round =>
              obtain ⟨m, rfl, hm, HB4⟩ := hrel
              by_cases hlt4 : m < an
              · have hlt4' : (m : Int) < (an : Int) := by omega
                obtain ⟨a, ha⟩ : ∃ a, az[m]? = some a := ⟨_, List.getElem?_eq_getElem (by rw [HAn.out]; exact hlt4)⟩
                have HAa := hid ha
                have hak : a ∈ ks := (List.mem_filter.1 (HZp.out.mem_iff.1 (List.mem_of_getElem? ha))).1
                have HOa := hid (hGo.out.keys a hak)
                have HLf := hid (show leftE ks (az.take (m + 1)) = rmE (leftE ks (az.take m)) a.path a.num a.foot by rw [take_snoc' ha]; exact left_snoc hGo.out hak)
                obtain ⟨ab, ao, hA2, hab, y0, y1, y2, y3, y4, y5⟩ := HB4.out.2.2.1.at_ ha
                subst hA2
                have qm : IntKind.i64.wrap ((m : Int) + 1) = ((m + 1 : Nat) : Int) := by rw [IntWalk.i64_in _ (by omega)]; omega
                clear ha hab hak
                go_upto_region 42 with fail
                obtain ⟨w17, hw17⟩ : ∃ w17, wr.alloc (.cells #[.string a.path, .int .u64 a.num, .string a.foot, .int .i64 a.mode, .int .u64 a.n, .int .i64 a.stamp] 41) = w17 := ⟨_, rfl⟩
                obtain ⟨Q17, K17⟩ := lone_new hw17
                have N17 := hid (HB4.out.1.on K17.out)
                have R17 := hid (And.intro (HB4.out.2.1.below K17.out HB4.out.2.1.lt) (And.intro (HB4.out.2.2.1.below K17.out) (below_on HB4.out.2.2.2 K17.out)))
                obtain ⟨ag, hag⟩ : ∃ x, wr.heap.size = x := ⟨_, rfl⟩
                rw [hag] at Q17 ⊢
                rw [hw17]
                clear hw17 hag K17 HB4 y0 y1 y2 y3 y4 y5
                obtain ⟨y0, y1, y2, y3, y4, y5⟩ := lcells6 Q17.out
                have HRm := hid (lkremove_any w.heap.size (q + 2) q (q + 1) j first (leftE ks (az.take m)) cs a.path a.num a.foot w17 N17.out HOa.out.2.1 HOa.out.1 HOa.out.2.2)
                go_wp2_with (first
                  | (go_at_call 16; (with_reducible refine HRm.out.mono ?_); rintro r w18 ⟨rfl, k18, t18⟩
                     have t18' := t18.more (T := OwnK q (q + 1)) (fun i _ e => .inl e)
                     have R18 := hid (And.intro (R17.out.1.turns t18 (by have := HEg.out; omega)) (And.intro (R17.out.2.1.turns t18' N17.out.bare) (R17.out.2.2.trans (t18.below (B := w.heap.size) R17.out.2.2.size (fun i hi e => by omega)))))
                     have N18 := hid k18
                     clear t18 t18' k18 y0 y1 y2 y3 y4 y5))
                go_roundw
                case rel => exact ⟨m + 1, by push_cast; rfl, by omega, hid ⟨by rw [HLf.out]; exact N18.out, R18.out⟩⟩
                case measure => simp only [intOf]; omega
              · have hlt4' : ¬ (m : Int) < (an : Int) := by omega
                have hfin : grantE (leftE ks (az.take m)) e = true := by
                  rw [List.take_of_length_le (by rw [HAn.out]; omega)]
                  exact grant_left hGo.out HKk.out HZp.out
                have HGf := hid (lkgranted_any w.heap.size (q + 2) q (q + 1) j first (leftE ks (az.take m)) cs e wr HB4.out.1 (by omega) HOk.out.2.1 HOk.out.1 HOk.out.2.2)
                rw [hfin] at HGf
                clear hfin
                obtain ⟨y0, y1, y2, y3, y4, y5⟩ := lcells6 HB4.out.2.1
                go_wp2_with (first
                  | (go_at_call 12; (with_reducible refine HGf.out.mono ?_); rintro r w19 ⟨rfl, b19⟩; have B19 := hid (below_on HB4.out.2.2.2 b19); clear b19))
                go_ret
                exact ⟨rfl, B19.out⟩
end Go.Proofs.Ytnpnboegfokfeaa
