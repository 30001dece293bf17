/-
  LockPlays: its walk.
-/
import Derived.Test.YtgjbhlianlbflaaGreatLkCouldD
import Derived.BigQuiet
namespace Go.Proofs.YtgjbhlianlbflaaGreat
open Go.ChangeShapes Go.WideShapes Go.ChangeAt Go.RowKit Go.Maps Go.WideMaps
set_option linter.unusedVariables false
set_option linter.unusedSimpArgs false

theorem lkpbelow_drew (w : World) (n : Nat) : Below w.heap.size w (w.drewN n) := ⟨rfl, rfl, rfl, Nat.le_refl _, fun _ _ => rfl⟩
theorem DocK.seP {w : World} {first : Int} {l : List EnL} {cs : CnL} {A A' : Option Addr} {ln c n c' : Nat} (h : DocK w (.agg #[.int .u64 first, .slice A ln c, .slice A' n c']) first l cs) : SeesE w A l ∧ l.length = ln := by
  obtain ⟨B, d, B', d', h1, h2, h3, h4, h5⟩ := h
  injection h1 with h1
  injection h1 with h1
  injection h1 with _ h1
  injection h1 with e1 h1
  injection e1 with x1 x2 x3
  subst x1 x2 x3
  exact ⟨h4, rfl⟩
theorem getE_at {first : Int} {l : List EnL} {cs : CnL} (h : GoodK first l cs) {e : EnL} (he : e ∈ l) : getE l e.path e.num e.foot = e ∧ (findE l e.path e.num e.foot).isSome = true := by
  unfold getE
  rw [h.find he]
  exact ⟨rfl, rfl⟩
theorem grant_next {first : Int} {l : List EnL} {cs : CnL} (h : GoodK first l cs) {e : EnL} (he : e ∈ l) : grantE l ⟨e.path, e.num, e.foot, e.mode, e.n + 1, e.stamp⟩ = false := by
  unfold grantE
  dsimp only
  rw [(getE_at h he).1]
  have : eqE e ⟨e.path, e.num, e.foot, e.mode, e.n + 1, e.stamp⟩ = false := by
    cases hq : eqE e ⟨e.path, e.num, e.foot, e.mode, e.n + 1, e.stamp⟩ with
    | false => rfl
    | true =>
      have := congrArg EnL.n (eqE_iff.1 hq)
      dsimp only at this
      omega
  rw [this]
  simp
theorem grantP_iff {first : Int} {l : List EnL} {cs : CnL} (h : GoodK first l cs) {e : EnL} (he : e ∈ l) : grantE l e = freeE l e := by
  unfold grantE
  rw [(getE_at h he).1, (getE_at h he).2, eqE_self]
  simp
set_option maxRecDepth 100000 in
set_option maxHeartbeats 8000000 in
theorem lkplays_law (first : Int) (A : Option Addr) (l : List OpK) (ca : Nat) (p : ByteArray) (n0 mode : Int) (w : World) (hf : IsUk first) (h : SeesOp w A l) (hm : ∀ o ∈ l, MadeK o) (hl : l.length ≤ 9223372036854775807) (hpm : p.size ≤ 9223372036854775807) :
    Calls Tryz.prog 3 #[.int .u64 first, .slice A l.length ca, .string p, .int .u64 n0, .int .i64 mode] w (Asks (.bool true) w) := by
  have HA := hid (fun w => lkanchor_any w)
  have HF := hid (fun w' (k : Below w.heap.size w w') => lkfits_any A l ca 40 w' (h.below k) hl)
  have HN := hid (fun w => lknew_any first w hf)
  have HS := hid h
  have HM := hid hm
  have HFi := hid hf
  obtain ⟨ft, hft⟩ : ∃ x, fitsK l 40 = x := ⟨_, rfl⟩
  have HFt := hid hft
  rw [hft] at HF
  obtain ⟨ln, hln⟩ : ∃ x, l.length = x := ⟨_, rfl⟩
  have HLN := hid hln
  rw [hln] at HF hl ⊢
  clear h hm hf hft hln
  go_enter Tryz.func3, Tryz.ntmps3
  cases ft with
  | false =>
    go_wp2_with (first
      | (go_at_call 6; (with_reducible refine (HA.out _).mono ?_); rintro e w1 ⟨rfl, b1⟩; have B1 := hid b1; clear b1)
      | (go_at_call 7; (with_reducible refine (HF.out _ B1.out).mono ?_); rintro e w2 ⟨rfl, b2⟩; have B2 := hid (below_on B1.out b2); clear b2))
    go_ret
    exact ⟨rfl, B2.out⟩
  | true =>
    obtain ⟨HPa, hl40⟩ : Hid (∀ o ∈ l, o.path.size ≤ 100) ∧ ln ≤ 40 := by
      obtain ⟨x1, x2⟩ := fits_iff HFt.out
      exact ⟨hid x1, by rw [HLN.out] at x2; omega⟩
    by_cases hpb : 100 < p.size
    · have hpb1 : (100 : Int) < (p.size : Int) := by omega
      go_wp2_with (first
        | (go_at_call 6; (with_reducible refine (HA.out _).mono ?_); rintro e w1 ⟨rfl, b1⟩; have B1 := hid b1; clear b1)
        | (go_at_call 7; (with_reducible refine (HF.out _ B1.out).mono ?_); rintro e w2 ⟨rfl, b2⟩; have B2 := hid (below_on B1.out b2); clear b2))
      go_ret
      exact ⟨rfl, B2.out⟩
    have hpb1 : ¬ (100 : Int) < (p.size : Int) := by omega
    have hpk : OkK p := by unfold OkK; omega
    go_upto_region 6 with (first
      | (go_at_call 6; (with_reducible refine (HA.out _).mono ?_); rintro e w1 ⟨rfl, b1⟩; have B1 := hid b1; clear b1)
      | (go_at_call 7; (with_reducible refine (HF.out _ B1.out).mono ?_); rintro e w2 ⟨rfl, b2⟩; have B2 := hid (below_on B1.out b2); clear b2)
      | (go_at_call 8; (with_reducible refine (HN.out _).mono ?_); rintro e w3 ⟨rfl, b3, k3⟩; have B3 := hid (below_on B2.out b3); have K3 := hid (And.intro k3 (And.intro B2.out.size b3.size)); clear b3 k3))
    obtain ⟨q, hq⟩ : ∃ x, w2.heap.size = x := ⟨_, rfl⟩
    rw [hq] at K3 ⊢
    clear hq
    go_upto_region 7 with fail
    obtain ⟨w4, hw4⟩ : ∃ w4, w3.alloc (.cells #[.int .u64 first, .slice none 0 0, .slice none 0 0] 31) = w4 := ⟨_, rfl⟩
    obtain ⟨g, hg⟩ : ∃ x, w3.heap.size = x := ⟨_, rfl⟩
    have P0 : Hid (PlayAt w w4 (q + 2) q (q + 1) 0 g first [] [] none 0 0 none 0 0) := hid (by
      rw [← hw4, ← hg]
      have hb : BkK w3 w.heap.size (q + 2) q (q + 1) 0 first [] [] := by
        have := K3.out.1
        exact ⟨this.blk, this.es, this.ct, this.good, this.many, this.ne, by have := K3.out.2.1; omega⟩
      have hlt := hb.lt
      have al := (Below.refl w3.heap.size w3).alloc (Nat.le_refl _) (.cells #[.int .u64 first, .slice none 0 0, .slice none 0 0] 31)
      exact ⟨hb.on al, ⟨GoodK.nil HFi.out, Nat.le_refl _, fun e he => (by cases he), Nat.le_refl _⟩, DocK.nil _ _, Blk.new w3 31 _, below_on B3.out al, by have := B3.out.size; omega⟩)
    rw [hw4, hg]
    clear hw4 hg
    go_wp2_with fail
    go_loopw [38] (fun iv wr => ∃ (j : Nat) (ks : List EnL) (cs : CnL) (X : Option Addr) (n1 c1 : Nat) (Y : Option Addr) (n2 c2 : Nat), iv = .int .i64 (j : Int) ∧ j ≤ ln ∧ Hid (PlayAt w wr (q + 2) q (q + 1) j g first ks cs X n1 c1 Y n2 c2)) (fun iv _ => ln - (intOf iv).toNat)
    case atStart => exact ⟨0, [], [], none, 0, 0, none, 0, 0, rfl, by omega, P0⟩
    case round =>
      obtain ⟨j, ks, cs, X, n1, c1, Y, n2, c2, rfl, hj, HP⟩ := hrel
      by_cases hlt : j < ln
      · have hlt' : (j : Int) < (ln : Int) := by omega
        obtain ⟨e, he⟩ : ∃ e, l[j]? = some e := ⟨_, List.getElem?_eq_getElem (by rw [HLN.out]; exact hlt)⟩
        have HE := hid he
        have HMe := hid (HM.out e (List.mem_of_getElem? he))
        have HPe := hid (HPa.out e (List.mem_of_getElem? he))
        obtain ⟨ob, oo, hA, hob, y0, y1, y2, y3, y4⟩ := (HS.out.below HP.out.bel).at_ he
        subst hA
        clear he hob
        have qi : IntKind.i64.wrap ((j : Int) + 1) = ((j + 1 : Nat) : Int) := by rw [IntWalk.i64_in _ (by omega)]; omega
        have HSt := hid (fun w' (k : PlayAt w w' (q + 2) q (q + 1) j g first ks cs X n1 c1 Y n2 c2) => lkstep_same w.heap.size (q + 2) q (q + 1) j first ks cs (.agg #[.int .u64 first, .slice X n1 c1, .slice Y n2 c2]) first ks cs j e w' k.book (by omega) k.doc k.good (by omega) HMe.out HPe.out ⟨rfl, rfl, rfl⟩)
        go_upto_region 10 with fail
        obtain ⟨w5, hw5⟩ : ∃ w5, wr.alloc (.cells #[.int .i64 e.kd, .int .i64 e.mo, .string e.path, .int .u64 e.u, .string e.foot] 35) = w5 := ⟨_, rfl⟩
        obtain ⟨E5, K5⟩ := lone_new hw5
        have P5 := hid (HP.out.on K5.out)
        obtain ⟨og, hog⟩ : ∃ x, wr.heap.size = x := ⟨_, rfl⟩
        rw [hog] at E5 ⊢
        rw [hw5]
        clear hw5 hog K5 y0 y1 y2 y3 y4
        obtain ⟨b0, b1, b2⟩ := P5.out.c0
        have y0 := (E5.out.cell 0).trans rfl
        have y1 := (E5.out.cell 1).trans rfl
        have y2 := (E5.out.cell 2).trans rfl
        have y3 := (E5.out.cell 3).trans rfl
        have y4 := (E5.out.cell 4).trans rfl
        go_upto_region 14 with (first
          | (go_at_call 9; (with_reducible refine (HSt.out _ P5.out).mono ?_); rintro r w6 ⟨v6, t6, rfl, k6, d6, u6, ht6⟩; obtain rfl := ht6 rfl rfl rfl; obtain ⟨B, m1, d1, B', m2, d2, rfl⟩ := d6.form; have P7 := hid (P5.out.step HMe.out k6 d6 u6); have hbx := P5.out.box.turns u6 (fun e => by have := P5.out.ne; rcases e with e | e <;> omega); clear k6 d6 u6 b0 b1 b2 y0 y1 y2 y3 y4; obtain ⟨b0, b1, b2⟩ := lcells3K hbx; have z0 := hbx.frozen 0; have z1 := hbx.frozen 1; have z2 := hbx.frozen 2))
        unfold put3K at P7
        obtain ⟨w7, hw7⟩ : ∃ z, ((w6.setCell ⟨g, 0, none⟩ (.int .u64 first)).setCell ⟨g, 1, none⟩ (.slice B m1 d1)).setCell ⟨g, 2, none⟩ (.slice B' m2 d2) = z := ⟨_, rfl⟩
        rw [hw7] at P7 ⊢
        obtain ⟨ks2, hks2⟩ : ∃ x, stpL first ks cs e = x := ⟨_, rfl⟩
        obtain ⟨cs2, hcs2⟩ : ∃ x, stpC first ks cs e = x := ⟨_, rfl⟩
        rw [hks2, hcs2] at P7
        clear hw7 hks2 hcs2 b0 b1 b2 z0 z1 z2 hbx HSt P5 HP E5
        have HLn : Hid (j + 1 ≤ 1000000) := hid (by omega)
        have HCk : Hid (∀ w', PlayAt w w' (q + 2) q (q + 1) (j + 1) g first ks2 cs2 B m1 d1 B' m2 d2 → Calls Tryz.prog 10 #[.pointer (some ⟨q + 2, 0, none⟩), .string p, .int .u64 n0] w' (Asks (.bool (checkE ks2 p n0)) w')) := hid (fun w' k => lkcheck_any w.heap.size (q + 2) q (q + 1) (j + 1) first ks2 cs2 p n0 w' k.book HLn.out)
        have HDc : Hid (∀ w', PlayAt w w' (q + 2) q (q + 1) (j + 1) g first ks2 cs2 B m1 d1 B' m2 d2 → Calls Tryz.prog 11 #[(.agg #[.int .u64 first, .slice B m1 d1, .slice B' m2 d2]), .string p, .int .u64 n0] w' (Asks (.bool (checkE ks2 p n0)) w')) := hid (fun w' k => by rw [← check_same k.good.1]; exact dlcheck_any (.agg #[.int .u64 first, .slice B m1 d1, .slice B' m2 d2]) first ks2 cs2 p n0 w' k.doc (by have := k.good.2.1; have := HLn.out; omega) (fun e he => by have := size_right (k.good.1.ok e he).1; omega))
        have HCo : Hid (∀ w', PlayAt w w' (q + 2) q (q + 1) (j + 1) g first ks2 cs2 B m1 d1 B' m2 d2 → Calls Tryz.prog 12 #[.pointer (some ⟨q + 2, 0, none⟩), .string p, .int .i64 mode] w' (Asks (.bool (couldE ks2 p mode)) w')) := hid (fun w' k => lkcould_any w.heap.size (q + 2) q (q + 1) (j + 1) first ks2 cs2 p mode w' k.book HLn.out hpk)
        have HDo : Hid (∀ w', PlayAt w w' (q + 2) q (q + 1) (j + 1) g first ks2 cs2 B m1 d1 B' m2 d2 → Calls Tryz.prog 13 #[(.agg #[.int .u64 first, .slice B m1 d1, .slice B' m2 d2]), .string p, .int .i64 mode] w' (Asks (.bool (couldE ks2 p mode)) w')) := hid (fun w' k => by rw [← could_same]; exact dlcould_any (.agg #[.int .u64 first, .slice B m1 d1, .slice B' m2 d2]) first ks2 cs2 p mode w' k.doc (by have := k.good.2.1; have := HLn.out; omega) (by omega) (fun e he => by have := size_right (k.good.1.ok e he).1; omega))
        have HCn : Hid (∀ w', PlayAt w w' (q + 2) q (q + 1) (j + 1) g first ks2 cs2 B m1 d1 B' m2 d2 → Calls Tryz.prog 14 #[.pointer (some ⟨q + 2, 0, none⟩), .string p] w' (Asks (.int .u64 (cntE first cs2 p)) w')) := hid (fun w' k => (lkcounter_any w.heap.size (q + 2) q (q + 1) (j + 1) first ks2 cs2 p w' k.book hpk).mono (by rintro e w9 ⟨rfl, rfl⟩; exact ⟨rfl, Below.refl _ _⟩))
        have HDn : Hid (∀ w', PlayAt w w' (q + 2) q (q + 1) (j + 1) g first ks2 cs2 B m1 d1 B' m2 d2 → Calls Tryz.prog 15 #[(.agg #[.int .u64 first, .slice B m1 d1, .slice B' m2 d2]), .string p] w' (Asks (.int .u64 (cntE first cs2 p)) w')) := hid (fun w' k => dlcounter_any (.agg #[.int .u64 first, .slice B m1 d1, .slice B' m2 d2]) first ks2 cs2 p w' k.doc (by have := k.good.2.2.2; have := HLn.out; omega))
        obtain ⟨ck, hck⟩ : ∃ x, checkE ks2 p n0 = x := ⟨_, rfl⟩
        obtain ⟨cu, hcu⟩ : ∃ x, couldE ks2 p mode = x := ⟨_, rfl⟩
        obtain ⟨cn, hcn⟩ : ∃ x, cntE first cs2 p = x := ⟨_, rfl⟩
        rw [hck] at HCk HDc
        rw [hcu] at HCo HDo
        rw [hcn] at HCn HDn
        clear hck hcu hcn
        have dr := hid (below_drew (Below.refl w7.heap.size w7))
        have PW := hid (P7.out.on dr.out)
        clear P7 dr
        have e1 : (ck == ck) = true := by simp
        have e2 : (cu == cu) = true := by simp
        have e3 : (cn == cn) = true := by simp
        go_region_held3 (fun W => W.cell? ⟨g, 0, none⟩ = some (.int .u64 first) ∧ W.cell? ⟨g, 1, none⟩ = some (.slice B m1 d1) ∧ W.cell? ⟨g, 2, none⟩ = some (.slice B' m2 d2))
          (with_reducible exact PW.out.c0)
          (first
            | (go_at_call 10; (with_reducible refine (HCk.out _ PW.out).mono ?_); rintro r wx ⟨rfl, bx⟩; have PX := hid (PW.out.on bx); clear PW bx; have PW := PX; clear PX)
            | (go_at_call 11; (with_reducible refine (HDc.out _ PW.out).mono ?_); rintro r wx ⟨rfl, bx⟩; have PX := hid (PW.out.on bx); clear PW bx; have PW := PX; clear PX)
            | (go_at_call 12; (with_reducible refine (HCo.out _ PW.out).mono ?_); rintro r wx ⟨rfl, bx⟩; have PX := hid (PW.out.on bx); clear PW bx; have PW := PX; clear PX)
            | (go_at_call 13; (with_reducible refine (HDo.out _ PW.out).mono ?_); rintro r wx ⟨rfl, bx⟩; have PX := hid (PW.out.on bx); clear PW bx; have PW := PX; clear PX)
            | (go_at_call 14; (with_reducible refine (HCn.out _ PW.out).mono ?_); rintro r wx ⟨rfl, bx⟩; have PX := hid (PW.out.on bx); clear PW bx; have PW := PX; clear PX)
            | (go_at_call 15; (with_reducible refine (HDn.out _ PW.out).mono ?_); rintro r wx ⟨rfl, bx⟩; have PX := hid (PW.out.on bx); clear PW bx; have PW := PX; clear PX))
        all_goals go_wp2
        go_roundw
        case rel => exact ⟨j + 1, _, _, _, _, _, _, _, _, by push_cast; rfl, by omega, PW⟩
        case measure => simp only [intOf]; omega
      · have hlt' : ¬ (j : Int) < (ln : Int) := by omega
        have hjl : j = ln := by omega
        subst hjl
        have HLs := hid (lklist_any w.heap.size (q + 2) q (q + 1) j first ks cs wr HP.out.book (by omega))
        unfold OutE at HLs
        have hn1 : ks.length = n1 := HP.out.doc.seP.2
        go_upto_region 18 with (first
          | (go_at_call 16; (with_reducible refine HLs.out.mono ?_); rintro r w7 ⟨ds, LA, lc, hri, h2, rfl, h3, h4, _, h6, b7⟩; have HRi := hid hri; have HDs := hid h3; have HPm := hid h2; have P7 := hid (HP.out.on b7); clear hri h2 h3 h4 h6 b7))
        obtain ⟨dn, hdn⟩ : ∃ x, ds.length = x := ⟨_, rfl⟩
        have HDn := hid hdn
        rw [hdn]
        have hdk : dn = n1 := by
          rw [← hdn, ← hn1, HPm.out.length_eq]
          congr 1
          exact List.filter_eq_self.2 (fun _ _ => rfl)
        have hdj : dn ≤ j := by rw [hdk, ← hn1]; exact P7.out.good.2.1
        have HIn : Hid (∀ y ∈ ds, y ∈ ks) := hid (fun y hy => (List.mem_filter.1 (HPm.out.mem_iff.1 hy)).1)
        clear hdn HLs HP hn1
        subst hdk
        obtain ⟨b0, b1, b2⟩ := P7.out.c0
        go_wp2_with fail
        clear b0 b1 b2
        go_loopw [91] (fun iv wr => ∃ i : Nat, iv = .int .i64 (i : Int) ∧ i ≤ dn ∧ Hid (PlayAt w wr (q + 2) q (q + 1) j g first ks cs X dn c1 Y n2 c2 ∧ SeesE wr LA ds)) (fun iv _ => dn - (intOf iv).toNat)
        case atStart => exact ⟨0, rfl, by omega, hid ⟨P7.out, HDs.out⟩⟩
        case round =>
          obtain ⟨i, rfl, hi, HL⟩ := hrel
          by_cases hlt2 : i < dn
          · skip
            have hlt2' : (i : Int) < (dn : Int) := by omega
            obtain ⟨e, he⟩ : ∃ e, ds[i]? = some e := ⟨_, List.getElem?_eq_getElem (by rw [HDn.out]; exact hlt2)⟩
            have HX := hid he
            have hmem := HIn.out e (List.mem_of_getElem? he)
            have HMem := hid hmem
            obtain ⟨kk, hkk⟩ := List.mem_iff_getElem?.1 hmem
            have HKk := hid hkk
            have HOk := hid (HL.out.1.good.1.keys e hmem)
            have HGd := hid HL.out.1.good.1
            have HNn := hid (HGd.out.ok e hmem).2.2.2
            obtain ⟨xb, xo, hX, hxb, _⟩ := HL.out.1.doc.seP.1.atC hkk
            subst hX
            have hkn1 : (kk : Int) < (dn : Int) := by have h1 := (List.getElem?_eq_some_iff.1 hkk).1; have h2 := HL.out.1.doc.seP.2; omega
            have hkn : ¬ (kk : Int) < 0 := by omega
            obtain ⟨lb, lo, hLA, hlb, y0, y1, y2, y3, y4, y5⟩ := HL.out.2.atC he
            subst hLA
            have qi : IntKind.i64.wrap ((i : Int) + 1) = ((i + 1 : Nat) : Int) := by rw [IntWalk.i64_in _ (by omega)]; omega
            have qn : IntKind.u64.wrap (e.n + 1) = e.n + 1 := IntWalk.u64_in _ (by have := HNn.out; have := HGd.out.hf; unfold IsUk at this; omega)
            clear he hmem hkk hxb hlb
            go_upto_region 23 with fail
            obtain ⟨w8, hw8⟩ : ∃ w8, wr.alloc (.cells #[.string e.path, .int .u64 e.num, .string e.foot, .int .i64 e.mode, .int .u64 e.n, .int .i64 e.stamp] 44) = w8 := ⟨_, rfl⟩
            obtain ⟨E8, K8⟩ := lone_new hw8
            have L8 := hid (And.intro (HL.out.1.on K8.out) (HL.out.2.below K8.out))
            have KW := hid (below_on (Below.refl wr.heap.size wr) K8.out)
            obtain ⟨eg, heg⟩ : ∃ x, wr.heap.size = x := ⟨_, rfl⟩
            have HEg := hid heg
            rw [heg] at E8 ⊢
            rw [hw8]
            clear hw8 heg K8 y0 y1 y2 y3 y4 y5
            obtain ⟨b0, b1, b2⟩ := L8.out.1.c0
            obtain ⟨y0, y1, y2, y3, y4, y5⟩ := lcells6 E8.out
            have HFd : Hid (∀ w', PlayAt w w' (q + 2) q (q + 1) j g first ks cs (some ⟨xb, xo, none⟩) dn c1 Y n2 c2 → Calls Tryz.prog 17 #[(.agg #[.int .u64 first, .slice (some ⟨xb, xo, none⟩) dn c1, .slice Y n2 c2]), .string e.path, .int .u64 e.num, .string e.foot] w' (Asks (.int .i64 (kk : Int)) w')) := hid (fun w' k => by rw [← (idx_pos HGd.out HKk.out).1]; exact dlfind_any (.agg #[.int .u64 first, .slice (some ⟨xb, xo, none⟩) dn c1, .slice Y n2 c2]) first ks cs e.path e.num e.foot w' k.doc (by have := k.good.2.1; omega))
            go_upto_region 24 with (first
              | (go_at_call 17; (with_reducible refine (HFd.out _ L8.out.1).mono ?_); rintro r w9 ⟨rfl, b9⟩; have L9 := hid (And.intro (L8.out.1.on b9) (L8.out.2.below b9)); have E9 := hid (E8.out.below b9 E8.out.lt); have KW9 := hid (below_on KW.out b9); clear b9 b0 b1 b2 y0 y1 y2 y3 y4 y5))
            clear L8 E8 KW HFd
            have S9 : Hid (∀ W, Below w9.heap.size w9 W → ((W.cell? ⟨eg, 0, none⟩ = some (.string e.path) ∧ W.cell? ⟨eg, 1, none⟩ = some (.int .u64 e.num) ∧ W.cell? ⟨eg, 2, none⟩ = some (.string e.foot) ∧ W.cell? ⟨eg, 3, none⟩ = some (.int .i64 e.mode) ∧ W.cell? ⟨eg, 4, none⟩ = some (.int .u64 e.n) ∧ W.cell? ⟨eg, 5, none⟩ = some (.int .i64 e.stamp)) ∧ (W.cell? ⟨g, 0, none⟩ = some (.int .u64 first) ∧ W.cell? ⟨g, 1, none⟩ = some (.slice (some ⟨xb, xo, none⟩) dn c1) ∧ W.cell? ⟨g, 2, none⟩ = some (.slice Y n2 c2)) ∧ (W.cell? ⟨xb, xo + kk * 6, none⟩ = some (.string e.path) ∧ W.cell? ⟨xb, xo + kk * 6 + 1, none⟩ = some (.int .u64 e.num) ∧ W.cell? ⟨xb, xo + kk * 6 + 2, none⟩ = some (.string e.foot) ∧ W.cell? ⟨xb, xo + kk * 6 + 3, none⟩ = some (.int .i64 e.mode) ∧ W.cell? ⟨xb, xo + kk * 6 + 4, none⟩ = some (.int .u64 e.n) ∧ W.cell? ⟨xb, xo + kk * 6 + 5, none⟩ = some (.int .i64 e.stamp))) ∧ PlayAt w W (q + 2) q (q + 1) j g first ks cs (some ⟨xb, xo, none⟩) dn c1 Y n2 c2 ∧ SeesE W (some ⟨lb, lo, none⟩) ds ∧ Blk W eg 44 #[.string e.path, .int .u64 e.num, .string e.foot, .int .i64 e.mode, .int .u64 e.n, .int .i64 e.stamp] ∧ Below wr.heap.size wr W) := hid (fun W hb => by
              have hp := L9.out.1.on hb
              have he := E9.out.below hb E9.out.lt
              obtain ⟨ab, ao, ha, _, u0, u1, u2, u3, u4, u5⟩ := hp.doc.seP.1.atC HKk.out
              injection ha with ha
              injection ha with ha1 ha2
              subst ha1 ha2
              exact ⟨⟨lcells6 he, hp.c0, u0, u1, u2, u3, u4, u5⟩, hp, L9.out.2.below hb, he, below_on KW9.out hb⟩)
            have HOf : Hid (∀ w, Calls Tryz.prog 18 #[.agg #[.string e.path, .int .u64 e.num, .string e.foot, .int .i64 e.mode, .int .u64 e.n, .int .i64 e.stamp]] w (Asks (.agg #[.string e.path, .int .u64 e.num, .string e.foot, .int .i64 e.mode, .int .u64 e.n, .int .i64 e.stamp]) w)) := hid (fun w => lkof_any e w)
            have q9 : ∀ w, (Op.equalIn 10000 47 (.agg #[.string e.path, .int .u64 e.num, .string e.foot, .int .i64 e.mode, .int .u64 e.n, .int .i64 e.stamp]) (.agg #[.string e.path, .int .u64 e.num, .string e.foot, .int .i64 e.mode, .int .u64 e.n, .int .i64 e.stamp])).run Tryz.prog w = .ok true w := fun w => by have := eqk_entD e e w; rw [eqE_self] at this; exact this
            have HGr : Hid (∀ w', PlayAt w w' (q + 2) q (q + 1) j g first ks cs (some ⟨xb, xo, none⟩) dn c1 Y n2 c2 → Calls Tryz.prog 19 #[.pointer (some ⟨q + 2, 0, none⟩), .agg #[.string e.path, .int .u64 e.num, .string e.foot, .int .i64 e.mode, .int .u64 e.n, .int .i64 e.stamp]] w' (Asks (.bool (freeD ks kk e)) w')) := hid (fun w' k => by rw [← freeD_at HGd.out HKk.out, ← grantP_iff HGd.out HMem.out]; exact lkgranted_any w.heap.size (q + 2) q (q + 1) j first ks cs e w' k.book (by omega) HOk.out.2.1 HOk.out.1 HOk.out.2.2)
            have HGq : Hid (∀ w', PlayAt w w' (q + 2) q (q + 1) j g first ks cs (some ⟨xb, xo, none⟩) dn c1 Y n2 c2 → Calls Tryz.prog 20 #[(.agg #[.int .u64 first, .slice (some ⟨xb, xo, none⟩) dn c1, .slice Y n2 c2]), .int .i64 (kk : Int)] w' (Asks (.bool (freeD ks kk e)) w')) := hid (fun w' k => dlgranted_any (.agg #[.int .u64 first, .slice (some ⟨xb, xo, none⟩) dn c1, .slice Y n2 c2]) first ks cs kk e w' k.doc (by have := k.good.2.1; omega) HKk.out (fun e he => by have := size_right (k.good.1.ok e he).1; omega))
            obtain ⟨gb, hgb⟩ : ∃ x, freeD ks kk e = x := ⟨_, rfl⟩
            rw [hgb] at HGr HGq
            clear hgb
            have e1 : (gb == gb) = true := by simp
            have SW := hid (S9.out _ (below_drew (Below.refl w9.heap.size w9)))
            have BW := hid (below_drew (Below.refl w9.heap.size w9))
            clear L9 E9 KW9
            go_region_held3 (fun W => (W.cell? ⟨eg, 0, none⟩ = some (.string e.path) ∧ W.cell? ⟨eg, 1, none⟩ = some (.int .u64 e.num) ∧ W.cell? ⟨eg, 2, none⟩ = some (.string e.foot) ∧ W.cell? ⟨eg, 3, none⟩ = some (.int .i64 e.mode) ∧ W.cell? ⟨eg, 4, none⟩ = some (.int .u64 e.n) ∧ W.cell? ⟨eg, 5, none⟩ = some (.int .i64 e.stamp)) ∧ (W.cell? ⟨g, 0, none⟩ = some (.int .u64 first) ∧ W.cell? ⟨g, 1, none⟩ = some (.slice (some ⟨xb, xo, none⟩) dn c1) ∧ W.cell? ⟨g, 2, none⟩ = some (.slice Y n2 c2)) ∧ (W.cell? ⟨xb, xo + kk * 6, none⟩ = some (.string e.path) ∧ W.cell? ⟨xb, xo + kk * 6 + 1, none⟩ = some (.int .u64 e.num) ∧ W.cell? ⟨xb, xo + kk * 6 + 2, none⟩ = some (.string e.foot) ∧ W.cell? ⟨xb, xo + kk * 6 + 3, none⟩ = some (.int .i64 e.mode) ∧ W.cell? ⟨xb, xo + kk * 6 + 4, none⟩ = some (.int .u64 e.n) ∧ W.cell? ⟨xb, xo + kk * 6 + 5, none⟩ = some (.int .i64 e.stamp)))
              (with_reducible exact SW.out.1)
              (first
                | (go_at_call 18; (with_reducible refine (HOf.out _).mono ?_); rintro r wx ⟨rfl, bx⟩; have BX := hid (below_on BW.out bx); clear BW SW bx; have BW := BX; clear BX; have SW := hid (S9.out _ BW.out))
                | (go_at_call 19; (with_reducible refine (HGr.out _ SW.out.2.1).mono ?_); rintro r wx ⟨rfl, bx⟩; have BX := hid (below_on BW.out bx); clear BW SW bx; have BW := BX; clear BX; have SW := hid (S9.out _ BW.out))
                | (go_at_call 20; (with_reducible refine (HGq.out _ SW.out.2.1).mono ?_); rintro r wx ⟨rfl, bx⟩; have BX := hid (below_on BW.out bx); clear BW SW bx; have BW := BX; clear BX; have SW := hid (S9.out _ BW.out)))
            have q10 : ∀ w, (Op.equalIn 10000 44 (.agg #[.string e.path, .int .u64 e.num, .string e.foot, .int .i64 e.mode, .int .u64 e.n, .int .i64 e.stamp]) (.agg #[.string e.path, .int .u64 e.num, .string e.foot, .int .i64 e.mode, .int .u64 e.n, .int .i64 e.stamp])).run Tryz.prog w = .ok true w := fun w => by have := eqk_ent e e w; rw [eqE_self] at this; exact this
            have HFp : Hid (∀ w', PlayAt w w' (q + 2) q (q + 1) j g first ks cs (some ⟨xb, xo, none⟩) dn c1 Y n2 c2 → Calls Tryz.prog 21 #[.pointer (some ⟨q + 2, 0, none⟩), .string e.path, .agg #[.int .u64 e.num, .string e.foot]] w' (Asks (.tuple #[.agg #[.string e.path, .int .u64 e.num, .string e.foot, .int .i64 e.mode, .int .u64 e.n, .int .i64 e.stamp], .bool true]) w')) := hid (fun w' k => by
              have := lkfind_any w.heap.size (q + 2) q (q + 1) j first ks cs e.path e.num e.foot w' k.book HOk.out.2.1 HOk.out.1 HOk.out.2.2
              rw [(getE_at HGd.out HMem.out).1, (getE_at HGd.out HMem.out).2] at this
              exact this)
            obtain ⟨⟨y0, y1, y2, y3, y4, y5⟩, _⟩ := SW.out.1
            go_upto_region 27 with (first
              | (go_at_call 21; (with_reducible refine (HFp.out _ SW.out.2.1).mono ?_); rintro r wf ⟨rfl, bx⟩; have BX := hid (below_on BW.out bx); clear BW SW bx; have BW := BX; clear BX; clear y0 y1 y2 y3 y4 y5))
            obtain ⟨wg, hwg⟩ : ∃ z, wf.alloc (.cells #[.string e.path, .int .u64 e.num, .string e.foot, .int .i64 e.mode, .int .u64 e.n, .int .i64 e.stamp] 44) = z := ⟨_, rfl⟩
            have BG : Hid (Below w9.heap.size w9 wg) := hid (by rw [← hwg]; exact BW.out.alloc BW.out.size _)
            obtain ⟨G14, _⟩ := lone_new hwg
            rw [hwg]
            clear hwg BW
            have SW := hid (S9.out _ BG.out)
            obtain ⟨⟨y0, y1, y2, y3, y4, y5⟩, _⟩ := SW.out.1
            obtain ⟨z0, z1, z2, z3, z4, z5⟩ := lcells6 G14.out
            go_upto_region 29 with fail
            clear y0 y1 y2 y3 y4 y5 z0 z1 z2 z3 z4 z5 G14
            have HGn : Hid (∀ w', PlayAt w w' (q + 2) q (q + 1) j g first ks cs (some ⟨xb, xo, none⟩) dn c1 Y n2 c2 → Calls Tryz.prog 19 #[.pointer (some ⟨q + 2, 0, none⟩), .agg #[.string e.path, .int .u64 e.num, .string e.foot, .int .i64 e.mode, .int .u64 (e.n + 1), .int .i64 e.stamp]] w' (Asks (.bool false) w')) := hid (fun w' k => by
              have := lkgranted_any w.heap.size (q + 2) q (q + 1) j first ks cs ⟨e.path, e.num, e.foot, e.mode, e.n + 1, e.stamp⟩ w' k.book (by omega) HOk.out.2.1 HOk.out.1 HOk.out.2.2
              rw [grant_next HGd.out HMem.out] at this
              exact this)
            have TAIL : Hid (∀ wz, Below w9.heap.size w9 wz → PlayAt w (wz.setCell ⟨eg, 4, none⟩ (.int .u64 (e.n + 1))) (q + 2) q (q + 1) j g first ks cs (some ⟨xb, xo, none⟩) dn c1 Y n2 c2 ∧ SeesE (wz.setCell ⟨eg, 4, none⟩ (.int .u64 (e.n + 1))) (some ⟨lb, lo, none⟩) ds ∧ Blk (wz.setCell ⟨eg, 4, none⟩ (.int .u64 (e.n + 1))) eg 44 #[.string e.path, .int .u64 e.num, .string e.foot, .int .i64 e.mode, .int .u64 (e.n + 1), .int .i64 e.stamp]) := hid (fun wz bz => by
              have hs := S9.out _ bz
              have hb : Below wr.heap.size wr (wz.setCell ⟨eg, 4, none⟩ (.int .u64 (e.n + 1))) := by
                exact hs.2.2.2.2.setCell (p := ⟨eg, 4, none⟩) (Nat.le_of_eq HEg.out) _
              refine ⟨HL.out.1.on hb, HL.out.2.below hb, ?_⟩
              have h7 := hs.2.2.2.1.set_ 4 (.int .u64 (e.n + 1))
              simp only [List.setIfInBounds_toArray, List.set_cons_succ, List.set_cons_zero] at h7
              exact h7)
            by_cases hi0 : i = 0
            · subst hi0
              obtain ⟨⟨y0, y1, y2, y3, y4, y5⟩, _⟩ := SW.out.1
              go_quiet (fail)
              have BG2 := hid (below_on BG.out (lkpbelow_drew wg nq))
              obtain ⟨⟨y0, y1, y2, y3, y4, y5⟩, _⟩ := (S9.out _ BG2.out).1
              have z4 := (S9.out _ BG2.out).2.2.2.1.frozen 4
              have TL := hid (TAIL.out _ BG2.out)
              go_upto_region 32 with fail
              obtain ⟨wk, hwk⟩ : ∃ z, (wg.drewN nq).setCell ⟨eg, 4, none⟩ (.int .u64 (e.n + 1)) = z := ⟨_, rfl⟩
              rw [hwk] at TL ⊢
              clear hwk y0 y1 y2 y3 y4 y5 z4
              obtain ⟨y0, y1, y2, y3, y4, y5⟩ := lcells6 TL.out.2.2
              go_wp2_with (first
                | (go_at_call 19; (with_reducible refine (HGn.out _ TL.out.1).mono ?_); rintro r wn ⟨rfl, bx⟩; have TN := hid (And.intro (TL.out.1.on bx) (TL.out.2.1.below bx)); clear bx y0 y1 y2 y3 y4 y5))
              go_roundw
              case rel => exact ⟨0 + 1, by push_cast; rfl, by omega, TN⟩
              case measure => simp only [intOf]; omega
            · obtain ⟨k, hk⟩ : ∃ k, k + 1 = i := ⟨i - 1, by omega⟩
              have qk : IntKind.i64.wrap ((i : Int) - 1) = (k : Int) := by rw [IntWalk.i64_in _ (by omega)]; omega
              have hkd : (k : Int) < (dn : Int) := by omega
              have hi1 : (0 : Int) < (i : Int) := by omega
              have hi2 : 0 < i := by omega
              have hi3 : decide ((0 : Int) < (i : Int)) = true := by simp; omega
              obtain ⟨y, hy⟩ : ∃ y, ds[k]? = some y := ⟨_, List.getElem?_eq_getElem (by rw [HDn.out]; omega)⟩
              have HY := hid hy
              have hyk := HIn.out y (List.mem_of_getElem? hy)
              have hord : cmpE y e < 0 := by
                obtain ⟨u1, u2⟩ := List.getElem?_eq_some_iff.1 hy
                obtain ⟨u3, u4⟩ := List.getElem?_eq_some_iff.1 HX.out
                have := List.pairwise_iff_getElem.1 HRi.out k i u1 u3 (by omega)
                rw [u2, u4] at this
                exact this
              have S10 : Hid (∀ W, Below wg.heap.size wg W → (W.cell? ⟨eg, 0, none⟩ = some (.string e.path) ∧ W.cell? ⟨eg, 1, none⟩ = some (.int .u64 e.num) ∧ W.cell? ⟨eg, 2, none⟩ = some (.string e.foot) ∧ W.cell? ⟨eg, 3, none⟩ = some (.int .i64 e.mode) ∧ W.cell? ⟨eg, 4, none⟩ = some (.int .u64 e.n) ∧ W.cell? ⟨eg, 5, none⟩ = some (.int .i64 e.stamp)) ∧ (W.cell? ⟨lb, lo + k * 6, none⟩ = some (.string y.path) ∧ W.cell? ⟨lb, lo + k * 6 + 1, none⟩ = some (.int .u64 y.num) ∧ W.cell? ⟨lb, lo + k * 6 + 2, none⟩ = some (.string y.foot) ∧ W.cell? ⟨lb, lo + k * 6 + 3, none⟩ = some (.int .i64 y.mode) ∧ W.cell? ⟨lb, lo + k * 6 + 4, none⟩ = some (.int .u64 y.n) ∧ W.cell? ⟨lb, lo + k * 6 + 5, none⟩ = some (.int .i64 y.stamp))) := hid (fun W hb => by
                have hs := S9.out _ (below_on BG.out hb)
                obtain ⟨ab, ao, ha, _, u0, u1, u2, u3, u4, u5⟩ := hs.2.2.1.atC HY.out
                injection ha with ha
                injection ha with ha1 ha2
                subst ha1 ha2
                exact ⟨hs.1.1, u0, u1, u2, u3, u4, u5⟩)
              have HCp := hid (fun w => compare_any y.path e.path w (by have := size_right (HGd.out.ok y hyk).1; omega) (by have := size_right (HGd.out.ok e HMem.out).1; omega))
              have dr := hid (below_drew (Below.refl wg.heap.size wg))
              have A1 := hid (S10.out _ dr.out)
              by_cases hpp : y.path = e.path
              · have hst : y.stamp < e.stamp := by
                  rcases (cmpE_lt y e).1 hord with h | h
                  · rw [hpp, (cmpOf_same _ _).2 rfl] at h; omega
                  · exact h.2
                have hng : ¬ e.stamp ≤ y.stamp := by omega
                have hng2 : decide (e.stamp ≤ y.stamp) = false := by simp; omega
                have ht : (y.path.toList == e.path.toList) = true := by rw [lkeq_text]; simpa using hpp
                rw [(cmpOf_same _ _).2 (show L y.path = L e.path by rw [hpp])] at HCp
                clear hy hyk hord hst hpp
                go_region_held3 (fun W => (W.cell? ⟨eg, 0, none⟩ = some (.string e.path) ∧ W.cell? ⟨eg, 1, none⟩ = some (.int .u64 e.num) ∧ W.cell? ⟨eg, 2, none⟩ = some (.string e.foot) ∧ W.cell? ⟨eg, 3, none⟩ = some (.int .i64 e.mode) ∧ W.cell? ⟨eg, 4, none⟩ = some (.int .u64 e.n) ∧ W.cell? ⟨eg, 5, none⟩ = some (.int .i64 e.stamp)) ∧ (W.cell? ⟨lb, lo + k * 6, none⟩ = some (.string y.path) ∧ W.cell? ⟨lb, lo + k * 6 + 1, none⟩ = some (.int .u64 y.num) ∧ W.cell? ⟨lb, lo + k * 6 + 2, none⟩ = some (.string y.foot) ∧ W.cell? ⟨lb, lo + k * 6 + 3, none⟩ = some (.int .i64 y.mode) ∧ W.cell? ⟨lb, lo + k * 6 + 4, none⟩ = some (.int .u64 y.n) ∧ W.cell? ⟨lb, lo + k * 6 + 5, none⟩ = some (.int .i64 y.stamp)))
                  (first | with_reducible exact A1.out | with_reducible exact A2.out)
                  (first
                    | (go_at_call 22; (with_reducible refine (HCp.out _).mono ?_); rintro r wx ⟨rfl, bx⟩; have bx' := hid (below_on dr.out bx); have A2 := hid (S10.out _ bx'.out); have BG2 := hid (below_on BG.out bx'.out); clear bx))
                obtain ⟨⟨y0, y1, y2, y3, y4, y5⟩, _⟩ := (S9.out _ BG2.out).1
                have z4 := (S9.out _ BG2.out).2.2.2.1.frozen 4
                have TL := hid (TAIL.out _ BG2.out)
                go_upto_region 32 with fail
                obtain ⟨wk, hwk⟩ : ∃ z, (wx).setCell ⟨eg, 4, none⟩ (.int .u64 (e.n + 1)) = z := ⟨_, rfl⟩
                rw [hwk] at TL ⊢
                clear hwk y0 y1 y2 y3 y4 y5 z4
                obtain ⟨y0, y1, y2, y3, y4, y5⟩ := lcells6 TL.out.2.2
                go_wp2_with (first
                  | (go_at_call 19; (with_reducible refine (HGn.out _ TL.out.1).mono ?_); rintro r wn ⟨rfl, bx⟩; have TN := hid (And.intro (TL.out.1.on bx) (TL.out.2.1.below bx)); clear bx y0 y1 y2 y3 y4 y5))
                go_roundw
                case rel => exact ⟨i + 1, by push_cast; rfl, by omega, TN⟩
                case measure => simp only [intOf]; omega
              · have hcv : cmpOf (L y.path) (L e.path) = -1 := by
                  rcases (cmpE_lt y e).1 hord with h | h
                  · rcases cmpOf_three (L y.path) (L e.path) with h2 | h2 | h2 <;> omega
                  · exact absurd h.1 hpp
                have ht : (y.path.toList == e.path.toList) = false := by rw [lkeq_text]; simpa using hpp
                rw [hcv] at HCp
                clear hy hyk hord hpp hcv
                refine wp_region_held_drew (S := fun W => (W.cell? ⟨eg, 0, none⟩ = some (.string e.path) ∧ W.cell? ⟨eg, 1, none⟩ = some (.int .u64 e.num) ∧ W.cell? ⟨eg, 2, none⟩ = some (.string e.foot) ∧ W.cell? ⟨eg, 3, none⟩ = some (.int .i64 e.mode) ∧ W.cell? ⟨eg, 4, none⟩ = some (.int .u64 e.n) ∧ W.cell? ⟨eg, 5, none⟩ = some (.int .i64 e.stamp)) ∧ (W.cell? ⟨lb, lo + k * 6, none⟩ = some (.string y.path) ∧ W.cell? ⟨lb, lo + k * 6 + 1, none⟩ = some (.int .u64 y.num) ∧ W.cell? ⟨lb, lo + k * 6 + 2, none⟩ = some (.string y.foot) ∧ W.cell? ⟨lb, lo + k * 6 + 3, none⟩ = some (.int .i64 y.mode) ∧ W.cell? ⟨lb, lo + k * 6 + 4, none⟩ = some (.int .u64 y.n) ∧ W.cell? ⟨lb, lo + k * 6 + 5, none⟩ = some (.int .i64 y.stamp))) (by kernel_rfl) (by with_reducible exact A1.out) (fun hHeld => ?_)
                refine tl 0 ?_ rfl ?_ hHeld ?_
                rotate_left 1
                focus (intro w' hSw; go_simp; try with_reducible rfl)
                try simp only [Act.put, List.getElem_toArray, List.getElem_cons_zero, List.getElem_cons_succ, List.setIfInBounds_toArray, List.set_cons_zero, List.set_cons_succ]
                refine tl 1 ?_ rfl ?_ hHeld ?_
                rotate_left 1
                focus (intro w' hSw; go_simp; try with_reducible rfl)
                try simp only [Act.put, List.getElem_toArray, List.getElem_cons_zero, List.getElem_cons_succ, List.setIfInBounds_toArray, List.set_cons_zero, List.set_cons_succ]
                refine tl 2 ?_ rfl ?_ hHeld ?_
                rotate_left 1
                focus (intro w' hSw; go_simp; try with_reducible rfl)
                try simp only [Act.put, List.getElem_toArray, List.getElem_cons_zero, List.getElem_cons_succ, List.setIfInBounds_toArray, List.set_cons_zero, List.set_cons_succ]
                refine tl 3 ?_ rfl ?_ hHeld ?_
                rotate_left 1
                focus (intro w' hSw; go_simp; try with_reducible rfl)
                try simp only [Act.put, List.getElem_toArray, List.getElem_cons_zero, List.getElem_cons_succ, List.setIfInBounds_toArray, List.set_cons_zero, List.set_cons_succ]
                refine tl 4 ?_ rfl ?_ hHeld ?_
                rotate_left 1
                focus (intro w' hSw; go_simp; try with_reducible rfl)
                try simp only [Act.put, List.getElem_toArray, List.getElem_cons_zero, List.getElem_cons_succ, List.setIfInBounds_toArray, List.set_cons_zero, List.set_cons_succ]
                refine tl 5 ?_ rfl ?_ hHeld ?_
                rotate_left 1
                focus (intro w' hSw; go_simp; try with_reducible rfl)
                try simp only [Act.put, List.getElem_toArray, List.getElem_cons_zero, List.getElem_cons_succ, List.setIfInBounds_toArray, List.set_cons_zero, List.set_cons_succ]
                refine tl 6 ?_ rfl ?_ hHeld ?_
                rotate_left 1
                focus (intro w' hSw; go_simp; try with_reducible rfl)
                try simp only [Act.put, List.getElem_toArray, List.getElem_cons_zero, List.getElem_cons_succ, List.setIfInBounds_toArray, List.set_cons_zero, List.set_cons_succ]
                refine tl 7 ?_ rfl ?_ hHeld ?_
                rotate_left 1
                focus (intro w' hSw; go_simp; try with_reducible rfl)
                try simp only [Act.put, List.getElem_toArray, List.getElem_cons_zero, List.getElem_cons_succ, List.setIfInBounds_toArray, List.set_cons_zero, List.set_cons_succ]
                refine tl 8 ?_ rfl ?_ hHeld ?_
                rotate_left 1
                focus (intro w' hSw; obtain ⟨⟨a0, a1, a2, a3, a4, a5⟩, p0, p1, p2, p3, p4, p5⟩ := hSw; go_simp; try with_reducible rfl)
                try simp only [Act.put, List.getElem_toArray, List.getElem_cons_zero, List.getElem_cons_succ, List.setIfInBounds_toArray, List.set_cons_zero, List.set_cons_succ]
                refine tl 9 ?_ rfl ?_ hHeld ?_
                rotate_left 1
                focus (intro w' hSw; go_simp; try with_reducible rfl)
                try simp only [Act.put, List.getElem_toArray, List.getElem_cons_zero, List.getElem_cons_succ, List.setIfInBounds_toArray, List.set_cons_zero, List.set_cons_succ]
                refine tl 10 ?_ rfl ?_ hHeld ?_
                rotate_left 1
                focus (intro w' hSw; obtain ⟨⟨a0, a1, a2, a3, a4, a5⟩, p0, p1, p2, p3, p4, p5⟩ := hSw; go_simp; try with_reducible rfl)
                try simp only [Act.put, List.getElem_toArray, List.getElem_cons_zero, List.getElem_cons_succ, List.setIfInBounds_toArray, List.set_cons_zero, List.set_cons_succ]
                refine wpAnyH_ready (rs := [11]) (by kernel_rfl) (by simp) ?_
                refine AllReadyH.cons (o := _) rfl (fun K hK => ?_) AllReadyH.nil
                go_simp
                (go_at_call 22)
                (with_reducible refine (HCp.out _).mono ?_)
                rintro r wx ⟨rfl, bx⟩
                have bx' := hid (below_on dr.out bx)
                have A2 := hid (S10.out _ bx'.out)
                have BG2 := hid (below_on BG.out bx'.out)
                clear bx
                refine hK.out _ _ (by with_reducible exact A2.out) (fun hHeld => ?_)
                clear hK K
                try simp only [Act.put, List.getElem_toArray, List.getElem_cons_zero, List.getElem_cons_succ, List.setIfInBounds_toArray, List.set_cons_zero, List.set_cons_succ]
                refine tl 12 ?_ rfl ?_ hHeld ?_
                rotate_left 1
                focus (intro w' hSw; go_simp; try with_reducible rfl)
                try simp only [Act.put, List.getElem_toArray, List.getElem_cons_zero, List.getElem_cons_succ, List.setIfInBounds_toArray, List.set_cons_zero, List.set_cons_succ]
                refine tl 13 ?_ rfl ?_ hHeld ?_
                rotate_left 1
                focus (intro w' hSw; go_simp; try with_reducible rfl)
                try simp only [Act.put, List.getElem_toArray, List.getElem_cons_zero, List.getElem_cons_succ, List.setIfInBounds_toArray, List.set_cons_zero, List.set_cons_succ]
                refine tl 14 ?_ rfl ?_ hHeld ?_
                rotate_left 1
                focus (intro w' hSw; go_simp; try with_reducible rfl)
                try simp only [Act.put, List.getElem_toArray, List.getElem_cons_zero, List.getElem_cons_succ, List.setIfInBounds_toArray, List.set_cons_zero, List.set_cons_succ]
                refine tl 15 ?_ rfl ?_ hHeld ?_
                rotate_left 1
                focus (intro w' hSw; go_simp; try with_reducible rfl)
                try simp only [Act.put, List.getElem_toArray, List.getElem_cons_zero, List.getElem_cons_succ, List.setIfInBounds_toArray, List.set_cons_zero, List.set_cons_succ]
                refine tl 16 ?_ rfl ?_ hHeld ?_
                rotate_left 1
                focus (intro w' hSw; go_simp; try with_reducible rfl)
                try simp only [Act.put, List.getElem_toArray, List.getElem_cons_zero, List.getElem_cons_succ, List.setIfInBounds_toArray, List.set_cons_zero, List.set_cons_succ]
                refine tl 17 ?_ rfl ?_ hHeld ?_
                rotate_left 1
                focus (intro w' hSw; go_simp; try with_reducible rfl)
                try simp only [Act.put, List.getElem_toArray, List.getElem_cons_zero, List.getElem_cons_succ, List.setIfInBounds_toArray, List.set_cons_zero, List.set_cons_succ]
                refine tl 18 ?_ rfl ?_ hHeld ?_
                rotate_left 1
                focus (intro w' hSw; go_simp; try with_reducible rfl)
                try simp only [Act.put, List.getElem_toArray, List.getElem_cons_zero, List.getElem_cons_succ, List.setIfInBounds_toArray, List.set_cons_zero, List.set_cons_succ]
                refine tl 19 ?_ rfl ?_ hHeld ?_
                rotate_left 1
                focus (intro w' hSw; obtain ⟨⟨a0, a1, a2, a3, a4, a5⟩, p0, p1, p2, p3, p4, p5⟩ := hSw; go_simp; try with_reducible rfl)
                try simp only [Act.put, List.getElem_toArray, List.getElem_cons_zero, List.getElem_cons_succ, List.setIfInBounds_toArray, List.set_cons_zero, List.set_cons_succ]
                refine tl 20 ?_ rfl ?_ hHeld ?_
                rotate_left 1
                focus (intro w' hSw; go_simp; try with_reducible rfl)
                try simp only [Act.put, List.getElem_toArray, List.getElem_cons_zero, List.getElem_cons_succ, List.setIfInBounds_toArray, List.set_cons_zero, List.set_cons_succ]
                refine tl 21 ?_ rfl ?_ hHeld ?_
                rotate_left 1
                focus (intro w' hSw; obtain ⟨⟨a0, a1, a2, a3, a4, a5⟩, p0, p1, p2, p3, p4, p5⟩ := hSw; go_simp; try with_reducible rfl)
                try simp only [Act.put, List.getElem_toArray, List.getElem_cons_zero, List.getElem_cons_succ, List.setIfInBounds_toArray, List.set_cons_zero, List.set_cons_succ]
                refine tl 22 ?_ rfl ?_ hHeld ?_
                rotate_left 1
                focus (intro w' hSw; go_simp; try with_reducible rfl)
                try simp only [Act.put, List.getElem_toArray, List.getElem_cons_zero, List.getElem_cons_succ, List.setIfInBounds_toArray, List.set_cons_zero, List.set_cons_succ]
                refine tl 23 ?_ rfl ?_ hHeld ?_
                rotate_left 1
                focus (intro w' hSw; go_simp; try with_reducible rfl)
                try simp only [Act.put, List.getElem_toArray, List.getElem_cons_zero, List.getElem_cons_succ, List.setIfInBounds_toArray, List.set_cons_zero, List.set_cons_succ]
                refine tlu 24 rfl hHeld ?_
                try simp only [Act.put, List.getElem_toArray, List.getElem_cons_zero, List.getElem_cons_succ, List.setIfInBounds_toArray, List.set_cons_zero, List.set_cons_succ]
                refine tlu 25 rfl hHeld ?_
                try simp only [Act.put, List.getElem_toArray, List.getElem_cons_zero, List.getElem_cons_succ, List.setIfInBounds_toArray, List.set_cons_zero, List.set_cons_succ]
                refine tlu 26 rfl hHeld ?_
                try simp only [Act.put, List.getElem_toArray, List.getElem_cons_zero, List.getElem_cons_succ, List.setIfInBounds_toArray, List.set_cons_zero, List.set_cons_succ]
                refine tlu 27 rfl hHeld ?_
                try simp only [Act.put, List.getElem_toArray, List.getElem_cons_zero, List.getElem_cons_succ, List.setIfInBounds_toArray, List.set_cons_zero, List.set_cons_succ]
                refine tlu 28 rfl hHeld ?_
                try simp only [Act.put, List.getElem_toArray, List.getElem_cons_zero, List.getElem_cons_succ, List.setIfInBounds_toArray, List.set_cons_zero, List.set_cons_succ]
                refine tlu 29 rfl hHeld ?_
                try simp only [Act.put, List.getElem_toArray, List.getElem_cons_zero, List.getElem_cons_succ, List.setIfInBounds_toArray, List.set_cons_zero, List.set_cons_succ]
                refine tlu 30 rfl hHeld ?_
                try simp only [Act.put, List.getElem_toArray, List.getElem_cons_zero, List.getElem_cons_succ, List.setIfInBounds_toArray, List.set_cons_zero, List.set_cons_succ]
                refine tlu 31 rfl hHeld ?_
                try simp only [Act.put, List.getElem_toArray, List.getElem_cons_zero, List.getElem_cons_succ, List.setIfInBounds_toArray, List.set_cons_zero, List.set_cons_succ]
                refine tlu 32 rfl hHeld ?_
                try simp only [Act.put, List.getElem_toArray, List.getElem_cons_zero, List.getElem_cons_succ, List.setIfInBounds_toArray, List.set_cons_zero, List.set_cons_succ]
                refine tl 33 ?_ rfl ?_ hHeld ?_
                rotate_left 1
                focus (intro w' hSw; go_simp; try with_reducible rfl)
                try simp only [Act.put, List.getElem_toArray, List.getElem_cons_zero, List.getElem_cons_succ, List.setIfInBounds_toArray, List.set_cons_zero, List.set_cons_succ]
                refine tl 34 ?_ rfl ?_ hHeld ?_
                rotate_left 1
                focus (intro w' hSw; go_simp; try with_reducible rfl)
                try simp only [Act.put, List.getElem_toArray, List.getElem_cons_zero, List.getElem_cons_succ, List.setIfInBounds_toArray, List.set_cons_zero, List.set_cons_succ]
                refine tl 35 ?_ rfl ?_ hHeld ?_
                rotate_left 1
                focus (intro w' hSw; go_simp; try with_reducible rfl)
                try simp only [Act.put, List.getElem_toArray, List.getElem_cons_zero, List.getElem_cons_succ, List.setIfInBounds_toArray, List.set_cons_zero, List.set_cons_succ]
                refine wpAnyH_done (by kernel_rfl) ?_ _
                clear hHeld
                obtain ⟨⟨y0, y1, y2, y3, y4, y5⟩, _⟩ := (S9.out _ BG2.out).1
                have z4 := (S9.out _ BG2.out).2.2.2.1.frozen 4
                have TL := hid (TAIL.out _ BG2.out)
                go_upto_region 32 with fail
                obtain ⟨wk, hwk⟩ : ∃ z, (wx).setCell ⟨eg, 4, none⟩ (.int .u64 (e.n + 1)) = z := ⟨_, rfl⟩
                rw [hwk] at TL ⊢
                clear hwk y0 y1 y2 y3 y4 y5 z4
                obtain ⟨y0, y1, y2, y3, y4, y5⟩ := lcells6 TL.out.2.2
                go_wp2_with (first
                  | (go_at_call 19; (with_reducible refine (HGn.out _ TL.out.1).mono ?_); rintro r wn ⟨rfl, bx⟩; have TN := hid (And.intro (TL.out.1.on bx) (TL.out.2.1.below bx)); clear bx y0 y1 y2 y3 y4 y5))
                go_roundw
                case rel => exact ⟨i + 1, by push_cast; rfl, by omega, TN⟩
                case measure => simp only [intOf]; omega
          · have hlt2' : ¬ (i : Int) < (dn : Int) := by omega
            go_wp2_with fail
            go_ret
            exact ⟨rfl, HL.out.1.bel⟩

end Go.Proofs.YtgjbhlianlbflaaGreat
