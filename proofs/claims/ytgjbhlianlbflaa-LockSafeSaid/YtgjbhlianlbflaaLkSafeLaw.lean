/-
  LockSafe: its walk.
-/
import Derived.Test.YtgjbhlianlbflaaLkSafeMath
namespace Go.Proofs.Ytgjbhlianlbflaa
open Go.ChangeShapes Go.WideShapes Go.ChangeAt Go.RowKit Go.Maps Go.WideMaps
set_option linter.unusedVariables false
set_option linter.unusedSimpArgs false

theorem SeesE.atS {w : World} {A : Option Addr} {l : List EnL} (h : SeesE w A l) {j : Nat} {e : EnL} (he : l[j]? = some e) : ∃ b o, A = some ⟨b, o, none⟩ ∧ b < w.heap.size ∧ w.cell? ⟨b, o + j * 6, none⟩ = some (.string e.path) ∧ w.cell? ⟨b, o + j * 6 + 1, none⟩ = some (.int .u64 e.num) ∧ w.cell? ⟨b, o + j * 6 + 2, none⟩ = some (.string e.foot) ∧ w.cell? ⟨b, o + j * 6 + 3, none⟩ = some (.int .i64 e.mode) ∧ w.cell? ⟨b, o + j * 6 + 4, none⟩ = some (.int .u64 e.n) ∧ w.cell? ⟨b, o + j * 6 + 5, none⟩ = some (.int .i64 e.stamp) := by
  obtain ⟨b, o, h1, h2, h3⟩ := h j e he
  exact ⟨b, o, h1, h2, h3 0 _ rfl, h3 1 _ rfl, h3 2 _ rfl, h3 3 _ rfl, h3 4 _ rfl, h3 5 _ rfl⟩
theorem lksbelow_drew (w : World) (n : Nat) : Below w.heap.size w (w.drewN n) := ⟨rfl, rfl, rfl, Nat.le_refl _, fun _ _ => rfl⟩
/-- The book alone behind n steps. -/
structure SafeAt (w W : World) (b de dc n : Nat) (first : Int) (l : List EnL) (cs : CnL) : Prop where
  book : BkK W w.heap.size b de dc n first l cs
  good : GoodD n first l cs
  bel : Below w.heap.size w W
theorem SafeAt.on {w W W2 : World} {b de dc n : Nat} {first : Int} {l : List EnL} {cs : CnL} (h : SafeAt w W b de dc n first l cs) (t : Below W.heap.size W W2) : SafeAt w W2 b de dc n first l cs := ⟨h.book.on t, h.good, below_on h.bel t⟩
theorem SafeAt.step {w W W2 : World} {b de dc n : Nat} {first : Int} {l : List EnL} {cs : CnL} (h : SafeAt w W b de dc n first l cs) {o : OpK} (ho : MadeK o) (hb : BkK W2 w.heap.size b de dc (n + 1) first (stpL first l cs o) (stpC first l cs o)) (t : TurnsD (OwnK de dc) W W2) : SafeAt w W2 b de dc (n + 1) first (stpL first l cs o) (stpC first l cs o) :=
  ⟨hb, h.good.step ho, h.bel.trans (t.below (B := w.heap.size) h.bel.size (fun i hi e => by have := h.book.low; rcases e with e | e <;> omega))⟩
set_option maxRecDepth 100000 in
set_option maxHeartbeats 8000000 in
theorem lksafe_law (first : Int) (A : Option Addr) (l : List OpK) (ca : Nat) (w : World) (hf : IsUk first) (h : SeesOp w A l) (hm : ∀ o ∈ l, MadeK o) (hl : l.length ≤ 9223372036854775807) :
    Calls Try.prog 3 #[.int .u64 first, .slice A l.length ca] w (Asks (.bool true) w) := by
  have HA := hid (fun w => lkanchor_any w)
  have HF := hid (fun w' (k : Below w.heap.size w w') => lkfits_any A l ca 40 w' (h.below k) hl)
  have HN := hid (fun w => lknew_any first w hf)
  have HS := hid h
  have HM := hid hm
  have HFi := hid hf
  obtain ⟨ft, hft⟩ : ∃ x, fitsK l 40 = x := ⟨_, rfl⟩
  have HFt := hid hft
  rw [hft] at HF
  obtain ⟨ln, hln⟩ : ∃ x, l.length = x := ⟨_, rfl⟩
  have HLN := hid hln
  rw [hln] at HF hl ⊢
  clear h hm hf hft hln
  go_enter Try.func3, Try.ntmps3
  cases ft with
  | false =>
    go_wp2_with (first
      | (go_at_call 4; (with_reducible refine (HA.out _).mono ?_); rintro e w1 ⟨rfl, b1⟩; have B1 := hid b1; clear b1)
      | (go_at_call 5; (with_reducible refine (HF.out _ B1.out).mono ?_); rintro e w2 ⟨rfl, b2⟩; have B2 := hid (below_on B1.out b2); clear b2))
    go_ret
    exact ⟨rfl, B2.out⟩
  | true =>
    obtain ⟨HPa, hl40⟩ : Hid (∀ o ∈ l, o.path.size ≤ 100) ∧ ln ≤ 40 := by
      obtain ⟨x1, x2⟩ := fits_iff HFt.out
      exact ⟨hid x1, by rw [HLN.out] at x2; omega⟩
    go_upto_region 6 with (first
      | (go_at_call 4; (with_reducible refine (HA.out _).mono ?_); rintro e w1 ⟨rfl, b1⟩; have B1 := hid b1; clear b1)
      | (go_at_call 5; (with_reducible refine (HF.out _ B1.out).mono ?_); rintro e w2 ⟨rfl, b2⟩; have B2 := hid (below_on B1.out b2); clear b2)
      | (go_at_call 6; (with_reducible refine (HN.out _).mono ?_); rintro e w3 ⟨rfl, b3, k3⟩; have B3 := hid (below_on B2.out b3); have K3 := hid (And.intro k3 (And.intro B2.out.size b3.size)); clear b3 k3))
    obtain ⟨q, hq⟩ : ∃ x, w2.heap.size = x := ⟨_, rfl⟩
    rw [hq] at K3 ⊢
    clear hq
    have P0 : Hid (SafeAt w w3 (q + 2) q (q + 1) 0 first [] []) := hid (by
      have := K3.out.1
      exact ⟨⟨this.blk, this.es, this.ct, this.good, this.many, this.ne, by have := K3.out.2.1; omega⟩, ⟨GoodK.nil HFi.out, Nat.le_refl _, fun e he => (by cases he), Nat.le_refl _⟩, B3.out⟩)
    go_wp2_with fail
    go_loopw [6, 29] (fun hv iv wr => ∃ (j : Nat) (ks : List EnL) (cs : CnL) (X : Option Addr) (hn hc : Nat) (hs : List EnL), .slice X hn hc = hv ∧ iv = .int .i64 (j : Int) ∧ j ≤ ln ∧ hs.length = hn ∧ hn ≤ j ∧ Hid (SafeAt w wr (q + 2) q (q + 1) j first ks cs ∧ SeesE wr X hs ∧ ∀ e ∈ hs, grantE ks e = true)) (fun _ iv _ => ln - (intOf iv).toNat)
    case atStart => exact ⟨0, [], [], none, 0, 0, [], rfl, rfl, by omega, rfl, by omega, hid ⟨P0.out, SeesE.nil _ _, fun e he => (by cases he)⟩⟩
    case round =>
      obtain ⟨j, ks, cs, X, hn, hc, hs, hvv, rfl, hj, hhn, hhj, HP⟩ := hrel
      subst hvv
      have HHn := hid hhn
      by_cases hlt : j < ln
      · have hlt' : (j : Int) < (ln : Int) := by omega
        obtain ⟨e, he⟩ : ∃ e, l[j]? = some e := ⟨_, List.getElem?_eq_getElem (by rw [HLN.out]; exact hlt)⟩
        have HE := hid he
        have HMe := hid (HM.out e (List.mem_of_getElem? he))
        have HPe := hid (HPa.out e (List.mem_of_getElem? he))
        obtain ⟨ob, oo, hA, hob, y0, y1, y2, y3, y4⟩ := (HS.out.below HP.out.1.bel).at_ he
        subst hA
        clear he hob
        have qi : IntKind.i64.wrap ((j : Int) + 1) = ((j + 1 : Nat) : Int) := by rw [IntWalk.i64_in _ (by omega)]; omega
        have HSt := hid (fun w' (k : SafeAt w w' (q + 2) q (q + 1) j first ks cs) => lkstep_any w.heap.size (q + 2) q (q + 1) j first ks cs (.agg #[.int .u64 first, .slice none 0 0, .slice none 0 0]) first [] [] 0 e w' k.book (by omega) (DocK.nil _ _) ⟨GoodK.nil HFi.out, Nat.le_refl _, fun e he => (by cases he), Nat.le_refl _⟩ (by omega) HMe.out HPe.out)
        have HLs := hid (fun ks' cs' w' (k : SafeAt w w' (q + 2) q (q + 1) (j + 1) first ks' cs') => lklist_any w.heap.size (q + 2) q (q + 1) (j + 1) first ks' cs' w' k.book (by omega))
        unfold OutE at HLs
        go_upto_region 10 with fail
        obtain ⟨w5, hw5⟩ : ∃ w5, wr.alloc (.cells #[.int .i64 e.kd, .int .i64 e.mo, .string e.path, .int .u64 e.u, .string e.foot] 32) = w5 := ⟨_, rfl⟩
        obtain ⟨E5, K5⟩ := lone_new hw5
        have P5 := hid (And.intro (HP.out.1.on K5.out) (And.intro (HP.out.2.1.below K5.out) HP.out.2.2))
        obtain ⟨og, hog⟩ : ∃ x, wr.heap.size = x := ⟨_, rfl⟩
        rw [hog] at E5 ⊢
        rw [hw5]
        clear hw5 hog K5 y0 y1 y2 y3 y4 HP
        have y0 := (E5.out.cell 0).trans rfl
        have y1 := (E5.out.cell 1).trans rfl
        have y2 := (E5.out.cell 2).trans rfl
        have y3 := (E5.out.cell 3).trans rfl
        have y4 := (E5.out.cell 4).trans rfl
        go_upto_region 13 with (first
          | (go_at_call 7; (with_reducible refine (HSt.out _ P5.out.1).mono ?_); rintro r w6 ⟨v6, t6, rfl, k6, d6, u6, _⟩; have P6 := hid (And.intro (P5.out.1.step HMe.out k6 u6) (P5.out.2.1.turns u6 P5.out.1.book.bare)); clear k6 d6 u6 y0 y1 y2 y3 y4)
          | (go_at_call 8; (with_reducible refine (HLs.out _ _ _ P6.out.1).mono ?_); rintro r w7 ⟨ds, LA, lc, hri, h2, rfl, h3, h4, _, h6, b7⟩; have HDs := hid h3; have HPm := hid h2; have HRi := hid hri; have P7 := hid (And.intro (P6.out.1.on b7) (P6.out.2.below b7)); clear hri h2 h3 h4 h6 b7))
        have HStay : Hid (∀ x ∈ hs, x ∈ stpL first ks cs e → grantE (stpL first ks cs e) x = true) := hid (fun x hx hin => grant_stays P5.out.1.good.1 HMe.out P5.out.1.good (P5.out.2.2 x hx) hin)
        have HKy : Hid (∀ x ∈ hs, IsUk x.num ∧ OkK x.path ∧ OkK x.foot) := hid (fun x hx => P5.out.1.good.1.keys x (grant_mem (P5.out.2.2 x hx)).1)
        obtain ⟨ks2, hks2⟩ : ∃ x, stpL first ks cs e = x := ⟨_, rfl⟩
        obtain ⟨cs2, hcs2⟩ : ∃ x, stpC first ks cs e = x := ⟨_, rfl⟩
        rw [hks2] at HStay HPm P7
        rw [hcs2] at P7
        clear hks2 hcs2 HSt HLs P5 P6 E5
        obtain ⟨dn, hdn⟩ : ∃ x, ds.length = x := ⟨_, rfl⟩
        have HDn := hid hdn
        rw [hdn]
        have hdk : dn ≤ j + 1 := by
          rw [← hdn, HPm.out.length_eq]
          exact Nat.le_trans (List.length_filter_le _ _) P7.out.1.good.2.1
        clear hdn
        go_loopw [42] (fun mv wr => ∃ m : Nat, mv = .int .i64 (m : Int) ∧ m ≤ hn ∧ Hid (SafeAt w wr (q + 2) q (q + 1) (j + 1) first ks2 cs2 ∧ SeesE wr X hs ∧ SeesE wr LA ds)) (fun mv _ => hn - (intOf mv).toNat)
        case atStart => exact ⟨0, rfl, by omega, hid ⟨P7.out.1, P7.out.2, HDs.out⟩⟩
        case round =>
          obtain ⟨m, rfl, hm, HL⟩ := hrel
          by_cases hlt2 : m < hn
          · have hlt2' : (m : Int) < (hn : Int) := by omega
            obtain ⟨x, hx⟩ : ∃ x, hs[m]? = some x := ⟨_, List.getElem?_eq_getElem (by rw [HHn.out]; exact hlt2)⟩
            have hxm := List.mem_of_getElem? hx
            have HOx := hid (HKy.out x hxm)
            have HSx := hid (HStay.out x hxm)
            obtain ⟨xb, xo, hX, hxb, y0, y1, y2, y3, y4, y5⟩ := HL.out.2.1.atS hx
            subst hX
            have qm : IntKind.i64.wrap ((m : Int) + 1) = ((m + 1 : Nat) : Int) := by rw [IntWalk.i64_in _ (by omega)]; omega
            clear hx hxm hxb
            go_upto_region 15 with fail
            obtain ⟨w8, hw8⟩ : ∃ w8, wr.alloc (.cells #[.string x.path, .int .u64 x.num, .string x.foot, .int .i64 x.mode, .int .u64 x.n, .int .i64 x.stamp] 41) = w8 := ⟨_, rfl⟩
            obtain ⟨E8, K8⟩ := lone_new hw8
            have P8 := hid (And.intro (HL.out.1.on K8.out) (And.intro (HL.out.2.1.below K8.out) (HL.out.2.2.below K8.out)))
            obtain ⟨xg, hxg⟩ : ∃ z, wr.heap.size = z := ⟨_, rfl⟩
            rw [hxg] at E8 ⊢
            rw [hw8]
            clear hw8 hxg K8 HL y0 y1 y2 y3 y4 y5
            obtain ⟨y0, y1, y2, y3, y4, y5⟩ := lcells6 E8.out
            have HFd := hid (fun w' (k : Below w8.heap.size w8 w') => lkfind_any w.heap.size (q + 2) q (q + 1) (j + 1) first ks2 cs2 x.path x.num x.foot w' (P8.out.1.book.on k) HOx.out.2.1 HOx.out.1 HOx.out.2.2)
            have HGr := hid (fun w' (k : Below w8.heap.size w8 w') => lkgranted_any w.heap.size (q + 2) q (q + 1) (j + 1) first ks2 cs2 x w' (P8.out.1.book.on k) (by omega) HOx.out.2.1 HOx.out.1 HOx.out.2.2)
            obtain ⟨ok, hok⟩ : ∃ z, (findE ks2 x.path x.num x.foot).isSome = z := ⟨_, rfl⟩
            obtain ⟨gx, hgx⟩ : ∃ z, getE ks2 x.path x.num x.foot = z := ⟨_, rfl⟩
            obtain ⟨gr, hgr⟩ : ∃ z, grantE ks2 x = z := ⟨_, rfl⟩
            have HNe : Hid (ok = true → gr = false → eqE gx x = false) := hid (fun a b => by
              cases hq : eqE gx x with
              | false => rfl
              | true =>
                exfalso
                obtain ⟨z, hz⟩ := Option.isSome_iff_exists.1 (hok.trans a)
                have : gx = z := by rw [← hgx]; unfold getE; rw [hz]; rfl
                have h2 := (findE_mem hz).1
                rw [← this, eqE_iff.1 hq] at h2
                have h3 := HSx.out h2
                rw [hgr, b] at h3
                exact absurd h3 (by decide))
            rw [hok, hgx] at HFd
            rw [hgr] at HGr
            clear hok hgx hgr
            go_upto_region 16 with (first
              | (go_at_call 9; (with_reducible refine (HFd.out _ (Below.refl _ _)).mono ?_); rintro r w9 ⟨rfl, b9⟩; have K9 := hid b9; clear b9 y0 y1 y2 y3 y4 y5; obtain ⟨y0, y1, y2, y3, y4, y5⟩ := lcells6 (E8.out.below K9.out E8.out.lt)))
            obtain ⟨wA, hwA⟩ : ∃ z, w9.alloc (.cells #[.string gx.path, .int .u64 gx.num, .string gx.foot, .int .i64 gx.mode, .int .u64 gx.n, .int .i64 gx.stamp] 41) = z := ⟨_, rfl⟩
            have KA : Hid (Below w8.heap.size w8 wA) := hid (by rw [← hwA]; exact K9.out.alloc K9.out.size _)
            rw [hwA]
            clear hwA K9 y0 y1 y2 y3 y4 y5
            obtain ⟨y0, y1, y2, y3, y4, y5⟩ := lcells6 (E8.out.below KA.out E8.out.lt)
            cases ok with
            | false =>
              go_wp2_with fail
              go_roundw
              case rel => exact ⟨m + 1, by push_cast; rfl, by omega, hid ⟨P8.out.1.on KA.out, P8.out.2.1.below KA.out, P8.out.2.2.below KA.out⟩⟩
              case measure => simp only [intOf]; omega
            | true =>
              cases gr with
              | true =>
                go_wp2_with (first
                  | (go_at_call 10; (with_reducible refine (HGr.out _ KA.out).mono ?_); rintro r w10 ⟨rfl, b10⟩; have K10 := hid (below_on KA.out b10); clear b10 y0 y1 y2 y3 y4 y5; obtain ⟨y0, y1, y2, y3, y4, y5⟩ := lcells6 (E8.out.below K10.out E8.out.lt)))
                go_roundw
                case rel => exact ⟨m + 1, by push_cast; rfl, by omega, hid ⟨P8.out.1.on K10.out, P8.out.2.1.below K10.out, P8.out.2.2.below K10.out⟩⟩
                case measure => simp only [intOf]; omega
              | false =>
                have q9 : ∀ w, (Op.equalIn 10000 41 (.agg #[.string gx.path, .int .u64 gx.num, .string gx.foot, .int .i64 gx.mode, .int .u64 gx.n, .int .i64 gx.stamp]) (.agg #[.string x.path, .int .u64 x.num, .string x.foot, .int .i64 x.mode, .int .u64 x.n, .int .i64 x.stamp])).run Try.prog w = .ok false w := fun w => by rw [← HNe.out rfl rfl]; exact eqk_ent gx x w
                go_upto_region 18 with (first
                  | (go_at_call 10; (with_reducible refine (HGr.out _ KA.out).mono ?_); rintro r w10 ⟨rfl, b10⟩; have K10 := hid (below_on KA.out b10); clear b10 y0 y1 y2 y3 y4 y5; obtain ⟨y0, y1, y2, y3, y4, y5⟩ := lcells6 (E8.out.below K10.out E8.out.lt))
                  | (go_at_call 9; (with_reducible refine (HFd.out _ K10.out).mono ?_); rintro r w11 ⟨rfl, b11⟩; have K11 := hid (below_on K10.out b11); clear b11 y0 y1 y2 y3 y4 y5; obtain ⟨y0, y1, y2, y3, y4, y5⟩ := lcells6 (E8.out.below K11.out E8.out.lt)))
                obtain ⟨wB, hwB⟩ : ∃ z, w11.alloc (.cells #[.string gx.path, .int .u64 gx.num, .string gx.foot, .int .i64 gx.mode, .int .u64 gx.n, .int .i64 gx.stamp] 41) = z := ⟨_, rfl⟩
                have KB2 : Hid (Below w8.heap.size w8 wB) := hid (by rw [← hwB]; exact K11.out.alloc K11.out.size _)
                obtain ⟨E14, _⟩ := lone_new hwB
                rw [hwB]
                clear hwB y0 y1 y2 y3 y4 y5
                obtain ⟨y0, y1, y2, y3, y4, y5⟩ := lcells6 (E8.out.below KB2.out E8.out.lt)
                obtain ⟨z0, z1, z2, z3, z4, z5⟩ := lcells6 E14.out
                go_wp2_with fail
                go_roundw
                case rel => exact ⟨m + 1, by push_cast; rfl, by omega, hid ⟨P8.out.1.on KB2.out, P8.out.2.1.below KB2.out, P8.out.2.2.below KB2.out⟩⟩
                case measure => simp only [intOf]; omega
          · have hlt2' : ¬ (m : Int) < (hn : Int) := by omega
            go_upto_region 23 with fail
            obtain ⟨wS, rfl⟩ : ∃ z, z = wr := ⟨_, rfl⟩
            have HGd := hid HL.out.1.good.1
            have HDk : Hid (∀ y ∈ ds, y ∈ ks2) := hid (fun y hy => (List.mem_filter.1 (HPm.out.mem_iff.1 hy)).1)
            obtain ⟨Gk, hGk⟩ : ∃ z, (fun y => grantE ks2 y) = z := ⟨_, rfl⟩
            have HGk : Hid (∀ y, grantE ks2 y = Gk y) := hid (fun y => by rw [← hGk])
            clear hGk
            go_loopw [6, 77] (fun hv mv wr => ∃ (m : Nat) (vv : Value), vv = hv ∧ mv = .int .i64 (m : Int) ∧ m ≤ dn ∧ Hid (Below wS.heap.size wS wr ∧ wr.ownsRow wS.heap.size 41 6 vv ((ds.take m).filter Gk).length (flatE ((ds.take m).filter Gk)))) (fun _ mv _ => dn - (intOf mv).toNat)
            case atStart => exact ⟨0, _, rfl, rfl, by omega, hid ⟨Below.refl _ _, World.ownsRow_nil _ _ _ _⟩⟩
            case round =>
              obtain ⟨m3, vv, hvv, rfl, hm3, HO⟩ := hrel
              subst hvv
              obtain ⟨gl, hgl⟩ : ∃ z, (ds.take m3).filter Gk = z := ⟨_, rfl⟩
              have HGl := hid hgl
              rw [hgl] at HO
              have hgln : gl.length ≤ m3 := by rw [← hgl]; exact Nat.le_trans (List.length_filter_le _ _) (by rw [List.length_take]; omega)
              clear hgl
              by_cases hlt3 : m3 < dn
              · have hlt3' : (m3 : Int) < (dn : Int) := by omega
                obtain ⟨x, hx⟩ : ∃ x, ds[m3]? = some x := ⟨_, List.getElem?_eq_getElem (by rw [HDn.out]; exact hlt3)⟩
                have HX := hid hx
                have HKx := hid (HDk.out x (List.mem_of_getElem? hx))
                have HOx := hid (HGd.out.keys x HKx.out)
                have HSn := hid (kept_snoc hx Gk)
                rw [HGl.out] at HSn
                obtain ⟨xb, xo, hXx, hxb, y0, y1, y2, y3, y4, y5⟩ := (HL.out.2.2.below HO.out.1).atS hx
                subst hXx
                have qm : IntKind.i64.wrap ((m3 : Int) + 1) = ((m3 + 1 : Nat) : Int) := by rw [IntWalk.i64_in _ (by omega)]; omega
                have HGr := hid (fun w' (k : Below wS.heap.size wS w') => lkgranted_any w.heap.size (q + 2) q (q + 1) (j + 1) first ks2 cs2 x w' (HL.out.1.book.on k) (by omega) HOx.out.2.1 HOx.out.1 HOx.out.2.2)
                obtain ⟨gr, hgr⟩ : ∃ z, grantE ks2 x = z := ⟨_, rfl⟩
                have HGx := hid hgr
                rw [hgr] at HGr
                clear hx hxb hgr
                go_upto_region 25 with fail
                have O8' := hid (HO.out.2.alloc (.cells #[.string x.path, .int .u64 x.num, .string x.foot, .int .i64 x.mode, .int .u64 x.n, .int .i64 x.stamp] 41))
                have B8' := hid (HO.out.1.alloc HO.out.1.size (.cells #[.string x.path, .int .u64 x.num, .string x.foot, .int .i64 x.mode, .int .u64 x.n, .int .i64 x.stamp] 41))
                obtain ⟨w8, hw8⟩ : ∃ w8, wr.alloc (.cells #[.string x.path, .int .u64 x.num, .string x.foot, .int .i64 x.mode, .int .u64 x.n, .int .i64 x.stamp] 41) = w8 := ⟨_, rfl⟩
                obtain ⟨E8, _⟩ := lone_new hw8
                have HRx := hid (fun b (e : vv.ownBlock = some b) => (HO.out.2.lt b e).2)
                obtain ⟨xg, hxg⟩ : ∃ z, wr.heap.size = z := ⟨_, rfl⟩
                rw [hxg] at E8 HRx ⊢
                rw [hw8] at O8' B8' ⊢
                clear hw8 hxg HO y0 y1 y2 y3 y4 y5
                obtain ⟨y0, y1, y2, y3, y4, y5⟩ := lcells6 E8.out
                cases gr with
                | false =>
                  have HXf : Hid ((ds.take (m3 + 1)).filter Gk = gl) := hid (by rw [HSn.out, if_neg (by rw [← HGk.out, HGx.out]; decide)]; simp)
                  go_wp2_with (first
                    | (go_at_call 10; (with_reducible refine (HGr.out _ B8'.out).mono ?_); rintro r w9 ⟨rfl, b9⟩; have B9 := hid (B8'.out.trans (b9.mono B8'.out.size)); have O9 := hid (O8'.out.kept (row := none) (only_of_below b9 none) (Decidable.em _)); clear b9 y0 y1 y2 y3 y4 y5))
                  go_roundw
                  case rel => exact ⟨m3 + 1, _, rfl, by push_cast; rfl, by omega, hid ⟨B9.out, by rw [HXf.out]; exact O9.out⟩⟩
                  case measure => simp only [intOf]; omega
                | true =>
                  have HXf : Hid ((ds.take (m3 + 1)).filter Gk = gl ++ [x]) := hid (by rw [HSn.out, if_pos (by rw [← HGk.out, HGx.out])])
                  have hlow : ∀ f ∈ gl, cmpE f x < 0 := fun f hf => by
                    rw [← HGl.out] at hf
                    obtain ⟨i', hi'⟩ := List.mem_iff_getElem?.1 (List.mem_filter.1 hf).1
                    rw [List.getElem?_take] at hi'
                    split at hi'
                    · next hlt =>
                      obtain ⟨u1, u2⟩ := List.getElem?_eq_some_iff.1 hi'
                      obtain ⟨u3, u4⟩ := List.getElem?_eq_some_iff.1 HX.out
                      have := List.pairwise_iff_getElem.1 HRi.out i' m3 u1 u3 hlt
                      rw [u2, u4] at this
                      exact this
                    · simp at hi'
                  have HWay : Hid (∀ f ∈ gl, wayE x f = false ∧ f ∈ ks2) := hid (fun f hf => by
                    have h1 := hlow f hf
                    have hg : grantE ks2 f = true := by
                      rw [← HGl.out] at hf
                      rw [HGk.out]
                      exact (List.mem_filter.1 hf).2
                    refine ⟨grant_way HGd.out HGx.out hg (fun e => ?_), (grant_mem hg).1⟩
                    subst e
                    exact cmpE_irr _ h1)
                  clear hlow
                  obtain ⟨A3, c3, e3, hA3, _⟩ := SeesE.of_own O8'.out
                  subst e3
                  obtain ⟨gn, hgn⟩ : ∃ z, gl.length = z := ⟨_, rfl⟩
                  have HGn := hid hgn
                  rw [hgn] at O8' hgln HRx ⊢
                  clear hgn hA3
                  go_upto_region 27 with (first
                    | (go_at_call 10; (with_reducible refine (HGr.out _ B8'.out).mono ?_); rintro r w9 ⟨rfl, b9⟩; have B9 := hid (B8'.out.trans (b9.mono B8'.out.size)); have O9 := hid (O8'.out.kept (row := none) (only_of_below b9 none) (Decidable.em _)); have E9 := hid (E8.out.below b9 E8.out.lt); clear b9 y0 y1 y2 y3 y4 y5))
                  go_loopw [88] (fun mv wr => ∃ i : Nat, mv = .int .i64 (i : Int) ∧ i ≤ gn ∧ Hid (Below wS.heap.size wS wr ∧ wr.ownsRow wS.heap.size 41 6 (.slice A3 gn c3) gn (flatE gl) ∧ Blk wr xg 41 #[.string x.path, .int .u64 x.num, .string x.foot, .int .i64 x.mode, .int .u64 x.n, .int .i64 x.stamp])) (fun mv _ => gn - (intOf mv).toNat)
                  case atStart => exact ⟨0, rfl, by omega, hid ⟨B9.out, O9.out, E9.out⟩⟩
                  case round =>
                    obtain ⟨i, rfl, hi, H4⟩ := hrel
                    have hse : SeesE wr A3 gl := by
                      have ho := H4.out.2.1
                      rw [← HGn.out] at ho
                      obtain ⟨A4, c4, e4, _, hS4⟩ := SeesE.of_own ho
                      injection e4 with e4 _ _
                      subst e4
                      exact hS4
                    by_cases hlt4 : i < gn
                    · have hlt4' : (i : Int) < (gn : Int) := by omega
                      obtain ⟨f, hf⟩ : ∃ f, gl[i]? = some f := ⟨_, List.getElem?_eq_getElem (by rw [HGn.out]; exact hlt4)⟩
                      obtain ⟨hwf, hfk⟩ := HWay.out f (List.mem_of_getElem? hf)
                      have HWf : Hid (((decide (x.mode = 2) || decide (f.mode = 2)) && overlap (L x.path) (L f.path)) = false) := hid hwf
                      have HOv := hid (fun w => lkoverlap_any x.path f.path w (by have := size_right (HGd.out.ok x HKx.out).1; omega) (by have := size_right (HGd.out.ok f hfk).1; omega))
                      obtain ⟨fb, fo, hF, hfb, u0, u1, u2, u3, u4, u5⟩ := hse.atS hf
                      subst hF
                      have qn : IntKind.i64.wrap ((i : Int) + 1) = ((i + 1 : Nat) : Int) := by rw [IntWalk.i64_in _ (by omega)]; omega
                      clear hf hwf hfk hfb
                      go_upto_region 29 with fail
                      have O10' := hid (H4.out.2.1.alloc (.cells #[.string f.path, .int .u64 f.num, .string f.foot, .int .i64 f.mode, .int .u64 f.n, .int .i64 f.stamp] 41))
                      have B10' := hid (H4.out.1.alloc H4.out.1.size (.cells #[.string f.path, .int .u64 f.num, .string f.foot, .int .i64 f.mode, .int .u64 f.n, .int .i64 f.stamp] 41))
                      have E10' := hid (H4.out.2.2.alloc (.cells #[.string f.path, .int .u64 f.num, .string f.foot, .int .i64 f.mode, .int .u64 f.n, .int .i64 f.stamp] 41))
                      obtain ⟨w10, hw10⟩ : ∃ z, wr.alloc (.cells #[.string f.path, .int .u64 f.num, .string f.foot, .int .i64 f.mode, .int .u64 f.n, .int .i64 f.stamp] 41) = z := ⟨_, rfl⟩
                      obtain ⟨F10, _⟩ := lone_new hw10
                      obtain ⟨fg, hfg⟩ : ∃ z, wr.heap.size = z := ⟨_, rfl⟩
                      rw [hfg] at F10 ⊢
                      rw [hw10] at O10' B10' E10' ⊢
                      have O10 := O10'
                      have B10 := B10'
                      have E10 := E10'
                      clear hw10 hfg H4 O10' B10' E10' u0 u1 u2 u3 u4 u5
                      have y0 := (E10.out.cell 0).trans rfl
                      have z0 := (F10.out.cell 0).trans rfl
                      by_cases h1 : x.mode = 2
                      · have hov : overlap (L x.path) (L f.path) = false := by have := HWf.out; rw [h1] at this; simpa using this
                        rw [hov] at HOv
                        have y3 : w10.cell? ⟨xg, 3, none⟩ = some (.int .i64 2) := by rw [← h1]; exact (E10.out.cell 3).trans rfl
                        have z3 : w10.cell? ⟨fg, 3, none⟩ = some (.int .i64 f.mode) := (F10.out.cell 3).trans rfl
                        clear hov h1
                        go_wp2_with (first
                          | (go_at_call 11; (with_reducible refine (HOv.out _).mono ?_); rintro r w11 ⟨rfl, b11⟩; have B11 := hid (B10.out.trans (b11.mono B10.out.size)); have O11 := hid (O10.out.kept (row := none) (only_of_below b11 none) (Decidable.em _)); have E11 := hid (E10.out.below b11 E10.out.lt); clear b11 y0 y3 z0 z3))
                        go_roundw
                        case rel => exact ⟨i + 1, by push_cast; rfl, by omega, hid ⟨B11.out, O11.out, E11.out⟩⟩
                        case measure => simp only [intOf]; omega
                      · have hq1 : (x.mode == 2) = false := by simpa using h1
                        have y3 : w10.cell? ⟨xg, 3, none⟩ = some (.int .i64 x.mode) := (E10.out.cell 3).trans rfl
                        by_cases h2 : f.mode = 2
                        · have hov : overlap (L x.path) (L f.path) = false := by have := HWf.out; rw [h2] at this; simpa using this
                          rw [hov] at HOv
                          have z3 : w10.cell? ⟨fg, 3, none⟩ = some (.int .i64 2) := by rw [← h2]; exact (F10.out.cell 3).trans rfl
                          clear hov h2
                          go_wp2_with (first
                            | (go_at_call 11; (with_reducible refine (HOv.out _).mono ?_); rintro r w11 ⟨rfl, b11⟩; have B11 := hid (B10.out.trans (b11.mono B10.out.size)); have O11 := hid (O10.out.kept (row := none) (only_of_below b11 none) (Decidable.em _)); have E11 := hid (E10.out.below b11 E10.out.lt); clear b11 y0 y3 z0 z3))
                          go_roundw
                          case rel => exact ⟨i + 1, by push_cast; rfl, by omega, hid ⟨B11.out, O11.out, E11.out⟩⟩
                          case measure => simp only [intOf]; omega
                        · have hq2 : (f.mode == 2) = false := by simpa using h2
                          have z3 : w10.cell? ⟨fg, 3, none⟩ = some (.int .i64 f.mode) := (F10.out.cell 3).trans rfl
                          go_wp2_with fail
                          go_roundw
                          case rel => exact ⟨i + 1, by push_cast; rfl, by omega, hid ⟨B10.out, O10.out, E10.out⟩⟩
                          case measure => simp only [intOf]; omega
                    · have hlt4' : ¬ (i : Int) < (gn : Int) := by omega
                      obtain ⟨y0, y1, y2, y3, y4, y5⟩ := lcells6 H4.out.2.2
                      obtain ⟨i0, hi0, hz0, hz1, hz2⟩ := info_parts info_ent
                      have HOld := hid (H4.out.2.1.alloc (.cells #[.string x.path, .int .u64 x.num, .string x.foot, .int .i64 x.mode, .int .u64 x.n, .int .i64 x.stamp] 41))
                      have HNw := hid (Blk.new wr 41 #[.string x.path, .int .u64 x.num, .string x.foot, .int .i64 x.mode, .int .u64 x.n, .int .i64 x.stamp])
                      have B11 := hid (H4.out.1.alloc H4.out.1.size (.cells #[.string x.path, .int .u64 x.num, .string x.foot, .int .i64 x.mode, .int .u64 x.n, .int .i64 x.stamp] 41))
                      have E11 := hid (H4.out.2.2.alloc (.cells #[.string x.path, .int .u64 x.num, .string x.foot, .int .i64 x.mode, .int .u64 x.n, .int .i64 x.stamp] 41))
                      have hsz := H4.out.1.size
                      go_upto_region 33 with (first
                        | (at_builtin; refine wpList_append_own_at _ rfl (.tmp 108) (.tmp 110) 28 rfl wS.heap.size 41 i0 _ 6 64 Try.underlying28 hi0 hz0 hz1 hz2 rfl (by decide) (.slice A3 gn c3) gn (flatE gl) rfl HOld.out ⟨wr.heap.size, 0, none⟩ 1 1 (entL x) rfl rfl (ent_at (e := x) HNw.out) (entL_one _) (by unfold maxLen; omega) (by omega) (by simp; omega) ?_; intro v2 w2 own2 hg2 _ _
                           have O12 : Hid (w2.ownsRow wS.heap.size 41 6 v2 (gl ++ [x]).length (flatE (gl ++ [x]))) := hid (by rw [flatE_app, List.length_append, HGn.out]; exact own2)
                           have B12 := hid (B11.out.grown hg2 (by simp; omega) (fun b e => (HOld.out.lt b e).1))
                           have E12 := hid (E11.out.grown hg2 (fun e => by have := HRx.out xg e.symm; omega))
                           clear own2 hg2 y0 y1 y2 y3 y4 y5
                           obtain ⟨y0, y1, y2, y3, y4, y5⟩ := lcells6 E12.out))
                      have HSnn : Hid ((gl ++ [x]).length ≤ m3 + 1) := hid (by rw [List.length_append, HGn.out]; simp; omega)
                      have HDr : Hid (∀ w3, Below w2.heap.size w2 w3 → Below wS.heap.size wS w3 ∧ w3.ownsRow wS.heap.size 41 6 v2 ((ds.take (m3 + 1)).filter Gk).length (flatE ((ds.take (m3 + 1)).filter Gk))) := hid (fun w3 b3 => ⟨B12.out.trans (b3.mono B12.out.size), by rw [HXf.out]; exact O12.out.kept (row := none) (only_of_below b3 none) (Decidable.em _)⟩)
                      have L12 := HL.out.2.2.below B12.out
                      by_cases hm0 : m3 = 0
                      · have hq0 : ((m3 : Int) > 0) = False := by simp; omega
                        subst hm0
                        clear L12 O12 B12 E12 B11 E11 HNw HOld H4
                        go_quiet (fail)
                        go_wp2_with fail
                        go_roundw
                        case rel => exact ⟨0 + 1, _, rfl, by push_cast; rfl, by omega, hid (HDr.out _ (lksbelow_drew _ _))⟩
                        case measure => simp only [intOf]; omega
                      · obtain ⟨k, hk⟩ : ∃ k, k + 1 = m3 := ⟨m3 - 1, by omega⟩
                        have qk : IntKind.i64.wrap ((m3 : Int) - 1) = (k : Int) := by rw [IntWalk.i64_in _ (by omega)]; omega
                        have hkn : (k : Int) < (dn : Int) := by omega
                        have hm1 : (0 : Int) < (m3 : Int) := by omega
                        have hm2 : 0 < m3 := by omega
                        have hm3 : decide ((0 : Int) < (m3 : Int)) = true := by simp; omega
                        obtain ⟨y, hy⟩ : ∃ y, ds[k]? = some y := ⟨_, List.getElem?_eq_getElem (by rw [HDn.out]; omega)⟩
                        obtain ⟨b2, o2, e2, hb2, p0, p1, p2, p3, p4, p5⟩ := L12.atS hy
                        injection e2 with e2
                        injection e2 with e2 e3
                        subst e2 e3
                        have hyk := HDk.out y (List.mem_of_getElem? hy)
                        have hord : cmpE y x < 0 := by
                          obtain ⟨u1, u2⟩ := List.getElem?_eq_some_iff.1 hy
                          obtain ⟨u3, u4⟩ := List.getElem?_eq_some_iff.1 HX.out
                          have := List.pairwise_iff_getElem.1 HRi.out k m3 u1 u3 (by omega)
                          rw [u2, u4] at this
                          exact this
                        by_cases hpp : y.path = x.path
                        · have hst : y.stamp < x.stamp := by
                            rcases (cmpE_lt y x).1 hord with h | h
                            · rw [hpp, (cmpOf_same _ _).2 rfl] at h; omega
                            · exact h.2
                          have hn := seq_rise HGd.out hyk HKx.out hpp hst
                          have hng : ¬ x.n ≤ y.n := by omega
                          rw [hpp] at p0
                          clear L12 O12 B12 E12 B11 E11 HNw HOld H4 hy hyk hord hst hn hpp
                          go_quiet (fail)
                          go_wp2_with fail
                          go_roundw
                          case rel => exact ⟨m3 + 1, _, rfl, by push_cast; rfl, by omega, hid (HDr.out _ (lksbelow_drew _ _))⟩
                          case measure => simp only [intOf]; omega
                        · have q1 : (y.path.toList == x.path.toList) = false := by rw [lkeq_text]; simpa using hpp
                          clear L12 O12 B12 E12 B11 E11 HNw HOld H4 hy hyk hord hpp
                          go_quiet (fail)
                          go_wp2_with fail
                          go_roundw
                          case rel => exact ⟨m3 + 1, _, rfl, by push_cast; rfl, by omega, hid (HDr.out _ (lksbelow_drew _ _))⟩
                          case measure => simp only [intOf]; omega
              · have hlt3' : ¬ (m3 : Int) < (dn : Int) := by omega
                have hall : ∀ y ∈ gl, grantE ks2 y = true := fun y hy => by
                  rw [← HGl.out] at hy
                  rw [HGk.out]
                  exact (List.mem_filter.1 hy).2
                obtain ⟨A3, c3, e3, hA3, hS3⟩ := SeesE.of_own HO.out.2
                subst e3
                have HS3 := hid hS3
                have HAll := hid hall
                have P9 := hid (HL.out.1.on HO.out.1)
                clear hall hS3 hA3
                go_wp2_with fail
                go_roundw
                case rel => exact ⟨j + 1, ks2, cs2, A3, gl.length, c3, gl, rfl, by push_cast; rfl, by omega, rfl, by omega, hid ⟨P9.out, HS3.out, HAll.out⟩⟩
                case measure => simp only [intOf]; omega
      · have hlt' : ¬ (j : Int) < (ln : Int) := by omega
        go_wp2_with fail
        go_ret
        exact ⟨rfl, HP.out.1.bel⟩
end Go.Proofs.Ytgjbhlianlbflaa
