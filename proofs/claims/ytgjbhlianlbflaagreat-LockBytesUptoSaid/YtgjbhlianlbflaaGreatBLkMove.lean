/-
  The contracts of lock's Remove, Drop.
-/
import Derived.Test.YtgjbhlianlbflaaGreatBLkSet
namespace Go.Proofs.YtgjbhlianlbflaaGreat
open Go.ChangeShapes Go.WideShapes Go.ChangeAt Go.RowKit Go.Maps Go.WideMaps
set_option linter.unusedVariables false
set_option linter.unusedSimpArgs false
theorem rmE_none {l : List EnL} {p : ByteArray} {u : Int} {f : ByteArray} (h : findE l p u f = none) : rmE l p u f = l := by
  unfold rmE
  rw [List.filter_eq_self]
  intro e he
  have := findE_none h e he
  cases hc : isE p u f e
  · rfl
  · exact absurd (isE_iff.1 hc) this
theorem EnD.del {first : Int} {l : List EnL} {cs : CnL} {D : DataW Value} (hg : GoodK first l cs) (h : EnD l D) {p : ByteArray} {u : Int} {f : ByteArray} (hp : OkK p) (hu : IsUk u) (hf : OkK f) : EnD (rmE l p u f) (D.del (lklit p u f)) := by
  obtain ⟨h1, h2⟩ := h
  have hne : ∀ x ∈ l, lklit x.path x.num x.foot = lklit p u f ↔ isE p u f x = true := fun x hx => by
    have k := hg.keys x hx
    rw [isE_iff]
    constructor
    · intro e; exact lklit_inj k.2.1.max k.2.2.max k.1 hp.max hf.max hu e
    · rintro ⟨rfl, rfl, rfl⟩; rfl
  refine ⟨fun q v g hq hv hg' => ?_, fun kl hkl => ?_⟩
  · rw [show rmE l p u f = l.filter (fun e => !isE p u f e) from rfl, find_filter hg]
    obtain ⟨k1, k2⟩ := h1 q v g hq hv hg'
    by_cases e : lklit q v g = lklit p u f
    · rw [e, has_del_same]
      obtain ⟨rfl, rfl, rfl⟩ := lklit_inj hq.max hg'.max hv hp.max hf.max hu e
      cases hc : findE l q v g with
      | none => exact ⟨rfl, fun _ h => by cases h⟩
      | some x =>
        have hx := findE_mem hc
        have : isE q v g x = true := isE_iff.2 hx.2
        simp [Option.filter, this]
    · rw [has_del_other e, k1]
      cases hc : findE l q v g with
      | none => exact ⟨rfl, fun _ h => by cases h⟩
      | some x =>
        have hx := findE_mem hc
        have hxe : isE p u f x = false := by
          cases hh : isE p u f x
          · rfl
          · exact absurd (by rw [← (hne x hx.1).2 hh, hx.2.1, hx.2.2.1, hx.2.2.2]) e
        simp only [Option.filter, hxe]
        refine ⟨rfl, fun y hy z => ?_⟩
        rw [atKey_del_other e]
        exact k2 y (by simpa [hc] using hy) z
  · by_cases e : kl = lklit p u f
    · rw [e, has_del_same] at hkl; cases hkl
    · rw [has_del_other e] at hkl
      obtain ⟨x, hx, rfl⟩ := h2 kl hkl
      refine ⟨x, List.mem_filter.2 ⟨hx, ?_⟩, rfl⟩
      cases hh : isE p u f x
      · rfl
      · exact absurd ((hne x hx).2 hh) e
theorem turned_D {w w' : World} {b : Nat} (h : w.mapTurned w' b) : TurnsD (fun i => i = b) w w' := TurnsD.of_grown h.grown (fun x e => by injection e with e; exact e.symm)
set_option maxRecDepth 100000 in
set_option maxHeartbeats 4000000 in
theorem lkremove_any (base b de dc n : Nat) (first : Int) (l : List EnL) (cs : CnL) (p : ByteArray) (u : Int) (f : ByteArray) (w : World) (h : BkK w base b de dc n first l cs) (hp : OkK p) (hu : IsUk u) (hf : OkK f) :
    Calls Tryz.prog 31 #[.pointer (some ⟨b, 0, none⟩), .string p, .agg #[.int .u64 u, .string f]] w fun r w' => r = .returned (.int .i64 (if (findE l p u f).isSome = true then 0 else 52)) ∧ BkK w' base b de dc n first (rmE l p u f) cs ∧ TurnsD (fun i => i = de) w w' := by
  have HB := hid h.blk
  have HL := hid h.lt
  have HBK := hid h
  have HC := hid (fun w' (k : Below w.heap.size w w') => lkhas_any base b de dc n first l cs p u f w' (h.on k) hp hu hf)
  have HQ := hid (lkbuild_key p u f)
  have HKey := hid (keyof_lkey (p := p) (u := u) (f := f) hp.max hf.max hu)
  have HDel := hid (fun D (hD : EnD l D) => EnD.del h.good hD hp hu hf)
  simp only [lkeyV] at HQ HKey
  obtain ⟨o, ho⟩ : ∃ o, (findE l p u f).isSome = o := ⟨_, rfl⟩
  have HO := hid ho
  rw [ho] at HC ⊢
  clear ho h hp hu hf
  go_enter Tryz.func31, Tryz.ntmps31
  go_upto_region 1 with fail
  obtain ⟨W, hW⟩ : ∃ W, w.alloc (.cells #[.int .u64 u, .string f] 33) = W := ⟨_, rfl⟩
  rw [hW]
  obtain ⟨K0, KB⟩ := lone_new hW
  clear hW
  have HCs := hid (HC.out W KB.out)
  obtain ⟨k, hk⟩ : ∃ k, w.heap.size = k := ⟨_, rfl⟩
  rw [hk] at K0 KB HL ⊢
  have HK := hid hk
  clear hk HC
  obtain ⟨c0, c1⟩ := lcells2 K0.out
  cases o with
  | false =>
    have HR : Hid (rmE l p u f = l) := hid (rmE_none (by have := HO.out; cases hc : findE l p u f with | none => rfl | some x => rw [hc] at this; cases this))
    go_wp2_with (go_at_call 62; (with_reducible refine HCs.out.mono ?_); rintro e w1 ⟨rfl, b1⟩; have B2 := hid (KB.out.trans (b1.mono (by have := K0.out.lt; omega))); clear b1)
    go_ret
    exact ⟨rfl, by rw [HR.out]; exact HBK.out.on (by rw [HK.out]; exact B2.out), TurnsD.of_below (by rw [HK.out]; exact B2.out)⟩
  | true =>
    go_upto_region 3 with (go_at_call 62; (with_reducible refine HCs.out.mono ?_); rintro e w1 ⟨rfl, b1⟩; have K2 := hid (ent_low K0.out b1); have B2 := hid (KB.out.trans (b1.mono (by have := K0.out.lt; omega))); clear b1)
    clear c0 c1
    have HBK1 : Hid (BkK w1.drew base b de dc n first l cs) := hid (HBK.out.on (by rw [HK.out]; exact below_drew B2.out))
    have HBk := hid HBK1.out.blk
    obtain ⟨D, hD, hM⟩ := HBK1.out.es
    have HD := hid hD
    have HM : Hid (EnD l D) := hid hM
    have q0 : w1.drew.cell? ⟨b, 1, none⟩ = some (.map (some de)) := (HBk.out.cell 1).trans rfl
    have q2 := HQ.out w1.drew
    obtain ⟨c0, c1⟩ := lcells2 K2.out
    clear hD hM
    go_still_tail 7, (by kernel_rfl)
    go_wp2_with (first
      | (at_delete; refine wpList_delete_own _ rfl _ _ 75 84 rfl 44 law_lkey Tryz.underlying75 idK de n D rfl HD.out _ _ rfl HKey.out ?_; intro w2 hown hturn; have HO2 := hid hown; have HT2 := hid (turned_D hturn); clear hown hturn))
    go_ret
    have T : TurnsD (fun i => i = de) w w2 := (TurnsD.of_below (by rw [HK.out]; exact below_drew B2.out)).trans HT2.out (fun _ _ e => e)
    have hlt := HBK.out.lt
    have hne := HBK.out.ne
    exact ⟨rfl, ⟨(T.block b hlt.1 hne.1).trans HBK.out.blk, ⟨_, HO2.out, HDel.out D HM.out⟩, HBK.out.ct.same (T.block dc hlt.2.2 (fun e => hne.2.2 e.symm)), HBK.out.good.filter _,
      ⟨Nat.le_trans (List.length_filter_le _ _) HBK.out.many.1, fun e he => HBK.out.many.2 e (List.mem_filter.1 he).1⟩, hne, HBK.out.low⟩, T⟩
def lcE (u : Int) (f : ByteArray) (left : Lit → Bool) (l : List EnL) : List EnL := l.filter fun e => !(ofE u f e && !left (lklit e.path e.num e.foot))
theorem lcE_start {l : List EnL} {D : DataW Value} {first : Int} {cs : CnL} (hg : GoodK first l cs) (h : EnD l D) (u : Int) (f : ByteArray) : lcE u f (Maps.has D) l = l := by
  unfold lcE
  rw [List.filter_eq_self]
  intro e he
  have k := hg.keys e he
  rw [(h.1 _ _ _ k.2.1 k.1 k.2.2).1, hg.find he]
  simp
theorem lcE_end {l : List EnL} {left : Lit → Bool} (h : ∀ kl, left kl = false) (u : Int) (f : ByteArray) : lcE u f left l = dropE l u f := by
  unfold lcE dropE
  refine List.filter_congr (fun e _ => ?_)
  rw [h]
  simp
theorem lcE_mem {l : List EnL} {left : Lit → Bool} {u : Int} {f : ByteArray} {e : EnL} (h : e ∈ lcE u f left l) : e ∈ l := (List.mem_filter.1 h).1
theorem key_same {first : Int} {l : List EnL} {cs : CnL} (hg : GoodK first l cs) {s e : EnL} (hs : s ∈ l) (he : e ∈ l) : (lklit e.path e.num e.foot).sameKey (lklit s.path s.num s.foot) = isE s.path s.num s.foot e := by
  have ks := hg.keys s hs
  have ke := hg.keys e he
  rw [Bool.eq_iff_iff, isE_iff]
  constructor
  · intro h; exact lklit_inj ke.2.1.max ke.2.2.max ke.1 ks.2.1.max ks.2.2.max ks.1 (WideAt.sameKey_eq h)
  · rintro ⟨a, b, c⟩
    rw [a, b, c]
    exact WideAt.sameKey_self (law_lkey.key (keyof_lkey ks.2.1.max ks.2.2.max ks.1))
theorem lcE_stay {first : Int} {l : List EnL} {cs : CnL} (hg : GoodK first l cs) {left : Lit → Bool} {u : Int} {f : ByteArray} {s : EnL} (hs : s ∈ l) (ho : ofE u f s = false) : lcE u f (fun z => left z && !z.sameKey (lklit s.path s.num s.foot)) l = lcE u f left l := by
  unfold lcE
  refine List.filter_congr (fun e he => ?_)
  simp only [key_same hg hs he]
  cases hh : isE s.path s.num s.foot e with
  | false => simp
  | true =>
    have : e = s := hg.one he hs (isE_iff.1 hh)
    subst this
    simp [ho]
theorem lcE_go {first : Int} {l : List EnL} {cs : CnL} (hg : GoodK first l cs) {left : Lit → Bool} {u : Int} {f : ByteArray} {s : EnL} (hs : s ∈ l) (ho : ofE u f s = true) (hl : left (lklit s.path s.num s.foot) = true) :
    lcE u f (fun z => left z && !z.sameKey (lklit s.path s.num s.foot)) l = rmE (lcE u f left l) s.path s.num s.foot := by
  unfold lcE rmE
  rw [List.filter_filter]
  refine List.filter_congr (fun e he => ?_)
  simp only [key_same hg hs he]
  cases hh : isE s.path s.num s.foot e with
  | false => simp
  | true =>
    have : e = s := hg.one he hs (isE_iff.1 hh)
    subst this
    simp [ho]
def DropAt (w W : World) (b de r n : Nat) (first : Int) (dc : Nat) (u : Int) (f : ByteArray) (l : List EnL) (k : Nat) (D : DataW Value) (left : Lit → Bool) (cnt : Nat) : Prop :=
  W.ranges Tryz.prog 84 idK de r n D left cnt ∧ (∀ kl, left kl = true → Maps.has D kl = true) ∧ EnD (lcE u f left l) D ∧ TurnsD (fun i => i = de) w W ∧ Blk W k 33 #[.int .u64 u, .string f] ∧ Blk W b 78 #[.int .u64 first, .map (some de), .map (some dc)] ∧ r < W.heap.size
set_option maxRecDepth 100000 in
set_option maxHeartbeats 4000000 in
theorem lkdrop_any (base b de dc n : Nat) (first : Int) (l : List EnL) (cs : CnL) (u : Int) (f : ByteArray) (w : World) (h : BkK w base b de dc n first l cs) (hn : n ≤ 1000000) :
    Calls Tryz.prog 29 #[.pointer (some ⟨b, 0, none⟩), .agg #[.int .u64 u, .string f]] w fun r w' => r = .returned (.int .i64 ((heldE l u f : Nat) : Int)) ∧ BkK w' base b de dc n first (dropE l u f) cs ∧ TurnsD (fun i => i = de) w w' := by
  have HL := hid h.lt
  have HBK := hid h
  have HR := hid h.good
  have HNe := hid h.ne
  have HC := hid (fun w' (k : Below w.heap.size w w') => lkheld_any base b de dc n first l cs u f w' (h.on k) hn)
  obtain ⟨hm, hhm⟩ : ∃ x, heldE l u f = x := ⟨_, rfl⟩
  rw [hhm] at HC ⊢
  clear h hhm
  go_enter Tryz.func29, Tryz.ntmps29
  go_upto_region 1 with fail
  obtain ⟨W, hW⟩ : ∃ W, w.alloc (.cells #[.int .u64 u, .string f] 33) = W := ⟨_, rfl⟩
  rw [hW]
  obtain ⟨K0, KB⟩ := lone_new hW
  clear hW
  have HCs := hid (HC.out W KB.out)
  obtain ⟨k, hk⟩ : ∃ k, w.heap.size = k := ⟨_, rfl⟩
  rw [hk] at K0 KB HL ⊢
  have HK := hid hk
  clear hk HC
  obtain ⟨c0, c1⟩ := lcells2 K0.out
  go_upto_region 2 with (go_at_call 59; (with_reducible refine HCs.out.mono ?_); rintro e w1 ⟨rfl, b1⟩; have K2 := hid (ent_low K0.out b1); have B2 := hid (KB.out.trans (b1.mono (by have := K0.out.lt; omega))); clear b1)
  clear c0 c1 HCs K0 KB
  have HBK1 : Hid (BkK w1 base b de dc n first l cs) := hid (HBK.out.on (by rw [HK.out]; exact B2.out))
  have HBk := hid HBK1.out.blk
  obtain ⟨D, hD, hM⟩ := HBK1.out.es
  have HD := hid hD
  have HM : Hid (EnD l D) := hid hM
  have c1 : w1.cell? ⟨b, 1, none⟩ = some (.map (some de)) := (HBk.out.cell 1).trans rfl
  clear hD hM
  go_wp2_with (first
    | (at_range; with_reducible refine wpList_range_own _ rfl _ 75 rfl 84 44 law_lkey Tryz.underlying75 idK de n D rfl HD.out ?_; intro w0 hrg0 hg0 hs0))
  go_frame
  obtain ⟨rr, hrr⟩ : ∃ r, w1.heap.size = r := ⟨_, rfl⟩
  rw [hrr] at hrg0 hs0
  rw [hrr]
  have hkr : k < rr := by rw [← hrr]; exact K2.out.lt
  have A0 : Hid (DropAt w w0 b de rr n first dc u f l k D (Maps.has D) (Maps.size D)) := hid ⟨hrg0, fun _ h => h, by rw [lcE_start HR.out HM.out]; exact HM.out, TurnsD.of_below (by rw [HK.out]; exact B2.out.trans ((lbelow_grown hg0).mono (by omega))), K2.out.grown hg0 (by simp), HBk.out.grown hg0 (by simp), by omega⟩
  clear hrg0 hg0 hs0 c1
  go_loopw [] (fun wr => ∃ D left cnt, Hid (DropAt w wr b de rr n first dc u f l k D left cnt)) (fun wr => wr.rangeLeft de rr)
  case atStart => exact ⟨_, _, _, A0⟩
  case round =>
    obtain ⟨D', left, cnt, HA⟩ := hrel
    clear A0
    have HG : Hid (wr.ranges Tryz.prog 84 idK de rr n D' left cnt) := hid HA.out.1
    have HGl : Hid (GoodK first (lcE u f left l) cs) := hid (HR.out.filter _)
    have hbk := HL.out
    have hne := HNe.out
    go_wp2_with (first
      | (at_next; with_reducible refine wpList_next_ranges _ rfl _ rfl 84 law_lkey idK (fun x : ByteArray × Int × ByteArray => (lkeyV x.1 x.2.1 x.2.2 : Value)) (fun c : Value => c) inv_lkey inv_idK de rr n D' left cnt rfl HG.out ?_ ?_))
    · intro _ hl0
      have HP : Hid (lcE u f left l = dropE l u f) := hid (lcE_end hl0 u f)
      have HX := hid HA.out.2.2
      have HOwn : Hid (wr.ownsMap Tryz.prog 84 idK de n D') := hid (by obtain ⟨es, clock, since, seen, c0, h1, h2, h3, h4, _⟩ := HG.out; exact ⟨es, clock, h1, h2, h3, h4⟩)
      clear hl0 HA HG
      go_wp2
      go_ret
      have T := HX.out.2.1
      have hlt := HBK.out.lt
      exact ⟨rfl, ⟨HX.out.2.2.2.1, ⟨_, HOwn.out, by rw [← HP.out]; exact HX.out.1⟩, HBK.out.ct.same (T.block dc hlt.2.2 (fun e => hne.2.2 e.symm)), HBK.out.good.filter _,
        ⟨Nat.le_trans (List.length_filter_le _ _) HBK.out.many.1, fun e he => HBK.out.many.2 e (List.mem_filter.1 he).1⟩, hne, HBK.out.low⟩, T⟩
    · intro p2 u2 f2 c kl y yp w2 cnt1 hkey hlk hv hat hrg1 hlt1 hg1 hs1 hen
      obtain ⟨s, hs0, e1, e2, e3, rfl, rfl⟩ := entry_lk (y := (y, yp)) HGl.out HA.out.2.2.1 hkey (HA.out.2.1 _ hlk) hv hat
      have hs := lcE_mem hs0
      rw [e1, e2, e3] at hen ⊢
      have HS := hid hs
      have HLk := hid hlk
      have BG := hid hrg1
      have BH : Hid (∀ kl, (left kl && !kl.sameKey (lklit s.path s.num s.foot)) = true → Maps.has D' kl = true) := hid (fun kl h => HA.out.2.1 kl (by simp at h; exact h.1))
      have BM := hid HA.out.2.2.1
      have BT2 : Hid (TurnsD (fun i => i = de) w w2) := hid (HA.out.2.2.2.1.trans (T := fun i => i = rr) (TurnsD.of_grown hg1 (fun x e => by injection e with e; exact e.symm)) (fun i hi e => absurd hi (by rw [HK.out]; omega)))
      have BK2 := hid (HA.out.2.2.2.2.1.grown hg1 (by simp; omega))
      have BB2 := hid (HA.out.2.2.2.2.2.1.grown hg1 (by simp; omega))
      have BL := hid hlt1
      have BT : Hid (wr.rangeLeft de rr = cnt) := hid HG.out.left_eq
      have BS : Hid (rr < w2.heap.size) := hid (by rw [hs1]; exact HG.out.lt)
      clear hkey hlk hv hat hrg1 hlt1 hg1 hs1 HA HG e1 e2 e3 hs0
      go_upto_region 5 with fail
      obtain ⟨W1, hW1⟩ : ∃ W1, w2.alloc (.cells #[.string s.path, .int .u64 s.num, .string s.foot] 84) = W1 := ⟨_, rfl⟩
      rw [hW1]
      obtain ⟨v, hv⟩ : ∃ v, w2.heap.size = v := ⟨_, rfl⟩
      obtain ⟨E6, EB⟩ := lone_new hW1
      have cG := hid (BG.out.kept (row := none) (only_of_below EB.out none) (by simp) (by simp))
      have cT := hid (BT2.out.then EB.out)
      have cK := hid (ent_low BK2.out EB.out)
      have cB := hid (ent_low BB2.out EB.out)
      rw [hv] at E6 EB BS ⊢
      clear hv hW1 BT2 BG EB BK2 BB2 hen
      have d0 : W1.cell? ⟨v, 0, none⟩ = some (.string s.path) := (E6.out.cell 0).trans rfl
      have d1 : W1.cell? ⟨v, 1, none⟩ = some (.int .u64 s.num) := (E6.out.cell 1).trans rfl
      have d2 : W1.cell? ⟨v, 2, none⟩ = some (.string s.foot) := (E6.out.cell 2).trans rfl
      obtain ⟨x0, x1⟩ := lcells2 cK.out
      by_cases hu : s.num = u
      · by_cases hf : s.foot = f
        · have HO : Hid (ofE u f s = true) := hid (by simp [ofE, hu, hf])
          have HGo := hid (lcE_go HR.out HS.out HO.out HLk.out)
          have HKs := HR.out.keys s HS.out
          have HKey := hid (keyof_lkey HKs.2.1.max HKs.2.2.max HKs.1)
          have HDel := hid (EnD.del HGl.out BM.out HKs.2.1 HKs.1 HKs.2.2)
          have HBH2 : Hid (∀ kl, (left kl && !kl.sameKey (lklit s.path s.num s.foot)) = true → Maps.has (D'.del (lklit s.path s.num s.foot)) kl = true) := hid (fun kl h => by
            have h2 : kl ≠ lklit s.path s.num s.foot := fun e => by
              subst e
              rw [WideAt.sameKey_self (law_lkey.key HKey.out)] at h
              simp at h
            rw [has_del_other h2]
            exact BH.out kl h)
          simp only [lkeyV] at HKey
          have HKey2 : Hid (keyOf Tryz.prog 84 (.agg #[.string s.path, .int .u64 u, .string f]) = some (lklit s.path s.num s.foot)) := hid (by rw [← hu, ← hf]; exact HKey.out)
          go_upto_region 6 with fail
          have q0 : W1.drew.cell? ⟨b, 1, none⟩ = some (.map (some de)) := (cB.out.drew.cell 1).trans rfl
          have cG2 := hid (cG.out.kept (row := none) (only_of_below ((Below.refl _ W1).drew) none) (by simp) (by simp))
          have HBd := hid cB.out.drew
          have HKd := hid cK.out.drew
          have HTd := hid cT.out.drew
          have HSd : Hid (rr < W1.drew.heap.size) := hid (by have := E6.out.lt; have := BS.out; show rr < W1.heap.size; omega)
          go_still_tail 5, (by kernel_rfl)
          go_wp2_with (first
            | (at_delete; refine wpList_delete_ranges _ rfl (.tmp 26) (.tmp 27) 75 84 rfl 44 law_lkey Tryz.underlying75 idK de rr n D' _ cnt1 rfl cG2.out (.agg #[.string s.path, .int .u64 u, .string f]) (lklit s.path s.num s.foot) rfl HKey2.out ?_; intro w5 cnt5 hrg5 hle5 hturn5; have HRg := hid hrg5; have HLe := hid hle5; have HT5 := hid (turned_D hturn5); clear hrg5 hle5 hturn5))
          go_frame
          have HRg2 := HRg.out
          rw [Maps.strike_twice] at HRg2
          have HRg3 := hid HRg2
          clear HRg HRg2
          go_roundw
          case rel => exact ⟨_, _, cnt5, hid ⟨HRg3.out, HBH2.out, by rw [HGo.out]; exact HDel.out, HTd.out.trans HT5.out (fun _ _ e => e), HKd.out.turns HT5.out (by omega), HBd.out.turns HT5.out hne.1, Nat.lt_of_lt_of_le HSd.out HT5.out.size⟩⟩
          case measure => rw [HRg3.out.left_eq, BT.out]; have := BL.out; have := HLe.out; omega
        · have HO : Hid (ofE u f s = false) := hid (by simp [ofE, hf])
          have HSt := hid (lcE_stay (left := left) HR.out HS.out HO.out)
          have hq := lkeq_text s.foot f
          rw [decide_eq_false hf] at hq
          rw [← hu] at x0
          go_wp2
          go_roundw
          case rel => exact ⟨_, _, cnt1, hid ⟨cG.out, BH.out, by rw [HSt.out]; exact BM.out, cT.out, cK.out, cB.out, by have := E6.out.lt; have := BS.out; omega⟩⟩
          case measure => rw [cG.out.left_eq, BT.out]; exact BL.out
      · have HO : Hid (ofE u f s = false) := hid (by simp [ofE, hu])
        have HSt := hid (lcE_stay (left := left) HR.out HS.out HO.out)
        have hq : (s.num == u) = false := by simpa using hu
        go_wp2
        go_roundw
        case rel => exact ⟨_, _, cnt1, hid ⟨cG.out, BH.out, by rw [HSt.out]; exact BM.out, cT.out, cK.out, cB.out, by have := E6.out.lt; have := BS.out; omega⟩⟩
        case measure => rw [cG.out.left_eq, BT.out]; exact BL.out
end Go.Proofs.YtgjbhlianlbflaaGreat
