/-
  The contracts of lock's set, setCounter, Add.
-/
import Derived.Test.YtgjbhlianlbflaaGreatBLkOver
namespace Go.Proofs.YtgjbhlianlbflaaGreat
open Go.ChangeShapes Go.WideShapes Go.ChangeAt Go.RowKit Go.Maps Go.WideMaps
set_option linter.unusedVariables false
set_option linter.unusedSimpArgs false
theorem EsM.put_all {w : World} {b n : Nat} {l : List EnL} (h : EsM w b n l) (hn : n < maxLen) (e : EnL) (hno : findE l e.path e.num e.foot = none) (hl : ∀ x ∈ l, OkK x.path ∧ IsUk x.num ∧ OkK x.foot) (hp : OkK e.path) (hu : IsUk e.num) (hf : OkK e.foot) :
    ∃ U : World → World, ∀ w', w'.heap[b]? = w.heap[b]? → (Instr.mapUpdate 75 (.map (some b)) (lkeyV e.path e.num e.foot) (.agg (entC e))).run Tryz.prog w' = .ok () (U w') ∧ EsM (U w') b (n + 1) (l ++ [e]) ∧ w'.grownBy (U w') (some b) := by
  classical
  refine ⟨fun w' => if e1 : w'.heap[b]? = w.heap[b]? then ((h.same e1).put hn e hno hl hp hu hf).choose else w', fun w' e1 => ?_⟩
  simp only [dif_pos e1]
  exact ((h.same e1).put hn e hno hl hp hu hf).choose_spec
theorem CsM.put_all {w : World} {b n : Nat} {cs : CnL} (h : CsM w b n cs) (hn : n < maxLen) (p : ByteArray) (m : Int) (hp : OkK p) :
    ∃ U : World → World, ∀ w', w'.heap[b]? = w.heap[b]? → (Instr.mapUpdate 76 (.map (some b)) (.string p) (.int .u64 m)).run Tryz.prog w' = .ok () (U w') ∧ CsM (U w') b (n + 1) (setC cs p m) ∧ w'.grownBy (U w') (some b) := by
  classical
  refine ⟨fun w' => if e1 : w'.heap[b]? = w.heap[b]? then ((h.same e1).put hn p m hp).choose else w', fun w' e1 => ?_⟩
  simp only [dif_pos e1]
  exact ((h.same e1).put hn p m hp).choose_spec
set_option maxRecDepth 100000 in
set_option maxHeartbeats 4000000 in
theorem lkset_any (b de dc n : Nat) (first : Int) (l : List EnL) (e : EnL) (w : World) (hb : Blk w b 78 #[.int .u64 first, .map (some de), .map (some dc)]) (hm : EsM w de n l) (hn : n < maxLen) (hno : findE l e.path e.num e.foot = none)
    (hl : ∀ x ∈ l, OkK x.path ∧ IsUk x.num ∧ OkK x.foot) (hp : OkK e.path) (hu : IsUk e.num) (hf : OkK e.foot) :
    Calls Tryz.prog 61 #[.pointer (some ⟨b, 0, none⟩), entV e] w fun r w' => r = .returned (.tuple #[]) ∧ EsM w' de (n + 1) (l ++ [e]) ∧ TurnsD (fun i => i = de) w w' := by
  have HB := hid hb
  have HM := hid hm
  obtain ⟨U, hU⟩ := hm.put_all hn e hno hl hp hu hf
  have HU := hid hU
  have HC := hid (fun w => lkclone_any e w hp hf)
  have HQ := hid (lkbuild_key e.path e.num e.foot)
  obtain ⟨p, u, f, mo, nn, st⟩ := e
  simp only [lkeyV] at HU HQ
  clear hb hm hU hn hno hl hp hu hf
  go_enter Tryz.func61, Tryz.ntmps61
  go_upto_region 1 with fail
  obtain ⟨W, hW⟩ : ∃ W, w.alloc (.cells #[.string p, .int .u64 u, .string f, .int .i64 mo, .int .u64 nn, .int .i64 st] 44) = W := ⟨_, rfl⟩
  rw [hW]
  obtain ⟨K0, KB⟩ := lone_new hW
  clear hW
  obtain ⟨k, hk⟩ : ∃ k, w.heap.size = k := ⟨_, rfl⟩
  have hbk : b < k ∧ de < k := by rw [← hk]; exact ⟨HB.out.lt, HM.out.lt⟩
  have HB1 := hid (HB.out.below KB.out HB.out.lt)
  have HM1 : Hid (W.heap[de]? = w.heap[de]?) := hid (KB.out.block de HM.out.lt)
  rw [hk] at K0 KB ⊢
  have HK := hid hk
  clear hk
  obtain ⟨c0, c1, c2, c3, c4, c5⟩ := lcells6 K0.out
  go_upto_region 2 with (first
    | (go_at_call 42; (with_reducible refine (HC.out _).mono ?_); rintro e w1 ⟨rfl, hb1⟩; have K2 := hid (K0.out.below hb1 K0.out.lt); have HB2 := hid (HB1.out.below hb1 HB1.out.lt); have HM2 := hid ((hb1.block de (by have := K0.out.lt; omega)).trans HM1.out); have KB2 := hid (KB.out.trans (hb1.mono (by have := K0.out.lt; omega))); clear hb1 c0 c1 c2 c3 c4 c5; obtain ⟨c0, c1, c2, c3, c4, c5⟩ := lcells6 K2.out; obtain ⟨g0, g1, g2, g3, g4, g5⟩ := lkfrozen6 K2.out))
  have K4 := hid (put6_blk K2.out (.string p) (.int .u64 u) (.string f) (.int .i64 mo) (.int .u64 nn) (.int .i64 st))
  have T3 := hid (put6_below KB2.out (Nat.le_refl k) (.string p) (.int .u64 u) (.string f) (.int .i64 mo) (.int .u64 nn) (.int .i64 st))
  have HB3 : Hid (Blk (put6 w1 k (.string p) (.int .u64 u) (.string f) (.int .i64 mo) (.int .u64 nn) (.int .i64 st)) b 78 #[.int .u64 first, .map (some de), .map (some dc)]) := hid ((T3.out.block b hbk.1).trans HB.out)
  have HM3 : Hid ((put6 w1 k (.string p) (.int .u64 u) (.string f) (.int .i64 mo) (.int .u64 nn) (.int .i64 st)).heap[de]? = w.heap[de]?) := hid (T3.out.block de hbk.2)
  unfold put6 at K4 T3 HB3 HM3
  obtain ⟨w2, hw2⟩ : ∃ w2, ((((((w1.setCell ⟨k, 0, none⟩ (.string p)).setCell ⟨k, 1, none⟩ (.int .u64 u)).setCell ⟨k, 2, none⟩ (.string f)).setCell ⟨k, 3, none⟩ (.int .i64 mo)).setCell ⟨k, 4, none⟩ (.int .u64 nn)).setCell ⟨k, 5, none⟩ (.int .i64 st)) = w2 := ⟨_, rfl⟩
  rw [hw2] at K4 HB3 HM3 T3 ⊢
  clear hw2 c0 c1 c2 c3 c4 c5 g0 g1 g2 g3 g4 g5 K2 HB2 HM2 KB2 K0 HB1 HM1 KB HC
  obtain ⟨r1, r2, r3⟩ := HU.out w2.drew HM3.out
  have R2 := hid (And.intro r2 r3)
  have q0 : w2.drew.cell? ⟨b, 1, none⟩ = some (.map (some de)) := (HB3.out.drew.cell 1).trans rfl
  have q2 := HQ.out w2.drew
  clear r2 r3 HU
  obtain ⟨c0, c1, c2, c3, c4, c5⟩ := lcells6 K4.out
  go_still_tail 10, (by kernel_rfl)
  go_wp2
  go_end0
  exact ⟨rfl, R2.out.1, ((TurnsD.of_below (by rw [HK.out]; exact T3.out)).drew).trans (TurnsD.of_grown (S := fun i => i = de) R2.out.2 (fun x e => by injection e with e; exact e.symm)) (fun _ _ e => e)⟩
set_option maxRecDepth 100000 in
set_option maxHeartbeats 4000000 in
theorem lksetc_any (b de dc n : Nat) (first : Int) (cs : CnL) (p : ByteArray) (m : Int) (w : World) (hb : Blk w b 78 #[.int .u64 first, .map (some de), .map (some dc)]) (hm : CsM w dc n cs) (hn : n < maxLen) (hp : OkK p) (hne : m ≠ first) (hbc : b ≠ dc) :
    Calls Tryz.prog 60 #[.pointer (some ⟨b, 0, none⟩), .string p, .int .u64 m] w fun r w' => r = .returned (.tuple #[]) ∧ CsM w' dc (n + 1) (setC cs p m) ∧ TurnsD (fun i => i = dc) w w' := by
  have HB := hid hb
  have HM := hid hm
  obtain ⟨U, hU⟩ := hm.put_all hn p m hp
  have HU := hid hU
  have HC := hid (fun w => lksclone_any p w hp.le)
  have hq : (m == first) = false := by simpa using hne
  clear hm hU hn hp hne
  have c0 : w.cell? ⟨b, 0, none⟩ = some (.int .u64 first) := (HB.out.cell 0).trans rfl
  have c2 : w.cell? ⟨b, 2, none⟩ = some (.map (some dc)) := (HB.out.cell 2).trans rfl
  go_enter Tryz.func60, Tryz.ntmps60
  go_upto_region 2 with fail
  go_region_held3 (fun w' => w'.cell? ⟨b, 2, none⟩ = some (.map (some dc)))
    (first | exact c2 | exact (HB.out.drew.cell 2).trans rfl | exact (HB3.out.cell 2).trans rfl | exact (HB4.out.cell 2).trans rfl)
    (first
      | (go_at_call 69; (with_reducible refine (HC.out _).mono ?_); rintro e w3 ⟨rfl, g3⟩; have HB3 := hid (HB.out.drew.below g3 HB.out.lt); have DM : Hid (w3.heap[dc]? = w.heap[dc]?) := hid (g3.block dc HM.out.lt); have hE3 := (HU.out w3 DM.out).1; have HB4 := hid (HB3.out.grown (HU.out w3 DM.out).2.2 (by simpa using hbc))))
  rename_i hHeld
  clear hHeld
  have G1 : Hid (Below w.heap.size w w3) := hid ((Below.refl _ w).drew.trans g3)
  have R2 := hid (HU.out w3 DM.out).2
  go_end0
  exact ⟨rfl, R2.out.1, (TurnsD.of_below G1.out).trans (TurnsD.of_grown (S := fun i => i = dc) R2.out.2 (fun x e => by injection e with e; exact e.symm)) (fun _ _ e => e)⟩
set_option maxRecDepth 100000 in
set_option maxHeartbeats 4000000 in
theorem lkadd_no (base b de dc n : Nat) (first : Int) (l : List EnL) (cs : CnL) (p : ByteArray) (u : Int) (f : ByteArray) (mode : Int) (w : World) (h : BkK w base b de dc n first l cs) (hn : n ≤ 1000000) (hp : OkK p) (hu : IsUk u) (hf : OkK f) (hm : mayE first l cs p u f mode ≠ 0) :
    Calls Tryz.prog 30 #[.pointer (some ⟨b, 0, none⟩), .string p, .agg #[.int .u64 u, .string f], .int .i64 mode] w (Asks (.tuple #[entV zeroE, .int .i64 (mayE first l cs p u f mode)]) w) := by
  have HC := hid (fun w' (k : Below w.heap.size w w') => lkmay_any base b de dc n first l cs p u f mode w' (h.on k) hn hp hu hf)
  obtain ⟨m, hmm⟩ : ∃ m, mayE first l cs p u f mode = m := ⟨_, rfl⟩
  rw [hmm] at HC hm ⊢
  have hq : (m == 0) = false := by simpa using hm
  clear h hp hu hf hmm
  go_enter Tryz.func30, Tryz.ntmps30
  go_upto_region 1 with fail
  obtain ⟨W, hW⟩ : ∃ W, (w.alloc (.cells #[.int .u64 u, .string f] 33)).alloc (.cells zeroEC 44) = W := ⟨_, rfl⟩
  rw [hW]
  obtain ⟨K0, K1, KB⟩ := ltwo_new hW
  clear hW
  have HCs := hid (HC.out W KB.out)
  obtain ⟨k, hk⟩ : ∃ k, w.heap.size = k := ⟨_, rfl⟩
  rw [hk] at K0 K1 KB ⊢
  have HK := hid hk
  clear hk HC
  obtain ⟨c0, c1⟩ := lcells2 K0.out
  go_wp2_with (go_at_call 32; (with_reducible refine HCs.out.mono ?_); rintro e w1 ⟨rfl, b1⟩; have K2 := hid (ent_low K1.out b1); have B2 := hid (KB.out.trans (b1.mono (by have := K1.out.lt; omega))); clear b1; obtain ⟨x0, x1, x2, x3, x4, x5⟩ := lcells6 K2.out; obtain ⟨g0, g1, g2, g3, g4, g5⟩ := lkfrozen6 K2.out)
  have Q := put6_blk K2.out (.string ⟨#[]⟩) (.int .u64 0) (.string ⟨#[]⟩) (.int .i64 0) (.int .u64 0) (.int .i64 0)
  have QB := put6_below B2.out (Nat.le_succ k) (.string ⟨#[]⟩) (.int .u64 0) (.string ⟨#[]⟩) (.int .i64 0) (.int .u64 0) (.int .i64 0)
  unfold put6 at Q QB
  obtain ⟨w8, hw8⟩ : ∃ w8, ((((((w1.setCell ⟨k + 1, 0, none⟩ (.string ⟨#[]⟩)).setCell ⟨k + 1, 1, none⟩ (.int .u64 0)).setCell ⟨k + 1, 2, none⟩ (.string ⟨#[]⟩)).setCell ⟨k + 1, 3, none⟩ (.int .i64 0)).setCell ⟨k + 1, 4, none⟩ (.int .u64 0)).setCell ⟨k + 1, 5, none⟩ (.int .i64 0)) = w8 := ⟨_, rfl⟩
  rw [hw8] at Q QB ⊢
  clear hw8 x0 x1 x2 x3 x4 x5
  obtain ⟨y0, y1, y2, y3, y4, y5⟩ := lcells6 Q
  refine bodyPost_ret (v := .tuple #[entV zeroE, .int .i64 m]) (by simp [results, Tryz.results30, go_sem, y0, y1, y2, y3, y4, y5, zeroE]) rfl ⟨rfl, by rw [HK.out]; exact QB⟩
theorem lkbuild_ent (p : ByteArray) (u : Int) (f : ByteArray) (mo nn st : Int) (w : World) : (Instr.build 44 #[(0, .string p), (1, .agg #[.int .u64 u, .string f]), (2, .int .i64 mo), (3, .int .u64 nn), (4, .int .i64 st)]).run Tryz.prog w = .ok (.agg #[.string p, .int .u64 u, .string f, .int .i64 mo, .int .u64 nn, .int .i64 st]) w := by kernel_rfl
def AddS (k : Nat) (w : World) (u : Int) (f : ByteArray) (w' : World) : Prop := w'.cell? ⟨k, 0, none⟩ = some (.int .u64 u) ∧ w'.cell? ⟨k, 1, none⟩ = some (.string f) ∧ Below k w w' ∧ Blk w' k 33 #[.int .u64 u, .string f] ∧ Blk w' (k + 1) 44 zeroEC
theorem AddS.mk {k : Nat} {w w1 : World} {u : Int} {f : ByteArray} (hb : Below k w w1) (h0 : Blk w1 k 33 #[.int .u64 u, .string f]) (h1 : Blk w1 (k + 1) 44 zeroEC) : AddS k w u f w1 := ⟨(lcells2 h0).1, (lcells2 h0).2, hb, h0, h1⟩
theorem AddS.on {k : Nat} {w w1 w4 : World} {u : Int} {f : ByteArray} (h : AddS k w u f w1) (b4 : Below w1.heap.size w1 w4) : AddS k w u f w4 :=
  AddS.mk (h.2.2.1.trans (b4.mono (by have := h.2.2.2.1.lt; omega))) (h.2.2.2.1.below b4 h.2.2.2.1.lt) (h.2.2.2.2.below b4 h.2.2.2.2.lt)
theorem AddS.alloc {k : Nat} {w w1 : World} {u : Int} {f : ByteArray} (h : AddS k w u f w1) (o : Obj) : AddS k w u f (w1.alloc o) := h.on ((Below.refl _ _).alloc (Nat.le_refl _) o)
def AddW (k : Nat) (w : World) (e : EnL) (q : Nat) (wc : World) : Prop := Blk wc q 44 (entC e) ∧ Below k w wc ∧ Blk wc (k + 1) 44 zeroEC ∧ k + 1 < q
theorem AddW.fresh {k : Nat} {w w4 : World} {u : Int} {f : ByteArray} (h : AddS k w u f w4) (e : EnL) : AddW k w e w4.heap.size (w4.alloc (.cells (entC e) 44)) :=
  ⟨Blk.new _ _ _, h.2.2.1.alloc (by have := h.2.2.2.1.lt; omega) _, h.2.2.2.2.alloc _, h.2.2.2.2.lt⟩
theorem AddW.put {k q : Nat} {w w4 : World} {u : Int} {f : ByteArray} (h : AddS k w u f w4) (he : Blk w4 q 44 zeroEC) (hq : k + 1 < q) (e : EnL) : AddW k w e q (put6 w4 q (.string e.path) (.int .u64 e.num) (.string e.foot) (.int .i64 e.mode) (.int .u64 e.n) (.int .i64 e.stamp)) ∧ AddS k w u f (put6 w4 q (.string e.path) (.int .u64 e.num) (.string e.foot) (.int .i64 e.mode) (.int .u64 e.n) (.int .i64 e.stamp)) := by
  have hb := put6_below (Below.refl q w4) (Nat.le_refl q) (.string e.path) (.int .u64 e.num) (.string e.foot) (.int .i64 e.mode) (.int .u64 e.n) (.int .i64 e.stamp)
  have h1 := h.2.2.2.2.below hb (by omega)
  have h0 := h.2.2.2.1.below hb (by omega)
  have h2 := h.2.2.1.trans (hb.mono (by omega))
  exact ⟨⟨put6_blk he _ _ _ _ _ _, h2, h1, hq⟩, AddS.mk h2 h0 h1⟩
set_option maxRecDepth 100000 in
set_option maxHeartbeats 8000000 in
theorem lkadd_ok (base b de dc n : Nat) (first : Int) (l : List EnL) (cs : CnL) (p : ByteArray) (u : Int) (f : ByteArray) (mode : Int) (w : World) (h : BkK w base b de dc n first l cs) (hn : n < 1000000) (hp : OkK p) (hu : IsUk u) (hf : OkK f) (hm : mayE first l cs p u f mode = 0) :
    Calls Tryz.prog 30 #[.pointer (some ⟨b, 0, none⟩), .string p, .agg #[.int .u64 u, .string f], .int .i64 mode] w fun r w' => r = .returned (.tuple #[entV (addE first l cs p u f mode), .int .i64 0]) ∧ BkK w' base b de dc (n + 1) first (l ++ [addE first l cs p u f mode]) (setC cs p (cntE first cs p + 1)) ∧ TurnsD (OwnK de dc) w w' := by
  have HB := hid h.blk
  have HL := hid h.lt
  have HN := hid h.ne
  have HC := hid (fun w' (k : Below w.heap.size w w') => lkmay_any base b de dc n first l cs p u f mode w' (h.on k) (by omega) hp hu hf)
  have C2 := hid (fun w' (k : Below w.heap.size w w') => lkcounter_any base b de dc n first l cs p w' (h.on k) hp)
  have C3 := hid (fun w' (k : Below w.heap.size w w') => lkstamp_any base b de dc n first l cs p w' (h.on k) (by omega) hp)
  have C4 := hid (fun w' (hb : Blk w' b 78 #[.int .u64 first, .map (some de), .map (some dc)]) (he : w'.heap[dc]? = w.heap[dc]?) => lksetc_any b de dc n first cs p (cntE first cs p + 1) w' hb (h.ct.same he) (by unfold maxLen; omega) hp (by have := h.good.cnt p; omega) h.ne.2.1)
  have C5 := hid (fun w' (hb : Blk w' b 78 #[.int .u64 first, .map (some de), .map (some dc)]) (he : w'.heap[de]? = w.heap[de]?) => lkset_any b de dc n first l (addE first l cs p u f mode) w' hb (h.es.same he) (by unfold maxLen; omega) (may_ok hm).2.2.1 (fun x hx => by have := h.good.keys x hx; exact ⟨this.2.1, this.1, this.2.2⟩) hp hu hf)
  have C6 := hid (fun w => lkclone_any (addE first l cs p u f mode) w hp hf)
  have HG := hid (h.good.add hm hu hf)
  have HMany := hid h.many
  have HLow := hid h.low
  have HTop : Hid (stampE l p ≤ n + 1) := hid (by have := top_le p (l := l) (k := (n : Int)) (by omega) h.many.2; unfold stampE; omega)
  have HCt := hid (may_ok hm).2.2.2.2
  have HC0 := hid (h.good.cnt_u p)
  rw [hm] at HC
  clear h hp hu hf hm
  have HAdd : Hid (addE first l cs p u f mode = ⟨p, u, f, mode, cntE first cs p + 1, stampE l p⟩) := hid rfl
  obtain ⟨cn, hcn⟩ : ∃ c, cntE first cs p = c := ⟨_, rfl⟩
  obtain ⟨sm, hsm⟩ : ∃ c, stampE l p = c := ⟨_, rfl⟩
  rw [HAdd.out] at C5 C6 HG ⊢
  rw [hcn, hsm] at C5 C6 HG ⊢
  rw [hcn] at C2 C4 HCt HC0
  rw [hsm] at C3 HTop
  clear hcn hsm HAdd
  have hcu : IntKind.u64.wrap (cn + 1) = cn + 1 := IntWalk.u64_in _ (by have := HCt.out; have := HC0.out; unfold IsUk at this; omega)
  go_enter Tryz.func30, Tryz.ntmps30
  go_upto_region 1 with fail
  obtain ⟨W, hW⟩ : ∃ W, (w.alloc (.cells #[.int .u64 u, .string f] 33)).alloc (.cells zeroEC 44) = W := ⟨_, rfl⟩
  rw [hW]
  obtain ⟨K0, K1, KB⟩ := ltwo_new hW
  clear hW
  have HCs := hid (HC.out W KB.out)
  obtain ⟨k, hk⟩ : ∃ k, w.heap.size = k := ⟨_, rfl⟩
  rw [hk] at K0 K1 KB HL C2 C3 ⊢
  have HK := hid hk
  clear hk HC
  obtain ⟨c0, c1⟩ := lcells2 K0.out
  go_upto_region 4 with (go_at_call 32; (with_reducible refine HCs.out.mono ?_); rintro e w1 ⟨rfl, b1⟩; have K2 := hid (ent_low K1.out b1); have K02 := hid (ent_low K0.out b1); have B2 := hid (KB.out.trans (b1.mono (by have := K1.out.lt; omega))); clear b1 c0 c1)
  obtain ⟨c0, c1⟩ := lcells2 K02.out
  have HS1 : Hid (k + 1 < w1.heap.size) := hid K2.out.lt
  clear HCs K0 K1 KB c0 c1
  have QB := hid (lkbuild_ent p u f mode (cn + 1) sm)
  have hS1 : AddS k w u f w1.drew := AddS.mk (below_drew B2.out) K02.out.drew K2.out.drew
  have HS2 := hid hS1
  have EN : Hid (Blk ((w1.alloc (.cells zeroEC 44)).drew) w1.heap.size 44 zeroEC) := hid (Blk.new w1 _ _).drew
  have HS3 : Hid (AddS k w u f ((w1.alloc (.cells zeroEC 44)).drew)) := hid (HS2.out.alloc _)
  have HPut := hid (fun w4 (b4 : Below ((w1.alloc (.cells zeroEC 44)).drew).heap.size ((w1.alloc (.cells zeroEC 44)).drew) w4) => AddW.put (HS3.out.on b4) (EN.out.below b4 EN.out.lt) HS1.out ⟨p, u, f, mode, cn + 1, sm⟩)
  have HB2 : Hid (Below k w w1.drew) := hid HS2.out.2.2.1
  have HB3 : Hid (Below k w ((w1.alloc (.cells zeroEC 44)).drew)) := hid HS3.out.2.2.1
  clear hS1
  have HS2b := hid HS2.out
  have HS3b := hid HS3.out
  unfold AddS at HS2b HS3b
  go_cut [11] (fun c11 wc => ∃ q, c11 = .pointer (some ⟨q, 0, none⟩) ∧ Hid (AddW k w ⟨p, u, f, mode, cn + 1, sm⟩ q wc))
  case first =>
    go_region_held3 (fun w' => w'.cell? ⟨k, 0, none⟩ = some (.int .u64 u) ∧ w'.cell? ⟨k, 1, none⟩ = some (.string f) ∧ Below k w w' ∧ Blk w' k 33 #[.int .u64 u, .string f] ∧ Blk w' (k + 1) 44 zeroEC)
      (first | with_reducible exact HS2b.out | with_reducible exact HS3b.out | with_reducible exact A4.out | with_reducible exact A7.out _ | with_reducible exact A6.out)
      (first
        | (go_at_call 14; (with_reducible first | refine (C2.out _ HB2.out).mono ?_ | refine (C2.out _ HB3.out).mono ?_); rintro e w3 ⟨rfl, rfl⟩)
        | (go_at_call 37; (with_reducible refine (C3.out _ HB2.out).mono ?_); rintro e w4 ⟨rfl, b4⟩; have A4 := hid (HS2.out.on b4); have A8 := hid b4; have A7 := hid (fun o => A4.out.alloc o); unfold AddS at A4 A7; have q9 := QB.out w4)
        | (go_at_call 37; (with_reducible refine (C3.out _ HB3.out).mono ?_); rintro e w4 ⟨rfl, b4⟩; have A4 := hid (HS3.out.on b4); unfold AddS at A4; have q9 := QB.out w4; have A5 := hid (HPut.out w4 b4).1; have A6 := hid (HPut.out w4 b4).2; unfold put6 at A5 A6; unfold AddS at A6; have E4 := hid (EN.out.below b4 EN.out.lt); obtain ⟨z0, z1, z2, z3, z4, z5⟩ := lcells6 E4.out; obtain ⟨g0, g1, g2, g3, g4, g5⟩ := lkfrozen6 E4.out))
    all_goals go_wp2
    all_goals go_meet
    all_goals first
      | exact ⟨_, rfl, A5⟩
      | exact ⟨_, rfl, hid (AddW.fresh (u := u) (f := f) A4.out ⟨p, u, f, mode, cn + 1, sm⟩)⟩
  case rest =>
    obtain ⟨q, rfl, HA⟩ := hcut
    have HE := hid HA.out.1
    have HT0 := hid HA.out.2.1
    have HR0 := hid HA.out.2.2.1
    have HQk := HA.out.2.2.2
    have hbk := HL.out
    have hn3 := HN.out
    have HB1 : Hid (Blk wc b 78 #[.int .u64 first, .map (some de), .map (some dc)]) := hid ((HT0.out.block b hbk.1).trans HB.out)
    have D1 := hid (C4.out wc HB1.out (HT0.out.block dc hbk.2.2))
    obtain ⟨v0, v1, v2, v3, v4, v5⟩ := lcells6 HE.out
    clear HA HS2 HS3 HPut EN HB2 HB3 HS2b HS3b QB C2 C3 C4 K2 K02 B2 HB
    go_wp2_with (first
      | (go_at_call 60; (with_reducible refine D1.out.mono ?_); rintro r w5 ⟨rfl, hct, t5⟩
         have HCt5 := hid hct
         have T5 := hid t5
         have E5 := hid (HE.out.turns t5 (by omega))
         have R5 := hid (HR0.out.turns t5 (by omega))
         have HB5 := hid (HB1.out.turns t5 hn3.2.1)
         have D2 := hid (C5.out w5 HB5.out ((t5.block de (Nat.lt_of_lt_of_le hbk.2.1 (Nat.le_of_lt (Nat.lt_of_lt_of_le (by omega : k < q) (Nat.le_of_lt HE.out.lt)))) hn3.2.2).trans (HT0.out.block de hbk.2.1)))
         clear hct t5 v0 v1 v2 v3 v4 v5
         obtain ⟨y0, y1, y2, y3, y4, y5⟩ := lcells6 E5.out)
      | (go_at_call 61; (with_reducible refine D2.out.mono ?_); rintro r w6 ⟨rfl, hes, t6⟩
         have HEs6 := hid hes
         have T6 := hid t6
         have E6 := hid (E5.out.turns t6 (by omega))
         have R6 := hid (R5.out.turns t6 (by omega))
         have HB6 := hid (HB5.out.turns t6 hn3.1)
         clear hes t6 y0 y1 y2 y3 y4 y5
         obtain ⟨y0, y1, y2, y3, y4, y5⟩ := lcells6 E6.out)
      | (go_at_call 42; (with_reducible refine (C6.out _).mono ?_); rintro r w7 ⟨rfl, b7⟩
         have B7 := hid b7
         have R7 := hid (ent_low R6.out b7)
         clear b7 y0 y1 y2 y3 y4 y5
         obtain ⟨x0, x1, x2, x3, x4, x5⟩ := lcells6 R7.out
         obtain ⟨g0, g1, g2, g3, g4, g5⟩ := lkfrozen6 R7.out))
    have Q := put6_blk R7.out (.string p) (.int .u64 u) (.string f) (.int .i64 mode) (.int .u64 (cn + 1)) (.int .i64 sm)
    have QB := put6_below (Below.refl k w7) (Nat.le_succ k) (.string p) (.int .u64 u) (.string f) (.int .i64 mode) (.int .u64 (cn + 1)) (.int .i64 sm)
    unfold put6 at Q QB
    obtain ⟨w8, hw8⟩ : ∃ w8, ((((((w7.setCell ⟨k + 1, 0, none⟩ (.string p)).setCell ⟨k + 1, 1, none⟩ (.int .u64 u)).setCell ⟨k + 1, 2, none⟩ (.string f)).setCell ⟨k + 1, 3, none⟩ (.int .i64 mode)).setCell ⟨k + 1, 4, none⟩ (.int .u64 (cn + 1))).setCell ⟨k + 1, 5, none⟩ (.int .i64 sm)) = w8 := ⟨_, rfl⟩
    rw [hw8] at Q QB ⊢
    clear hw8 x0 x1 x2 x3 x4 x5
    obtain ⟨y0, y1, y2, y3, y4, y5⟩ := lcells6 Q
    have hk5 : k ≤ w5.heap.size := by have := E5.out.lt; omega
    have hk6 : k ≤ w6.heap.size := by have := E6.out.lt; omega
    have T78 : Hid (Below k w6 w8) := hid ((B7.out.mono hk6).trans QB)
    have TW : Hid (TurnsD (OwnK de dc) w w8) := hid (by
      have a1 : TurnsD (OwnK de dc) w wc := TurnsD.of_below (by rw [HK.out]; exact HT0.out)
      have a2 := a1.trans T5.out (fun i _ h => .inr h)
      have a3 := a2.trans T6.out (fun i _ h => .inl h)
      exact ⟨T78.out.os.trans a3.os, T78.out.tape.trans a3.tape, T78.out.output.trans a3.output, Nat.le_trans a3.size T78.out.size, fun i hi hS => (T78.out.block i (by rw [← HK.out]; exact hi)).trans (a3.block i hi hS)⟩)
    refine bodyPost_ret (v := .tuple #[.agg #[.string p, .int .u64 u, .string f, .int .i64 mode, .int .u64 (cn + 1), .int .i64 sm], .int .i64 0]) (by simp [results, Tryz.results30, go_sem, y0, y1, y2, y3, y4, y5]) rfl ⟨rfl, ⟨?_, ?_, ?_, HG.out, ?_, hn3, HLow.out⟩, TW.out⟩
    · exact (T78.out.block b hbk.1).trans HB6.out
    · exact HEs6.out.same (T78.out.block de hbk.2.1)
    · exact (HCt5.out.same (T6.out.block dc HCt5.out.lt (fun e => hn3.2.2 e.symm))).same (T78.out.block dc hbk.2.2)
    · refine ⟨by simp; exact HMany.out.1, fun e he => ?_⟩
      rcases List.mem_append.1 he with he | he
      · have := HMany.out.2 e he; push_cast; omega
      · simp at he; subst he; have := HTop.out; push_cast; exact this
end Go.Proofs.YtgjbhlianlbflaaGreat
