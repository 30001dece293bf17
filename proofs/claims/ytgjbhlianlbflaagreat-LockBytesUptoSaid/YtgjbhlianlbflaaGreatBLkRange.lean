/-
  A range over a book's entries; the contracts of lock's behind, free, stamp.
-/
import Derived.Test.YtgjbhlianlbflaaGreatBLkFind
namespace Go.Proofs.YtgjbhlianlbflaaGreat
open Go.ChangeShapes Go.WideShapes Go.ChangeAt Go.RowKit Go.Maps Go.WideMaps
set_option linter.unusedVariables false
set_option linter.unusedSimpArgs false
theorem OkK.le4 {f : ByteArray} (h : OkK f) : f.size ≤ 4611686018427387903 := by unfold OkK at h; omega
set_option maxRecDepth 100000 in
set_option maxHeartbeats 1000000 in
theorem lkbehind_any (e o : EnL) (w : World) (hp : OkK e.path) (hq : OkK o.path) : Calls Tryz.prog 54 #[entV e, entV o] w (Asks (.bool (behE e o)) w) := by
  have HC := hid (fun w => overlap_any e.path o.path w hp.le4 hq.le4)
  obtain ⟨r, hr⟩ : ∃ r, overlap (L e.path) (L o.path) = r := ⟨_, rfl⟩
  unfold behE wayE
  rw [hr] at HC ⊢
  obtain ⟨p, u, f, mo, n, st⟩ := e
  obtain ⟨p', u', f', mo', n', st'⟩ := o
  dsimp only at HC ⊢
  clear hr hp hq
  by_cases hlt : st' < st
  · by_cases h1 : mo = 2
    · subst h1
      have HR : Hid ((decide (st' < st) && ((decide ((2 : Int) = 2) || decide (mo' = 2)) && r)) = r) := hid (by simp [hlt])
      go_enter Tryz.func54, Tryz.ntmps54
      go_upto_region 1 with fail
      obtain ⟨W, hW⟩ : ∃ W, (w.alloc (.cells #[.string p, .int .u64 u, .string f, .int .i64 2, .int .u64 n, .int .i64 st] 44)).alloc (.cells #[.string p', .int .u64 u', .string f', .int .i64 mo', .int .u64 n', .int .i64 st'] 44) = W := ⟨_, rfl⟩
      rw [hW]
      obtain ⟨K0, K1, KB⟩ := ltwo_new hW
      clear hW
      obtain ⟨k, hk⟩ : ∃ k, w.heap.size = k := ⟨_, rfl⟩
      rw [hk] at K0 K1 KB ⊢
      have HK := hid hk
      obtain ⟨y0, y1, y2, y3, y4, y5⟩ := lcells6 K0.out
      obtain ⟨x0, x1, x2, x3, x4, x5⟩ := lcells6 K1.out
      clear hk
      go_wp2_with (go_at_call 65; (with_reducible refine (HC.out _).mono ?_); rintro e w1 ⟨rfl, b1⟩; have B1 := hid (KB.out.trans (b1.mono (by have := K0.out.lt; omega))); clear b1)
      go_ret
      exact ⟨by rw [HR.out]; rfl, by rw [HK.out]; exact B1.out⟩
    · by_cases h2 : mo' = 2
      · subst h2
        have HR : Hid ((decide (st' < st) && ((decide (mo = 2) || decide ((2 : Int) = 2)) && r)) = r) := hid (by simp [hlt])
        have e1 : (mo == 2) = false := by simpa using h1
        go_enter Tryz.func54, Tryz.ntmps54
        go_upto_region 1 with fail
        obtain ⟨W, hW⟩ : ∃ W, (w.alloc (.cells #[.string p, .int .u64 u, .string f, .int .i64 mo, .int .u64 n, .int .i64 st] 44)).alloc (.cells #[.string p', .int .u64 u', .string f', .int .i64 2, .int .u64 n', .int .i64 st'] 44) = W := ⟨_, rfl⟩
        rw [hW]
        obtain ⟨K0, K1, KB⟩ := ltwo_new hW
        clear hW
        obtain ⟨k, hk⟩ : ∃ k, w.heap.size = k := ⟨_, rfl⟩
        rw [hk] at K0 K1 KB ⊢
        have HK := hid hk
        obtain ⟨y0, y1, y2, y3, y4, y5⟩ := lcells6 K0.out
        obtain ⟨x0, x1, x2, x3, x4, x5⟩ := lcells6 K1.out
        clear hk
        go_wp2_with (go_at_call 65; (with_reducible refine (HC.out _).mono ?_); rintro e w1 ⟨rfl, b1⟩; have B1 := hid (KB.out.trans (b1.mono (by have := K0.out.lt; omega))); clear b1)
        go_ret
        exact ⟨by rw [HR.out]; rfl, by rw [HK.out]; exact B1.out⟩
      · have HR : Hid ((decide (st' < st) && ((decide (mo = 2) || decide (mo' = 2)) && r)) = false) := hid (by simp [h1, h2])
        have e1 : (mo == 2) = false := by simpa using h1
        have e2 : (mo' == 2) = false := by simpa using h2
        go_enter Tryz.func54, Tryz.ntmps54
        go_upto_region 1 with fail
        obtain ⟨W, hW⟩ : ∃ W, (w.alloc (.cells #[.string p, .int .u64 u, .string f, .int .i64 mo, .int .u64 n, .int .i64 st] 44)).alloc (.cells #[.string p', .int .u64 u', .string f', .int .i64 mo', .int .u64 n', .int .i64 st'] 44) = W := ⟨_, rfl⟩
        rw [hW]
        obtain ⟨K0, K1, KB⟩ := ltwo_new hW
        clear hW
        obtain ⟨k, hk⟩ : ∃ k, w.heap.size = k := ⟨_, rfl⟩
        rw [hk] at K0 K1 KB ⊢
        have HK := hid hk
        obtain ⟨y0, y1, y2, y3, y4, y5⟩ := lcells6 K0.out
        obtain ⟨x0, x1, x2, x3, x4, x5⟩ := lcells6 K1.out
        clear hk
        go_wp2
        go_ret
        exact ⟨by rw [HR.out]; rfl, by rw [HK.out]; exact KB.out⟩
  · have HR : Hid ((decide (st' < st) && ((decide (mo = 2) || decide (mo' = 2)) && r)) = false) := hid (by simp [hlt])
    go_enter Tryz.func54, Tryz.ntmps54
    go_upto_region 1 with fail
    obtain ⟨W, hW⟩ : ∃ W, (w.alloc (.cells #[.string p, .int .u64 u, .string f, .int .i64 mo, .int .u64 n, .int .i64 st] 44)).alloc (.cells #[.string p', .int .u64 u', .string f', .int .i64 mo', .int .u64 n', .int .i64 st'] 44) = W := ⟨_, rfl⟩
    rw [hW]
    obtain ⟨K0, K1, KB⟩ := ltwo_new hW
    clear hW
    obtain ⟨k, hk⟩ : ∃ k, w.heap.size = k := ⟨_, rfl⟩
    rw [hk] at K0 K1 KB ⊢
    have HK := hid hk
    obtain ⟨y0, y1, y2, y3, y4, y5⟩ := lcells6 K0.out
    obtain ⟨x0, x1, x2, x3, x4, x5⟩ := lcells6 K1.out
    clear hk
    go_wp2
    go_ret
    exact ⟨by rw [HR.out]; rfl, by rw [HK.out]; exact KB.out⟩
def KkAt (l : List EnL) (left : Lit → Bool) (ks : List EnL) : Prop := ks.Nodup ∧ (∀ s ∈ ks, s ∈ l ∧ left (lklit s.path s.num s.foot) = false) ∧ ∀ s ∈ l, left (lklit s.path s.num s.foot) = false → s ∈ ks
theorem KkAt.start {first : Int} {l : List EnL} {cs : CnL} {D : DataW Value} (hg : GoodK first l cs) (h : EnD l D) : KkAt l (Maps.has D) [] :=
  ⟨List.nodup_nil, fun s hs => (by cases hs), fun s hs h0 => by
    have k := hg.keys s hs
    rw [(h.1 _ _ _ k.2.1 k.1 k.2.2).1, hg.find hs] at h0
    cases h0⟩
theorem KkAt.step {first : Int} {l : List EnL} {cs : CnL} {left : Lit → Bool} {ks : List EnL} (h : KkAt l left ks) (hg : GoodK first l cs) {s : EnL} (hs : s ∈ l) (hlk : left (lklit s.path s.num s.foot) = true) :
    KkAt l (fun z => left z && !z.sameKey (lklit s.path s.num s.foot)) (ks ++ [s]) := by
  obtain ⟨h1, h2, h3⟩ := h
  have k := hg.keys s hs
  have hself : (lklit s.path s.num s.foot).sameKey (lklit s.path s.num s.foot) = true := WideAt.sameKey_self (law_lkey.key (keyof_lkey k.2.1.max k.2.2.max k.1))
  refine ⟨?_, ?_, ?_⟩
  · rw [List.nodup_append]
    refine ⟨h1, by simp, fun a ha b hb => ?_⟩
    rintro rfl
    simp at hb
    subst hb
    have := (h2 _ ha).2
    rw [hlk] at this
    cases this
  · intro y hy
    rcases List.mem_append.1 hy with hy | hy
    · exact ⟨(h2 y hy).1, by simp only; rw [(h2 y hy).2]; rfl⟩
    · simp at hy
      subst hy
      exact ⟨hs, by simp only; rw [hself]; simp⟩
  · intro y hy hq
    simp only [Bool.and_eq_false_iff] at hq
    rcases hq with hq | hq
    · exact List.mem_append_left _ (h3 y hy hq)
    · have hs2 : (lklit y.path y.num y.foot).sameKey (lklit s.path s.num s.foot) = true := by simpa using hq
      have k' := hg.keys y hy
      have := lklit_inj k'.2.1.max k'.2.2.max k'.1 k.2.1.max k.2.2.max k.1 (WideAt.sameKey_eq hs2)
      rw [hg.one hy hs this]
      simp
theorem KkAt.perm {first : Int} {l : List EnL} {cs : CnL} {left : Lit → Bool} {ks : List EnL} (h : KkAt l left ks) (hg : GoodK first l cs) (h0 : ∀ kl, left kl = false) : ks.Perm l :=
  (List.perm_ext_iff_of_nodup h.1 hg.nodup).2 fun s => ⟨fun hs => (h.2.1 s hs).1, fun hs => h.2.2 s hs (h0 _)⟩
set_option maxRecDepth 100000 in
theorem entry_lk {first : Int} {l : List EnL} {cs : CnL} {D : DataW Value} (hg : GoodK first l cs) (h : EnD l D) {p : ByteArray} {u : Int} {f : ByteArray} {c : Value} {kl : Lit} {y : DataW Value × List MemPlace}
    (hkey : keyOf Tryz.prog 84 (lkeyV p u f) = some kl) (hh : Maps.has D kl = true) (hv : idK c = some y) (hat : ∀ zd, D.atKey kl zd = y.1) : ∃ s ∈ l, p = s.path ∧ u = s.num ∧ f = s.foot ∧ c = .agg (entC s) ∧ kl = lklit s.path s.num s.foot := by
  obtain ⟨p2, u2, f2, e, hp2, hf2, hu2, rfl⟩ := keyof_lkey_inv hkey
  injection e with e
  obtain ⟨rfl, rfl, rfl⟩ : p = p2 ∧ u = u2 ∧ f = f2 := by simpa using e
  obtain ⟨s, hs, e2⟩ := h.2 _ hh
  have k := hg.keys s hs
  obtain ⟨rfl, rfl, rfl⟩ := lklit_inj hp2 hf2 hu2 k.2.1.max k.2.2.max k.1 e2
  refine ⟨s, hs, rfl, rfl, rfl, ?_, rfl⟩
  have h1 := (h.1 _ _ _ k.2.1 k.1 k.2.2).2 s (hg.find hs) (.held c)
  rw [hat] at h1
  unfold idK at hv
  injection hv with hv
  rw [← hv] at h1
  injection h1
theorem inv_lkey : ∀ key kl, keyOf Tryz.prog 84 key = some kl → ∃ x : ByteArray × Int × ByteArray, key = lkeyV x.1 x.2.1 x.2.2 := fun key kl h => by
  obtain ⟨p, u, f, rfl, _⟩ := keyof_lkey_inv h
  exact ⟨(p, u, f), rfl⟩
def RngK (w W : World) (d r n : Nat) (D : DataW Value) (l ks : List EnL) (left : Lit → Bool) (cnt : Nat) : Prop :=
  W.ranges Tryz.prog 84 idK d r n D left cnt ∧ (∀ kl, left kl = true → Maps.has D kl = true) ∧ KkAt l left ks ∧ Below w.heap.size w W ∧ w.heap.size ≤ r ∧ ks.length + cnt ≤ n
theorem all_snoc {l : List EnL} {e : EnL} (q : EnL → Bool) : (l ++ [e]).all q = (l.all q && q e) := by simp
theorem free_perm {l k : List EnL} (h : l.Perm k) (e : EnL) : freeE l e = freeE k e := by
  unfold freeE
  rw [Bool.eq_iff_iff, List.all_eq_true, List.all_eq_true]
  exact ⟨fun ha x hx => ha x (h.mem_iff.2 hx), fun ha x hx => ha x (h.mem_iff.1 hx)⟩
theorem free_false {l : List EnL} {e s : EnL} (hs : s ∈ l) (hb : behE e s = true) : freeE l e = false := by
  unfold freeE
  rw [List.all_eq_false]
  exact ⟨s, hs, by simp [hb]⟩
theorem lkowns_same {w w' : World} {k : TypeId} {b n : Nat} {D : DataW Value} (h : w.ownsMap Tryz.prog k idK b n D) (he : w'.heap[b]? = w.heap[b]?) : w'.ownsMap Tryz.prog k idK b n D := by
  obtain ⟨es, clock, hb, hr⟩ := h
  exact ⟨es, clock, he.trans hb, hr⟩
theorem ent_low {w : World} {W : World} {g : Nat} {t : TypeId} {cs : Array Value} (h : Blk w g t cs) (hb : Below w.heap.size w W) : Blk W g t cs := h.below hb h.lt
set_option maxRecDepth 100000 in
set_option maxHeartbeats 4000000 in
theorem lkfree_any (base b de dc n : Nat) (first : Int) (l : List EnL) (cs : CnL) (e : EnL) (w : World) (h : BkK w base b de dc n first l cs) (hn : n ≤ 1000000) (hp : OkK e.path) :
    Calls Tryz.prog 35 #[.pointer (some ⟨b, 0, none⟩), entV e] w (Asks (.bool (freeE l e)) w) := by
  have HB := hid h.blk
  have HL := hid h.lt
  have HR := hid h.good
  obtain ⟨D, hD, hM⟩ := h.es
  have HD := hid hD
  have HM : Hid (EnD l D) := hid hM
  have HN := hid hn
  have HC := hid (fun s (hs : s ∈ l) w => lkbehind_any e s w hp (h.good.keys s hs).2.1)
  clear h hD hM hn hp
  go_enter Tryz.func35, Tryz.ntmps35
  go_upto_region 1 with fail
  obtain ⟨W, hW⟩ : ∃ W, w.alloc (.cells (entC e) 44) = W := ⟨_, rfl⟩
  rw [hW]
  obtain ⟨K0, KB⟩ := lone_new hW
  clear hW
  obtain ⟨k, hk⟩ : ∃ k, w.heap.size = k := ⟨_, rfl⟩
  rw [hk] at K0 KB HL ⊢
  have HK := hid hk
  have hbk := HL.out
  have HB1 := hid (HB.out.below KB.out hbk.1)
  have HD1 : Hid (W.ownsMap Tryz.prog 84 idK de n D) := hid (lkowns_same HD.out (KB.out.block de hbk.2.1))
  have c1 : W.cell? ⟨b, 1, none⟩ = some (.map (some de)) := (HB1.out.cell 1).trans rfl
  clear hk HB HD
  go_wp2_with (first
    | (at_range; with_reducible refine wpList_range_own _ rfl _ 75 rfl 84 44 law_lkey Tryz.underlying75 idK de n D rfl HD1.out ?_; intro w0 hrg0 hg0 hs0))
  go_frame
  obtain ⟨rr, hrr⟩ : ∃ r, W.heap.size = r := ⟨_, rfl⟩
  have HRR := hid hrr
  rw [hrr] at hrg0 hs0
  rw [hrr]
  have hkr : k < rr := by rw [← hrr]; exact K0.out.lt
  have A0 : Hid (RngK W w0 de rr n D l [] (Maps.has D) (Maps.size D)) := hid ⟨hrg0, fun _ h => h, KkAt.start HR.out HM.out, lbelow_grown hg0, by omega, by have := HD1.out.size_le; simpa using this⟩
  clear hrg0 hg0 hs0 c1
  go_loopw [] (fun wr => ∃ ks left cnt, Hid (RngK W wr de rr n D l ks left cnt) ∧ Hid (freeE ks e = true)) (fun wr => wr.rangeLeft de rr)
  case atStart => exact ⟨[], _, _, A0, hid rfl⟩
  case round =>
    obtain ⟨ks, left, cnt, HA, HF⟩ := hrel
    clear A0
    have HG : Hid (wr.ranges Tryz.prog 84 idK de rr n D left cnt) := hid HA.out.1
    go_wp2_with (first
      | (at_next; with_reducible refine wpList_next_ranges _ rfl _ rfl 84 law_lkey idK (fun x : ByteArray × Int × ByteArray => (lkeyV x.1 x.2.1 x.2.2 : Value)) (fun c : Value => c) inv_lkey inv_idK de rr n D left cnt rfl HG.out ?_ ?_))
    · intro _ hl0
      have HP : Hid (freeE l e = true) := hid (by rw [← free_perm (HA.out.2.2.1.perm HR.out hl0)]; exact HF.out)
      have HB2 := hid (KB.out.trans (HA.out.2.2.2.1.mono (by omega)))
      clear hl0 HA HG
      go_wp2
      go_ret
      exact ⟨by rw [HP.out]; rfl, by rw [HK.out]; exact HB2.out⟩
    · intro p2 u2 f2 c kl y yp w1 cnt1 hkey hlk hv hat hrg1 hlt1 hg1 hs1 hen
      obtain ⟨s, hs, e1, e2, e3, rfl, rfl⟩ := entry_lk (y := (y, yp)) HR.out HM.out hkey (HA.out.2.1 _ hlk) hv hat
      rw [e1, e2, e3] at hen ⊢
      have HS := hid hs
      have HC2 := hid (HA.out.2.2.1.step HR.out hs hlk)
      have BG := hid hrg1
      have BH : Hid (∀ kl, (left kl && !kl.sameKey (lklit s.path s.num s.foot)) = true → Maps.has D kl = true) := hid (fun kl h => HA.out.2.1 kl (by simp at h; exact h.1))
      have BB : Hid (Below W.heap.size W w1) := hid (HA.out.2.2.2.1.trans (lbelow_only hg1 (by have := HA.out.2.2.2.2.1; omega) (by have := HG.out.lt; have := HA.out.2.2.2.1.size; omega)))
      have BL := hid hlt1
      have BT : Hid (wr.rangeLeft de rr = cnt) := hid HG.out.left_eq
      have BS : Hid (rr < w1.heap.size) := hid (by rw [hs1]; exact HG.out.lt)
      have BO := hid HA.out.2.2.2.2.1
      have BN : Hid (freeE (ks ++ [s]) e = (freeE ks e && !behE e s)) := hid (by unfold freeE; exact all_snoc _)
      have BC : Hid ((ks ++ [s]).length + cnt1 ≤ n) := hid (by have := HA.out.2.2.2.2.2; simp; omega)
      clear hkey hlk hv hat hrg1 hlt1 hg1 hs1 HA HG e1 e2 e3
      go_upto_region 4 with fail
      obtain ⟨W1, hW1⟩ : ∃ W1, w1.alloc (.cells (entC s) 44) = W1 := ⟨_, rfl⟩
      rw [hW1]
      obtain ⟨v, hv⟩ : ∃ v, w1.heap.size = v := ⟨_, rfl⟩
      obtain ⟨E6, EB⟩ := lone_new hW1
      rw [hv] at E6 EB BS ⊢
      have cG := hid (BG.out.kept (row := none) (by have h := EB.out; rw [← hv] at h; exact only_of_below h none) (by simp) (by simp))
      have cB : Hid (Below W.heap.size W W1) := hid (BB.out.trans (EB.out.mono (by have := BB.out.size; omega)))
      clear hv hW1 BB BG EB hen
      have K2 := hid (ent_low K0.out cB.out)
      obtain ⟨z0, z1, z2, z3, z4, z5⟩ := lcells6 K2.out
      obtain ⟨d0, d1, d2, d3, d4, d5⟩ := lcells6 E6.out
      obtain ⟨bb, hbb⟩ : ∃ x, behE e s = x := ⟨_, rfl⟩
      have HCs := hid (HC.out s HS.out)
      have HX := hid hbb
      rw [hbb] at HCs BN
      clear hbb
      have KG : Hid (∀ W2 : World, Below W1.heap.size W1 W2 → W2.ranges Tryz.prog 84 idK de rr n D (fun z => left z && !z.sameKey (lklit s.path s.num s.foot)) cnt1 ∧ Below W.heap.size W W2) := hid (fun W2 hb =>
        ⟨cG.out.kept (row := none) (only_of_below hb none) (by simp) (by simp), cB.out.trans (hb.mono (by have := E6.out.lt; have := cB.out.size; omega))⟩)
      cases bb with
      | true =>
        go_wp2_with (go_at_call 54; (with_reducible refine (HCs.out _).mono ?_); rintro r w2 ⟨rfl, b2⟩; have G2 := hid (KG.out _ b2); clear b2)
        go_ret
        exact ⟨by rw [free_false HS.out HX.out]; rfl, by rw [HK.out]; exact KB.out.trans (G2.out.2.mono (by have := K0.out.lt; omega))⟩
      | false =>
        go_wp2_with (go_at_call 54; (with_reducible refine (HCs.out _).mono ?_); rintro r w2 ⟨rfl, b2⟩; have G2 := hid (KG.out _ b2); clear b2)
        go_roundw
        case rel => exact ⟨ks ++ [s], _, cnt1, hid ⟨G2.out.1, BH.out, HC2.out, G2.out.2, BO.out, BC.out⟩, hid (by rw [BN.out, HF.out]; rfl)⟩
        case measure => rw [G2.out.1.left_eq, BT.out]; exact BL.out
end Go.Proofs.YtgjbhlianlbflaaGreat
