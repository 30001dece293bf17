/-
  The order of keys, as a sort asks for it.
-/
import Derived.Test.YtpdfakjopeldmaaGreatDoorZDOrd
import Derived.Shelf.SlSortCmp.WholeK
import Derived.Test.YtpdfakjopeldmaaGreatDoorMgE
import Derived.Test.YtpdfakjopeldmaaGreatDoorSort
import Derived.Lib.OwnBridge
import Derived.Test.YtpdfakjopeldmaaGreatDoorMgD
import Derived.Shelf.Lay
namespace Go.Proofs.YtpdfakjopeldmaaGreatDoor
open Go.ChangeShapes Go.WideShapes Go.ChangeAt Go.RowKit Go.Maps Go.WideMaps Go.Shelf Go.Sort
set_option linter.unusedVariables false

theorem lt_cmpP (x y : KeyT) : ltOf cmpP x y = decide (cmpP x y < 0) := rfl
theorem swoK : SWO (ltOf cmpP) where
  irrefl x := by rw [lt_cmpP, cmpP_self]; rfl
  trans x y z h1 h2 := by
    rw [lt_cmpP, decide_eq_true_iff] at *
    exact cmpP_lt h1 h2
  ntrans x y z h1 h2 := by
    rw [lt_cmpP, decide_eq_false_iff_not] at *
    have a := cmpP_cmp.swap x y
    have b := cmpP_cmp.swap y z
    have c := cmpP_cmp.swap x z
    have d := cmpP_cmp.trans z y x (by omega) (by omega)
    omega

/-- What a sort leaves, of keys that are all unlike. -/
theorem rises_of_sorted {es : List KeyT} (hn : es.Nodup) {d : Array KeyT} (h1 : PermIn 0 es.toArray.size es.toArray d) (h2 : SortedIn (ltOf cmpP) 0 es.toArray.size d) : Rises d.toList ∧ ∀ x, x ∈ d.toList ↔ x ∈ es := by
  obtain ⟨hs, _, hp⟩ := h1
  have hs' : d.size = es.length := by simpa using hs
  have hp2 : d.toList.Perm es := by
    have e1 : (d.extract 0 es.toArray.size).toList = d.toList := by simp [← hs']
    have e2 : (es.toArray.extract 0 es.toArray.size).toList = es := by simp
    rw [e1, e2] at hp
    exact hp
  refine ⟨?_, fun x => hp2.mem_iff⟩
  have hnd : d.toList.Nodup := hp2.nodup_iff.2 hn
  unfold Rises
  rw [List.pairwise_iff_getElem]
  intro i j hi hj hij
  have h3 := h2 i j (Nat.zero_le _) hij (by simpa [hs'] using hj)
  have ei : d[i]! = d.toList[i] := by simp at hi; rw [getElem!_pos d i hi]; rfl
  have ej : d[j]! = d.toList[j] := by simp at hj; rw [getElem!_pos d j hj]; rfl
  rw [ei, ej, lt_cmpP, decide_eq_false_iff_not] at h3
  have h4 : d.toList[i] ≠ d.toList[j] := (List.pairwise_iff_getElem.1 hnd) i j hi hj hij
  have h5 := cmpP_cmp.swap d.toList[i] d.toList[j]
  have h6 := cmpP_cmp.same d.toList[i] d.toList[j]
  have h7 := cmpP_cmp.three d.toList[i] d.toList[j]
  have h8 : cmpP d.toList[i] d.toList[j] ≠ 0 := fun e => h4 (h6.1 e)
  omega

end Go.Proofs.YtpdfakjopeldmaaGreatDoor

/-
  The sort of entries, at this program.
-/
namespace Go.Proofs.YtpdfakjopeldmaaGreatDoor
open Go.ChangeShapes Go.WideShapes Go.ChangeAt Go.RowKit Go.Maps Go.WideMaps Go.Shelf Go.Sort
set_option linter.unusedVariables false

theorem flat_get (l : List Nt) (ks : List KeyT) {j : Nat} (hj : j < ks.length * 10) : (flatN (ks.map (mkE l)))[j]? = some ((flatK (encE l) 10 ks.toArray)[j]!) := by
  have hd : j / 10 < ks.length := by omega
  have e : j / 10 * 10 + j % 10 = j := by omega
  rw [get_flatK _ _ _ _ (by simpa using hj)]
  have h1 := flatN_get (l := ks.map (mkE l)) (j := j / 10) (i := j % 10) (by simpa using hd) (by omega)
  rw [e] at h1
  rw [h1, List.getElem_map]
  have h2 : ks.toArray[j / 10]! = ks[j / 10] := by rw [getElem!_pos _ _ (by simpa using hd)]; simp
  rw [h2]
  have h3 : j % 10 < (encE l ks[j / 10]).length := by show j % 10 < 10; omega
  rw [getElem!_pos (encE l ks[j / 10]) (j % 10) h3]
  exact List.getElem?_eq_getElem h3

theorem below_grow {B : Nat} {a w : World} (h : Below B a w) (hB : B ≤ w.heap.size) (os : Array Obj) : Below B a (grow w os) :=
  ⟨h.os, h.tape, h.output, by have := h.size; simp [grow]; omega, fun k hk => by
    rw [← h.block k hk]
    show (w.heap ++ os)[k]? = w.heap[k]?
    rw [Array.getElem?_append_left (by omega)]⟩

set_option maxRecDepth 100000 in
set_option maxHeartbeats 2000000 in
theorem list_sorted {w : World} {g N : Nat} {l : List Nt} {ks : List KeyT} (hn : ks.Nodup) (hR : w.ownsRow g 41 10 (.slice (some ⟨g, 0, none⟩) ks.length N) ks.length (flatN (ks.map (mkE l)))) (hlen : ks.length < 100000) :
    Calls Tryz.prog 24 #[.slice (some ⟨g, 0, none⟩) ks.length N, .func (.func 25) #[] #[]] w fun e w' => e = .returned (.tuple #[]) ∧ ∃ ds : List KeyT, ds.length = ks.length ∧ Rises ds ∧ (∀ x, x ∈ ds ↔ x ∈ ks) ∧
      (∀ j v, (flatN (ds.map (mkE l)))[j]? = some v → w'.cell? ⟨g, j, none⟩ = some v) ∧ Below g w w' ∧ g < w'.heap.size ∧ ∃ cs, Blk w' g 41 cs := by
  have hg : g < w.heap.size := (hR.lt g rfl).2
  have eg : ∀ args w, (callFunc 25 args).run Tryz.prog w = .ok (.enter 25 args) w := enters_of Tryz.func25 (by kernel_rfl) rfl
  have hH : HoldsK (encE l) 10 w g 0 ks.toArray := fun j hj => by
    rw [size_flatK] at hj
    have hj' : j < ks.length * 10 := by simpa using hj
    rw [Nat.zero_add]
    exact ⟨by rw [hR.cellAt j hj', flat_get l ks hj']; rfl, hR.frozenAt j⟩
  have hcmp : CmpLays Tryz.prog 25 #[] (encE l) 10 cmpP g 0 ks.toArray.size w := fun m os dk _ x y => ixcompare_any x.1 x.2 (attOf l x.1 x.2) y.1 y.2 (attOf l y.1 y.2) _
  have hcon := AnyQ.slices_SortFunc Tryz.sortE 10 Tryz.isAgg41 Tryz.sizeOf41 (encE l) (fun _ => rfl) (fun x v hv => ntC_one _ v hv) cmpP swoK 25 #[] g 0 N ks.toArray w eg hcmp hH hg (by simp; omega)
  have hcon2 : Calls Tryz.prog 24 #[.slice (some ⟨g, 0, none⟩) ks.length N, .func (.func 25) #[] #[]] w _ := hcon
  refine hcon2.mono fun e w' ⟨he, d, n, os, h1, h2, hw⟩ => ⟨he, d.toList, ?_, ?_, ?_, ?_, ?_, ?_, ?_⟩
  · have := h1.1
    simpa using this
  · exact (rises_of_sorted hn h1 h2).1
  · exact (rises_of_sorted hn h1 h2).2
  · intro j v hv
    have hs : d.size = ks.toArray.size := h1.1
    have hH2 : HoldsK (encE l) 10 w' g 0 d := by rw [hw]; exact holdsK_sortWorldK_c (encE l) 10 w g 0 ks.toArray d n os hH hg hs
    have hj : j < d.toList.length * 10 := by
      have := (List.getElem?_eq_some_iff.1 hv).1
      rw [flatN_len] at this
      simpa using this
    rw [flat_get l d.toList hj] at hv
    have h3 := (hH2 j (by rw [size_flatK]; simpa using hj)).1
    rw [Nat.zero_add] at h3
    rw [h3]
    exact hv
  · rw [hw]
    exact below_grow (Lib.below_putRow (Below.refl g w) (Nat.le_refl _)) (by show g ≤ (putRow _ _ _ _ _).heap.size; rw [Sort.size_putRow]; exact Nat.le_of_lt hg) os
  · rw [hw]
    show g < (grow (putRow _ _ _ _ _) os).heap.size
    simp [grow]
    have : (Sort.ahead w n).heap.size = w.heap.size := rfl
    omega
  · rcases hR.2 with ⟨e0, _⟩ | ⟨g', cap', cur, e0, hb0, hg0, _⟩
    · cases e0
    · injection e0 with e1 _ _
      injection e1 with e1
      injection e1 with e1
      subst e1
      refine ⟨putCells id 0 (flatK (encE l) 10 d) cur, ?_⟩
      rw [hw]
      show ((putRow id (Sort.ahead w n) g 0 (flatK (encE l) 10 d)).heap ++ os)[g]? = _
      rw [Array.getElem?_append_left (by rw [Sort.size_putRow]; exact hg)]
      simp [putRow, mapBlock, Sort.ahead, Array.getElem?_modify, hg0, onCells]

end Go.Proofs.YtpdfakjopeldmaaGreatDoor

/-
  The contract of package index's List: all entries, by rising keys.
-/
namespace Go.Proofs.YtpdfakjopeldmaaGreatDoor
open Go.ChangeShapes Go.WideShapes Go.ChangeAt Go.RowKit Go.Maps Go.WideMaps Go.Shelf Go.Sort
set_option linter.unusedVariables false
set_option linter.unusedSimpArgs false

theorem info_entry : ∃ z, (Tryz.prog.info? 41).map (fun i => (i.zero, i.size, i.bytes)) = some (some z, 10, 88) ∧ z.cells.size = 10 := ⟨.agg #[.string ⟨#[]⟩, .int .u64 0, .int .i64 0, .int .i64 0, .int .i64 0, .int .i64 0, .int .i64 0, .int .i64 0, .int .i64 0, .int .i64 0], by kernel_rfl, rfl⟩

theorem size_keys {D : DataW Unit} {w : World} {m n : Nat} {l : List Nt} (h : w.ownsMap Tryz.prog 36 attR m n D) (hl : AllFair l)
    (h2 : ∀ f u, f.size ≤ 200 → 0 ≤ u → u < 18446744073709551616 → Maps.has D (klit f u) = told l f u ∧ (told l f u = true → ∀ z, D.atKey (klit f u) z = datA (attOf l f u)))
    (h3 : ∀ kl, Maps.has D kl = true → ∃ nt ∈ l, kl = klit nt.foot nt.num) {ks : List KeyT} (hn : ks.Nodup) (hk : ∀ y : KeyT, y ∈ ks ↔ told l y.1 y.2 = true) : Maps.size D = ks.length := by
  obtain ⟨es, rfl, hp, hkl⟩ := h.entries law_key
  have hfair : ∀ y : KeyT, y ∈ ks → y.1.size ≤ 200 ∧ 0 ≤ y.2 ∧ y.2 < 18446744073709551616 := fun y hy => by
    obtain ⟨nt, hm, e1, e2⟩ := told_iff.1 ((hk y).1 hy)
    obtain ⟨_, _, a, b, c⟩ := hl nt hm
    rw [← e1, ← e2]
    exact ⟨c, a, b⟩
  have n1 : (es.map (·.1)).Nodup := by
    unfold List.Nodup
    rw [List.pairwise_map]
    exact hp
  have n2 : (ks.map fun y => klit y.1 y.2).Nodup := by
    unfold List.Nodup at *
    rw [List.pairwise_map]
    refine List.Pairwise.imp_of_mem (fun {a b} ha hb hne e => hne ?_) hn
    obtain ⟨a1, a2, a3⟩ := hfair a ha
    obtain ⟨b1, b2, b3⟩ := hfair b hb
    obtain ⟨e1, e2⟩ := klit_inj (by unfold maxLen; omega) ⟨a2, a3⟩ (by unfold maxLen; omega) ⟨b2, b3⟩ e
    exact Prod.ext e1 e2
  have hperm := (List.perm_ext_iff_of_nodup n1 n2).2 fun kl => by
    constructor
    · intro hm
      obtain ⟨p, hp1, rfl⟩ := List.mem_map.1 hm
      have hh : Maps.has (DataW.map es) p.1 = true := List.any_eq_true.2 ⟨p, hp1, WideAt.sameKey_self (hkl p hp1)⟩
      obtain ⟨nt, hm2, e⟩ := h3 _ hh
      exact List.mem_map.2 ⟨(nt.foot, nt.num), (hk _).2 (told_iff.2 ⟨nt, hm2, rfl, rfl⟩), e.symm⟩
    · intro hm
      obtain ⟨y, hy, rfl⟩ := List.mem_map.1 hm
      obtain ⟨a1, a2, a3⟩ := hfair y hy
      have hh := (h2 y.1 y.2 a1 a2 a3).1
      rw [(hk y).1 hy] at hh
      obtain ⟨p, hp1, hp2⟩ := List.any_eq_true.1 hh
      exact List.mem_map.2 ⟨p, hp1, WideAt.sameKey_eq hp2⟩
  have := hperm.length_eq
  simpa [Maps.size] using this

/-- While the map is gone through. -/
def ListAt (w wr : World) (g b r m n N : Nat) (D : DataW Unit) (l : List Nt) (ks : List KeyT) (left : Lit → Bool) (cnt : Nat) : Prop :=
  wr.ranges Tryz.prog 36 attR m r n D left cnt ∧ (∀ kl, left kl = true → Maps.has D kl = true) ∧ wr.ownsRow g 41 10 (.slice (some ⟨b, 0, none⟩) ks.length N) ks.length (flatN (ks.map (mkE l))) ∧ Below g w wr ∧
    ks.Nodup ∧ (∀ y ∈ ks, told l y.1 y.2 = true ∧ left (klit y.1 y.2) = false) ∧ (∀ y : KeyT, told l y.1 y.2 = true → left (klit y.1 y.2) = false → y ∈ ks) ∧ ks.length + cnt ≤ N

theorem ntC_row {f : ByteArray} {u : Int} {c a : Nat → Int} (h : rowA c = rowA a) : ntC ⟨f, u, c⟩ = ntC ⟨f, u, a⟩ := by
  unfold ntC
  simp only [rowA_inj h (show 0 < 8 by omega), rowA_inj h (show 1 < 8 by omega), rowA_inj h (show 2 < 8 by omega), rowA_inj h (show 3 < 8 by omega), rowA_inj h (show 4 < 8 by omega), rowA_inj h (show 5 < 8 by omega), rowA_inj h (show 6 < 8 by omega), rowA_inj h (show 7 < 8 by omega)]
theorem grown_setCell (w : World) (a : Addr) (u : Value) : w.grownBy (w.setCell a u) (some a.block) := ⟨rfl, rfl, rfl, by simp, fun i _ hi => RowKit.Below.heap_setCell _ _ _ _ (by simpa using hi)⟩
theorem list_round {l : List Nt} (hl : AllFair l) {ks : List KeyT} {left : Lit → Bool} {f : ByteArray} {u : Int} (hf : f.size ≤ 200) (hu : 0 ≤ u ∧ u < 18446744073709551616) (ht : told l f u = true) (hlk : left (klit f u) = true)
    (h1 : ks.Nodup) (h2 : ∀ y ∈ ks, told l y.1 y.2 = true ∧ left (klit y.1 y.2) = false) (h3 : ∀ y : KeyT, told l y.1 y.2 = true → left (klit y.1 y.2) = false → y ∈ ks) :
    (ks ++ [((f, u) : KeyT)]).Nodup ∧ (∀ y ∈ ks ++ [((f, u) : KeyT)], told l y.1 y.2 = true ∧ (left (klit y.1 y.2) && !(klit y.1 y.2).sameKey (klit f u)) = false) ∧
      (∀ y : KeyT, told l y.1 y.2 = true → (left (klit y.1 y.2) && !(klit y.1 y.2).sameKey (klit f u)) = false → y ∈ ks ++ [((f, u) : KeyT)]) := by
  have hself : (klit f u).sameKey (klit f u) = true := WideAt.sameKey_self (law_key.key (keyof_key (by unfold maxLen; omega) hu))
  refine ⟨?_, ?_, ?_⟩
  · rw [List.nodup_append]
    refine ⟨h1, by simp, fun a ha b hb => ?_⟩
    rintro rfl
    simp at hb
    subst hb
    have := (h2 _ ha).2
    rw [hlk] at this
    cases this
  · intro y hy
    rcases List.mem_append.1 hy with hy | hy
    · exact ⟨(h2 y hy).1, by rw [(h2 y hy).2]; rfl⟩
    · simp at hy
      subst hy
      exact ⟨ht, by rw [hself]; simp⟩
  · intro y hy hq
    rw [Bool.and_eq_false_iff] at hq
    rcases hq with hq | hq
    · exact List.mem_append_left _ (h3 y hy hq)
    · obtain ⟨nt, hm, e1, e2⟩ := told_iff.1 hy
      obtain ⟨_, _, a, b, c⟩ := hl nt hm
      have hs : (klit y.1 y.2).sameKey (klit f u) = true := by simpa using hq
      rw [e1] at c
      rw [e2] at a b
      obtain ⟨k1, k2⟩ := klit_inj (by unfold maxLen; omega) ⟨a, b⟩ (by unfold maxLen; omega) hu (WideAt.sameKey_eq hs)
      exact List.mem_append_right _ (by simp; exact Prod.ext k1 k2)

set_option maxRecDepth 100000 in
set_option maxHeartbeats 4000000 in
theorem list_any (x m : Nat) (l : List Nt) (w : World) (h : Ix w x m l) (hlen : l.length < 1000) :
    Calls Tryz.prog 9 #[.pointer (some ⟨x, 0, none⟩)] w fun e w' => ∃ b cap ks, e = .returned (.slice (some ⟨b, 0, none⟩) ks.length cap) ∧ w.heap.size ≤ b ∧ b < w'.heap.size ∧ Below w.heap.size w w' ∧
      (∀ j v, (flatN (ks.map (mkE l)))[j]? = some v → w'.cell? ⟨b, j, none⟩ = some v) ∧ Rises ks ∧ (∀ y : KeyT, y ∈ ks ↔ told l y.1 y.2 = true) ∧ (∀ n D, w.ownsMap Tryz.prog 36 attR m n D → Maps.size D = ks.length) ∧ ∃ cs, Blk w' b 41 cs := by
  obtain ⟨hx, ⟨D, hD, h2, h3⟩, hl, hgm⟩ := h
  have hlt := hx.lt
  have hlt2 := hD.lt
  have H2 := hid h2
  have H3 := hid h3
  have HL := hid hl
  have HX := hid hx
  have HD := hid hD
  have HN : Hid (Maps.size D ≤ l.length) := hid hD.size_le
  obtain ⟨i0, z, hi, hz0, hz1, hz2, hz3⟩ : ∃ i z, Tryz.prog.info? 41 = some i ∧ i.zero = some z ∧ i.size = 10 ∧ i.bytes = 88 ∧ z.cells.size = 10 := by
    obtain ⟨z, h1, h2⟩ := info_entry
    obtain ⟨i, a, b, c, d⟩ := info_parts h1
    exact ⟨i, z, a, b, c, d, h2⟩
  have HI := hid (And.intro hi (And.intro hz0 (And.intro hz1 (And.intro hz2 hz3))))
  have hc : w.cell? ⟨x, 0, none⟩ = some (.map (some m)) := (HX.out.cell 0).trans rfl
  have HCt := hid (ixcount_any x m _ D w hc hD)
  clear h2 h3 hl hx hD hgm hi hz0 hz1 hz2 hz3
  obtain ⟨N, hN⟩ : ∃ N, Maps.size D = N := ⟨_, rfl⟩
  have HNe := hid hN
  rw [hN] at HCt HN
  clear hN
  go_enter Tryz.func9, Tryz.ntmps9
  go_upto_region 2 with (first
    | (go_at_call 22; (with_reducible refine HCt.out.mono ?_); rintro e1 w0 ⟨rfl, rfl⟩)
    | (refine wpList_make_own w rfl (.const (.int .i64 0)) (.tmp 7) 51 rfl w.heap.size 41 i0 z 10 Tryz.underlying51 HI.out.1 HI.out.2.1 HI.out.2.2.1 .i64 .i64 (N : Int) N rfl rfl rfl (by rw [HI.out.2.2.2.1]; have := HN.out; omega) (by unfold maxLen; have := HN.out; omega) (Nat.le_refl _) ?_; intro w1 hown hgr))
  have KD : Hid (w1.ownsMap Tryz.prog 36 attR m l.length D) := hid (HD.out.kept hgr (by simp))
  have KX := hid (HX.out.grown hgr (by simp))
  have KB := hid (Below.of_grown hgr)
  have hc1 : w1.cell? ⟨x, 0, none⟩ = some (.map (some m)) := (KX.out.cell 0).trans rfl
  have RO := hid hown
  have hbl : w.heap.size < w1.heap.size := (hown.lt w.heap.size rfl).2
  clear hc hown hgr HCt
  obtain ⟨g, hk⟩ : ∃ k, w.heap.size = k := ⟨_, rfl⟩
  rw [hk] at hlt hlt2 KB RO hbl
  rw [hk]
  have HK := hid hk
  clear hk
  go_wp2_with (first
    | (at_range; with_reducible refine wpList_range_own _ rfl _ 64 rfl 36 39 law_key Tryz.underlying64 attR m l.length D rfl KD.out ?_; intro w0 hrg0 hg0 hs0))
  go_frame
  obtain ⟨rr, hrr⟩ : ∃ r, w1.heap.size = r := ⟨_, rfl⟩
  rw [hrr] at hrg0 hs0 hbl
  rw [hrr]
  have A0 : Hid (ListAt w w0 g g rr m l.length N D l [] (Maps.has D) (Maps.size D)) := hid ⟨hrg0, fun _ h => h, RO.out.kept hg0 (Or.inr (by simp [Value.ownBlock])), KB.out.trans ((Below.of_grown hg0).mono (by omega)), List.nodup_nil, fun y hy => by simp at hy, (fun y hy hl0 => by
      obtain ⟨nt, hm, e1, e2⟩ := told_iff.1 hy
      obtain ⟨_, _, a, b, c⟩ := HL.out nt hm
      rw [← e1, ← e2] at hl0 hy
      rw [(H2.out _ _ c a b).1, hy] at hl0
      exact absurd hl0 (by simp)), by rw [HNe.out]; simp⟩
  clear hrg0 hg0 hs0 RO KB KX KD HX HD hc1 hrr
  go_loopw [3] (fun lv wr => ∃ ks left cnt, lv = .slice (some ⟨g, 0, none⟩) (List.length ks) N ∧ Hid (ListAt w wr g g rr m l.length N D l ks left cnt)) (fun _ wr => wr.rangeLeft m rr)
  case atStart => exact ⟨[], _, _, rfl, A0⟩
  case round =>
    obtain ⟨ks, left, cnt, rfl, HA⟩ := hrel
    clear A0
    have HG : Hid (wr.ranges Tryz.prog 36 attR m rr l.length D left cnt) := hid HA.out.1
    go_wp2_with (first
      | (at_next; with_reducible refine wpList_next_ranges _ rfl _ rfl 36 law_key attR (fun x : ByteArray × Int => (keyV x.1 x.2 : Value)) (fun c : Nat → Int => (.agg #[.int .i64 (c 0), .int .i64 (c 1), .int .i64 (c 2), .int .i64 (c 3), .int .i64 (c 4), .int .i64 (c 5), .int .i64 (c 6), .int .i64 (c 7)] : Value)) inv_key inv_att m rr l.length D left cnt rfl HG.out ?_ ?_))
    · intro _ hl0
      have hks : ∀ y : KeyT, y ∈ ks ↔ told l y.1 y.2 = true := fun y => ⟨fun hy => (HA.out.2.2.2.2.2.1 y hy).1, fun hy => HA.out.2.2.2.2.2.2.1 y hy (hl0 _)⟩
      have HK2 := hid hks
      have HSz : Hid (∀ n D, w.ownsMap Tryz.prog 36 attR m n D → Maps.size D = ks.length) := hid (fun n D' hD' => by
        obtain ⟨es, clock, b1, b2, b3, b4⟩ := hD'
        have hb := HG.out.owns
        obtain ⟨es2, clock2, c1, c2, c3, c4⟩ := hb
        have e : wr.heap[m]? = w.heap[m]? := HA.out.2.2.2.1.block m (by omega)
        rw [e, b1] at c1
        injection c1 with c1
        injection c1 with c1 c5
        have hDD : D' = D := by rw [b4, c4, c1]
        rw [hDD]
        exact size_keys HG.out.owns HL.out H2.out H3.out HA.out.2.2.2.2.1 hks)
      have HS := hid (list_sorted (l := l) HA.out.2.2.2.2.1 HA.out.2.2.1 (by have := HA.out.2.2.2.2.2.2.2; have := HN.out; omega))
      have HB := hid HA.out.2.2.2.1
      clear hl0 hks HA HG
      go_wp2_with (first
        | (go_at_call 24; (with_reducible refine HS.out.mono ?_); rintro e1 w2 ⟨rfl, ds, s1, s2, s3, s4, s5, s6, s7⟩))
      go_ret
      exact ⟨g, N, ds, by rw [s1]; rfl, by rw [HK.out]; exact Nat.le_refl _, s6, by rw [HK.out]; exact HB.out.trans s5, s4, s2, fun y => (s3 y).trans (HK2.out y), fun n D hD => by rw [HSz.out n D hD, s1], s7⟩
    · intro f2 u2 c kl y yp w1 cnt1 hkey hlk hv hat hrg1 hlt1 hg1 hs1 hen
      obtain ⟨rfl, a1, a2, a3, a4⟩ := entry_is (y := (y, yp)) HL.out H2.out H3.out hkey (HA.out.2.1 _ hlk) hv hat
      have HCl := hid (fun w => sclone_any f2 w (by omega))
      have HR := hid (list_round HL.out a1 a2 a3 hlk HA.out.2.2.2.2.1 HA.out.2.2.2.2.2.1 HA.out.2.2.2.2.2.2.1)
      have HE : Hid (ntC ⟨f2, u2, c⟩ = ntC (mkE l (f2, u2))) := hid (ntC_row a4)
      have hcap : ks.length + 1 + cnt1 ≤ N := by have := HA.out.2.2.2.2.2.2.2; omega
      have BG := hid hrg1
      have BH : Hid (∀ kl, (left kl && !kl.sameKey (klit f2 u2)) = true → Maps.has D kl = true) := hid (fun kl h => HA.out.2.1 kl (by simp at h; exact h.1))
      have BR := hid (HA.out.2.2.1.kept hg1 (Or.inr (by simp [Value.ownBlock]; omega)))
      have BB : Hid (Below g w w1) := hid (HA.out.2.2.2.1.trans (below_only hg1 (by omega) (by have := HG.out.lt; omega)))
      have BL := hid hlt1
      have BT : Hid (wr.rangeLeft m rr = cnt) := hid HG.out.left_eq
      have BS : Hid (rr < w1.heap.size) := hid (by rw [hs1]; exact HG.out.lt)
      clear hkey hlk hv hat hrg1 hlt1 hg1 hs1 a1 a2 a3 a4 HA HG
      go_upto_region 5 with fail
      obtain ⟨v, hv⟩ : ∃ v, w1.heap.size = v := ⟨_, rfl⟩
      obtain ⟨W1, hW1⟩ : ∃ W1, (w1.alloc (.cells #[.string f2, .int .u64 u2] 36)).alloc (.cells (#[.int .i64 (c 0), .int .i64 (c 1), .int .i64 (c 2), .int .i64 (c 3), .int .i64 (c 4), .int .i64 (c 5), .int .i64 (c 6), .int .i64 (c 7)]) 39) = W1 := ⟨_, rfl⟩
      rw [hW1]
      obtain ⟨E6, E7, EB⟩ := two_new hW1
      rw [hv] at E6 E7 EB BS
      rw [hv]
      have HV := hid hv
      have cG := hid (BG.out.kept (only_of_below (by rw [HV.out]; exact EB.out) none) (by simp) (by simp))
      have cR := hid (BR.out.kept (only_of_below (by rw [HV.out]; exact EB.out) none) (Or.inr (by simp [Value.ownBlock])))
      have cB : Hid (Below g w W1) := hid (BB.out.trans (EB.out.mono (by have := BS.out; omega)))
      clear hv hW1 BB BG BR EB hen HV
      obtain ⟨⟨d0, d1⟩, z0, z1⟩ := cells2 E6.out
      go_wp2_with fail
      with_reducible refine (HCl.out _).mono ?_
      rintro e1 w2 ⟨rfl, hb⟩
      have F6 := hid (E6.out.below hb E6.out.lt)
      have F7 := hid (E7.out.below hb E7.out.lt)
      have dG := hid (cG.out.kept (only_of_below hb none) (by simp) (by simp))
      have dR := hid (cR.out.kept (only_of_below hb none) (Or.inr (by simp [Value.ownBlock])))
      have dB : Hid (Below g w w2) := hid (cB.out.trans (hb.mono (by have := BS.out; have := E6.out.lt; omega)))
      clear hb cG cR cB E6 E7 d0 d1 z0 z1
      obtain ⟨⟨d0, d1⟩, z0, z1⟩ := cells2 F6.out
      go_upto_region 6 with fail
      obtain ⟨W3, hW3⟩ : ∃ W3, w2.setCell ⟨v, 0, none⟩ (.string f2) = W3 := ⟨_, rfl⟩
      rw [hW3]
      have G6 : Hid (Blk W3 v 36 #[.string f2, .int .u64 u2]) := hid (by rw [← hW3]; exact (F6.out.set_ 0 (.string f2)).as rfl)
      have hg3 : w2.grownBy W3 (some v) := by rw [← hW3]; exact grown_setCell w2 ⟨v, 0, none⟩ _
      have G7 := hid (F7.out.grown hg3 (by simp))
      have eG := hid (dG.out.kept hg3 (by simp; have := HL.out; have := BS.out; have := dG.out.owns.lt; omega) (by simp; have := BS.out; omega))
      have eR := hid (dR.out.kept hg3 (Or.inr (by simp [Value.ownBlock]; have := BS.out; omega)))
      have eB : Hid (Below g w W3) := hid (dB.out.trans (below_only hg3 (by have := BS.out; omega) (by have := BS.out; have := F6.out.lt; omega)))
      clear hg3 hW3 dG dR dB F6 F7 d0 d1 z0 z1
      obtain ⟨⟨d0, d1⟩, z0, z1⟩ := cells2 G6.out
      obtain ⟨o0, o1, o2, o3, o4, o5, o6, o7⟩ := eight_ex' G7.out.eight
      have MN := hid (n_of (T := 41) (Blk.new W3 41 (#[.string f2, .int .u64 u2, .int .i64 (c 0), .int .i64 (c 1), .int .i64 (c 2), .int .i64 (c 3), .int .i64 (c 4), .int .i64 (c 5), .int .i64 (c 6), .int .i64 (c 7)])))
      have M1 := hid (eR.out.alloc (.cells (#[.string f2, .int .u64 u2, .int .i64 (c 0), .int .i64 (c 1), .int .i64 (c 2), .int .i64 (c 3), .int .i64 (c 4), .int .i64 (c 5), .int .i64 (c 6), .int .i64 (c 7)]) 41))
      go_wp2_with (first
        | (at_builtin; refine wpList_append_fits _ rfl (.tmp 23) (.tmp 27) 51 rfl g 41 i0 10 Tryz.underlying51 HI.out.1 HI.out.2.2.1 g ks.length N (flatN (ks.map (mkE l))) rfl M1.out ⟨W3.heap.size, 0, none⟩ 1 1 (ntC ⟨f2, u2, c⟩) rfl rfl MN.out (ntC_one _) (by omega) ?_; intro w4 hown4 hg4))
      have hgA : W3.grownBy w4 (some g) := ((Below.refl _ W3).alloc (Nat.le_refl _) (.cells (#[.string f2, .int .u64 u2, .int .i64 (c 0), .int .i64 (c 1), .int .i64 (c 2), .int .i64 (c 3), .int .i64 (c 4), .int .i64 (c 5), .int .i64 (c 6), .int .i64 (c 7)]) 41) |> fun h => only_of_below h (some g)).trans hg4
      have fG := hid (eG.out.kept hgA (by simp; omega) (by simp; omega))
      have fB : Hid (Below g w w4) := hid (eB.out.trans (below_only hgA (Nat.le_refl _) (by have := BS.out; have := G6.out.lt; omega)))
      have fS : Hid (ListAt w w4 g g rr m l.length N D l (ks ++ [((f2, u2) : KeyT)]) (fun z => left z && !z.sameKey (klit f2 u2)) cnt1) := hid ⟨fG.out, BH.out, by
        rw [List.length_append, List.map_append, List.map_cons, List.map_nil, flatN_snoc, ← HE.out]
        exact hown4, fB.out, HR.out.1, HR.out.2.1, HR.out.2.2, by rw [List.length_append]; simpa using hcap⟩
      clear hown4 hg4 hgA
      go_wp2
      go_roundw
      case rel => exact ⟨_, _, _, by rw [List.length_append]; rfl, fS⟩
      case measure => rw [fG.out.left_eq, BT.out]; exact BL.out

end Go.Proofs.YtpdfakjopeldmaaGreatDoor
