/-
  The contracts of lock's those, List, Ahead.
-/
import Derived.Test.YtgjbhlianlbflaaGreatBLkCmp
import Derived.Maps.AppendAt
import Derived.Shelf.SlSortCmp.NoneTotal
namespace Go.Proofs.YtgjbhlianlbflaaGreat
open Go.ChangeShapes Go.WideShapes Go.ChangeAt Go.RowKit Go.Maps Go.WideMaps Go.Shelf Go.Sort
set_option linter.unusedVariables false
set_option linter.unusedSimpArgs false
def entL (e : EnL) : List Value := [.string e.path, .int .u64 e.num, .string e.foot, .int .i64 e.mode, .int .u64 e.n, .int .i64 e.stamp]
theorem entL_one (e : EnL) : ∀ v ∈ entL e, v.oneCell' = true := by
  intro v hv
  simp [entL] at hv
  rcases hv with rfl | rfl | rfl | rfl | rfl | rfl <;> rfl
def flatE (ks : List EnL) : List Value := ks.flatMap entL
theorem flatE_len : ∀ l : List EnL, (flatE l).length = l.length * 6
  | [] => rfl
  | n :: l => by
    have := flatE_len l
    unfold flatE at *
    rw [List.flatMap_cons, List.length_append, this, List.length_cons]
    show 6 + l.length * 6 = (l.length + 1) * 6
    omega
theorem flatE_get : ∀ {l : List EnL} {j i : Nat} (hj : j < l.length), i < 6 → (flatE l)[j * 6 + i]? = (entL l[j])[i]?
  | n :: l, 0, i, _, hi => by
    unfold flatE
    rw [List.flatMap_cons, Nat.zero_mul, Nat.zero_add, List.getElem?_append_left (by show i < 6; exact hi)]
    rfl
  | n :: l, j + 1, i, hj, hi => by
    have ih := flatE_get (l := l) (j := j) (i := i) (by simpa using hj) hi
    unfold flatE at *
    rw [List.flatMap_cons, List.getElem?_append_right (by show 6 ≤ _; omega)]
    have e : (j + 1) * 6 + i - (entL n).length = j * 6 + i := by show (j + 1) * 6 + i - 6 = _; omega
    rw [e, ih]
    rfl
theorem flatE_app (a b : List EnL) : flatE (a ++ b) = flatE a ++ flatE b := by unfold flatE; rw [List.flatMap_append]
instance : Inhabited EnR := ⟨⟨⟨⟨#[97]⟩, 0, ⟨#[]⟩, 1, 0, 0⟩, by kernel_rfl⟩⟩
def encR (x : EnR) : List Value := entL x.1
theorem flat_getE (ks : List EnR) {j : Nat} (hj : j < ks.length * 6) : (flatE (ks.map (·.1)))[j]? = some ((flatK encR 6 ks.toArray)[j]!) := by
  have hd : j / 6 < ks.length := by omega
  have e : j / 6 * 6 + j % 6 = j := by omega
  rw [get_flatK _ _ _ _ (by simpa using hj)]
  have h1 := flatE_get (l := ks.map (·.1)) (j := j / 6) (i := j % 6) (by simpa using hd) (by omega)
  rw [e] at h1
  rw [h1]
  have h2 : ks.toArray[j / 6]! = ks[j / 6] := by rw [getElem!_pos _ _ (by simpa using hd)]; simp
  rw [h2]
  have h3 : j % 6 < (encR ks[j / 6]).length := by show j % 6 < 6; omega
  rw [getElem!_pos (encR ks[j / 6]) (j % 6) h3]
  rw [List.getElem_map]
  exact List.getElem?_eq_getElem h3
theorem lkbelow_growL {B : Nat} {a w : World} (h : Below B a w) (hB : B ≤ w.heap.size) (os : Array Obj) : Below B a (grow w os) :=
  ⟨h.os, h.tape, h.output, by have := h.size; simp [grow]; omega, fun k hk => by
    rw [← h.block k hk]
    show (w.heap ++ os)[k]? = w.heap[k]?
    rw [Array.getElem?_append_left (by omega)]⟩
def ApartE (l : List EnL) : Prop := l.Pairwise fun a b => ¬ (a.path = b.path ∧ a.stamp = b.stamp)
theorem risesE_of_sorted {es : List EnR} (hn : ApartE (es.map (·.1))) {d : Array EnR} (h1 : PermIn 0 es.toArray.size es.toArray d) (h2 : SortedIn (ltOf cmpR) 0 es.toArray.size d) : RisesE (d.toList.map (·.1)) ∧ (d.toList.map (·.1)).Perm (es.map (·.1)) := by
  obtain ⟨hs, _, hp⟩ := h1
  have hs' : d.size = es.length := by simpa using hs
  have hp2 : d.toList.Perm es := by
    have e1 : (d.extract 0 es.toArray.size).toList = d.toList := by simp [← hs']
    have e2 : (es.toArray.extract 0 es.toArray.size).toList = es := by simp
    rw [e1, e2] at hp
    exact hp
  have hp3 := hp2.map (fun x : EnR => x.1)
  have hap : ApartE (d.toList.map (·.1)) := hp3.symm.pairwise hn (fun {a b} h e => h ⟨e.1.symm, e.2.symm⟩)
  refine ⟨?_, hp3⟩
  unfold RisesE ApartE at *
  rw [List.pairwise_iff_getElem] at *
  intro i j hi hj hij
  simp only [List.length_map] at hi hj
  have h3 := h2 i j (Nat.zero_le _) hij (by simpa [hs'] using hj)
  have ei : d[i]! = d.toList[i] := by simp at hi; rw [getElem!_pos d i hi]; rfl
  have ej : d[j]! = d.toList[j] := by simp at hj; rw [getElem!_pos d j hj]; rfl
  rw [ei, ej, lt_cmpR, decide_eq_false_iff_not] at h3
  have h4 := hap i j (by simpa using hi) (by simpa using hj) hij
  simp only [List.getElem_map] at h4 ⊢
  rcases cmpE_tot h4 with h5 | h5
  · exact h5
  · exact absurd h5 h3
def SeesE (w : World) (A : Option Addr) (l : List EnL) : Prop := ∀ (j : Nat) (y : EnL), l[j]? = some y → ∃ b o, A = some ⟨b, o, none⟩ ∧ b < w.heap.size ∧ w.rangeAt b (o + j * 6) (entL y)
theorem SeesE.nil (w : World) (A : Option Addr) : SeesE w A [] := fun j x h => by simp at h
theorem SeesE.below {w w' : World} {A : Option Addr} {l : List EnL} (h : SeesE w A l) (hb : Below w.heap.size w w') : SeesE w' A l := fun j x hj => by
  obtain ⟨b, o, h1, h2, h3⟩ := h j x hj
  exact ⟨b, o, h1, Nat.lt_of_lt_of_le h2 hb.size, fun i v hv => (hb.cell (p := ⟨b, o + j * 6 + i, none⟩) h2).trans (h3 i v hv)⟩
theorem SeesE.of {w : World} {g : Nat} {l : List EnL} (hg : g < w.heap.size) (h : ∀ j v, (flatE l)[j]? = some v → w.cell? ⟨g, j, none⟩ = some v) : SeesE w (some ⟨g, 0, none⟩) l := fun j y hj => by
  obtain ⟨hj1, hj2⟩ := List.getElem?_eq_some_iff.1 hj
  refine ⟨g, 0, rfl, hg, fun i v hv => ?_⟩
  rw [Nat.zero_add]
  have hi : i < 6 := (List.getElem?_eq_some_iff.1 hv).1
  refine h (j * 6 + i) v ?_
  rw [flatE_get hj1 hi, hj2]
  exact hv
theorem blk_mapped {w : World} {g : Nat} {T : TypeId} {cs : Array Value} (h : Blk w g T cs) (f : Array Value → Array Value) : Blk (Sort.mapBlock w g f) g T (f cs) := by
  show (w.heap.modify g (Sort.onCells f))[g]? = _
  rw [Array.getElem?_modify, if_pos rfl, h.heap]
  rfl
theorem Blk.growL {w : World} {g : Nat} {T : TypeId} {cs : Array Value} (h : Blk w g T cs) (os : Array Obj) : Blk (grow w os) g T cs := by
  show (w.heap ++ os)[g]? = _
  rw [Array.getElem?_append_left h.lt]
  exact h.heap
set_option maxRecDepth 100000 in
set_option maxHeartbeats 2000000 in
theorem ents_sorted {w : World} {base g N : Nat} {ks : List EnL} (hr : ∀ e ∈ ks, right (L e.path) = true) (hn : ApartE ks) (hR : w.ownsRow base 44 6 (.slice (some ⟨g, 0, none⟩) ks.length N) ks.length (flatE ks)) (hlen : ks.length < 10000000) :
    Calls Tryz.prog 67 #[.slice (some ⟨g, 0, none⟩) ks.length N, .func (.func 68) #[] #[]] w fun e w' => e = .returned (.tuple #[]) ∧ ∃ ds : List EnL, RisesE ds ∧ ds.Perm ks ∧
      (∀ j v, (flatE ds)[j]? = some v → w'.cell? ⟨g, j, none⟩ = some v) ∧ Below base w w' ∧ g < w'.heap.size ∧ ∃ cs, Blk w' g 44 cs := by
  obtain ⟨ks', hks⟩ : ∃ ks' : List EnR, ks'.map (·.1) = ks := ⟨ks.attachWith _ hr, List.attachWith_map_subtype_val _⟩
  subst hks
  rw [List.length_map] at *
  have hg : g < w.heap.size := (hR.lt g rfl).2
  have hbg : base ≤ g := (hR.lt g rfl).1
  have eg : ∀ args w, (callFunc 68 args).run Tryz.prog w = .ok (.enter 68 args) w := enters_of Tryz.func68 (by kernel_rfl) rfl
  have hH : HoldsK encR 6 w g 0 ks'.toArray := fun j hj => by
    rw [size_flatK] at hj
    have hj' : j < ks'.length * 6 := by simpa using hj
    rw [Nat.zero_add]
    exact ⟨by rw [hR.cellAt j hj', flat_getE ks' hj']; rfl, hR.frozenAt j⟩
  have hcmp : CmpLays Tryz.prog 68 #[] encR 6 cmpR g 0 ks'.toArray.size w := fun m os dk _ x y => lkcompare_lays x.1 y.1 _ x.2 y.2
  have hcon := AnyQ.slices_SortFunc Tryz.sortE 6 Tryz.isAgg44 Tryz.sizeOf44 encR (fun _ => rfl) (fun x v hv => entL_one _ v hv) cmpR swoR 68 #[] g 0 N ks'.toArray w eg hcmp hH hg (by simp; omega)
  have hcon2 : Calls Tryz.prog 67 #[.slice (some ⟨g, 0, none⟩) ks'.length N, .func (.func 68) #[] #[]] w _ := hcon
  refine hcon2.mono fun e w' ⟨he, d, n, os, h1, h2, hw⟩ => ⟨he, d.toList.map (·.1), (risesE_of_sorted hn h1 h2).1, (risesE_of_sorted hn h1 h2).2, ?_, ?_, ?_, ?_⟩
  · intro j v hv
    have hs : d.size = ks'.toArray.size := h1.1
    have hH2 : HoldsK encR 6 w' g 0 d := by rw [hw]; exact holdsK_sortWorldK_c encR 6 w g 0 ks'.toArray d n os hH hg hs
    have hj : j < d.toList.length * 6 := by
      have := (List.getElem?_eq_some_iff.1 hv).1
      rw [flatE_len] at this
      simpa using this
    rw [flat_getE d.toList hj] at hv
    have h3 := (hH2 j (by rw [size_flatK]; simpa using hj)).1
    rw [Nat.zero_add] at h3
    rw [h3]
    exact hv
  · rw [hw]
    exact lkbelow_growL (Lib.below_putRow (Below.refl base w) hbg) (by show base ≤ (putRow _ _ _ _ _).heap.size; rw [Sort.size_putRow]; exact Nat.le_trans hbg (Nat.le_of_lt hg)) os
  · rw [hw]
    show g < (grow (putRow _ _ _ _ _) os).heap.size
    simp [grow]
    have : (Sort.ahead w n).heap.size = w.heap.size := rfl
    omega
  · rw [hw]
    rcases hR.2 with ⟨e1, _⟩ | ⟨g', cap', cur, e1, _, hbk, _⟩
    · cases e1
    · injection e1 with e1
      injection e1 with e1
      injection e1 with e1
      subst e1
      have hbk' : Blk w g 44 cur := hbk
      exact ⟨_, (blk_mapped (show Blk (Sort.ahead w n) g 44 cur from hbk') _).growL os⟩
theorem GoodK.apart {first : Int} {l : List EnL} {cs : CnL} (h : GoodK first l cs) {ks : List EnL} (hn : ks.Nodup) (hs : ∀ e ∈ ks, e ∈ l) : ApartE ks := by
  unfold ApartE
  refine List.Pairwise.imp_of_mem (fun {a b} ha hb hab e => ?_) hn
  obtain ⟨i, hi, ei⟩ := List.getElem_of_mem (hs a ha)
  obtain ⟨j, hj, ej⟩ := List.getElem_of_mem (hs b hb)
  have ho := List.pairwise_iff_getElem.1 h.ord
  have hov : overlap (L a.path) (L b.path) = true := by rw [← e.1]; exact ov_self (h.ok a (hs a ha)).1
  rcases Nat.lt_trichotomy i j with hij | hij | hij
  · have := ho i j hi hj hij (by rw [ei, ej]; exact hov)
    rw [ei, ej] at this
    omega
  · subst hij
    rw [ei] at ej
    exact hab ej
  · have := ho j i hj hi hij (by rw [ei, ej, ov_comm]; exact hov)
    rw [ei, ej] at this
    omega
theorem info_ent : (Tryz.prog.info? 44).map (fun i => (i.zero, i.size, i.bytes)) = some (some (.agg #[.string ⟨#[]⟩, .int .u64 0, .string ⟨#[]⟩, .int .i64 0, .int .u64 0, .int .i64 0]), 6, 64) := by kernel_rfl
theorem ent_at {w : World} {b : Nat} {T : TypeId} {e : EnL} (h : Blk w b T (entC e)) : ∀ j x, (entL e)[j]? = some x → w.cell? ((⟨b, 0, none⟩ : Addr).add j) = some x := by
  intro j x hj
  have hl : j < 6 := (List.getElem?_eq_some_iff.1 hj).1
  rcases (show j = 0 ∨ j = 1 ∨ j = 2 ∨ j = 3 ∨ j = 4 ∨ j = 5 by omega) with rfl | rfl | rfl | rfl | rfl | rfl
  · simp [entL] at hj; subst hj; exact (h.cell 0).trans rfl
  · simp [entL] at hj; subst hj; exact (h.cell 1).trans rfl
  · simp [entL] at hj; subst hj; exact (h.cell 2).trans rfl
  · simp [entL] at hj; subst hj; exact (h.cell 3).trans rfl
  · simp [entL] at hj; subst hj; exact (h.cell 4).trans rfl
  · simp [entL] at hj; subst hj; exact (h.cell 5).trans rfl
def ThoseK (w W : World) (d r n : Nat) (D : DataW Value) (l ks : List EnL) (left : Lit → Bool) (cnt : Nat) (p : EnL → Bool) (v : Value) : Prop :=
  RngK w W d r n D l ks left cnt ∧ W.ownsRow (r + 1) 44 6 v (ks.filter p).length (flatE (ks.filter p)) ∧ r < W.heap.size
def OutE (l : List EnL) (p : EnL → Bool) (w : World) (e : Ending) (w' : World) : Prop :=
  ∃ ds A c, RisesE ds ∧ ds.Perm (l.filter p) ∧ e = .returned (.slice A (ds.length : Nat) c) ∧ SeesE w' A ds ∧ (∀ b o, A = some ⟨b, o, none⟩ → w.heap.size ≤ b ∧ b < w'.heap.size ∧ ∃ cs, Blk w' b 44 cs) ∧ (A = none → c = 0) ∧ ds.length ≤ c ∧ Below w.heap.size w w'
theorem filt_step (p : EnL → Bool) (ks : List EnL) (s : EnL) : (ks ++ [s]).filter p = ks.filter p ++ (if p s = true then [s] else []) := by
  rw [List.filter_append]
  congr 1
  cases h : p s <;> simp [h]
theorem filt_len (p : EnL → Bool) (ks : List EnL) : (ks.filter p).length ≤ ks.length := List.length_filter_le p ks
theorem lkall_any (s : EnL) (w : World) : Calls Tryz.prog 41 #[entV s] w fun e w' => e = .returned (.bool ((fun _ : EnL => true) s)) ∧ Below w.heap.size w w' := by
  go_enter Tryz.func41, Tryz.ntmps41
  go_wp2
  go_ret
  exact ⟨rfl, (RowKit.Below.refl _ _).alloc (Nat.le_refl _) _⟩
set_option maxRecDepth 100000 in
set_option maxHeartbeats 4000000 in
theorem lkthose1_any (base b de dc n : Nat) (first : Int) (l : List EnL) (cs : CnL) (w : World) (h : BkK w base b de dc n first l cs) (hn : n ≤ 1000000) :
    Calls Tryz.prog 40 #[.pointer (some ⟨b, 0, none⟩), .func (.func 41) #[] #[]] w (OutE l (fun _ : EnL => true) w) := by
  have HP : Hid (∀ s ∈ l, ∀ W, Calls Tryz.prog 41 #[entV s] W fun e w' => e = .returned (.bool ((fun _ : EnL => true) s)) ∧ Below W.heap.size W w') := hid (fun s _ W => lkall_any s W)
  obtain ⟨p, hp⟩ : ∃ p, (fun _ : EnL => true) = p := ⟨_, rfl⟩
  rw [hp] at HP ⊢
  clear hp
  have HB := hid h.blk
  have HL := hid h.lt
  have HR := hid h.good
  obtain ⟨D, hD, hM⟩ := h.es
  have HD := hid hD
  have HM : Hid (EnD l D) := hid hM
  have HN := hid hn
  obtain ⟨i0, hi, hz0, hz1, hz2⟩ := info_parts info_ent
  have HI := hid (And.intro hi (And.intro hz0 (And.intro hz1 hz2)))
  have HNone := hid (fun fv w => AnyF.slices_SortFunc_none Tryz.sortE none 0 fv w)
  clear h hD hM hn hi hz0 hz1 hz2
  have hc : w.cell? ⟨b, 1, none⟩ = some (.map (some de)) := (HB.out.cell 1).trans rfl
  go_enter Tryz.func40, Tryz.ntmps40
  go_wp2_with (first
    | (at_range; with_reducible refine wpList_range_own _ rfl _ 75 rfl 84 44 law_lkey Tryz.underlying75 idK de n D rfl HD.out ?_; intro w0 hrg0 hg0 hs0))
  go_frame
  obtain ⟨rr, hrr⟩ : ∃ r, w.heap.size = r := ⟨_, rfl⟩
  have HRR := hid hrr
  rw [hrr] at hrg0 hs0
  rw [hrr]
  have A0 : Hid (ThoseK w w0 de rr n D l [] (Maps.has D) (Maps.size D) p (.slice none 0 0)) := hid ⟨⟨hrg0, fun _ h => h, KkAt.start HR.out HM.out, lbelow_grown hg0, by omega, by have := HD.out.size_le; simpa using this⟩, World.ownsRow_nil _ _ _ _, by omega⟩
  clear hrg0 hg0 hs0 hc
  go_loopw [5] (fun lv wr => ∃ ks left cnt, Hid (ThoseK w wr de rr n D l ks left cnt p lv)) (fun _ wr => wr.rangeLeft de rr)
  case atStart => exact ⟨[], _, _, A0⟩
  case round =>
    obtain ⟨ks, left, cnt, HA⟩ := hrel
    clear A0
    have HG : Hid (wr.ranges Tryz.prog 84 idK de rr n D left cnt) := hid HA.out.1.1
    go_wp2_with (first
      | (at_next; with_reducible refine wpList_next_ranges _ rfl _ rfl 84 law_lkey idK (fun x : ByteArray × Int × ByteArray => (lkeyV x.1 x.2.1 x.2.2 : Value)) (fun c : Value => c) inv_lkey inv_idK de rr n D left cnt rfl HG.out ?_ ?_))
    · intro _ hl0
      have hp1 := HA.out.1.2.2.1.perm HR.out hl0
      have HPe : Hid ((ks.filter p).Perm (l.filter p)) := hid (hp1.filter p)
      have HAp : Hid (ApartE (ks.filter p)) := hid (HR.out.apart (HA.out.1.2.2.1.1.filter p) (fun s hs => (HA.out.1.2.2.1.2.1 s (List.mem_filter.1 hs).1).1))
      have HRt : Hid (∀ e ∈ ks.filter p, right (L e.path) = true) := hid (fun e he => (HR.out.ok e (HA.out.1.2.2.1.2.1 e (List.mem_filter.1 he).1).1).1)
      have HBl := hid HA.out.1.2.2.2.1
      have HRw := hid HA.out.2.1
      have HLn : Hid ((ks.filter p).length ≤ 1000000) := hid (by
        have h1 := filt_len p ks
        have := HA.out.1.2.2.2.2.2
        have := HN.out
        omega)
      clear hl0 hp1 HA HG
      rcases HRw.out.2 with ⟨e1, e2⟩ | ⟨g, cap, cur, e1, _, _, e3, _⟩
      · subst e1
        have hk0 : ks.filter p = [] := List.eq_nil_of_length_eq_zero e2
        have H0 : Hid (l.filter p = []) := hid (by have := HPe.out; rw [hk0] at this; exact this.nil_eq.symm ▸ rfl)
        clear e2 hk0 HRw
        go_wp2_with (first
          | (go_at_call 67; refine (HNone.out _ _).mono ?_; rintro e w2 ⟨rfl, rfl⟩))
        go_ret
        exact ⟨[], none, 0, List.Pairwise.nil, by rw [H0.out], rfl, SeesE.nil _ _, fun b o h => (by cases h), fun _ => rfl, Nat.le_refl _, HBl.out⟩
      · subst e1
        have HSo := hid (ents_sorted (base := rr + 1) (g := g) (N := cap) HRt.out HAp.out HRw.out (by have := HLn.out; omega))
        obtain ⟨m, hm⟩ : ∃ m, (ks.filter p).length = m := ⟨_, rfl⟩
        rw [hm] at HSo e3
        rw [hm]
        have HLe := hid hm
        have HCp := hid e3
        have HG := hid (HRw.out.lt g rfl).1
        clear hm HRw e3
        go_wp2_with (first
          | (go_at_call 67; refine HSo.out.mono ?_; rintro e w2 ⟨rfl, ds, k2, k3, k4, k5, k6⟩; have K1 := hid (And.intro k2 (And.intro k3 (And.intro k4 (And.intro k5 k6)))); clear k2 k3 k4 k5 k6))
        go_ret
        obtain ⟨k2, k3, k4, k5, k6⟩ := K1.out
        have hdl : ds.length = m := by rw [k3.length_eq]; exact HLe.out
        exact ⟨ds, _, _, k2, k3.trans HPe.out, by rw [hdl]; rfl, SeesE.of k6.1 k4, (fun b o h => by injection h with h; injection h with h; subst h; exact ⟨by have := HG.out; omega, k6⟩), (fun h => by cases h), by rw [hdl]; exact HCp.out, HBl.out.trans (k5.mono (by omega))⟩
    · intro p2 u2 f2 c kl y yp w1 cnt1 hkey hlk hv hat hrg1 hlt1 hg1 hs1 hen
      obtain ⟨s, hs, e1, e2, e3, rfl, rfl⟩ := entry_lk (y := (y, yp)) HR.out HM.out hkey (HA.out.1.2.1 _ hlk) hv hat
      rw [e1, e2, e3] at hen ⊢
      have HS := hid hs
      have HC2 := hid (HA.out.1.2.2.1.step HR.out hs hlk)
      have BG := hid hrg1
      have BH : Hid (∀ kl, (left kl && !kl.sameKey (lklit s.path s.num s.foot)) = true → Maps.has D kl = true) := hid (fun kl h => HA.out.1.2.1 kl (by simp at h; exact h.1))
      have BB : Hid (Below w.heap.size w w1) := hid (HA.out.1.2.2.2.1.trans (lbelow_only hg1 (by have := HA.out.1.2.2.2.2.1; omega) (by have := HG.out.lt; have := HA.out.1.2.2.2.1.size; omega)))
      have BL := hid hlt1
      have BT : Hid (wr.rangeLeft de rr = cnt) := hid HG.out.left_eq
      have BS : Hid (rr < w1.heap.size) := hid (by rw [hs1]; exact HG.out.lt)
      have BO := hid HA.out.1.2.2.2.2.1
      have BC : Hid ((ks ++ [s]).length + cnt1 ≤ n) := hid (by have := HA.out.1.2.2.2.2.2; simp; omega)
      have BV := hid (HA.out.2.1.kept hg1 (Or.inr (fun e => by have := (HA.out.2.1.lt rr (by simpa using e)).1; omega)))
      have BK : Hid ((ks.filter p).length ≤ 1000000) := hid (by
        have h1 := filt_len p ks
        have := HA.out.1.2.2.2.2.2
        have := HN.out
        omega)
      clear hkey hlk hv hat hrg1 hlt1 hg1 hs1 HA HG e1 e2 e3
      go_upto_region 5 with fail
      obtain ⟨W1, hW1⟩ : ∃ W1, w1.alloc (.cells (entC s) 44) = W1 := ⟨_, rfl⟩
      obtain ⟨v, hv⟩ : ∃ v, w1.heap.size = v := ⟨_, rfl⟩
      obtain ⟨E6, EB⟩ := lone_new hW1
      rw [hv] at E6 EB BS ⊢
      rw [hW1]
      have EG := EB.out
      rw [← hv] at EG
      have cG := hid (BG.out.kept (row := none) (only_of_below EG none) (by simp) (by simp))
      have cV := hid (BV.out.kept (row := none) (only_of_below EG none) (Decidable.em _))
      have cB : Hid (RowKit.Below w.heap.size w W1) := hid (BB.out.trans (EB.out.mono (by have := BB.out.size; omega)))
      clear hv hW1 BB BG BV EB hen EG
      have HKey : Hid (OkK s.path ∧ OkK s.foot) := hid (HR.out.keys s HS.out).2
      obtain ⟨d0, d1, d2, d3, d4, d5⟩ := lcells6 E6.out
      obtain ⟨ps, hps⟩ : ∃ x, p s = x := ⟨_, rfl⟩
      have HPs := hid (HP.out s HS.out W1)
      rw [hps] at HPs
      have HKs : Hid ((ks ++ [s]).filter p = ks.filter p ++ (if ps = true then [s] else [])) := hid (by rw [filt_step, hps])
      clear hps
      have KG : Hid (∀ (W2 : World), RowKit.Below W1.heap.size W1 W2 → W2.ranges Tryz.prog 84 idK de rr n D (fun z => left z && !z.sameKey (lklit s.path s.num s.foot)) cnt1 ∧ W2.ownsRow (rr + 1) 44 6 u5 (ks.filter p).length (flatE (ks.filter p)) ∧ RowKit.Below w.heap.size w W2 ∧ rr < W2.heap.size ∧ Blk W2 v 44 (entC s)) := hid (fun W2 hb =>
        ⟨cG.out.kept (row := none) (only_of_below hb none) (by simp) (by simp), cV.out.kept (row := none) (only_of_below hb none) (Decidable.em _), below_on cB.out hb, by have := hb.size; have := BS.out; have := E6.out.lt; omega, ent_low E6.out hb⟩)
      cases ps with
      | false =>
        go_wp2_with (first
          | (go_at_call 41; (with_reducible refine HPs.out.mono ?_); rintro e w2 ⟨rfl, b2⟩; have G2 := hid (KG.out _ b2); clear b2))
        go_roundw
        case rel => exact ⟨ks ++ [s], _, cnt1, hid ⟨⟨G2.out.1, BH.out, HC2.out, G2.out.2.2.1, BO.out, BC.out⟩, by rw [HKs.out]; simpa using G2.out.2.1, G2.out.2.2.2.1⟩⟩
        case measure => rw [G2.out.1.left_eq, BT.out]; exact BL.out
      | true =>
        have HCl := hid (fun w => lkclone_any s w HKey.out.1 HKey.out.2)
        obtain ⟨hi, hz0, hz1, hz2⟩ := HI.out
        have bk := BK.out
        go_wp2_with (first
          | (go_at_call 41; (with_reducible refine HPs.out.mono ?_); rintro e w2 ⟨rfl, b2⟩; have G2 := hid (KG.out _ b2); have B2 := hid b2; clear b2 d0 d1 d2 d3 d4 d5; obtain ⟨d0, d1, d2, d3, d4, d5⟩ := lcells6 G2.out.2.2.2.2)
          | (go_at_call 42; (with_reducible refine (HCl.out _).mono ?_); rintro e w3 ⟨rfl, b3⟩; have G3 := hid (KG.out _ (below_on B2.out b3)); clear b3 d0 d1 d2 d3 d4 d5
             have E5 := hid (Blk.new w3 44 (entC s))
             have O5 := hid (G3.out.2.1.kept (World.grownBy_alloc w3 (.cells (entC s) 44) none) (Decidable.em _))
             have R5 := hid (G3.out.1.kept (World.grownBy_alloc w3 (.cells (entC s) 44) none) (by simp) (by simp))
             have B5 : Hid (RowKit.Below w.heap.size w (w3.alloc (.cells (entC s) 44))) := hid (G3.out.2.2.1.alloc G3.out.2.2.1.size _)
             have HSz : Hid (rr + 1 ≤ (w3.alloc (.cells (entC s) 44)).heap.size) := hid (by have := G3.out.2.2.2.1; simp; omega))
          | (at_builtin; refine wpList_append_own_at _ rfl (.tmp 20) (.tmp 23) 41 rfl (rr + 1) 44 i0 _ 6 64 Tryz.underlying41 hi hz0 hz1 hz2 rfl (by decide) u5 _ _ rfl O5.out ⟨w3.heap.size, 0, none⟩ 1 1 (entL s) rfl rfl (ent_at E5.out) (entL_one _) (by unfold maxLen; omega) (by omega) HSz.out ?_; intro v6 w6 own6 hg6 _ hb6; have O6 := hid own6; have Q6 := hid hg6; clear own6 hg6 hb6))
        have hd : de < w.heap.size := HL.out.2.1
        have hrr' := HRR.out
        have R6 := hid (R5.out.kept Q6.out (fun e => by have := (O5.out.lt de e.symm).1; omega) (fun e => by have := (O5.out.lt rr e.symm).1; omega))
        have B6 : Hid (RowKit.Below w.heap.size w w6) := hid (B5.out.grown Q6.out B5.out.size (fun k hk => by have := (O5.out.lt k hk).1; omega))
        have KF : Hid (((ks ++ [s]).filter p).length = (ks.filter p).length + 1 ∧ flatE ((ks ++ [s]).filter p) = flatE (ks.filter p) ++ entL s) := hid (by
          rw [HKs.out]
          simp [flatE])
        go_roundw
        case rel => exact ⟨ks ++ [s], _, cnt1, hid ⟨⟨R6.out, BH.out, HC2.out, B6.out, BO.out, BC.out⟩, by rw [KF.out.1, KF.out.2]; exact O6.out, Nat.lt_of_lt_of_le HSz.out Q6.out.size⟩⟩
        case measure => rw [R6.out.left_eq, BT.out]; exact BL.out
theorem lklist_any (base b de dc n : Nat) (first : Int) (l : List EnL) (cs : CnL) (w : World) (h : BkK w base b de dc n first l cs) (hn : n ≤ 1000000) :
    Calls Tryz.prog 16 #[.pointer (some ⟨b, 0, none⟩)] w (OutE l (fun _ : EnL => true) w) := by
  have HC := hid (lkthose1_any base b de dc n first l cs w h hn)
  clear h
  go_enter Tryz.func16, Tryz.ntmps16
  go_wp2_with (go_at_call 40; (with_reducible refine HC.out.mono ?_); rintro e w2 ⟨ds, A, c, h1, h2, rfl, h3⟩; have H1 := hid (And.intro h1 (And.intro h2 h3)); clear h1 h2 h3)
  go_ret
  exact ⟨ds, A, c, H1.out.1, H1.out.2.1, rfl, H1.out.2.2⟩
end Go.Proofs.YtgjbhlianlbflaaGreat
