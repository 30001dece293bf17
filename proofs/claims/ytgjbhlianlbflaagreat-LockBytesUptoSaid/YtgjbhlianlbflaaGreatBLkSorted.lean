/-
  slices.SortedFunc over the paths of a map of counters, by path.Compare.
-/
import Derived.Test.YtgjbhlianlbflaaGreatBLkThose
import Derived.Test.YtgjbhlianlbflaaGreatBSortS
import Derived.RangeFuncBound
import Derived.RangeFuncLeaves
import Derived.Shelf.Abstract
import Derived.Shelf.RegionOpen
import Derived.OwnWalk
import Derived.RegionTactic
import Derived.RangeFuncBox
import Derived.RangeFuncNested
import Derived.RangeFuncWrites
import Derived.RangeFuncCalls
import Derived.Maps.AppendAt
import Derived.Sort.MapsRangeIn
import Derived.OwnWalkIn
import Derived.TacticsInMore
import Derived.RegionIn
import Derived.LoopNIn
import Derived.LoopIn
namespace Go.Proofs.YtgjbhlianlbflaaGreat
open Go.ChangeShapes Go.WideShapes Go.ChangeAt Go.RowKit Go.Maps Go.WideMaps Go.Sort Go.Shelf
set_option linter.unusedVariables false
set_option linter.unusedSimpArgs false
attribute [local go_sem] Oper.semAt_some
def plit (p : ByteArray) : Lit := .string p.data.toList
def hasC (cs : CnL) (p : ByteArray) : Bool := (cs.find? fun c => decide (c.1 = p)).isSome
theorem hasC_iff {cs : CnL} {p : ByteArray} : hasC cs p = true ↔ ∃ c ∈ cs, c.1 = p := by
  unfold hasC
  rw [List.find?_isSome]
  simp
theorem inv_lpath : ∀ key kl, keyOf Tryz.prog 9 key = some kl → ∃ x : ByteArray, key = .string x := fun key kl h => Maps.keyOf_string_inv Tryz.underlying9 h
theorem keyof_lpath_inv {s : ByteArray} {kl : Lit} (h : keyOf Tryz.prog 9 (.string s) = some kl) : s.size ≤ maxLen ∧ kl = plit s := by
  by_cases hs : s.size ≤ maxLen
  · rw [keyOf_string_mk Tryz.underlying9 hs] at h
    injection h with h
    exact ⟨hs, h.symm⟩
  · exfalso
    rw [keyOf_string Tryz.underlying9] at h
    unfold mapKey at h
    simp [Tryz.underlying9, hs] at h
def KcAt (cs : CnL) (left : Lit → Bool) (ks : List ByteArray) : Prop := ks.Nodup ∧ (∀ p ∈ ks, hasC cs p = true ∧ left (plit p) = false) ∧ ∀ p : ByteArray, hasC cs p = true → left (plit p) = false → p ∈ ks
def AllC (cs : CnL) (ks : List ByteArray) : Prop := ks.Nodup ∧ ∀ p : ByteArray, p ∈ ks ↔ hasC cs p = true
theorem okc {cs : CnL} (hl : ∀ c ∈ cs, OkK c.1) {p : ByteArray} (h : hasC cs p = true) : OkK p := by
  obtain ⟨c, hc, rfl⟩ := hasC_iff.1 h
  exact hl c hc
theorem KcAt.start {cs : CnL} {D : DataW Value} (hl : ∀ c ∈ cs, OkK c.1) (h : ∀ p, OkK p → Maps.has D (plit p) = hasC cs p) : KcAt cs (Maps.has D) [] :=
  ⟨List.nodup_nil, fun y hy => by simp at hy, fun p hp h0 => by
    rw [h p (okc hl hp), hp] at h0
    cases h0⟩
theorem KcAt.step {cs : CnL} {left : Lit → Bool} {ks : List ByteArray} (h : KcAt cs left ks) {p : ByteArray} (hp : p.size ≤ maxLen) (ht : hasC cs p = true) (hlk : left (plit p) = true) :
    KcAt cs (fun z => left z && !z.sameKey (plit p)) (ks ++ [p]) := by
  obtain ⟨h1, h2, h3⟩ := h
  have hself : (plit p).sameKey (plit p) = true := WideAt.sameKey_self (law_lpath.key (key_lpath hp))
  refine ⟨?_, ?_, ?_⟩
  · rw [List.nodup_append]
    refine ⟨h1, by simp, fun a ha b hb => ?_⟩
    rintro rfl
    simp at hb
    subst hb
    have := (h2 _ ha).2
    rw [hlk] at this
    cases this
  · intro y hy
    rcases List.mem_append.1 hy with hy | hy
    · exact ⟨(h2 y hy).1, by simp only; rw [(h2 y hy).2]; rfl⟩
    · simp at hy
      subst hy
      exact ⟨ht, by simp only; rw [hself]; simp⟩
  · intro y hy hq
    simp only [Bool.and_eq_false_iff] at hq
    rcases hq with hq | hq
    · exact List.mem_append_left _ (h3 y hy hq)
    · have hs2 : (plit y).sameKey (plit p) = true := by simpa using hq
      exact List.mem_append_right _ (by simp; exact lpath_inj (WideAt.sameKey_eq hs2))
set_option maxRecDepth 100000 in
set_option maxHeartbeats 2000000 in
theorem ckeys_stops (n : Nat) (hn : 1 ≤ n) (Bm m nn : Nat) (cs : CnL) (w : World) (hBm : Bm < w.heap.size) (hm : w.cell? ⟨Bm, 0, none⟩ = some (.map (some m))) (h : CsM w m nn cs) (hl : ∀ c ∈ cs, OkK c.1) :
    SeqStopsK Fence.wide n Tryz.prog 80 #[.pointer (some ⟨Bm, 0, none⟩)] (fun p : ByteArray => #[.string p]) KeepsWalks (AllC cs) (fun _ => True) nn w := fun lp J Jx W hW hJ _ hY h0 => by
  obtain ⟨D, hown, h2, h3⟩ := h.same (w' := W) (hW.block m h.lt)
  have hm' := (hW.cell (p := ⟨Bm, 0, none⟩) hBm).trans hm
  have H2 : Hid (∀ p, OkK p → Maps.has D (plit p) = hasC cs p) := hid (fun p hp => (h2 p hp).1)
  have H3 : Hid (∀ kl, Maps.has D kl = true → ∃ c ∈ cs, kl = plit c.1) := hid h3
  have HJ := hid hJ
  have HY := hid hY
  have HL := hid hl
  have HSz : Hid (Maps.size D ≤ nn) := hid hown.size_le
  clear h2 h3 hJ hY hm h
  refine callsIn_of_wp Tryz.func80 rfl trivial ?_ rfl
  simp only [Tryz.ntmps80, List.size_toArray, List.length_cons, List.length_nil, Nat.reduceAdd, Nat.reduceSub, Array.replicate_succ, Array.replicate_zero, List.push_toArray, List.append_toArray, List.nil_append, List.cons_append]
  gi_wp2_with (first
    | (gi_at_range; refine wpListIn_range_own _ rfl _ 76 rfl 9 22 law_lpath Tryz.underlying76 _ m nn _ rfl hown ?_; intro w0 hrg0 hg0 hs0)
    | gi_in)
  try go_frame
  gi_loopw [3] (fun _ wr => ∃ (left : Lit → Bool) (cnt : Nat) (ks : List ByteArray), wr.ranges Tryz.prog 9 idK m W.heap.size nn D left cnt ∧ ks.length + cnt ≤ Maps.size D ∧ (∀ kl, left kl = true → Maps.has D kl = true) ∧ KcAt cs left ks ∧ J ks wr)
    (fun _ wr => wr.rangeLeft m W.heap.size)
  case atStart =>
    exact ⟨_, _, [], hrg0, by simp, fun _ h => h, KcAt.start HL.out H2.out, HJ.out [] W w0 none h0 hg0 (fun r e => by cases e)⟩
  case round =>
    obtain ⟨left, cnt, ks, hrg, hcs, hlh, hC, hJs⟩ := hrel
    have HLH := hid hlh
    have HC := hid hC
    clear hlh hC
    gi_wp2_with (first
      | (gi_at_next; refine wpListIn_next_ranges _ rfl _ rfl 9 law_lpath idK (fun x : ByteArray => (.string x : Value)) id inv_lpath inv_idK m W.heap.size nn _ _ _ rfl hrg ?_ ?_)
      | gi_in)
    · intro hc0 hl0
      gi_wp2
      go_end0
      exact ⟨⟨_, rfl⟩, .inl ⟨ks, ⟨HC.out.1, fun y => ⟨fun hy => (HC.out.2.1 y hy).1, fun hy => HC.out.2.2 y hy (hl0 _)⟩⟩, hJs⟩⟩
    · intro p c kl yd yp w2 cnt2 hkey hlk hv hat hrg2 hlt hg2 hs2 hen
      obtain ⟨hps, rfl⟩ := keyof_lpath_inv hkey
      obtain ⟨cc, hcc, hce⟩ := H3.out _ (HLH.out _ hlk)
      have hpc : p = cc.1 := lpath_inj hce
      have hhas : hasC cs p = true := hasC_iff.2 ⟨cc, hcc, hpc.symm⟩
      have HC2 := hid (HC.out.step hps hhas hlk)
      have HLH2 : Hid (∀ kl, (left kl && !kl.sameKey (plit p)) = true → Maps.has D kl = true) := hid (fun kl h => HLH.out kl (by simp at h; exact h.1))
      have hJ2 : J ks w2 := HJ.out ks wr w2 (some W.heap.size) hJs hg2 (fun r e => by cases e; exact ⟨Nat.le_refl _, hrg.iter_walk⟩)
      obtain ⟨fn, tmps, assign, body, hy, hR⟩ := HY.out ks p _ hJ2 (by have := HSz.out; omega)
      clear hs2 hJ2 hhas hkey hlk hv hat hcc hce hpc
      gi_wp2
      refine hR.mono ?_
      rintro e W3 (⟨rfl, hJ3, hk3⟩ | ⟨rfl, hJx3⟩)
      · gi_wp2
        have hrg3 := hrg2.of_walks hk3
        go_roundw
        case rel => exact ⟨_, cnt2, ks ++ [p], hrg3, by simp; omega, HLH2.out, HC2.out, hJ3⟩
        case measure => rw [hrg3.left_eq, hrg.left_eq]; exact hlt
      · gi_wp2
        refine bodyPost_ret (results_none rfl _ _ _) rfl ?_
        exact ⟨⟨_, rfl⟩, .inr ⟨ks ++ [p], trivial, hJx3⟩⟩
set_option maxRecDepth 100000 in
theorem ckeys_any (m : Nat) (w : World) :
    Calls Tryz.prog 50 #[.map (some m)] w fun e w' => e = .returned (.func (.func 80) #[] #[.pointer (some ⟨w.heap.size, 0, none⟩)]) ∧ w' = w.alloc (.cells #[.map (some m)] 76) := by
  go_enter Tryz.func50, Tryz.ntmps50
  go_wp2
  go_ret
  exact ⟨rfl, rfl⟩
def flatP (ks : List ByteArray) : List Value := ks.map (fun p => (.string p : Value))
theorem flatP_snoc (l : List ByteArray) (n : ByteArray) : flatP (l ++ [n]) = flatP l ++ [.string n] := by simp [flatP]
theorem strC_one (p : ByteArray) : ∀ u ∈ [(.string p : Value)], u.oneCell' = true := by
  intro u hu
  simp at hu
  subst hu
  rfl
theorem info_strC : (Tryz.prog.info? 9).map (fun i => (i.zero, i.size, i.bytes)) = some (some (.string ⟨#[]⟩), 1, 16) := by kernel_rfl
def CKeysRow (cs : CnL) (nn : Nat) (w : World) (e : Ending) (w' : World) : Prop :=
  ∃ (v : Value) (ks : List ByteArray), e = .returned v ∧ w'.ownsRow w.heap.size 9 1 v ks.length (flatP ks) ∧ AllC cs ks ∧ ks.length ≤ nn ∧ Below w.heap.size w w'
theorem walksC {W W' : World} (h : KeepsOthers W W') : KeepsWalks W W' := ⟨h.size, fun k o hk hw => h.same k o hk (Obj.not_cells_of_walk hw)⟩
def SeqAtC (w : World) (nn : Nat) (pre : List ByteArray) (W : World) : Prop :=
  (∃ v, Go.Boxed W w.heap.size 92 v ∧ W.ownsRow w.heap.size 9 1 v pre.length (flatP pre) ∧ pre.length ≤ nn) ∧ Below w.heap.size w W
theorem SeqAtC.own {w w0 : World} (nn : Nat) (h : w.heap.size < w0.heap.size) : OwnFrom w0.heap.size (SeqAtC w nn) :=
  OwnFrom.and (Own.from (holdsRow_own w.heap.size w.heap.size 92 9 1 (fun pre => pre.length) (fun pre => flatP pre) (fun pre _ => pre.length ≤ nn)) _) (ownFrom_below (Nat.le_refl _) (Nat.le_of_lt h))
set_option maxRecDepth 100000 in
set_option maxHeartbeats 2000000 in
theorem cappendseq_any (m nn : Nat) (cs : CnL) (g : Nat) (w : World) (hg : g < w.heap.size) (hc : w.cell? ⟨g, 0, none⟩ = some (.map (some m))) (h : CsM w m nn cs) (hl : ∀ c ∈ cs, OkK c.1) (hnn : nn ≤ 1000000) :
    Calls Tryz.prog 98 #[.slice none 0 0, .func (.func 80) #[] #[.pointer (some ⟨g, 0, none⟩)]] w (CKeysRow cs nn w) := by
  obtain ⟨i0, hi, hz0, hz1, hz2⟩ := info_parts info_strC
  refine (callsIn_wide (n := 9)).1 ?_
  refine callsIn_of_wp_marks Tryz.func98 rfl trivial ?_ rfl
  simp only [Tryz.ntmps98, List.size_toArray, List.length_cons, List.length_nil, Nat.reduceAdd, Nat.reduceSub, Array.replicate_succ, Array.replicate_zero, List.push_toArray, List.append_toArray, List.nil_append, List.cons_append]
  gi_wp2
  have bO := Go.Boxed.new w 92 (.slice none 0 0)
  have hB0 : Below w.heap.size w (w.alloc (.cells #[.slice none 0 0] 92)) := (Below.refl _ w).alloc (Nat.le_refl _) _
  have hlt0 : w.heap.size < (w.alloc (.cells #[.slice none 0 0] 92)).heap.size := by simp
  have HOwn := hid (SeqAtC.own (w := w) nn hlt0)
  refine wpIn_rangeFunc_ownH rfl (by omega) (gf := 80) (lb := #[.pointer (some ⟨g, 0, none⟩)]) rfl trivial (enters_of Tryz.func80 (by kernel_rfl) rfl)
    (ckeys_stops _ (by omega) g m nn cs (w.alloc (.cells #[.slice none 0 0] 92)) (by simp; omega) ((hB0.cell (p := ⟨g, 0, none⟩) hg).trans hc) (h.same (hB0.block m h.lt)) hl) (fun h k => KeepsWalks.trans h k) walksK_b (Below.refl _ _) (fun _ => rfl)
    (SeqAtC w nn) (fun _ _ _ => False) HOwn.out (fun _ _ _ _ _ hs _ _ => hs)
    ⟨⟨_, bO, World.ownsRow_nil _ _ _ _, Nat.zero_le _⟩, hB0⟩
    (fun x a' W => a' = { tmps := #[.slice none 0 0, .func (.func 80) #[] #[.pointer (some ⟨g, 0, none⟩)], .pointer (some ⟨w.heap.size, 0, none⟩), undef, .slice none 0 0, .string x, .func (.func 80) #[] #[.pointer (some ⟨g, 0, none⟩)], .string x, undef, undef, undef, undef, undef], defers := [] })
    (fun x a' _ X Y row hs hg hr => hs) ?assign ?body ?done ?stop
  case assign =>
    intro lp pre x W K hI hK
    have HI := hid hI
    have HK := hid hK
    clear hI hK
    gi_wp2
    exact HK.out _ _ ((KeepsOthers.refl W).from _) (KeepsWalks.refl W) HI.out rfl
  case body =>
    rintro lp pre x a' W hlp ⟨rr, hrr⟩ ⟨⟨v, hv, hrow, hpl⟩, hB⟩ rfl hlen
    clear hrr
    have hc := hv.cell
    have HOn := hid hv
    gi_wp2_with (gi_at_builtin; refine wpListIn_append_own _ rfl _ _ 92 rfl w.heap.size 9 i0 (.string ⟨#[]⟩) 1 16 Tryz.underlying92 hi hz0 hz1 hz2 rfl (by decide) _ _ _ rfl (hrow.alloc _) ⟨W.heap.size, 0, none⟩ 1 1 [.string x] rfl rfl (cell_one_new _ _ _) (strC_one _) (by unfold maxLen; omega) (by omega) (by have := hB.size; simp; omega) ?_; intro v' w1 hown' hgrow _; obtain ⟨g', cap', rfl⟩ := ownsRow_succ hown'; obtain ⟨hv1, hv2, hr2, hk2, hb2⟩ := hv.appended (by decide) hrow hB.size (Nat.le_refl _) hown' hgrow; have hc1 := hv1.cell; have hf1 := hv1.frozen)
    exact ⟨hk2.from _, walksC hk2, ⟨_, hv2, by rw [List.length_append, flatP_snoc]; exact hr2, by simp; omega⟩, hB.trans hb2⟩
  case done =>
    rintro D ys W hD hys ⟨⟨v, hv, hrow, hpl⟩, hB⟩ hK
    have hc := hv.cell
    have HY := hid hys
    clear hys
    gi_wp2
    refine ⟨by simp, .inl ⟨_, _, rfl, run_takeDeferred hK, ?_⟩⟩
    exact ⟨_, results_tmp rfl _ _ _, v, ys, rfl, ownsRow_putObj hrow _ hK rfl, HY.out, hpl, hB.trans (belowK_b (w := w) (Nat.le_refl _) W D _ _ (by simp at hD; omega) hK rfl rfl)⟩
  case stop =>
    rintro D c pre W _ _ h _
    exact h.elim
theorem ccollect_any (m nn : Nat) (cs : CnL) (g : Nat) (w : World) (hg : g < w.heap.size) (hc : w.cell? ⟨g, 0, none⟩ = some (.map (some m))) (h : CsM w m nn cs) (hl : ∀ c ∈ cs, OkK c.1) (hnn : nn ≤ 1000000) :
    Calls Tryz.prog 73 #[.func (.func 80) #[] #[.pointer (some ⟨g, 0, none⟩)]] w (CKeysRow cs nn w) := by
  have HC := hid (cappendseq_any m nn cs g w hg hc h hl hnn)
  clear hc h hl
  go_enter Tryz.func73, Tryz.ntmps73
  go_wp2_with fail
  refine HC.out.mono ?_
  rintro e w1 ⟨v, ks, rfl, h1, h2, h3, h4⟩
  have H1 := hid h1
  have H2 := hid h2
  have H4 := hid h4
  clear h1 h2 h4
  go_wp2
  go_ret
  exact ⟨v, ks, rfl, H1.out, H2.out, h3, H4.out⟩
end Go.Proofs.YtgjbhlianlbflaaGreat
namespace Go.Proofs.YtgjbhlianlbflaaGreat
open Go.ChangeShapes Go.WideShapes Go.ChangeAt Go.RowKit Go.Maps Go.WideMaps Go.Shelf Go.Sort
set_option linter.unusedVariables false
set_option linter.unusedSimpArgs false
abbrev PtR : Type := { p : ByteArray // right (L p) = true }
def cmpP (x y : PtR) : Int := cmpOf (L x.1) (L y.1)
theorem lt_cmpP (x y : PtR) : ltOf cmpP x y = decide (cmpOf (L x.1) (L y.1) < 0) := rfl
theorem cmpOf_irr (p : List UInt8) : ¬ cmpOf p p < 0 := by rw [(cmpOf_same _ _).2 rfl]; omega
theorem cmpOf_tot {p q : ByteArray} (h : p ≠ q) : cmpOf (L p) (L q) < 0 ∨ cmpOf (L q) (L p) < 0 := by
  rcases cmpOf_three (L p) (L q) with h1 | h1 | h1
  · exact .inl (by omega)
  · have := (cmpOf_same _ _).1 h1
    rw [L_inj] at this
    exact absurd this h
  · exact .inr (by have := cmpOf_swap (L p) (L q); omega)
theorem swoP : SWO (ltOf cmpP) where
  irrefl x := by rw [lt_cmpP]; exact decide_eq_false (cmpOf_irr _)
  trans x y z h1 h2 := by
    rw [lt_cmpP, decide_eq_true_eq] at *
    exact ltp_trans x.2 y.2 z.2 h1 h2
  ntrans x y z h1 h2 := by
    rw [lt_cmpP, decide_eq_false_iff_not] at *
    intro h3
    by_cases e : x.1 = y.1
    · exact h2 (by rw [← e]; exact h3)
    · rcases cmpOf_tot e with h4 | h4
      · exact h1 h4
      · exact h2 (ltp_trans y.2 x.2 z.2 h4 h3)
def RisesP (l : List ByteArray) : Prop := l.Pairwise fun a b => cmpOf (L a) (L b) < 0
instance : Inhabited PtR := ⟨⟨⟨#[97]⟩, by kernel_rfl⟩⟩
def encP (x : PtR) : Value := .string x.1
theorem risesP_of_sorted {es : List PtR} (hn : (es.map (·.1)).Nodup) {d : Array PtR} (h1 : PermIn 0 es.toArray.size es.toArray d) (h2 : SortedIn (ltOf cmpP) 0 es.toArray.size d) : RisesP (d.toList.map (·.1)) ∧ (d.toList.map (·.1)).Perm (es.map (·.1)) := by
  obtain ⟨hs, _, hp⟩ := h1
  have hs' : d.size = es.length := by simpa using hs
  have hp2 : d.toList.Perm es := by
    have e1 : (d.extract 0 es.toArray.size).toList = d.toList := by simp [← hs']
    have e2 : (es.toArray.extract 0 es.toArray.size).toList = es := by simp
    rw [e1, e2] at hp
    exact hp
  have hp3 := hp2.map (fun x : PtR => x.1)
  have hap : (d.toList.map (·.1)).Nodup := hp3.nodup_iff.2 hn
  refine ⟨?_, hp3⟩
  unfold RisesP
  rw [List.pairwise_iff_getElem]
  intro i j hi hj hij
  simp only [List.length_map] at hi hj
  have h3 := h2 i j (Nat.zero_le _) hij (by simpa [hs'] using hj)
  have ei : d[i]! = d.toList[i] := by simp at hi; rw [getElem!_pos d i hi]; rfl
  have ej : d[j]! = d.toList[j] := by simp at hj; rw [getElem!_pos d j hj]; rfl
  rw [ei, ej, lt_cmpP, decide_eq_false_iff_not] at h3
  have h4 : (d.toList.map (·.1))[i]'(by simpa using hi) ≠ (d.toList.map (·.1))[j]'(by simpa using hj) := (List.pairwise_iff_getElem.1 hap) i j (by simpa using hi) (by simpa using hj) hij
  simp only [List.getElem_map] at h4 ⊢
  rcases cmpOf_tot h4 with h5 | h5
  · exact h5
  · exact absurd h5 h3
theorem compareP_lays (a b : ByteArray) (w : World) (ha : right (L a) = true) (hb : right (L b) = true) :
    Calls Tryz.prog 22 #[.string a, .string b] w fun e w' => e = .returned (.int .i64 (cmpOf (L a) (L b))) ∧ ∃ q os', w' = grow (w.drewN q) os' :=
  (Drawn.calls_up (R := fun w' => Below w.heap.size w w') (compare_any a b w (by have := size_right ha; omega) (by have := size_right hb; omega))).mono fun e w' ⟨he, hb, hd⟩ => ⟨he, below_grow hb hd⟩
def SeesP (w : World) (A : Option Addr) (l : List ByteArray) : Prop := ∀ (j : Nat) (y : ByteArray), l[j]? = some y → ∃ b o, A = some ⟨b, o, none⟩ ∧ b < w.heap.size ∧ w.cell? ⟨b, o + j, none⟩ = some (.string y)
theorem SeesP.nil (w : World) (A : Option Addr) : SeesP w A [] := fun j x h => by simp at h
theorem SeesP.below {w w' : World} {A : Option Addr} {l : List ByteArray} (h : SeesP w A l) (hb : Below w.heap.size w w') : SeesP w' A l := fun j x hj => by
  obtain ⟨b, o, h1, h2, h3⟩ := h j x hj
  exact ⟨b, o, h1, Nat.lt_of_lt_of_le h2 hb.size, (hb.cell (p := ⟨b, o + j, none⟩) h2).trans h3⟩
set_option maxRecDepth 100000 in
set_option maxHeartbeats 2000000 in
theorem paths_sorted {w : World} {base g N : Nat} {ks : List ByteArray} (hr : ∀ e ∈ ks, right (L e) = true) (hn : ks.Nodup) (hR : w.ownsRow base 9 1 (.slice (some ⟨g, 0, none⟩) ks.length N) ks.length (flatP ks)) (hlen : ks.length < 10000000) :
    Calls Tryz.prog 79 #[.slice (some ⟨g, 0, none⟩) ks.length N, .func (.func 22) #[] #[]] w fun e w' => e = .returned (.tuple #[]) ∧ ∃ ds : List ByteArray, RisesP ds ∧ ds.Perm ks ∧
      SeesP w' (some ⟨g, 0, none⟩) ds ∧ Below base w w' ∧ ∃ cs, Blk w' g 9 cs := by
  obtain ⟨ks', hks⟩ : ∃ ks' : List PtR, ks'.map (·.1) = ks := ⟨ks.attachWith _ hr, List.attachWith_map_subtype_val _⟩
  subst hks
  rw [List.length_map] at *
  have hg : g < w.heap.size := (hR.lt g rfl).2
  have hbg : base ≤ g := (hR.lt g rfl).1
  have eg : ∀ args w, (callFunc 22 args).run Tryz.prog w = .ok (.enter 22 args) w := enters_of Tryz.func22 (by kernel_rfl) rfl
  have hH : Go.Sort.Holds encP w g 0 ks'.toArray := fun j hj => by
    have hj' : j < ks'.length := by simpa using hj
    rw [Nat.zero_add]
    refine ⟨?_, hR.frozenAt j⟩
    rw [hR.cellAt j (by simpa using hj')]
    unfold flatP
    rw [List.map_map, List.getElem?_map, List.getElem?_eq_getElem hj']
    simp [encP, List.getElem?_eq_getElem hj']
  have hcmp : CmpLays1 Tryz.prog 22 #[] encP cmpP g 0 ks'.toArray.size w := fun m os dk _ x y => compareP_lays x.1 y.1 _ x.2 y.2
  have hcon := Any.slices_SortFunc Tryz.sortS encP (fun _ => rfl) cmpP swoP 22 #[] g 0 N ks'.toArray w eg hcmp hH hg (by simp; omega)
  have hcon2 : Calls Tryz.prog 79 #[.slice (some ⟨g, 0, none⟩) ks'.length N, .func (.func 22) #[] #[]] w _ := hcon
  refine hcon2.mono fun e w' ⟨he, d, n, os, h1, h2, hw⟩ => ⟨he, d.toList.map (·.1), (risesP_of_sorted hn h1 h2).1, (risesP_of_sorted hn h1 h2).2, ?_, ?_, ?_⟩
  · intro j y hy
    have hs : d.size = ks'.toArray.size := h1.1
    have hlt : g < w'.heap.size := by
      rw [hw]
      show g < (grow (putRow _ _ _ _ _) os).heap.size
      simp [grow]
      have : (Sort.ahead w n).heap.size = w.heap.size := rfl
      omega
    refine ⟨g, 0, rfl, hlt, ?_⟩
    have hj : j < d.size := by
      have := (List.getElem?_eq_some_iff.1 hy).1
      simpa using this
    have hH2 : Go.Sort.Holds encP w' g 0 d := by rw [hw]; exact holds_sortWorld encP w g 0 n ks'.toArray d os hg hH hs
    have h3 := (hH2 j hj).1
    rw [h3]
    rw [List.getElem?_map, List.getElem?_eq_getElem (by simpa using hj)] at hy
    injection hy with hy
    rw [← hy, getElem!_pos d j hj]
    rfl
  · rw [hw]
    exact lkbelow_growL (Lib.below_putRow (Below.refl base w) hbg) (by show base ≤ (putRow _ _ _ _ _).heap.size; rw [Sort.size_putRow]; exact Nat.le_trans hbg (Nat.le_of_lt hg)) os
  · rw [hw]
    rcases hR.2 with ⟨e1, _⟩ | ⟨g', cap', cur, e1, _, hbk, _⟩
    · cases e1
    · injection e1 with e1
      injection e1 with e1
      injection e1 with e1
      subst e1
      have hbk' : Blk w g 9 cur := hbk
      exact ⟨_, (blk_mapped (show Blk (Sort.ahead w n) g 9 cur from hbk') _).growL os⟩
def PathsOut (cs : CnL) (w : World) (e : Ending) (w' : World) : Prop :=
  ∃ A c ds, e = .returned (.slice A (ds.length : Nat) c) ∧ RisesP ds ∧ ds.Perm (cs.map (·.1)) ∧ SeesP w' A ds ∧ (∀ b o, A = some ⟨b, o, none⟩ → ∃ xs, Blk w' b 9 xs) ∧ Below w.heap.size w w'
theorem allC_perm {cs : CnL} (hd : cs.Pairwise fun a b => ¬ a.1 = b.1) {ks : List ByteArray} (h : AllC cs ks) : ks.Perm (cs.map (·.1)) := by
  have hn : (cs.map (·.1)).Nodup := by
    unfold List.Nodup
    rw [List.pairwise_map]
    exact hd
  refine (List.perm_ext_iff_of_nodup h.1 hn).2 fun p => ?_
  rw [h.2 p, hasC_iff]
  simp
set_option maxRecDepth 100000 in
set_option maxHeartbeats 1000000 in
theorem csorted_any (m nn : Nat) (cs : CnL) (g : Nat) (w : World) (hg : g < w.heap.size) (hc : w.cell? ⟨g, 0, none⟩ = some (.map (some m))) (h : CsM w m nn cs) (hl : ∀ c ∈ cs, right (L c.1) = true) (hd : cs.Pairwise fun a b => ¬ a.1 = b.1) (hnn : nn ≤ 1000000) :
    Calls Tryz.prog 49 #[.func (.func 80) #[] #[.pointer (some ⟨g, 0, none⟩)], .func (.func 22) #[] #[]] w (PathsOut cs w) := by
  have HC := hid (ccollect_any m nn cs g w hg hc h (fun c hc => by have := size_right (hl c hc); unfold OkK; omega) hnn)
  have HNone := hid (fun fv w => AnyF.slices_SortFunc_none (P := Tryz.prog) (ρ := Tryz.sortS_ren) { Tryz.sortS with } none 0 fv w)
  have HD := hid hd
  have HL := hid hl
  clear hc h hl hd
  go_enter Tryz.func49, Tryz.ntmps49
  go_wp2_with fail
  refine HC.out.mono ?_
  rintro e w1 ⟨v, ks, rfl, hR, h2, h3, h4⟩
  have H2 := hid h2
  have H4 := hid h4
  have HR := hid hR
  have HPm := hid (allC_perm HD.out h2)
  rcases hR.2 with ⟨e1, e2⟩ | ⟨g', cap', cur, e1, _⟩
  · subst e1
    have hks : ks = [] := List.eq_nil_of_length_eq_zero e2
    subst hks
    clear hR h2 h4
    go_wp2_with (go_at_call 79; refine (HNone.out _ _).mono ?_; rintro e w2 ⟨rfl, rfl⟩)
    go_ret
    exact ⟨none, 0, [], rfl, List.Pairwise.nil, HPm.out, SeesP.nil _ _, (fun b o h => by cases h), H4.out⟩
  · subst e1
    have HS := hid (paths_sorted (base := w.heap.size) (g := g') (N := cap') (fun e he => by obtain ⟨c, hc, rfl⟩ := List.mem_map.1 (HPm.out.mem_iff.1 he); exact HL.out c hc) H2.out.1 HR.out (by omega))
    obtain ⟨n, hn⟩ : ∃ n, ks.length = n := ⟨_, rfl⟩
    rw [hn] at HS
    rw [hn]
    have HN := hid hn
    clear hR h2 h4 hn
    go_wp2_with (go_at_call 79; refine HS.out.mono ?_; rintro e w2 ⟨rfl, ds, k1, k2, k3, k4, k5⟩; have K1 := hid k1; have K2 := hid k2; have K3 := hid k3; have K4 := hid k4; have K5 := hid k5; clear k1 k2 k3 k4 k5)
    go_ret
    have hln : ds.length = n := by rw [K2.out.length_eq]; exact HN.out
    subst hln
    exact ⟨_, _, ds, rfl, K1.out, K2.out.trans HPm.out, K3.out, (fun b o h => by injection h with h; injection h with h; subst h; exact K5.out), H4.out.trans K4.out⟩
end Go.Proofs.YtgjbhlianlbflaaGreat
