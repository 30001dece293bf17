/-
  Contracts of slices.AppendSeq and Collect over a text's pieces, path.Parts and Depth.
-/
import Derived.Test.YtgjbhlianlbflaaGreatBPNorm
import Derived.RangeFuncBox
import Derived.Maps.AppendAt
namespace Go.Proofs.YtgjbhlianlbflaaGreat
open Go.ChangeShapes Go.WideShapes Go.ChangeAt Go.RowKit Go.Shelf
attribute [local go_sem] Oper.semAt_some
def Gets (l : List (List UInt8)) (w : World) (e : Ending) (w' : World) : Prop :=
  ∃ (v : Value) (ys : List ByteArray), e = .returned v ∧ Holds w' v ys ∧ ys.map L = l ∧ Below w.heap.size w w'
set_option maxRecDepth 100000 in
set_option maxHeartbeats 2000000 in
theorem appendseq_any (s : ByteArray) (g : Nat) (w : World) (hs : s.size ≤ 100000) (hg : g < w.heap.size) (hc : w.cell? ⟨g, 0, none⟩ = some (.string s)) :
    Calls Tryz.prog 98 #[.slice none 0 0, .func (.func 99) #[] #[.pointer (some ⟨g, 0, none⟩)]] w (Gets (pieces (L s)) w) := by
  obtain ⟨i0, hi, hz0, hz1, hz2⟩ := info_parts info_str
  refine (callsIn_wide (n := 9)).1 ?_
  refine callsIn_of_wp_marks Tryz.func98 rfl trivial ?_ rfl
  simp only [Tryz.ntmps98, List.size_toArray, List.length_cons, List.length_nil, Nat.reduceAdd, Nat.reduceSub, Array.replicate_succ, Array.replicate_zero, List.push_toArray, List.append_toArray, List.nil_append, List.cons_append]
  gi_wp2
  have bO := Boxed.new w 92 (.slice none 0 0)
  have hB0 : Below w.heap.size w (w.alloc (.cells #[.slice none 0 0] 92)) := (Below.refl _ w).alloc (Nat.le_refl _) _
  refine wpIn_rangeFunc_ownG rfl (by omega) (gf := 99) (lb := #[.pointer (some ⟨g, 0, none⟩)]) rfl trivial (enters_of Tryz.func99 (by kernel_rfl) rfl)
    (pieces_stops _ (by omega) s (by omega) g (w.alloc (.cells #[.slice none 0 0] 92)) (by simp; omega) ((hB0.cell (p := ⟨g, 0, none⟩) hg).trans hc)) (fun _ _ => trivial) (fun _ _ _ _ _ _ _ _ => trivial) (Below.refl _ _) (fun _ => rfl)
    (fun pre W => (∃ v, Boxed W w.heap.size 92 v ∧ W.ownsRow w.heap.size 9 1 v pre.length (strs pre) ∧ True) ∧ Below w.heap.size w W)
    (fun _ _ _ => False)
    (OwnFrom.and (Own.from (holdsRow_own w.heap.size w.heap.size 92 9 1 (fun pre => pre.length) (fun pre => strs pre) (fun _ _ => True)) _) (ownFrom_below (Nat.le_refl _) (by simp)))
    (fun _ _ _ _ _ hs _ _ => hs)
    ⟨⟨_, bO, World.ownsRow_nil _ _ _ _, trivial⟩, hB0⟩
    (fun x => { tmps := #[.slice none 0 0, .func (.func 99) #[] #[.pointer (some ⟨g, 0, none⟩)], .pointer (some ⟨w.heap.size, 0, none⟩), undef, .slice none 0 0, .string x, .func (.func 99) #[] #[.pointer (some ⟨g, 0, none⟩)], .string x, undef, undef, undef, undef, undef], defers := [] }) ?assign ?body ?done ?stop
  case assign =>
    intro l x W K hK
    gi_wp2
    exact hK
  case body =>
    rintro l pre x W ⟨⟨v, hv, hrow, _⟩, hB⟩ hlt
    have hc := hv.cell
    gi_wp2_with (gi_at_builtin; refine wpListIn_append_own _ rfl _ _ 92 rfl w.heap.size 9 i0 (.string ⟨#[]⟩) 1 16 Tryz.underlying92 hi hz0 hz1 hz2 rfl (by decide) _ _ _ rfl (hrow.alloc _) ⟨W.heap.size, 0, none⟩ 1 1 [.string x] rfl rfl (cell_one_new _ _ _) (by simp [Value.oneCell']) (by unfold maxLen; omega) (by omega) (by have := hB.size; simp; omega) ?_; intro v' w1 hown' hgrow _; obtain ⟨g', cap', rfl⟩ := ownsRow_succ hown'; obtain ⟨hv1, hv2, hr2, hk2, hb2⟩ := hv.appended (by decide) hrow hB.size (Nat.le_refl _) hown' hgrow; have hc1 := hv1.cell; have hf1 := hv1.frozen)
    exact ⟨hk2.from _, trivial, ⟨_, hv2, by rw [List.length_append, ← strs_append]; exact hr2, trivial⟩, hB.trans hb2⟩
  case done =>
    rintro D ys W hD hys ⟨⟨v, hv, hrow, _⟩, hB⟩ hK
    have hc := hv.cell
    have HY := hid hys
    clear hys
    gi_wp2
    refine ⟨by simp, .inl ⟨_, _, rfl, run_takeDeferred hK, ?_⟩⟩
    exact ⟨_, results_tmp rfl _ _ _, v, ys, rfl, holds_own (ownsRow_putObj hrow _ hK rfl), HY.out, hB.trans (belowK_b (w := w) (Nat.le_refl _) W D _ _ (by simp at hD; omega) hK rfl rfl)⟩
  case stop =>
    rintro D c pre W _ _ h _
    exact h.elim
theorem collect_any (s : ByteArray) (g : Nat) (w : World) (hs : s.size ≤ 100000) (hg : g < w.heap.size) (hc : w.cell? ⟨g, 0, none⟩ = some (.string s)) :
    Calls Tryz.prog 73 #[.func (.func 99) #[] #[.pointer (some ⟨g, 0, none⟩)]] w (Gets (pieces (L s)) w) := by
  have HC := hid hc
  clear hc
  go_enter Tryz.func73, Tryz.ntmps73
  go_wp2_with fail
  refine (appendseq_any s g _ hs hg HC.out).mono ?_
  rintro e w1 ⟨v, ys, rfl, hh, hy, hb⟩
  have HH := hid hh
  have HY := hid hy
  have HB := hid hb
  clear hh hy hb
  go_wp2
  go_ret
  exact ⟨v, ys, rfl, HH.out, HY.out, HB.out⟩
set_option maxRecDepth 100000 in
theorem parts_any (s : ByteArray) (w : World) (hs : s.size ≤ 100000) : Calls Tryz.prog 45 #[.string s] w (Gets (parts (L s)) w) := by
  cases h : right (L s) with
  | false =>
    have HP := hid (parts_wrong h)
    have HR := hid h
    clear h
    go_enter Tryz.func45, Tryz.ntmps45
    go_wp2_with fail
    refine (right_any s _ (by omega)).mono ?_
    rintro e w1 ⟨rfl, hb⟩
    rw [HR.out]
    have HB := hid hb
    clear hb
    go_wp2
    go_ret
    exact ⟨_, [], rfl, Holds.nil _, HP.out.symm, HB.out⟩
  | true =>
    have HP := hid (parts_right h)
    have HR := hid h
    clear h
    go_enter Tryz.func45, Tryz.ntmps45
    go_wp2_with fail
    refine (right_any s _ (by omega)).mono ?_
    rintro e w1 ⟨rfl, hb⟩
    rw [HR.out]
    have HB := hid hb
    clear hb
    go_wp2_with fail
    refine (pclone_any s _ (by omega)).mono ?_
    rintro e w2 ⟨rfl, hb⟩
    have HB2 := hid (below_on HB.out hb)
    clear hb
    go_wp2_with fail
    refine (pieces_any s _).mono ?_
    rintro e w3 ⟨rfl, rfl⟩
    have HB3 := hid (HB2.out.alloc HB2.out.size (.cells #[.string s] 9))
    have HN := hid ((Blk.new w2 9 #[.string s]).cell 0)
    have hlt : w2.heap.size < (w2.alloc (.cells #[.string s] 9)).heap.size := by simp
    have HLT := hid hlt
    clear hlt
    go_wp2_with fail
    refine (collect_any s w2.heap.size _ hs HLT.out HN.out).mono ?_
    rintro e w4 ⟨v, ys, rfl, hh, hy, hb⟩
    have HB4 := hid (below_on HB3.out hb)
    have HH := hid hh
    have HY := hid hy
    clear hh hy hb
    go_wp2
    go_ret
    exact ⟨v, ys, rfl, HH.out, HY.out.trans HP.out.symm, HB4.out⟩
end Go.Proofs.YtgjbhlianlbflaaGreat
