/-
  CrewSets, its first part: the law's call with a number that is no replica's.
-/
import Derived.Test.YtkkjjhljlcabaaaCAnchor
import Derived.Test.YtkkjjhljlcabaaaCRow
import Derived.Deep.RegionHeld3
import Derived.ProofKit
import Derived.OpenShut
namespace Go.Proofs.Ytkkjjhljlcabaaa.crewSets
open Go.ChangeShapes Go.WideShapes Go.ChangeAt Go.RowKit
set_option linter.unusedVariables false

def Yes (w : World) (e : Ending) (w' : World) : Prop := e = .returned (.bool true) ∧ Below w.heap.size w w'

/-- How many of the first j are in a set. -/
def upN (s j : Nat) : Nat := ((upto j).filter (hasB s)).length
theorem list_at : ∀ (s : Fin 256) (j : Fin 7), s.val.testBit j.val = true → (listN s.val)[upN s.val j.val]? = some (j.val : Int) ∧ upN s.val (j.val + 1) = upN s.val j.val + 1 := by decide +kernel
theorem list_not : ∀ (s : Fin 256) (j : Fin 7), s.val.testBit j.val = false → upN s.val (j.val + 1) = upN s.val j.val := by decide +kernel
theorem list_end (s : Nat) : upN s 7 = (listN s).length := rfl
theorem upN_le (s j : Nat) : upN s j ≤ j := by
  unfold upN
  exact Nat.le_trans (List.length_filter_le _ _) (by rw [upto_length]; exact Nat.le_refl _)

/-- Both, behind j of them. -/
def bothTo (s o j : Nat) : Nat → Bool := fun i => if i < j then (s.testBit i && o.testBit i) else s.testBit i
theorem both_none (s o : Nat) : rowOf (bothTo s o 0) = rowOf s.testBit := rowOf_congr fun i _ => by simp [bothTo]
theorem both_next (s o j : Nat) {x : Bool} (hx : x = (s.testBit j && o.testBit j)) : (rowOf (bothTo s o j)).setIfInBounds j (.bool x) = rowOf (bothTo s o (j + 1)) := by
  subst hx
  rw [rowOf_set]
  refine rowOf_congr fun i _ => ?_
  unfold bothTo
  by_cases h : i = j
  · subst h; rw [if_pos rfl, if_pos (by omega)]
  · rw [if_neg h]
    by_cases h2 : i < j
    · rw [if_pos h2, if_pos (by omega)]
    · rw [if_neg h2, if_neg (by omega)]
theorem both_all (s o j : Nat) (h : 7 ≤ j) : rowOf (bothTo s o j) = rowOf (meetN s o).testBit := rowOf_congr fun i hi => by
  unfold bothTo
  rw [if_pos (by omega), meet_bit, decide_eq_true hi, Bool.and_true]

/-- Where a number is no replica's. -/
theorem with_out {s : Nat} {r : Int} (hr : ¬ (0 ≤ r ∧ r < 7)) : withN s r = s := by unfold withN alone; rw [if_neg hr, Nat.or_zero]
theorem less_out {s : Nat} (hs : s < 256) {r : Int} (hr : ¬ (0 ≤ r ∧ r < 7)) : lessN s r = s := by
  unfold lessN alone; rw [if_neg hr, Nat.sub_zero, nat_mask8, Nat.mod_eq_of_lt hs]
theorem has_out {s : Nat} {r : Int} (hr : ¬ (0 ≤ r ∧ r < 7)) : hasB s r = false := by
  unfold hasB
  by_cases h : 0 ≤ r
  · rw [decide_eq_false (show ¬ r < 7 by omega), Bool.and_false, Bool.false_and]
  · rw [decide_eq_false h, Bool.false_and, Bool.false_and]
theorem with_row (s k : Nat) (hk : k < 7) : (rowOf s.testBit).setIfInBounds k (.bool true) = rowOf (withN s (k : Int)).testBit := by
  rw [rowOf_set]
  refine rowOf_congr fun i hi => ?_
  rw [with_bit]
  by_cases h : i = k
  · subst h; simp [hi]
  · rw [if_neg h, decide_eq_false (by omega), Bool.or_false]
theorem less_row (s k : Nat) (hk : k < 7) : (rowOf (withN s (k : Int)).testBit).setIfInBounds k (.bool false) = rowOf (lessN s (k : Int)).testBit := by
  rw [rowOf_set]
  refine rowOf_congr fun i hi => ?_
  rw [with_bit, less_bit _ _ (by omega)]
  by_cases h : i = k
  · subst h; simp [hi]
  · rw [if_neg h, decide_eq_false (by omega)]; simp

/-- Two arrays that are made, and written whole. -/
theorem two_rows {w0 : World} (w : World) (h0 : Below w0.heap.size w0 w) {zs : Array Value} (cs ds : Array Value) (hz : #[Value.bool false, .bool false, .bool false, .bool false, .bool false, .bool false, .bool false] = zs) :
    Hid (((w.alloc (.cells #[Value.bool false, .bool false, .bool false, .bool false, .bool false, .bool false, .bool false] 25)).alloc (.cells #[Value.bool false, .bool false, .bool false, .bool false, .bool false, .bool false, .bool false] 25)).heap[w.heap.size]? = some (.cells zs 25 (0, 0))) ∧
      Hid ((((w.alloc (.cells #[Value.bool false, .bool false, .bool false, .bool false, .bool false, .bool false, .bool false] 25)).alloc (.cells #[Value.bool false, .bool false, .bool false, .bool false, .bool false, .bool false, .bool false] 25)).setRow w.heap.size cs).heap[w.heap.size + 1]? = some (.cells zs 25 (0, 0))) ∧
      Hid (Blk ((((w.alloc (.cells #[Value.bool false, .bool false, .bool false, .bool false, .bool false, .bool false, .bool false] 25)).alloc (.cells #[Value.bool false, .bool false, .bool false, .bool false, .bool false, .bool false, .bool false] 25)).setRow w.heap.size cs).setRow (w.heap.size + 1) ds) w.heap.size 25 cs) ∧ Hid (Blk ((((w.alloc (.cells #[Value.bool false, .bool false, .bool false, .bool false, .bool false, .bool false, .bool false] 25)).alloc (.cells #[Value.bool false, .bool false, .bool false, .bool false, .bool false, .bool false, .bool false] 25)).setRow w.heap.size cs).setRow (w.heap.size + 1) ds) (w.heap.size + 1) 25 ds) ∧ Hid (Below w0.heap.size w0 ((((w.alloc (.cells #[Value.bool false, .bool false, .bool false, .bool false, .bool false, .bool false, .bool false] 25)).alloc (.cells #[Value.bool false, .bool false, .bool false, .bool false, .bool false, .bool false, .bool false] 25)).setRow w.heap.size cs).setRow (w.heap.size + 1) ds)) := by
  subst hz
  have h1 := (Blk.new w 25 #[Value.bool false, .bool false, .bool false, .bool false, .bool false, .bool false, .bool false]).alloc (.cells #[Value.bool false, .bool false, .bool false, .bool false, .bool false, .bool false, .bool false] 25)
  have h2 := blk_second w 25 #[Value.bool false, .bool false, .bool false, .bool false, .bool false, .bool false, .bool false] #[Value.bool false, .bool false, .bool false, .bool false, .bool false, .bool false, .bool false]
  have h3 := blk_setRow_far (g' := w.heap.size) (ds := cs) h2 (by omega)
  have hs := h0.size
  refine ⟨hid h1, hid h3, hid (blk_setRow_far (blk_stored h1) (by omega)), hid (blk_stored h3), hid ?_⟩
  exact below_setRow_ (below_setRow_ ((h0.alloc hs _).alloc (by simp; omega) _) hs) (by omega)

theorem seven_of {w : World} {g : Nat} {t : TypeId} {f : Nat → Bool} {cs : Array Value} (hc : rowOf f = cs) (h : Blk w g t cs) : Seven w g f := by
  subst hc
  exact h.seven

set_option maxRecDepth 100000 in
set_option maxHeartbeats 4000000 in
theorem walk_out (s o : Nat) (r : Int) (hs : s < 256) (ho : o < 256) (hr : r < 0 ∨ 7 ≤ r) (w : World) :
    Calls Try.prog 3 #[.int .u8 (s : Int), .int .u8 (o : Int), .int .i64 r] w (Yes w) := by
  have HR : Hid (hasB s r = false) := hid (has_out (by omega))
  have HW : Hid (withN s r = s) := hid (with_out (by omega))
  have HL : Hid (lessN s r = s) := hid (less_out hs (by omega))
  have HM := meet_lt s o
  obtain ⟨zs, hzs⟩ : ∃ zs : Array Value, #[Value.bool false, .bool false, .bool false, .bool false, .bool false, .bool false, .bool false] = zs := ⟨_, rfl⟩
  obtain ⟨cs, hcs⟩ : ∃ cs, rowOf s.testBit = cs := ⟨_, rfl⟩
  obtain ⟨ds, hds⟩ : ∃ ds, rowOf o.testBit = ds := ⟨_, rfl⟩
  have HZ := hid hzs
  have HC := hid hcs
  have HD := hid hds
  have H4 := hid (show (Try.prog.info? 25).map (·.size) = some cs.size by rw [← hcs, rowOf_size]; exact info_s)
  have H5 := hid (show cs.all (·.oneCell') = true by rw [← hcs]; exact rowOf_one _)
  have H6 := hid (show zs.size = cs.size by rw [← hcs, ← hzs, rowOf_size]; rfl)
  have G4 := hid (show (Try.prog.info? 25).map (·.size) = some ds.size by rw [← hds, rowOf_size]; exact info_s)
  have G5 := hid (show ds.all (·.oneCell') = true by rw [← hds]; exact rowOf_one _)
  have G6 := hid (show zs.size = ds.size by rw [← hds, ← hzs, rowOf_size]; rfl)
  clear hzs hcs hds
  rcases hr with hr | hr
  all_goals
    go_enter Try.func3, Try.ntmps3
    go_wp2_with fail
    refine (anchor_any _).mono ?_
    rintro e w1 ⟨rfl, hb1⟩
    go_wp2_with fail
    refine (refof_any _ _ hs).mono ?_
    rintro e w2 ⟨rfl, hb2⟩
    rw [HC.out]
    go_wp2_with fail
    refine (refof_any _ _ ho).mono ?_
    rintro e w3 ⟨rfl, hb3⟩
    rw [HD.out]
    have HB3 := hid (below_on (below_on hb1 hb2) hb3)
    clear hb1 hb2 hb3
    obtain ⟨N1, N2, K1, K2, L1⟩ := two_rows w3 HB3.out cs ds HZ.out
    obtain ⟨g, hg⟩ : ∃ g, w3.heap.size = g := ⟨_, rfl⟩
    rw [hg] at N1 N2 K1 K2 L1
    go_wp2_with (first
      | (with_reducible refine wpList_store_row (o := ⟨none, _, _, _, _, _⟩) rfl 25 (.tmp 7) (.tmp 19) rfl g cs rfl rfl 25 zs N1.out H4.out H6.out H5.out ?_)
      | ((with_reducible refine wpList_store_row (o := ⟨none, _, _, _, _, _⟩) rfl 25 (.tmp 8) (.tmp 21) rfl (g + 1) ds rfl rfl 25 zs N2.out G4.out G6.out G5.out ?_); generalize World.setRow _ (g + 1) ds = W at K1 K2 L1 ⊢; clear N1 N2))
    clear hg
    have Q1 := seven_of (f := tb s) HC.out K1.out
    have Q2 := seven_of (f := tb s) HC.out K1.out.drew
    go_region_held3 (fun w' => w'.cell? ⟨g, 0, none⟩ = some (.bool (tb s 0)) ∧ w'.cell? ⟨g, 1, none⟩ = some (.bool (tb s 1)) ∧ w'.cell? ⟨g, 2, none⟩ = some (.bool (tb s 2)) ∧ w'.cell? ⟨g, 3, none⟩ = some (.bool (tb s 3)) ∧ w'.cell? ⟨g, 4, none⟩ = some (.bool (tb s 4)) ∧ w'.cell? ⟨g, 5, none⟩ = some (.bool (tb s 5)) ∧ w'.cell? ⟨g, 6, none⟩ = some (.bool (tb s 6)))
      (first | (with_reducible exact Q1) | (with_reducible exact Q2) | exact Q1 | exact Q2 | exact seven_of (f := tb s) HC.out K6.out)
      (first
        | (go_at_call 8; (with_reducible refine (has_any _ _ _ hs).mono ?_); rintro e w' ⟨rfl, rfl⟩; rw [HR.out])
        | (go_at_call 9; (with_reducible refine (count_any _ _ hs).mono ?_); rintro e w' ⟨rfl, rfl⟩)
        | (go_at_call 10; (with_reducible refine (refcount_seven s _).mono ?_); rintro e w6 ⟨rfl, hb6⟩; have K6 := hid (K1.out.drew.below hb6 K1.out.lt)))
    have L6 := hid (below_on (below_drew L1.out) hb6)
    have K6b := hid (K2.out.drew.below hb6 K2.out.lt)
    rename_i hHeld
    clear hHeld Q1 Q2 K1 K2 L1 hb6
    go_wp2_with fail
    refine (list_any s _ hs).mono ?_
    rintro e w7 ⟨A, c, rfl, hv, hb7⟩
    obtain ⟨n, hn⟩ : ∃ n, (listN s).length = n := ⟨_, rfl⟩
    have hn7 : n ≤ 7 := by rw [← hn]; exact upN_le s 7
    rw [hn]
    have HN := hid hn
    have HV := hid hv
    have K7 := hid (K6.out.below hb7 K6.out.lt)
    have K7b := hid (K6b.out.below hb7 K6b.out.lt)
    have L7 := hid (below_on L6.out hb7)
    have N7 := hid (first_row w7 HZ.out)
    have M0 := hid (show w7.heap[g]? = some (.cells cs 25 (0, 0)) from K7.out)
    have K8 := hid (blk_stored (cs := cs) (Blk.new w7 25 zs))
    have L8 := hid (below_setRow_ (cs := cs) ((Below.refl w7.heap.size w7).alloc (Nat.le_refl _) (.cells zs 25)) (Nat.le_refl _))
    have hgh := K7.out.lt
    have hgh2 := K7b.out.lt
    obtain ⟨h, hh⟩ : ∃ h, w7.heap.size = h := ⟨_, rfl⟩
    have HH := hid hh
    rw [hh] at N7 K8 L8 hgh hgh2
    clear hv hb7 hn K6 K6b L6
    go_wp2_with (first
      | (with_reducible refine wpList_load_row (o := ⟨some 49, _, _, _, _, _⟩) rfl 25 (.tmp 7) rfl g rfl 25 cs (0, 0) _ M0.out Try.underlying25 rfl H4.out ?_)
      | ((with_reducible refine wpList_store_row (o := ⟨none, _, _, _, _, _⟩) rfl 25 (.tmp 12) (.tmp 49) rfl h cs rfl rfl 25 zs N7.out H4.out H6.out H5.out ?_); rw [HZ.out]; generalize (w7.alloc (.cells zs 25)).setRow h cs = W8 at K8 L8 ⊢))
    clear hh
    go_loopw [11, 50] (fun kv jv wr => ∃ j k : Nat, j ≤ 7 ∧ k ≤ 7 ∧ jv = .int .i64 j ∧ kv = .int .i64 k ∧ Hid (k = upN s j) ∧ Hid (Blk wr h 25 (rowOf (bothTo s o j))) ∧ Hid (Below h w7 wr)) (fun _ jv _ => 7 - (intOf jv).toNat)
    case atStart => exact ⟨0, 0, by omega, by omega, rfl, rfl, hid rfl, hid (by rw [both_none, HC.out]; exact K8.out), L8⟩
    case round =>
      obtain ⟨j, k, hj, hk, rfl, rfl, HK, HB, HL8⟩ := hrel
      have KX := hid (K7.out.below HL8.out hgh)
      have KY := hid (K7b.out.below HL8.out hgh2)
      have HVW := hid (show Vals wr A (ints (listN s)) from HV.out.below (by rw [HH.out]; exact HL8.out))
      by_cases hlt : j < 7
      · have cx : wr.cell? ⟨g, j, none⟩ = some (.bool (s.testBit j)) := by rw [KX.out.cell j, ← HC.out]; exact rowOf_get _ hlt
        have cy : wr.cell? ⟨g + 1, j, none⟩ = some (.bool (o.testBit j)) := by rw [KY.out.cell j, ← HD.out]; exact rowOf_get _ hlt
        have ch := (HB.out.cell j).trans (rowOf_get _ hlt)
        have hf := HB.out.frozen j
        generalize bothTo s o j j = old at ch
        have SN := hid (fun x hx => both_next s o j (x := x) hx)
        have LA := hid (list_at ⟨s, hs⟩ ⟨j, hlt⟩)
        have LN := hid (list_not ⟨s, hs⟩ ⟨j, hlt⟩)
        have hgh' : g ≠ h := by omega
        have hgh2' : g + 1 ≠ h := by omega
        cases hx : s.testBit j
        · rw [hx] at cx
          have HX := hid (show upN s (j + 1) = k by rw [HK.out]; exact LN.out hx)
          have HS := hid (SN.out false (by rw [hx]; rfl))
          clear hx
          have cx2 : (wr.setCell ⟨h, j, none⟩ (.bool false)).cell? ⟨g, j, none⟩ = some (.bool false) := (World.cell?_setCell_other wr _ _ _ (by simp <;> omega)).trans cx
          go_wp2
          go_roundw
          case rel =>
            refine ⟨j + 1, k, by omega, by omega, by go_num, rfl, hid HX.out.symm, hid ?_, hid (HL8.out.setCell (by simp) _)⟩
            have := HB.out.set_ j (.bool false)
            rwa [HS.out] at this
          case measure => simp only [intOf]; omega
        · rw [hx] at cx
          obtain ⟨hat, hnx⟩ := LA.out hx
          have hkk : upN s j = k := HK.out.symm
          simp only [] at hat hnx
          rw [hkk] at hat hnx
          have hkl : k < (listN s).length := (List.getElem?_eq_some_iff.1 hat).1
          have hkn : k < n := by rw [← HN.out]; exact hkl
          have hke : (listN s)[k] = (j : Int) := (List.getElem?_eq_some_iff.1 hat).2
          obtain ⟨b, off, rfl, hbl, hcl⟩ := ints_at HV.out hkl
          rw [hke] at hcl
          rw [HH.out] at hbl
          have HX := hid hnx
          obtain ⟨y, hy⟩ : ∃ y, o.testBit j = y := ⟨_, rfl⟩
          rw [hy] at cy
          have HS := hid (SN.out y (by rw [hx, hy]; rfl))
          have HL9 := hid (HL8.out.setCell (p := ⟨h, j, none⟩) (Nat.le_refl _) (.bool y))
          have cl2 : (wr.setCell ⟨h, j, none⟩ (.bool y)).cell? ⟨b, off + k, none⟩ = some (.int .i64 (j : Int)) := (HL9.out.cell (by exact hbl)).trans hcl
          have cx2 : (wr.setCell ⟨h, j, none⟩ (.bool y)).cell? ⟨g, j, none⟩ = some (.bool true) := (World.cell?_setCell_other wr _ _ _ (by simp <;> omega)).trans cx
          clear hx hat hnx hkk hke hcl hy
          go_wp2
          go_roundw
          case rel =>
            refine ⟨j + 1, k + 1, by omega, by omega, by go_num, by go_num, hid HX.out.symm, hid ?_, HL9⟩
            have := HB.out.set_ j (.bool y)
            rwa [HS.out] at this
          case measure => simp only [intOf]; omega
      · have hj7 : j = 7 := by omega
        have hkn : k = n := by rw [HK.out, hj7, ← HN.out]; rfl
        have KB := hid (show Blk wr h 25 (rowOf (meetN s o).testBit) by rw [← both_all s o j (by omega)]; exact HB.out)
        obtain rfl : k = n := hkn
        obtain ⟨m, hm⟩ : ∃ m, meetN s o = m := ⟨_, rfl⟩
        have HMM := hid hm
        rw [hm] at HM KB
        have L9 := hid (below_on L7.out (by rw [HH.out]; exact HL8.out))
        clear hj7 hm HB
        go_wp2
        have Q1 := seven_of (f := tb m) rfl KB.out
        have Q2 := seven_of (f := tb m) rfl KB.out.drew
        go_region_held3 (fun w' => w'.cell? ⟨h, 0, none⟩ = some (.bool (tb m 0)) ∧ w'.cell? ⟨h, 1, none⟩ = some (.bool (tb m 1)) ∧ w'.cell? ⟨h, 2, none⟩ = some (.bool (tb m 2)) ∧ w'.cell? ⟨h, 3, none⟩ = some (.bool (tb m 3)) ∧ w'.cell? ⟨h, 4, none⟩ = some (.bool (tb m 4)) ∧ w'.cell? ⟨h, 5, none⟩ = some (.bool (tb m 5)) ∧ w'.cell? ⟨h, 6, none⟩ = some (.bool (tb m 6)))
          (first | (with_reducible exact Q1) | (with_reducible exact Q2) | exact Q1 | exact Q2 | exact seven_of (f := tb m) rfl K10.out)
          (first
            | (go_at_call 12; (with_reducible refine (meet_any _ _ _ hs ho).mono ?_); rintro e w' ⟨rfl, rfl⟩; rw [HMM.out])
            | (go_at_call 13; (with_reducible refine (refbyte_seven m _ HM).mono ?_); rintro e w10 ⟨rfl, hb10⟩; have K10 := hid (KB.out.drew.below hb10 KB.out.lt)))
        have L10 := hid (below_on (below_drew L9.out) hb10)
        rename_i hHeld
        clear hHeld Q1 Q2 KB hb10 L9
        go_wp2_with (first
          | (go_at_call 14; (with_reducible refine (with_any _ _ _ hs).mono ?_); rintro e w' ⟨rfl, rfl⟩; rw [HW.out])
          | (go_at_call 15; (with_reducible refine (without_any _ _ _ hs).mono ?_); rintro e w' ⟨rfl, rfl⟩; rw [HL.out]))
        go_ret
        exact ⟨rfl, L10.out⟩

end Go.Proofs.Ytkkjjhljlcabaaa.crewSets
