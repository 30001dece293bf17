/-
  CrewSets: for every two sets and every number the law's call returns true: what is in a set, how many, its list, what two have in common, with one more and one less, is the document's. No condition.
-/
import Derived.Test.YtkkjjhljlcabaaaCSets
namespace Go.Proofs.Ytkkjjhljlcabaaa.crewSets
open Go.ChangeShapes Go.WideShapes Go.ChangeAt Go.RowKit
set_option linter.unusedVariables false

theorem own : ownKnob Try.prog.godebug = none := by kernel_rfl
theorem laidOut : laidOutB Try.prog = true := by kernel_rfl

theorem cell_of_blk {w : World} {g s i : Nat} {t : TypeId} {q : Bool} {cs : Array Value} (hc : rowOf s.testBit = cs) (hq : s.testBit i = q) (hi : i < 7) (h : Blk w g t cs) : w.cell? ⟨g, i, none⟩ = some (.bool q) := by
  subst hc
  rw [h.cell i, rowOf_get _ hi, hq]
theorem stored_row {w : World} {g i : Nat} {t : TypeId} {f : Nat → Bool} {cs ca : Array Value} {x : Value} (he : (rowOf f).setIfInBounds i x = ca) (hc : rowOf f = cs) (h : Blk w g t cs) : Blk (w.setCell ⟨g, i, none⟩ x) g t ca := by
  subst hc; subst he
  exact h.set_ i x
theorem cell_of_set {w : World} {a : Addr} {u : Value} (h : w.cell? a = some u) (v : Value) : (w.setCell a v).cell? a = some v := World.cell?_setCell_same w a v h
theorem two_far {w : World} {g : Nat} {cs0 : Array Value} (h : Blk w g 25 cs0) (g1 g2 : Nat) (hg : g < w.heap.size) {zs : Array Value} (cs ds : Array Value) (hz : #[Value.bool false, .bool false, .bool false, .bool false, .bool false, .bool false, .bool false] = zs) (h1 : g1 = w.heap.size := by rfl) (h2 : g2 = w.heap.size + 1 := by rfl) :
    Hid (Blk ((((w.alloc (.cells #[Value.bool false, .bool false, .bool false, .bool false, .bool false, .bool false, .bool false] 25)).alloc (.cells #[Value.bool false, .bool false, .bool false, .bool false, .bool false, .bool false, .bool false] 25)).setRow g1 cs).setRow g2 ds) g 25 cs0) := by
  subst h1; subst h2
  exact hid (blk_setRow_far (blk_setRow_far ((h.alloc _).alloc _) (by omega)) (by omega))

set_option maxRecDepth 100000 in
set_option maxHeartbeats 4000000 in
theorem walk_with (s o i : Nat) (hs : s < 256) (ho : o < 256) (hi : i < 7) (w : World) :
    Calls Try.prog 3 #[.int .u8 (s : Int), .int .u8 (o : Int), .int .i64 (i : Int)] w (Yes w) := by
  have EA := hid (with_row s i hi)
  have EB := hid (less_row s i hi)
  have ha := with_lt hs (i : Int)
  have hb := less_lt hs (i : Int)
  obtain ⟨a, hea⟩ : ∃ a, withN s (i : Int) = a := ⟨_, rfl⟩
  obtain ⟨b, heb⟩ : ∃ b, lessN s (i : Int) = b := ⟨_, rfl⟩
  rw [hea] at EA EB ha
  rw [heb] at EB hb
  have HW := hid hea
  have HL := hid heb
  obtain ⟨ca, hca⟩ : ∃ ca, rowOf a.testBit = ca := ⟨_, rfl⟩
  obtain ⟨cb, hcb⟩ : ∃ cb, rowOf b.testBit = cb := ⟨_, rfl⟩
  rw [hca] at EA EB
  rw [hcb] at EB
  have hqa : ∀ w, (Op.equalIn 10000 25 (.agg ca) (.agg ca)).run Try.prog w = .ok true w := by rw [← hca]; exact row_equal _
  have hqb : ∀ w, (Op.equalIn 10000 25 (.agg cb) (.agg cb)).run Try.prog w = .ok true w := by rw [← hcb]; exact row_equal _
  have hqg : Try.prog.eqGuardType Try.prog.depth 25 = false := by kernel_rfl
  have HCA := hid hca
  have HCB := hid hcb
  obtain ⟨q, hq⟩ : ∃ q, s.testBit i = q := ⟨_, rfl⟩
  have HQ := hid hq
  have HR : Hid (hasB s (i : Int) = q) := hid ((hasB_nat s hi).trans hq)
  clear hq hea heb
  have HM := meet_lt s o
  obtain ⟨zs, hzs⟩ : ∃ zs : Array Value, #[Value.bool false, .bool false, .bool false, .bool false, .bool false, .bool false, .bool false] = zs := ⟨_, rfl⟩
  obtain ⟨cs, hcs⟩ : ∃ cs, rowOf s.testBit = cs := ⟨_, rfl⟩
  obtain ⟨ds, hds⟩ : ∃ ds, rowOf o.testBit = ds := ⟨_, rfl⟩
  have HZ := hid hzs
  have HC := hid hcs
  have HD := hid hds
  have H4 := hid (show (Try.prog.info? 25).map (·.size) = some cs.size by rw [← hcs, rowOf_size]; exact info_s)
  have H5 := hid (show cs.all (·.oneCell') = true by rw [← hcs]; exact rowOf_one _)
  have H6 := hid (show zs.size = cs.size by rw [← hcs, ← hzs, rowOf_size]; rfl)
  have G4 := hid (show (Try.prog.info? 25).map (·.size) = some ds.size by rw [← hds, rowOf_size]; exact info_s)
  have G5 := hid (show ds.all (·.oneCell') = true by rw [← hds]; exact rowOf_one _)
  have G6 := hid (show zs.size = ds.size by rw [← hds, ← hzs, rowOf_size]; rfl)
  have A4 := hid (show (Try.prog.info? 25).map (·.size) = some ca.size by rw [← hca, rowOf_size]; exact info_s)
  have A5 := hid (show ca.all (·.oneCell') = true by rw [← hca]; exact rowOf_one _)
  have A6 := hid (show zs.size = ca.size by rw [← hca, ← hzs, rowOf_size]; rfl)
  have B4 := hid (show (Try.prog.info? 25).map (·.size) = some cb.size by rw [← hcb, rowOf_size]; exact info_s)
  have B5 := hid (show cb.all (·.oneCell') = true by rw [← hcb]; exact rowOf_one _)
  have B6 := hid (show zs.size = cb.size by rw [← hcb, ← hzs, rowOf_size]; rfl)
  have QA := hid hqa
  have QB := hid hqb
  clear hzs hcs hds hca hcb hqa hqb
  have hmin : min (i : Int) 6 = (i : Int) := by omega
  have hmax : max (i : Int) 0 = (i : Int) := by omega
  cases q
  all_goals
    go_enter Try.func3, Try.ntmps3
    go_wp2_with fail
    refine (anchor_any _).mono ?_
    rintro e w1 ⟨rfl, hb1⟩
    go_wp2_with fail
    refine (refof_any _ _ hs).mono ?_
    rintro e w2 ⟨rfl, hb2⟩
    rw [HC.out]
    go_wp2_with fail
    refine (refof_any _ _ ho).mono ?_
    rintro e w3 ⟨rfl, hb3⟩
    rw [HD.out]
    have HB3 := hid (below_on (below_on hb1 hb2) hb3)
    clear hb1 hb2 hb3
    obtain ⟨N1, N2, K1, K2, L1⟩ := two_rows w3 HB3.out cs ds HZ.out
    obtain ⟨g, hg⟩ : ∃ g, w3.heap.size = g := ⟨_, rfl⟩
    have hgb := hid (show w.heap.size ≤ g by rw [← hg]; exact HB3.out.size)
    rw [hg] at N1 N2 K1 K2 L1
    go_wp2_with (first
      | (with_reducible refine wpList_store_row (o := ⟨none, _, _, _, _, _⟩) rfl 25 (.tmp 7) (.tmp 19) rfl g cs rfl rfl 25 zs N1.out H4.out H6.out H5.out ?_)
      | ((with_reducible refine wpList_store_row (o := ⟨none, _, _, _, _, _⟩) rfl 25 (.tmp 8) (.tmp 21) rfl (g + 1) ds rfl rfl 25 zs N2.out G4.out G6.out G5.out ?_); generalize World.setRow _ (g + 1) ds = W at K1 K2 L1 ⊢; have ci := cell_of_blk HC.out HQ.out hi K1.out; clear N1 N2))
    clear hg hmin hmax ci
    have Q1 := seven_of (f := tb s) HC.out K1.out
    have Q2 := seven_of (f := tb s) HC.out K1.out.drew
    go_region_held3 (fun w' => w'.cell? ⟨g, 0, none⟩ = some (.bool (tb s 0)) ∧ w'.cell? ⟨g, 1, none⟩ = some (.bool (tb s 1)) ∧ w'.cell? ⟨g, 2, none⟩ = some (.bool (tb s 2)) ∧ w'.cell? ⟨g, 3, none⟩ = some (.bool (tb s 3)) ∧ w'.cell? ⟨g, 4, none⟩ = some (.bool (tb s 4)) ∧ w'.cell? ⟨g, 5, none⟩ = some (.bool (tb s 5)) ∧ w'.cell? ⟨g, 6, none⟩ = some (.bool (tb s 6)))
      (first | (with_reducible exact Q1) | (with_reducible exact Q2) | exact Q1 | exact Q2 | exact seven_of (f := tb s) HC.out K6.out)
      (first
        | (go_at_call 8; (with_reducible refine (has_any _ _ _ hs).mono ?_); rintro e w' ⟨rfl, rfl⟩; rw [HR.out])
        | (go_at_call 9; (with_reducible refine (count_any _ _ hs).mono ?_); rintro e w' ⟨rfl, rfl⟩)
        | (go_at_call 10; (with_reducible refine (refcount_seven s _).mono ?_); rintro e w6 ⟨rfl, hb6⟩; have K6 := hid (K1.out.drew.below hb6 K1.out.lt)))
    have L6 := hid (below_on (below_drew L1.out) hb6)
    have K6b := hid (K2.out.drew.below hb6 K2.out.lt)
    rename_i hHeld
    clear hHeld Q1 Q2 K1 K2 L1 hb6
    go_wp2_with fail
    refine (list_any s _ hs).mono ?_
    rintro e w7 ⟨A, c, rfl, hv, hb7⟩
    obtain ⟨n, hn⟩ : ∃ n, (listN s).length = n := ⟨_, rfl⟩
    have hn7 : n ≤ 7 := by rw [← hn]; exact upN_le s 7
    rw [hn]
    have HN := hid hn
    have HV := hid hv
    have K7 := hid (K6.out.below hb7 K6.out.lt)
    have K7b := hid (K6b.out.below hb7 K6b.out.lt)
    have L7 := hid (below_on L6.out hb7)
    have N7 := hid (first_row w7 HZ.out)
    have M0 := hid (show w7.heap[g]? = some (.cells cs 25 (0, 0)) from K7.out)
    have K8 := hid (blk_stored (cs := cs) (Blk.new w7 25 zs))
    have L8 := hid (below_setRow_ (cs := cs) ((Below.refl w7.heap.size w7).alloc (Nat.le_refl _) (.cells zs 25)) (Nat.le_refl _))
    have hgh := K7.out.lt
    have hgh2 := K7b.out.lt
    obtain ⟨h, hh⟩ : ∃ h, w7.heap.size = h := ⟨_, rfl⟩
    have HH := hid hh
    rw [hh] at N7 K8 L8 hgh hgh2
    clear hv hb7 hn K6 K6b L6
    go_wp2_with (first
      | (with_reducible refine wpList_load_row (o := ⟨some 49, _, _, _, _, _⟩) rfl 25 (.tmp 7) rfl g rfl 25 cs (0, 0) _ M0.out Try.underlying25 rfl H4.out ?_)
      | ((with_reducible refine wpList_store_row (o := ⟨none, _, _, _, _, _⟩) rfl 25 (.tmp 12) (.tmp 49) rfl h cs rfl rfl 25 zs N7.out H4.out H6.out H5.out ?_); rw [HZ.out]; generalize (w7.alloc (.cells zs 25)).setRow h cs = W8 at K8 L8 ⊢))
    clear hh
    go_loopw [11, 50] (fun kv jv wr => ∃ j k : Nat, j ≤ 7 ∧ k ≤ 7 ∧ jv = .int .i64 j ∧ kv = .int .i64 k ∧ Hid (k = upN s j) ∧ Hid (Blk wr h 25 (rowOf (bothTo s o j))) ∧ Hid (Below h w7 wr)) (fun _ jv _ => 7 - (intOf jv).toNat)
    case atStart => exact ⟨0, 0, by omega, by omega, rfl, rfl, hid rfl, hid (by rw [both_none, HC.out]; exact K8.out), L8⟩
    case round =>
      obtain ⟨j, k, hj, hk, rfl, rfl, HK, HB, HL8⟩ := hrel
      have KX := hid (K7.out.below HL8.out hgh)
      have KY := hid (K7b.out.below HL8.out hgh2)
      have HVW := hid (show Vals wr A (ints (listN s)) from HV.out.below (by rw [HH.out]; exact HL8.out))
      by_cases hlt : j < 7
      · have cx : wr.cell? ⟨g, j, none⟩ = some (.bool (s.testBit j)) := by rw [KX.out.cell j, ← HC.out]; exact rowOf_get _ hlt
        have cy : wr.cell? ⟨g + 1, j, none⟩ = some (.bool (o.testBit j)) := by rw [KY.out.cell j, ← HD.out]; exact rowOf_get _ hlt
        have ch := (HB.out.cell j).trans (rowOf_get _ hlt)
        have hf := HB.out.frozen j
        generalize bothTo s o j j = old at ch
        have SN := hid (fun x hx => both_next s o j (x := x) hx)
        have LA := hid (list_at ⟨s, hs⟩ ⟨j, hlt⟩)
        have LN := hid (list_not ⟨s, hs⟩ ⟨j, hlt⟩)
        have hgh' : g ≠ h := by omega
        have hgh2' : g + 1 ≠ h := by omega
        cases hx : s.testBit j
        · rw [hx] at cx
          have HX := hid (show upN s (j + 1) = k by rw [HK.out]; exact LN.out hx)
          have HS := hid (SN.out false (by rw [hx]; rfl))
          clear hx
          have cx2 : (wr.setCell ⟨h, j, none⟩ (.bool false)).cell? ⟨g, j, none⟩ = some (.bool false) := (World.cell?_setCell_other wr _ _ _ (by simp <;> omega)).trans cx
          go_wp2
          go_roundw
          case rel =>
            refine ⟨j + 1, k, by omega, by omega, by go_num, rfl, hid HX.out.symm, hid ?_, hid (HL8.out.setCell (by simp) _)⟩
            have := HB.out.set_ j (.bool false)
            rwa [HS.out] at this
          case measure => simp only [intOf]; omega
        · rw [hx] at cx
          obtain ⟨hat, hnx⟩ := LA.out hx
          have hkk : upN s j = k := HK.out.symm
          simp only [] at hat hnx
          rw [hkk] at hat hnx
          have hkl : k < (listN s).length := (List.getElem?_eq_some_iff.1 hat).1
          have hkn : k < n := by rw [← HN.out]; exact hkl
          have hke : (listN s)[k] = (j : Int) := (List.getElem?_eq_some_iff.1 hat).2
          obtain ⟨b, off, rfl, hbl, hcl⟩ := ints_at HV.out hkl
          rw [hke] at hcl
          rw [HH.out] at hbl
          have HX := hid hnx
          obtain ⟨y, hy⟩ : ∃ y, o.testBit j = y := ⟨_, rfl⟩
          rw [hy] at cy
          have HS := hid (SN.out y (by rw [hx, hy]; rfl))
          have HL9 := hid (HL8.out.setCell (p := ⟨h, j, none⟩) (Nat.le_refl _) (.bool y))
          have cl2 : (wr.setCell ⟨h, j, none⟩ (.bool y)).cell? ⟨b, off + k, none⟩ = some (.int .i64 (j : Int)) := (HL9.out.cell (by exact hbl)).trans hcl
          have cx2 : (wr.setCell ⟨h, j, none⟩ (.bool y)).cell? ⟨g, j, none⟩ = some (.bool true) := (World.cell?_setCell_other wr _ _ _ (by simp <;> omega)).trans cx
          clear hx hat hnx hkk hke hcl hy
          go_wp2
          go_roundw
          case rel =>
            refine ⟨j + 1, k + 1, by omega, by omega, by go_num, by go_num, hid HX.out.symm, hid ?_, HL9⟩
            have := HB.out.set_ j (.bool y)
            rwa [HS.out] at this
          case measure => simp only [intOf]; omega
      · have hj7 : j = 7 := by omega
        have hkn : k = n := by rw [HK.out, hj7, ← HN.out]; rfl
        have KB := hid (show Blk wr h 25 (rowOf (meetN s o).testBit) by rw [← both_all s o j (by omega)]; exact HB.out)
        obtain rfl : k = n := hkn
        obtain ⟨m, hm⟩ : ∃ m, meetN s o = m := ⟨_, rfl⟩
        have HMM := hid hm
        rw [hm] at HM KB
        have L9 := hid (below_on L7.out (by rw [HH.out]; exact HL8.out))
        clear hj7 hm HB
        go_wp2
        have Q1 := seven_of (f := tb m) rfl KB.out
        have Q2 := seven_of (f := tb m) rfl KB.out.drew
        go_region_held3 (fun w' => w'.cell? ⟨h, 0, none⟩ = some (.bool (tb m 0)) ∧ w'.cell? ⟨h, 1, none⟩ = some (.bool (tb m 1)) ∧ w'.cell? ⟨h, 2, none⟩ = some (.bool (tb m 2)) ∧ w'.cell? ⟨h, 3, none⟩ = some (.bool (tb m 3)) ∧ w'.cell? ⟨h, 4, none⟩ = some (.bool (tb m 4)) ∧ w'.cell? ⟨h, 5, none⟩ = some (.bool (tb m 5)) ∧ w'.cell? ⟨h, 6, none⟩ = some (.bool (tb m 6)))
          (first | (with_reducible exact Q1) | (with_reducible exact Q2) | exact Q1 | exact Q2 | exact seven_of (f := tb m) rfl K10.out)
          (first
            | (go_at_call 12; (with_reducible refine (meet_any _ _ _ hs ho).mono ?_); rintro e w' ⟨rfl, rfl⟩; rw [HMM.out])
            | (go_at_call 13; (with_reducible refine (refbyte_seven m _ HM).mono ?_); rintro e w10 ⟨rfl, hb10⟩; have K10 := hid (KB.out.drew.below hb10 KB.out.lt)))
        have L10 := hid (below_on (below_drew L9.out) hb10)
        rename_i hHeld
        have K11 := hid (KX.out.drew.below hb10 KX.out.lt)
        clear hHeld Q1 Q2 KB hb10 L9 K10
        go_wp2_with ((go_at_call 14; (with_reducible refine (with_any _ _ _ hs).mono ?_); rintro e w' ⟨rfl, rfl⟩; rw [HW.out]))
        refine (refof_any _ _ ha).mono ?_
        rintro e w11 ⟨rfl, hb11⟩
        rw [HCA.out]
        go_wp2_with ((go_at_call 15; (with_reducible refine (without_any _ _ _ hs).mono ?_); rintro e w' ⟨rfl, rfl⟩; rw [HL.out]))
        refine (refof_any _ _ hb).mono ?_
        rintro e w12 ⟨rfl, hb12⟩
        rw [HCB.out]
        have L12 := hid (below_on (below_on L10.out hb11) hb12)
        have K12 := hid ((K11.out.below hb11 K11.out.lt).below hb12 (Nat.lt_of_lt_of_le K11.out.lt hb11.size))
        clear hb11 hb12 L10 K11
        obtain ⟨N1, N2, KA, KC, LA⟩ := two_rows w12 L12.out ca cb HZ.out
        have KG := two_far K12.out w12.heap.size (w12.heap.size + 1) K12.out.lt ca cb HZ.out
        obtain ⟨g3, hg3⟩ : ∃ g3, w12.heap.size = g3 := ⟨_, rfl⟩
        have hgw := K12.out.lt
        rw [hg3] at N1 N2 KA KC LA KG hgw
        go_wp2_with (first
          | (with_reducible refine wpList_store_row (o := ⟨none, _, _, _, _, _⟩) rfl 25 (.tmp 14) (.tmp 114) rfl g3 ca rfl rfl 25 zs N1.out A4.out A6.out A5.out ?_)
          | ((with_reducible refine wpList_store_row (o := ⟨none, _, _, _, _, _⟩) rfl 25 (.tmp 15) (.tmp 118) rfl (g3 + 1) cb rfl rfl 25 zs N2.out B4.out B6.out B5.out ?_); generalize World.setRow _ (g3 + 1) cb = X at KA KC LA KG ⊢; clear N1 N2; clear hg3; have ci := cell_of_blk HC.out HQ.out hi KG.out; have fi := KG.out.frozen i; have PA := hid (stored_row EA.out HC.out KG.out); have PB := hid (KA.out.far (p := ⟨g, i, none⟩) (by simp; omega) (.bool true)); have PC := hid (KC.out.far (p := ⟨g, i, none⟩) (by simp; omega) (.bool true)); have RA := hid (PA.out.set_ i (.bool false)); rw [EB.out] at RA; have RC := hid (PC.out.far (p := ⟨g, i, none⟩) (by simp; omega) (.bool false)); have ci2 := cell_of_set ci (.bool true); have hqa := QA.out; have hqb := QB.out; have LX := hid ((LA.out.setCell (p := ⟨g, i, none⟩) hgb.out (.bool true)).setCell (p := ⟨g, i, none⟩) hgb.out (.bool false)))
          | (with_reducible refine wpList_load_row (o := ⟨some 121, _, _, _, _, _⟩) rfl 25 (.tmp 14) rfl g3 rfl 25 ca (0, 0) _ PB.out.heap Try.underlying25 rfl A4.out ?_)
          | (with_reducible refine wpList_load_row (o := ⟨some 122, _, _, _, _, _⟩) rfl 25 (.tmp 7) rfl g rfl 25 ca (0, 0) _ PA.out.heap Try.underlying25 rfl A4.out ?_)
          | (with_reducible refine wpList_load_row (o := ⟨some 126, _, _, _, _, _⟩) rfl 25 (.tmp 15) rfl (g3 + 1) rfl 25 cb (0, 0) _ RC.out.heap Try.underlying25 rfl B4.out ?_)
          | (with_reducible refine wpList_load_row (o := ⟨some 127, _, _, _, _, _⟩) rfl 25 (.tmp 7) rfl g rfl 25 cb (0, 0) _ RA.out.heap Try.underlying25 rfl B4.out ?_))
        go_ret
        exact ⟨rfl, LX.out⟩

/-- The Go text returns true. -/
theorem walk (s o r : Int) (ws : (Lit.int .u8 s).wf = true) (wo : (Lit.int .u8 o).wf = true) (wr : (Lit.int .i64 r).wf = true) (w : World) :
    Calls Try.prog 3 #[.int .u8 s, .int .u8 o, .int .i64 r] w (Yes w) := by
  have hs := u8_lt s ws
  have ho := u8_lt o wo
  obtain ⟨s, rfl⟩ := Int.eq_ofNat_of_zero_le (u8_pos s ws)
  obtain ⟨o, rfl⟩ := Int.eq_ofNat_of_zero_le (u8_pos o wo)
  by_cases hr : 0 ≤ r ∧ r < 7
  · obtain ⟨i, rfl⟩ := Int.eq_ofNat_of_zero_le hr.1
    exact walk_with s o i (by omega) (by omega) (by omega) w
  · exact walk_out s o r (by omega) (by omega) (by omega) w

set_option maxRecDepth 100000 in
theorem lifted (os : Os) (started : os.Started) (H : Type) (enc : TypeId × Value → H) :
    ReturnsInHanded {} Try.checked os 3 .any (Rows.crewSetsSpec.pre6 enc Try.prog Try.f3 Rows.crewSetsRow.domain false) (Rows.crewSetsSpec.post enc Try.prog Try.f3 false true false false) := by
  refine returnsInHanded_of_change (C := Try.checked) own started (by kernel_rfl) Try.func3
    (ChangeSpec.witness6 (enc := enc) (C := Try.checked) false ⟨#[], #[.int .u8 0, .int .u8 0, .int .i64 0], []⟩ 8 (by kernel_rfl) (by kernel_rfl) (by kernel_rfl) (by kernel_rfl)) ?_
  intro W base args ds gs before hval0 hW _ _
  have hval : ∀ (j : Nat) t v, Try.f3.params[j]? = some t → args[j]? = some v → Value.okWide Try.prog W .any base t v := hval0
  have hW' := hW
  obtain ⟨p, q, hA0, hV, rfl, _, _⟩ := hW
  have hA : DataW.TrodAll enc Try.prog W 0 (fun _ => true) true Try.f3.params.toList args.toList ds p := hA0
  rw [Try.params3] at hA hval
  have hlt : ∀ x ∈ p, x.block < W.heap.size := fun x hx => by simpa using hW'.lt x (List.mem_append_left _ hx)
  obtain ⟨v0, vs0, d0, ds0, p0, q0, hargs, rfl, rfl, g0, r0⟩ := trodAll_cons hA
  obtain ⟨v1, vs1, d1, ds1, p1, q1, rfl, rfl, rfl, g1, r1⟩ := trodAll_cons r0
  obtain ⟨v2, vs2, d2, ds2, p2, q2, rfl, rfl, rfl, g2, r2⟩ := trodAll_cons r1
  obtain ⟨rfl, rfl, rfl⟩ := trodAll_nil r2
  obtain rfl : args = #[v0, v1, v2] := by cases args; simp_all
  obtain ⟨rfl, rfl⟩ := trodVars_none hV
  obtain ⟨a0, rfl, rfl, rfl, w0⟩ := open_int Try.underlying22 (hval 0 22 v0 rfl rfl) g0
  obtain ⟨a1, rfl, rfl, rfl, w1⟩ := open_int Try.underlying22 (hval 1 22 v1 rfl rfl) g1
  obtain ⟨a2, rfl, rfl, rfl, w2⟩ := open_int Try.underlying3 (hval 2 3 v2 rfl rfl) g2
  refine (walk a0 a1 a2 w0 w1 w2 W).mono fun e W' ⟨he, hg⟩ => ?_
  subst he
  exact ⟨_, rfl, law_post laidOut hW' (by kernel_rfl) rfl rfl Try.underlying4 rfl hg⟩

theorem proved : Rows.CrewSetsSaid :=
  OpenClaim.holds_of_wide 3 Try.f3 rfl rfl rfl rfl rfl rfl rfl ⟨rfl, rfl, rfl, rfl, rfl⟩ rfl rfl rfl rfl rfl (by kernel_rfl) Try.func3 (by kernel_rfl)
    (of_decide_eq_true (by kernel_rfl)) (by unfold Func.isWrapper; first | (rw [if_pos (by decide +kernel)]; kernel_rfl) | (rw [if_neg (by decide +kernel)]; exact ⟨rfl, rfl⟩))
    (fun os started H enc _ => lifted os started H enc)
#print axioms proved
end Go.Proofs.Ytkkjjhljlcabaaa.crewSets
