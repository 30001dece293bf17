/-
  The document's disk (moothillref13), by value: Crash.
-/
import Derived.Test.YtmedfcpohmhbbaaERefD
namespace Go.Proofs.Ytmedfcpohmhbbaa
open Go.ChangeShapes Go.WideShapes Go.ChangeAt Go.RowKit
set_option linter.unusedVariables false
set_option linter.unusedSimpArgs false

/-- So many more are safe. -/
def moreD (d : Dk) (k m : Nat) : Dk := { d with s := updD d.s k (d.s k + m) }
theorem moreD_zero (d : Dk) (k : Nat) : moreD d k 0 = d := by unfold moreD; rw [Nat.add_zero, updD_same]
theorem moreD_s (d : Dk) (k m : Nat) : (moreD d k m).s k = d.s k + m := updD_at _ _ _
theorem moreD_next (d : Dk) (k m : Nat) : ({ moreD d k m with s := updD (moreD d k m).s k (d.s k + m + 1) } : Dk) = moreD d k (m + 1) := by
  unfold moreD
  simp only [updD_upd]
  rfl
/-- .. in the blocks of the document's Crash. -/
def CrI (S : Nat → Prop) (w wr : World) (p : Nat) (d : Dk) (k m : Nat) (a b : Int) : Prop :=
  ∃ x', RefAt (fun j => S j ∨ j = p ∨ j = p + 1 ∨ j = p + 1 + 1) wr d x' ∧ Blk wr p 34 (rC (moreD d k m) x') ∧ Blk wr (p + 1) 32 #[.int .i64 a, .int .i64 b] ∧ Blk wr (p + 1 + 1) 34 zrC ∧ Below p w wr
theorem CrI.drewN {S : Nat → Prop} {w wr : World} {p : Nat} {d : Dk} {k m : Nat} {a b : Int} (h : CrI S w wr p d k m a b) (n : Nat) : CrI S w (wr.drewN n) p d k m a b := by
  obtain ⟨x', h1, h2, h3, h4, h5⟩ := h
  exact ⟨x', h1.on (below_drewN (Below.refl _ _) n), h2, h3, h4, below_drewN h5 n⟩
/-- One more is safe. -/
theorem CrI.next {S : Nat → Prop} {w wr : World} {p : Nat} {d : Dk} {k m : Nat} {a b : Int} (h : CrI S w wr p d k m a b) (hk : k < 2) {u : Int} (hu : u = ((d.s k + m + 1 : Nat) : Int)) : CrI S w (wr.setCell ⟨p, 3 + k, none⟩ (.int .i64 u)) p d k (m + 1) a b := by
  subst hu
  obtain ⟨x', h1, h2, h3, h4, h5⟩ := h
  have t : Turns (fun j => S j ∨ j = p ∨ j = p + 1 ∨ j = p + 1 + 1) wr (wr.setCell ⟨p, 3 + k, none⟩ (.int .i64 ((d.s k + m + 1 : Nat) : Int))) := (Turns.refl _ _).set (.inl (.inr (.inl rfl))) _
  refine ⟨x', h1.turns t (fun _ _ h => h), ?_, h3.far (p := ⟨p, 3 + k, none⟩) (by simp) _, h4.far (p := ⟨p, 3 + k, none⟩) (by show p + 1 + 1 ≠ p; omega) _, h5.setCell (p := ⟨p, 3 + k, none⟩) (Nat.le_refl _) _⟩
  have := h2.set_ (3 + k) (.int .i64 ((d.s k + m + 1 : Nat) : Int))
  rw [rC_sets _ _ _ k hk, moreD_next] at this
  exact this
theorem loss_more {d : Dk} (h : d.Ok) {k m : Nat} (hk : k < 2) (q : Int) (hm : m = min q.toNat ((d.l k).length - d.s k)) : ({ moreD d k m with l := updD d.l k ((d.l k).take (d.s k + m)) } : Dk) = lossD d k q := by
  subst hm
  unfold moreD lossD restD
  rfl
/-- The file is cut. -/
theorem CrI.cut {S : Nat → Prop} {w wr : World} {p : Nat} {d : Dk} {k m : Nat} {a b q : Int} (h : CrI S w wr p d k m a b) (ho : d.Ok) (hk : k < 2) (hm : m = min q.toNat ((d.l k).length - d.s k)) :
    ∃ A c, wr.cell? ⟨p, 1 + k, none⟩ = some (.slice A (d.l k).length c) ∧ (d.l k).length ≤ c ∧ d.s k + m ≤ (d.l k).length ∧ CrI S w (wr.setCell ⟨p, 1 + k, none⟩ (.slice A (d.s k + m) c)) p (lossD d k q) (k + 1) 0 a b := by
  obtain ⟨x', h1, h2, h3, h4, h5⟩ := h
  obtain ⟨A, c, e1, e2, e3, e4⟩ := h1 k hk
  have hs := ho.safe k hk
  have hle : d.s k + m ≤ (d.l k).length := by omega
  have hlen : ((d.l k).take (d.s k + m)).length = d.s k + m := by rw [List.length_take]; omega
  refine ⟨A, c, by rw [← e1]; exact (h2.cell _).trans (rC_get _ _ k hk), e3, hle, ?_⟩
  have t : Turns (fun j => S j ∨ j = p ∨ j = p + 1 ∨ j = p + 1 + 1) wr (wr.setCell ⟨p, 1 + k, none⟩ (.slice A (d.s k + m) c)) := (Turns.refl _ _).set (.inl (.inr (.inl rfl))) _
  obtain ⟨A', c', e1', _, _, e4'⟩ := (h1.turns t (T := fun j => S j ∨ j = p ∨ j = p + 1 ∨ j = p + 1 + 1) (fun _ _ h => h)) k hk
  rw [e1] at e1'
  injection e1' with q1 q2 q3
  subst q1; subst q3
  have hR := (h1.turns t (T := fun j => S j ∨ j = p ∨ j = p + 1 ∨ j = p + 1 + 1) (fun _ _ h => h)).turn k e2 (l := (d.l k).take (d.s k + m)) (by omega) (e4'.take _)
  rw [hlen] at hR
  refine ⟨updD x' k (.slice A (d.s k + m) c), hR.of (by rw [← loss_more ho hk q hm]), ?_, h3.far (p := ⟨p, 1 + k, none⟩) (by simp) _, h4.far (p := ⟨p, 1 + k, none⟩) (by show p + 1 + 1 ≠ p; omega) _, h5.setCell (p := ⟨p, 1 + k, none⟩) (Nat.le_refl _) _⟩
  have := h2.set_ (1 + k) (.slice A (d.s k + m) c)
  rw [rC_set _ _ _ ((d.l k).take (d.s k + m)) k hk] at this
  rw [moreD_zero, ← loss_more ho hk q hm]
  exact this

theorem boxes3 {w W : World} {a b c : Array Value} {T U V : TypeId} (h : ((w.alloc (.cells a T)).alloc (.cells b U)).alloc (.cells c V) = W) :
    Hid (Blk W w.heap.size T a) ∧ Hid (Blk W (w.heap.size + 1) U b) ∧ Hid (Blk W (w.heap.size + 1 + 1) V c) ∧ Hid (Below w.heap.size w W) := by
  obtain ⟨h1, h2, h3⟩ := three_boxes h
  refine ⟨h1, h2, ?_, h3⟩
  subst h
  have h4 := Blk.new ((w.alloc (.cells a T)).alloc (.cells b U)) V c
  rw [show ((w.alloc (.cells a T)).alloc (.cells b U)).heap.size = w.heap.size + 1 + 1 by simp] at h4
  exact hid h4
theorem CrI.open {S : Nat → Prop} {w wr : World} {p : Nat} {d : Dk} {k m : Nat} {a b : Int} (h : CrI S w wr p d k m a b) (hk : k < 2) :
    ∃ A c, wr.cell? ⟨p, 1 + k, none⟩ = some (.slice A (d.l k).length c) ∧ wr.cell? ⟨p, 3 + k, none⟩ = some (.int .i64 ((d.s k + m : Nat) : Int)) ∧ wr.cell? ⟨p + 1, k, none⟩ = some (.int .i64 (keepAt a b k)) ∧ (∀ i, wr.frozen? ⟨p, i, none⟩ = false) := by
  obtain ⟨x', h1, h2, h3, h4, h5⟩ := h
  obtain ⟨A, c, e1, e2, e3, e4⟩ := h1 k hk
  exact ⟨A, c, by rw [← e1]; exact (h2.cell _).trans (rC_get _ _ k hk), (h2.cell _).trans ((rC_gets _ _ k hk).trans (by rw [moreD_s])), keep_cell h3 k hk, fun i => h2.frozen i⟩

set_option maxRecDepth 100000 in
set_option maxHeartbeats 4000000 in
theorem refcrash_any {S : Nat → Prop} (d : Dk) (x : Nat → Value) (a b : Int) (w : World) (h : RefAt S w d x) (hS : ∀ j, S j → j < w.heap.size) (ho : d.Ok) :
    Calls Try.prog 28 #[rV d x, .agg #[.int .i64 a, .int .i64 b]] w fun e w' => ∃ x', e = .returned (rV (crashD d a b) x') ∧ RefAt S w' (crashD d a b) x' ∧ Below w.heap.size w w' := by
  have HX := hid h
  have HS := hid hS
  have HO := hid ho
  clear h hS ho
  go_enter Try.func28, Try.ntmps28
  go_upto_region 1 with fail
  obtain ⟨W, hW⟩ : ∃ W, ((w.alloc (.cells (rC d x) 34)).alloc (.cells #[.int .i64 a, .int .i64 b] 32)).alloc (.cells #[.int .i64 0, .slice none 0 0, .slice none 0 0, .int .i64 0, .int .i64 0, .int .i64 0, .bool false] 34) = W := ⟨_, rfl⟩
  rw [hW]
  obtain ⟨K0, K1, K2, KB⟩ := boxes3 hW
  clear hW
  have X0 : Hid (RefAt (fun j => S j ∨ j = w.heap.size ∨ j = w.heap.size + 1 ∨ j = w.heap.size + 1 + 1) W d x) := hid (fun i hi => by
    obtain ⟨A, c, q1, q2, q3, q4⟩ := HX.out i hi
    refine ⟨A, c, q1, q2, q3, fun j y hj => ?_⟩
    obtain ⟨bb, o, r1, r2, r3, r4⟩ := q4 j y hj
    refine ⟨bb, o, r1, Nat.lt_of_lt_of_le r2 KB.out.size, fun e => ?_, (KB.out.cell (by exact r2)).trans r4⟩
    rcases e with e | e | e | e
    · exact r3 e
    · omega
    · omega
    · omega)
  obtain ⟨p, hp⟩ : ∃ p, w.heap.size = p := ⟨_, rfl⟩
  rw [hp] at K0 K1 K2 KB X0
  rw [hp]
  have HP := hid hp
  have C0 : Hid (CrI S w W p (lossesD d a b 0) 0 0 a b) := hid ⟨x, X0.out, by rw [moreD_zero]; exact K0.out, K1.out, K2.out, KB.out⟩
  clear hp X0 K0 K1 K2 KB HX
  obtain ⟨i0, hi, _⟩ := info_parts info_u8
  have HI := hid hi
  clear hi
  go_wp2_with fail
  go_loopw [5] (fun iv wr => ∃ j : Nat, j ≤ 2 ∧ iv = .int .i64 j ∧ Hid (CrI S w wr p (lossesD d a b j) j 0 a b)) (fun iv _ => 2 - (intOf iv).toNat)
  case atStart => exact ⟨0, by decide, rfl, C0⟩
  case round =>
    clear C0
    obtain ⟨j, hj, rfl, HC⟩ := hrel
    by_cases hlt : j < 2
    · have hj2 : (j : Int) < 2 := by omega
      have HOK := hid (losses_ok HO.out a b j (by omega))
      have HNx := hid (losses_next d a b j hlt)
      obtain ⟨dj, hdj⟩ : ∃ x, lossesD d a b j = x := ⟨_, rfl⟩
      rw [hdj] at HC HOK HNx
      obtain ⟨q, hq⟩ : ∃ x, keepAt a b j = x := ⟨_, rfl⟩
      have HQ := hid hq
      rw [hq] at HNx
      have HL9 := hid (HOK.out.len hlt)
      have HS9 := hid (HOK.out.safe j hlt)
      clear hdj hq
      go_wp2_with fail
      go_loopw [6] (fun iv wr => ∃ m : Nat, m ≤ min q.toNat ((dj.l j).length - dj.s j) ∧ iv = .int .i64 m ∧ Hid (CrI S w wr p dj j m a b)) (fun iv _ => (dj.l j).length - (intOf iv).toNat)
      case atStart => exact ⟨0, Nat.zero_le _, rfl, HC⟩
      case round =>
        clear HC
        obtain ⟨m, hm, rfl, HC⟩ := hrel
        obtain ⟨A, c, c1, c2, c3, f1⟩ := HC.out.open hlt
        rw [HQ.out] at c3
        obtain ⟨sj, hsj⟩ : ∃ s, dj.s j = s := ⟨_, rfl⟩
        obtain ⟨lj, hlj⟩ : ∃ s, (dj.l j).length = s := ⟨_, rfl⟩
        have h9 := HL9.out
        have h8 := HS9.out
        have HSJ := hid hsj
        have HLJ := hid hlj
        rw [hsj] at hm c2 h8
        rw [hlj] at hm c1 h8 h9
        clear hsj hlj
        by_cases hk1 : (m : Int) < q
        · by_cases hk2 : sj + m < lj
          · have hk3 : ((sj + m : Nat) : Int) < (lj : Int) := by omega
            have hk5 : (sj : Int) + (m : Int) < (lj : Int) := by omega
            have f3 := f1 (3 + j)
            have HF := hid f1
            clear f1
            go_wp2_with fail
            go_quiet (fail)
            have HN := hid (fun u hu => (HC.out.drewN nq).next hlt (u := u) hu)
            rw [HSJ.out] at HN
            go_wp2
            go_roundw
            case rel => exact ⟨m + 1, by rw [HSJ.out, HLJ.out]; omega, by go_num, hid (HN.out _ (by omega))⟩
            case measure => rw [HLJ.out]; simp only [intOf]; omega
          · have hk3 : decide (((sj + m : Nat) : Int) < (lj : Int)) = false := by simp; omega
            have hk5 : decide ((sj : Int) + (m : Int) < (lj : Int)) = false := by simp; omega
            clear f1
            go_wp2_with fail
            go_quiet (fail)
            have HCut := hid ((HC.out.drewN nq).cut HOK.out hlt (q := q) (by rw [HSJ.out, HLJ.out]; omega))
            rw [HSJ.out, HLJ.out] at HCut
            clear c1 c2 c3
            obtain ⟨A2, k2, c1, e2, e3, hC2⟩ := HCut.out
            obtain ⟨_, _, _, c2, _, f2⟩ := (HC.out.drewN nq).open hlt
            rw [HSJ.out] at c2
            have f1 := f2 (1 + j)
            have hcut : ∀ w, (Instr.slice 28 (.slice A2 lj k2) none (some (.int .i64 ((sj : Int) + (m : Int)))) none).run Try.prog w = .ok (.slice A2 (sj + m) k2) w := fun w => by
              have h := cut_head (P := Try.prog) 28 5 i0 Try.underlying28 HI.out A2 e3 e2 w
              rw [Int.natCast_add] at h
              exact h
            have HC3 : Hid (CrI S w (((wr.drewN nq).setCell ⟨p, 1 + j, none⟩ (.slice A2 (sj + m) k2)).drew) p (lossesD d a b (j + 1)) (j + 1) 0 a b) := hid (by
              rw [HNx.out]
              exact hC2.drewN 1)
            clear hC2 f2 HCut
            obtain ⟨wq, hwq⟩ : ∃ wq, wr.drewN nq = wq := ⟨_, rfl⟩
            rw [hwq] at c1 c2 f1 HC3 ⊢
            clear hwq HC
            go_wp2_with fail
            go_region
            go_wp2
            go_roundw
            case rel => exact ⟨j + 1, by omega, by go_num, HC3⟩
            case measure => simp only [intOf]; omega
        · have hk3 : decide ((m : Int) < q) = false := by simp; omega
          have hq : q ≤ (m : Int) := by omega
          clear f1
          go_wp2_with fail
          go_quiet (fail)
          have HCut := hid ((HC.out.drewN nq).cut HOK.out hlt (q := q) (by rw [HSJ.out, HLJ.out]; omega))
          rw [HSJ.out, HLJ.out] at HCut
          clear c1 c2 c3
          obtain ⟨A2, k2, c1, e2, e3, hC2⟩ := HCut.out
          obtain ⟨_, _, _, c2, _, f2⟩ := (HC.out.drewN nq).open hlt
          rw [HSJ.out] at c2
          have f1 := f2 (1 + j)
          have hcut : ∀ w, (Instr.slice 28 (.slice A2 lj k2) none (some (.int .i64 ((sj : Int) + (m : Int)))) none).run Try.prog w = .ok (.slice A2 (sj + m) k2) w := fun w => by
            have h := cut_head (P := Try.prog) 28 5 i0 Try.underlying28 HI.out A2 e3 e2 w
            rw [Int.natCast_add] at h
            exact h
          have HC3 : Hid (CrI S w (((wr.drewN nq).setCell ⟨p, 1 + j, none⟩ (.slice A2 (sj + m) k2)).drew) p (lossesD d a b (j + 1)) (j + 1) 0 a b) := hid (by
            rw [HNx.out]
            exact hC2.drewN 1)
          clear hC2 f2 HCut
          obtain ⟨wq, hwq⟩ : ∃ wq, wr.drewN nq = wq := ⟨_, rfl⟩
          rw [hwq] at c1 c2 f1 HC3 ⊢
          clear hwq HC
          go_wp2_with fail
          go_region
          go_wp2
          go_roundw
          case rel => exact ⟨j + 1, by omega, by go_num, HC3⟩
          case measure => simp only [intOf]; omega
    · obtain rfl : j = 2 := by omega
      obtain ⟨x1, h1, h2, h3, h4, h5⟩ := HC.out
      rw [moreD_zero] at h2
      obtain ⟨d2, hd2⟩ : ∃ y, lossesD d a b 2 = y := ⟨_, rfl⟩
      have HD2 : Hid (upD d2 = crashD d a b) := hid (by rw [← hd2]; rfl)
      rw [hd2] at h1 h2
      have HX1 := hid h1
      have HB1 := hid h2
      have HZ1 := hid h4
      have HL1 := hid h5
      have f5 := h2.frozen 5
      have f6 := h2.frozen 6
      obtain ⟨_, _, _, _, _, c5, c6⟩ := rcells h2
      clear h1 h2 h3 h4 h5 hd2 HC
      go_upto_region 11 with fail
      obtain ⟨W2, hW2⟩ : ∃ W2, (wr.setCell ⟨p, 5, none⟩ (.int .i64 (-1))).setCell ⟨p, 6, none⟩ (.bool false) = W2 := ⟨_, rfl⟩
      rw [hW2]
      have tw : Turns (fun j => S j ∨ j = p ∨ j = p + 1 ∨ j = p + 1 + 1) wr W2 := by rw [← hW2]; exact ((Turns.refl _ _).set (.inl (.inr (.inl rfl))) _).set (.inl (.inr (.inl rfl))) _
      have DX : Hid (RefAt (fun j => S j ∨ j = p ∨ j = p + 1 ∨ j = p + 1 + 1) W2 (upD d2) x1) := hid ((HX1.out.turns tw (fun _ _ h => h)).of rfl)
      have DB : Hid (Blk W2 p 34 (rC (upD d2) x1)) := hid (by rw [← hW2]; exact (HB1.out.set_ 5 (.int .i64 (-1))).set_ 6 (.bool false))
      have DZ : Hid (Blk W2 (p + 1 + 1) 34 zrC) := hid (by rw [← hW2]; exact (HZ1.out.far (p := ⟨p, 5, none⟩) (by show p + 1 + 1 ≠ p; omega) _).far (p := ⟨p, 6, none⟩) (by show p + 1 + 1 ≠ p; omega) _)
      have DL : Hid (Below p w W2) := hid (by rw [← hW2]; exact (HL1.out.setCell (p := ⟨p, 5, none⟩) (Nat.le_refl _) _).setCell (p := ⟨p, 6, none⟩) (Nat.le_refl _) _)
      clear hW2 tw HX1 HB1 HZ1 HL1 f5 f6 c5 c6
      obtain ⟨d3, hd3⟩ : ∃ y, upD d2 = y := ⟨_, rfl⟩
      rw [hd3] at DX DB HD2
      clear hd3
      have HR : Hid (∃ x', Ending.returned (rV d3 x1) = .returned (rV (crashD d a b) x') ∧ RefAt S (W2.setRow (p + 1 + 1) (rC d3 x1)) (crashD d a b) x' ∧ Below w.heap.size w (W2.setRow (p + 1 + 1) (rC d3 x1))) := hid (by
        rw [← HD2.out]
        have tz : Turns (fun j => S j ∨ j = p ∨ j = p + 1 ∨ j = p + 1 + 1) W2 (W2.setRow (p + 1 + 1) (rC d3 x1)) := setRow_turns (Turns.refl _ _) (.inl (.inr (.inr (.inr rfl)))) _
        have tz2 : Turns (fun j => j = p + 1 + 1) W2 (W2.setRow (p + 1 + 1) (rC d3 x1)) := setRow_turns (S := fun j => j = p + 1 + 1) (g := p + 1 + 1) (Turns.refl _ _) (.inl rfl) _
        exact ⟨x1, rfl, DX.out.turns tz (fun _ _ h => .inl h), by rw [HP.out]; exact DL.out.trans (tz2.below (by have := DZ.out.lt; omega) (fun j hj e => by omega))⟩)
      obtain ⟨d0, d1, d2', d3', d4, d5, d6⟩ := rcells (DZ.out.rowE (cs' := rC d3 x1))
      have T2 := hid (rC_size d3 x1)
      have T4 := hid (rC_one (d' := d3) DX.out)
      have T5 : Hid (zrC.size = (rC d3 x1).size) := hid rfl
      have TB := hid DB.out.heap
      have TZ := hid DZ.out.heap
      clear DX DB DZ DL
      go_wp2_with (first
        | (with_reducible refine wpList_load_row (o := ⟨some 51, _, _, _, _, _⟩) rfl 34 (.tmp 2) rfl p rfl 34 (rC d3 x1) (0, 0) _ TB.out Try.underlying34 rfl T2.out ?_)
        | (with_reducible refine wpList_store_row (o := ⟨none, _, _, _, _, _⟩) rfl 34 (.tmp 4) (.tmp 51) rfl (p + 1 + 1) (rC d3 x1) rfl rfl 34 _ TZ.out T2.out T5.out T4.out ?_))
      refine bodyPost_ret (v := .agg #[.int .i64 d3.sz, x1 0, x1 1, .int .i64 (d3.s 0 : Int), .int .i64 (d3.s 1 : Int), .int .i64 (unR d3), .bool d3.dn]) (by simp [results, Try.results28, go_sem, d0, d1, d2', d3', d4, d5, d6]) rfl HR.out

end Go.Proofs.Ytmedfcpohmhbbaa
