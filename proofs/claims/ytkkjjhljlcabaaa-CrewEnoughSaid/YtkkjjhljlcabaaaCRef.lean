/-
  The contracts of the document's own sets: an array of seven truths.
-/
import Derived.Test.YtkkjjhljlcabaaaCrew
import Derived.ChangeKeysEq
namespace Go.Proofs.Ytkkjjhljlcabaaa
open Go.ChangeShapes Go.WideShapes Go.ChangeAt Go.RowKit

theorem below_setRow_ {B : Nat} {a w : World} {g : Nat} {cs : Array Value} (h : Below B a w) (hg : B ≤ g) : Below B a (w.setRow g cs) :=
  h.trans ⟨rfl, rfl, rfl, by simp, fun k hk => setRow_other w g k cs (by omega)⟩

/-- Of the first k places the byte's bits, of the others none. -/
def partly (b k : Nat) : Nat → Bool := fun i => decide (i < k) && b.testBit i
theorem partly_none (b : Nat) : rowOf (partly b 0) = rowOf fun _ => false := rowOf_congr fun i _ => by simp [partly]
theorem partly_next (b k : Nat) : (rowOf (partly b k)).setIfInBounds k (.bool (b.testBit k)) = rowOf (partly b (k + 1)) := by
  rw [rowOf_set]
  refine rowOf_congr fun i _ => ?_
  unfold partly
  by_cases h : i = k
  · subst h; simp
  · rw [if_neg h]
    congr 1
    exact decide_eq_decide.2 (by omega)
theorem partly_all (b : Nat) {k : Nat} (h : 7 ≤ k) : rowOf (partly b k) = rowOf b.testBit := rowOf_congr fun i hi => by
  unfold partly; rw [decide_eq_true (by omega), Bool.true_and]

theorem info_s : (Try.prog.info? 25).map (·.size) = some 7 := by kernel_rfl

theorem half_walk (b k : Nat) : ((((b / 2 ^ k : Nat) : Int) % 2 == 1)) = b.testBit k := by
  rw [← half_bit, Bool.eq_iff_iff]
  simp only [beq_iff_eq]
  omega

theorem row_none : rowOf (fun _ => false) = #[.bool false, .bool false, .bool false, .bool false, .bool false, .bool false, .bool false] := rfl
theorem blk_second (w : World) (t : TypeId) (cs ds : Array Value) : Blk ((w.alloc (.cells cs t)).alloc (.cells ds t)) (w.heap.size + 1) t ds := by
  have := Blk.new (w.alloc (.cells cs t)) t ds
  simpa using this

set_option maxRecDepth 100000 in
set_option maxHeartbeats 400000 in
theorem refof_any (b : Nat) (w : World) (hb : b < 256) :
    Calls Try.prog 7 #[.int .u8 (b : Int)] w fun e w' => e = .returned (.agg (rowOf b.testBit)) ∧ Below w.heap.size w w' := by
  go_enter Try.func7, Try.ntmps7
  go_wp2
  go_loopw [0, 4] (fun bv iv wr => ∃ k q : Nat, k ≤ 7 ∧ q < 256 ∧ iv = .int .i64 k ∧ bv = .int .u8 q ∧ Hid (q = b / 2 ^ k) ∧ Hid (Blk wr (w.heap.size + 1) 25 (rowOf (partly b k))) ∧ Hid (Blk wr w.heap.size 25 (rowOf fun _ => false)) ∧ Hid (Below w.heap.size w wr)) (fun _ iv _ => 7 - (intOf iv).toNat)
  case atStart =>
    refine ⟨0, b, by omega, by omega, rfl, rfl, hid (by simp), hid ?_, hid ((Blk.new w _ _).alloc _), hid (((Below.refl _ _).alloc (Nat.le_refl _) _).alloc (by simp) _)⟩
    rw [partly_none, row_none]
    exact blk_second w _ _ _
  case round =>
    obtain ⟨k, q, hk, hq, rfl, rfl, HQ, H1, H2, HB⟩ := hrel
    have hhb := HB.out.size
    by_cases hlt : k < 7
    · have hcell := (H1.out.cell k).trans (rowOf_get _ hlt)
      have hfr := H1.out.frozen k
      generalize partly b k k = old at hcell
      have HX : Hid (((q : Int) % 2 == 1) = b.testBit k) := hid (by rw [HQ.out]; exact half_walk b k)
      go_wp2
      go_roundw
      case rel =>
        refine ⟨k + 1, q / 2, by omega, by omega, by go_num, by go_num, hid (by rw [HQ.out, Nat.div_div_eq_div_mul, Nat.pow_succ]), hid ?_, hid ?_, hid ?_⟩
        · have := H1.out.set_ k (.bool (b.testBit k))
          rw [partly_next, ← HX.out] at this
          exact this
        · exact H2.out.far (by simp) _
        · exact HB.out.setCell (by simp) _
      case measure => simp only [intOf]; omega
    · have H1' := hid (show wr.heap[w.heap.size + 1]? = some (.cells (rowOf b.testBit) 25 (0, 0)) by rw [← partly_all b (show 7 ≤ k by omega)]; exact H1.out)
      have H2' := hid (show wr.heap[w.heap.size]? = some (.cells (rowOf fun _ => false) 25 (0, 0)) from H2.out)
      obtain ⟨cs, hcs⟩ : ∃ cs, rowOf b.testBit = cs := ⟨_, rfl⟩
      have H4 := hid (show (Try.prog.info? 25).map (·.size) = some cs.size by rw [← hcs, rowOf_size]; exact info_s)
      have H5 := hid (show cs.all (·.oneCell') = true by rw [← hcs]; exact rowOf_one _)
      have H6 := hid (show (rowOf fun _ => false).size = cs.size by rw [← hcs, rowOf_size, rowOf_size])
      have HC := hid hcs
      rw [hcs] at H1'
      clear hcs H1 H2
      go_wp2_with (first
        | ((with_reducible refine wpList_load_row (o := ⟨some 16, _, _, _, _, _⟩) rfl 25 (.tmp 3) rfl (w.heap.size + 1) rfl 25 cs (0, 0) _ H1'.out Try.underlying25 rfl H4.out ?_))
        | ((with_reducible refine wpList_store_row (o := ⟨none, _, _, _, _, _⟩) rfl 25 (.tmp 2) (.tmp 16) rfl w.heap.size cs rfl rfl 25 _ H2'.out H4.out H6.out H5.out ?_)))
      exact bodyPost_ret (v := .agg cs) (results_cell_row (p := 2) (ty := 25) (by kernel_rfl) _ _ w.heap.size 25 cs (0, 0) _ rfl (setRow_heap wr w.heap.size _ cs _ _ H2'.out) Try.underlying25 rfl H4.out) rfl ⟨by rw [HC.out], below_setRow_ HB.out (Nat.le_refl _)⟩

/-- How many of the first k there are. -/
def cntTo (f : Nat → Bool) : Nat → Nat
  | 0 => 0
  | k + 1 => cntTo f k + (f k).toNat
theorem cntTo_all (s : Nat) : cntTo s.testBit 7 = cnt s := by simp only [cntTo, cnt, Nat.zero_add]
theorem cntTo_le (f : Nat → Bool) : ∀ k, cntTo f k ≤ k
  | 0 => Nat.le_refl _
  | k + 1 => by have := cntTo_le f k; have := Bool.toNat_le (f k); simp only [cntTo]; omega
/-- The byte that the first k make. -/
def byteTo (f : Nat → Bool) : Nat → Nat
  | 0 => 0
  | k + 1 => byteTo f k + (f k).toNat * 2 ^ k
theorem byteTo_lt (f : Nat → Bool) : ∀ k, byteTo f k < 2 ^ k
  | 0 => Nat.lt_succ_self 0
  | k + 1 => by
    have := byteTo_lt f k
    have := Bool.toNat_le (f k)
    simp only [byteTo, Nat.pow_succ]
    rcases (show (f k).toNat = 0 ∨ (f k).toNat = 1 by omega) with h | h <;> rw [h] <;> omega
theorem byteTo_mod (s : Nat) : ∀ k, byteTo s.testBit k = s % 2 ^ k
  | 0 => by rw [Nat.pow_zero, Nat.mod_one]; rfl
  | k + 1 => by rw [Nat.pow_succ, Nat.mod_mul, ← byteTo_mod s k, ← Nat.toNat_testBit, Nat.mul_comm]; rfl

set_option maxRecDepth 100000 in
set_option maxHeartbeats 400000 in
theorem refcount_any (f : Nat → Bool) (w : World) :
    Calls Try.prog 10 #[.agg (rowOf f)] w fun e w' => e = .returned (.int .i64 (cntTo f 7 : Int)) ∧ Below w.heap.size w w' := by
  obtain ⟨cs, hcs⟩ : ∃ cs, rowOf f = cs := ⟨_, rfl⟩
  have HC : Hid (∀ i, i < 7 → cs[i]? = some (.bool (f i))) := hid (fun i hi => by rw [← hcs]; exact rowOf_get f hi)
  rw [hcs]
  clear hcs
  go_enter Try.func10, Try.ntmps10
  go_wp2
  have HB0 := hid (Blk.new w 25 cs)
  have HL0 := hid ((Below.refl _ w).alloc (Nat.le_refl _) (.cells cs 25))
  generalize (w.alloc (.cells cs 25)) = w1 at *
  go_loop [3, 4] (fun nv iv => ∃ k n : Nat, k ≤ 7 ∧ n ≤ k ∧ iv = .int .i64 k ∧ nv = .int .i64 n ∧ Hid (n = cntTo f k)) (fun _ iv => 7 - (intOf iv).toNat)
  case atStart => exact ⟨0, 0, by omega, by omega, rfl, rfl, hid rfl⟩
  case round =>
    obtain ⟨k, n, hk, hn, rfl, rfl, HN⟩ := hrel
    by_cases hlt : k < 7
    · have hcell := (HB0.out.cell k).trans (HC.out k hlt)
      have HS : Hid (cntTo f (k + 1) = n + (f k).toNat) := hid (by rw [HN.out]; rfl)
      generalize f k = q at hcell HS
      cases q
      · have HT : Hid (n = cntTo f (k + 1)) := hid HS.out.symm
        go_wp2
        go_round
        case rel => exact ⟨k + 1, n, by omega, by omega, by go_num, rfl, HT⟩
        case measure => simp only [intOf]; omega
      · have HT : Hid (n + 1 = cntTo f (k + 1)) := hid HS.out.symm
        go_wp2
        go_round
        case rel => exact ⟨k + 1, n + 1, by omega, by omega, by go_num, by go_num, HT⟩
        case measure => simp only [intOf]; omega
    · have e : k = 7 := by omega
      have HE : Hid (n = cntTo f 7) := hid (by rw [HN.out, e])
      clear e
      go_wp2
      go_ret
      exact ⟨ret_num (by rw [HE.out]), HL0.out⟩

theorem byteTo_seven (f : Nat → Bool) {k : Nat} (h : k ≤ 7) : byteTo f k < 128 := by
  have h1 := byteTo_lt f k
  have h2 := Nat.pow_le_pow_right (n := 2) (by decide) h
  omega
theorem pow_seven {k : Nat} (h : k ≤ 7) : 2 ^ k ≤ 128 := Nat.pow_le_pow_right (n := 2) (by decide) h

set_option maxRecDepth 100000 in
set_option maxHeartbeats 400000 in
theorem refbyte_any (f : Nat → Bool) (w : World) :
    Calls Try.prog 13 #[.agg (rowOf f)] w fun e w' => e = .returned (.int .u8 (byteTo f 7 : Int)) ∧ Below w.heap.size w w' := by
  obtain ⟨cs, hcs⟩ : ∃ cs, rowOf f = cs := ⟨_, rfl⟩
  have HC : Hid (∀ i, i < 7 → cs[i]? = some (.bool (f i))) := hid (fun i hi => by rw [← hcs]; exact rowOf_get f hi)
  rw [hcs]
  clear hcs
  go_enter Try.func13, Try.ntmps13
  go_wp2
  have HB0 := hid (Blk.new w 25 cs)
  have HL0 := hid ((Below.refl _ w).alloc (Nat.le_refl _) (.cells cs 25))
  generalize (w.alloc (.cells cs 25)) = w1 at *
  go_loop [3, 4, 5] (fun nv pv iv => ∃ k n p : Nat, k ≤ 7 ∧ n < 128 ∧ p ≤ 128 ∧ iv = .int .i64 k ∧ nv = .int .u8 n ∧ pv = .int .u8 p ∧ Hid (n = byteTo f k) ∧ Hid (p = 2 ^ k)) (fun _ _ iv => 7 - (intOf iv).toNat)
  case atStart => exact ⟨0, 0, 1, by omega, by omega, by omega, rfl, rfl, rfl, hid rfl, hid rfl⟩
  case round =>
    obtain ⟨k, n, p, hk, hn, hp, rfl, rfl, rfl, HN, HP⟩ := hrel
    by_cases hlt : k < 7
    · have hcell := (HB0.out.cell k).trans (HC.out k hlt)
      have HS : Hid (byteTo f (k + 1) = n + (f k).toNat * p) := hid (by rw [HN.out, HP.out]; rfl)
      have HP2 : Hid (p + p = 2 ^ (k + 1)) := hid (by rw [HP.out, Nat.pow_succ]; omega)
      have hp2 : p + p ≤ 128 := by rw [HP2.out]; exact pow_seven hlt
      have hb2 := byteTo_seven f hlt
      generalize f k = q at hcell HS
      cases q
      · have HT : Hid (n = byteTo f (k + 1)) := hid (by rw [HS.out]; simp)
        clear hb2
        go_wp2
        go_round
        case rel => exact ⟨k + 1, n, p + p, by omega, by omega, by omega, by go_num, rfl, by go_num, HT, HP2⟩
        case measure => simp only [intOf]; omega
      · have HT : Hid (n + p = byteTo f (k + 1)) := hid (by rw [HS.out]; simp)
        have hb3 : n + p < 128 := by rw [HT.out]; exact hb2
        clear hb2
        go_wp2
        go_round
        case rel => exact ⟨k + 1, n + p, p + p, by omega, by omega, by omega, by go_num, by go_num, by go_num, HT, HP2⟩
        case measure => simp only [intOf]; omega
    · have e : k = 7 := by omega
      have HE : Hid (n = byteTo f 7) := hid (by rw [HN.out, e])
      clear e
      go_wp2
      go_ret
      exact ⟨ret_num (by rw [HE.out]), HL0.out⟩

/-! ### Rows as they stand in memory -/
/-- Its seven cells, one by one. -/
def Seven (w : World) (g : Nat) (f : Nat → Bool) : Prop :=
  w.cell? ⟨g, 0, none⟩ = some (.bool (f 0)) ∧ w.cell? ⟨g, 1, none⟩ = some (.bool (f 1)) ∧ w.cell? ⟨g, 2, none⟩ = some (.bool (f 2)) ∧ w.cell? ⟨g, 3, none⟩ = some (.bool (f 3)) ∧
    w.cell? ⟨g, 4, none⟩ = some (.bool (f 4)) ∧ w.cell? ⟨g, 5, none⟩ = some (.bool (f 5)) ∧ w.cell? ⟨g, 6, none⟩ = some (.bool (f 6))
theorem Blk.seven {w : World} {g : Nat} {t : TypeId} {f : Nat → Bool} (h : Blk w g t (rowOf f)) : Seven w g f :=
  ⟨(h.cell 0).trans (rowOf_get f (by decide)), (h.cell 1).trans (rowOf_get f (by decide)), (h.cell 2).trans (rowOf_get f (by decide)), (h.cell 3).trans (rowOf_get f (by decide)),
    (h.cell 4).trans (rowOf_get f (by decide)), (h.cell 5).trans (rowOf_get f (by decide)), (h.cell 6).trans (rowOf_get f (by decide))⟩

/-- A bit, as the walk doesn't open it. -/
def tb (s i : Nat) : Bool := s.testBit i
theorem refcount_seven (s : Nat) (w : World) :
    Calls Try.prog 10 #[.agg #[.bool (tb s 0), .bool (tb s 1), .bool (tb s 2), .bool (tb s 3), .bool (tb s 4), .bool (tb s 5), .bool (tb s 6)]] w fun e w' => e = .returned (.int .i64 (cnt s : Int)) ∧ Below w.heap.size w w' := by
  have := refcount_any s.testBit w
  rw [cntTo_all] at this
  exact this
theorem refbyte_seven (s : Nat) (w : World) (hs : s < 128) :
    Calls Try.prog 13 #[.agg #[.bool (tb s 0), .bool (tb s 1), .bool (tb s 2), .bool (tb s 3), .bool (tb s 4), .bool (tb s 5), .bool (tb s 6)]] w fun e w' => e = .returned (.int .u8 (s : Int)) ∧ Below w.heap.size w w' := by
  have := refbyte_any s.testBit w
  rw [byteTo_mod, Nat.mod_eq_of_lt hs] at this
  exact this

theorem blk_stored {w : World} {g : Nat} {t : TypeId} {zs cs : Array Value} (h : Blk w g t zs) : Blk (w.setRow g cs) g t cs := setRow_heap w g zs cs t (0, 0) h
theorem blk_setRow_far {w : World} {g g' : Nat} {t : TypeId} {cs ds : Array Value} (h : Blk w g t cs) (hg : g ≠ g') : Blk (w.setRow g' ds) g t cs := (setRow_other w g' g ds hg).trans h
theorem first_row (w : World) {zs : Array Value} (hz : #[Value.bool false, .bool false, .bool false, .bool false, .bool false, .bool false, .bool false] = zs) :
    (w.alloc (.cells #[Value.bool false, .bool false, .bool false, .bool false, .bool false, .bool false, .bool false] 25)).heap[w.heap.size]? = some (.cells zs 25 (0, 0)) := by
  subst hz
  exact Blk.new w _ _

/-- Two rows that are the same are equal. -/
theorem items_equal (f : Nat → Bool) (w : World) : ∀ is : List Nat, (∀ i ∈ is, i < 7) → (Op.eqItems 9999 4 1 (rowOf f) (rowOf f) is).run Try.prog w = .ok true w
  | [], _ => by simp [Op.eqItems]
  | i :: is, h => by
    have hi : (rowOf f)[i * 1]? = some (.bool (f i)) := by rw [Nat.mul_one]; exact rowOf_get f (h i (by simp))
    have hp := run_part_plain (P := Try.prog) (w := w) (e := 4) (by kernel_rfl) hi
    have he := run_equalIn_bool' (P := Try.prog) w 9998 4 (f i) (f i) Try.underlying4
    have ih := items_equal f w is (fun j hj => h j (by simp [hj]))
    simp only [Op.eqItems, Sem.run_bind, hp, Result.andThen_ok, he]
    simpa using ih
theorem row_equal (f : Nat → Bool) (w : World) : (Op.equalIn 10000 25 (.agg (rowOf f)) (.agg (rowOf f))).run Try.prog w = .ok true w := by
  obtain ⟨i, hi⟩ : ∃ i, Try.prog.info? 4 = some i := by
    have h : (Try.prog.info? 4).isSome = true := by kernel_rfl
    exact Option.isSome_iff_exists.1 h
  rw [run_equalIn_array w 9999 _ _ Try.underlying25 hi]
  have hc : Try.prog.cellsOf 4 = 1 := by kernel_rfl
  rw [hc]
  exact items_equal f w _ (fun i hi => List.mem_range.1 hi)

end Go.Proofs.Ytkkjjhljlcabaaa
