/-
  Attributes into an Out (package attr's Put).
-/
import Derived.Test.YtfpmmajgnijboaaOutK
import Derived.Test.YtfpmmajgnijboaaAEq
import Derived.Test.YtfpmmajgnijboaaATake
namespace Go.Proofs.Ytfpmmajgnijboaa
open Go.ChangeShapes Go.WideShapes Go.ChangeAt Go.RowKit
set_option linter.unusedVariables false
set_option linter.unusedSimpArgs false

/-- The first number's bytes and j others'. -/
def putTo (F : Nat → Nat) : Nat → List Nat
  | 0 => shortN (F 0)
  | j + 1 => putTo F j ++ shortN (F (1 + j))
/-- What is written: right ones, or noughts. -/
def putF (f : Nat → Int) : Nat → Int := if okB f then f else fun _ => 0
def natA (f : Nat → Int) : Nat → Nat := fun i => (f i).toNat
theorem okB_zero : okB (fun _ => 0) = true := by decide
theorem putF_ok (f : Nat → Int) : okB (putF f) = true := by
  unfold putF
  by_cases h : okB f = true
  · rw [if_pos h]; exact h
  · rw [if_neg h]; exact okB_zero
theorem ok_nat {f : Nat → Int} (h : okB f = true) : (∀ i, i < 8 → f i = (natA f i : Int)) ∧ natA f 0 ≤ 1073741824 ∧ ∀ j, j < 7 → natA f (1 + j) ≤ 1024 := by
  obtain ⟨h0, h1⟩ := okB_iff.1 h
  refine ⟨fun i hi => ?_, by unfold natA; omega, fun j hj => by have := h1 j hj; unfold natA; rw [Nat.add_comm]; omega⟩
  unfold natA
  cases i with
  | zero => omega
  | succ i => have := h1 i (by omega); omega
theorem putTo_len {F : Nat → Nat} (h0 : F 0 ≤ 1073741824) (h : ∀ j, j < 7 → F (1 + j) ≤ 1024) : ∀ j, j ≤ 7 → (putTo F j).length ≤ 10 * (j + 1)
  | 0, _ => by unfold putTo; have := shortN_len10 (v := F 0) (by omega); omega
  | j + 1, hj => by
    have h1 := putTo_len h0 h j (by omega)
    have h2 := h j (by omega)
    have h3 := shortN_len10 (v := F (1 + j)) (by omega)
    unfold putTo
    rw [List.length_append]
    omega

def PutsA (base g : Nat) (l : List Nat) (w : World) (en : Ending) (w' : World) : Prop := en = .returned (.tuple #[]) ∧ OutAt w' base g l ∧ Below base w w' ∧ Stays g w w'
theorem OutAt.drew_ {w : World} {base g : Nat} {l : List Nat} (h : OutAt w base g l) : OutAt w.drew base g l := h.later (below_drew (Below.refl _ _))
theorem OutAt.glt {w : World} {base g : Nat} {l : List Nat} (h : OutAt w base g l) : g < w.heap.size := by
  obtain ⟨_, v, h1, _⟩ := h
  exact h1.lt

set_option maxRecDepth 100000 in
set_option maxHeartbeats 2000000 in
theorem attput_any (base g : Nat) (l : List Nat) (f : Nat → Int) (w : World) (h : OutAt w base g l) (hlen : l.length + 80 ≤ 140737488355328) :
    Calls Try.prog 25 #[.agg #[.int .i64 (f 0), .int .i64 (f 1), .int .i64 (f 2), .int .i64 (f 3), .int .i64 (f 4), .int .i64 (f 5), .int .i64 (f 6), .int .i64 (f 7)], .pointer (some ⟨g, 0, none⟩)] w (PutsA base g (l ++ putTo (natA (putF f)) 7) w) := by
  obtain ⟨o, ho⟩ : ∃ o, okB f = o := ⟨_, rfl⟩
  have HO := hid ho
  have HP : Hid (putF f = if o = true then f else fun _ => 0) := hid (by unfold putF; rw [ho])
  have HQ := hid (putF_ok f)
  obtain ⟨U, hU⟩ : ∃ U, putF f = U := ⟨_, rfl⟩
  rw [hU] at HP HQ
  rw [hU]
  clear ho hU
  have hB := h.base_le
  have hgl := h.glt
  have HI := hid h
  clear h
  go_enter Try.func25, Try.ntmps25
  go_upto_region 1 with fail
  obtain ⟨W, hW⟩ : ∃ W, w.alloc (.cells #[.int .i64 (f 0), .int .i64 (f 1), .int .i64 (f 2), .int .i64 (f 3), .int .i64 (f 4), .int .i64 (f 5), .int .i64 (f 6), .int .i64 (f 7)] 24) = W := ⟨_, rfl⟩
  rw [hW]
  obtain ⟨K0, KB⟩ := one_new hW
  rw [show #[.int .i64 (f 0), .int .i64 (f 1), .int .i64 (f 2), .int .i64 (f 3), .int .i64 (f 4), .int .i64 (f 5), .int .i64 (f 6), .int .i64 (f 7)] = rowA f from rfl] at K0
  obtain ⟨k, hk⟩ : ∃ k, w.heap.size = k := ⟨_, rfl⟩
  have HF : Hid (∀ W, Below k w W → OutAt W base g l ∧ Below base w W ∧ Stays g w W) := hid (fun W h => by
    rw [← hk] at h
    exact ⟨HI.out.later h, h.mono hB, Stays.of_below h⟩)
  rw [hk] at K0 KB hB hgl
  rw [hk]
  clear hW hk HI
  obtain ⟨c0, c1, c2, c3, c4, c5, c6, c7⟩ := K0.out.eight
  go_wp2_with fail
  clear c0 c1 c2 c3 c4 c5 c6 c7
  with_reducible refine (aright8 f _).mono ?_
  rw [HO.out]
  rintro e w1 ⟨rfl, hb1⟩
  have K1 := hid (K0.out.below hb1 K0.out.lt)
  have B1 := hid (KB.out.trans (hb1.mono (by have := K0.out.lt; omega)))
  clear hb1 K0 KB
  cases o
  case' false =>
    have Z1 : Hid ((Try.prog.info? 24).map (·.size) = some (#[.int .i64 0, .int .i64 0, .int .i64 0, .int .i64 0, .int .i64 0, .int .i64 0, .int .i64 0, .int .i64 0] : Array Value).size) := hid info_attr
    have Z2 : Hid ((rowA f).size = (#[.int .i64 0, .int .i64 0, .int .i64 0, .int .i64 0, .int .i64 0, .int .i64 0, .int .i64 0, .int .i64 0] : Array Value).size) := hid (rowA_size f)
    have Z3 : Hid ((#[.int .i64 0, .int .i64 0, .int .i64 0, .int .i64 0, .int .i64 0, .int .i64 0, .int .i64 0, .int .i64 0] : Array Value).all (·.oneCell') = true) := hid (rowA_one fun _ => 0)
    go_upto_region 3 with (with_reducible refine wpList_store_row (o := ⟨none, _, _, _, _, _⟩) rfl 24 (.tmp 2) (.tmp 9) rfl k #[.int .i64 0, .int .i64 0, .int .i64 0, .int .i64 0, .int .i64 0, .int .i64 0, .int .i64 0, .int .i64 0] rfl rfl 24 _ K1.out.heap Z1.out Z2.out Z3.out ?_)
    have HU : Hid ((fun _ => 0) = U) := hid (by rw [HP.out]; simp)
    obtain ⟨W2, hW2⟩ : ∃ W2, w1.setRow k #[.int .i64 0, .int .i64 0, .int .i64 0, .int .i64 0, .int .i64 0, .int .i64 0, .int .i64 0, .int .i64 0] = W2 := ⟨_, rfl⟩
    rw [hW2]
    have K2 : Hid (Blk W2 k 24 (rowA U)) := hid (by rw [← hW2, ← HU.out]; exact setRow_heap w1 k _ _ _ _ K1.out.heap)
    have B2 : Hid (Below k w W2) := hid (by rw [← hW2]; exact below_setRow_ B1.out (Nat.le_refl _))
    clear hW2 K1 B1 HU Z1 Z2 Z3
  case' true =>
    have HU : f = U := by rw [HP.out]; simp
    rw [HU] at K1
    go_upto_region 3 with fail
    clear HU
    obtain ⟨W2, hW2⟩ : ∃ W2, w1 = W2 := ⟨_, rfl⟩
    rw [hW2] at K1 B1 ⊢
    have K2 := K1
    have B2 := B1
    clear hW2 K1 B1
  all_goals
    obtain ⟨hn, hn0, hn1⟩ := ok_nat HQ.out
    have HNL := hid (putTo_len hn0 hn1)
    have HN := hid hn
    have HN1 := hid hn1
    obtain ⟨x, hx⟩ : ∃ x, natA U 0 = x := ⟨_, rfl⟩
    have HX : Hid (putTo (natA U) 0 = shortN x) := hid (by unfold putTo; rw [hx])
    have c0 := K2.out.att (i := 0) (by decide)
    rw [hn 0 (by decide), hx] at c0
    rw [hx] at hn0
    clear hn hn1 hx
    have HC : Hid (IntKind.u64.wrap (x : Int) = (x : Int)) := hid (by rw [IntKind.wrap_u64]; omega)
    have H2 := HF.out _ B2.out
    have O2 := hid H2.1
    have T2 := hid H2.2.1
    have S2 := hid H2.2.2
    clear H2
    go_wp2_with fail
    with_reducible refine (outshortk_any base g l x _ _ O2.out (by first | rfl | exact HC.out) (by omega) (by omega)).mono ?_
    rintro en w3 ⟨⟨rfl, ho, hb⟩, hs⟩
    have K3 := hid (hs.2 k _ _ (by omega) (by decide) K2.out)
    have O3 := hid ho
    have T3 := hid (T2.out.trans hb)
    have S3 := hid (S2.out.trans hs)
    clear ho hb hs K2 B2 O2 T2 S2 c0
    have MR := hid K3.out.range
    have H7 := hid (len_seven U)
    go_wp2_with (with_reducible refine wpList_load_mid (op := ⟨some 16, _, _, _, _, _⟩) rfl 22 (.tmp 15) rfl k 1 rfl (lsD U) _ MR.out Try.underlying22 rfl H7.out ?_)
    have HI : Hid (∀ j : Nat, j < 7 → (lsD U)[j]? = some (.int .i64 (natA U (1 + j) : Int))) := hid (fun j hj => by rw [lsD_get U hj, HN.out (j + 1) (by omega), Nat.add_comm])
    obtain ⟨ds, hds⟩ : ∃ ds, lsD U = ds := ⟨_, rfl⟩
    rw [hds] at HI
    rw [hds]
    clear hds MR H7 K3
    go_loopw [17] (fun iv wr => ∃ j : Nat, j ≤ 7 ∧ iv = .int .i64 j ∧ Hid (OutAt wr base g (l ++ putTo (natA U) j)) ∧ Hid (Below base w wr) ∧ Hid (Stays g w wr)) (fun iv _ => 7 - (intOf iv).toNat)
    case atStart => exact ⟨0, by omega, rfl, hid (by rw [HX.out]; exact O3.out), T3, S3⟩
    case round =>
      obtain ⟨j, hj, rfl, O, T, S⟩ := hrel
      by_cases hlt : j < 7
      · have hx := run_index_seven ds.toArray j _ hlt ((List.getElem?_toArray ..).trans (HI.out j hlt))
        have hy := HN1.out j hlt
        have hll := HNL.out j (by omega)
        have HR : Hid (putTo (natA U) (j + 1) = putTo (natA U) j ++ shortN (natA U (1 + j))) := hid rfl
        obtain ⟨y, hyy⟩ : ∃ y, natA U (1 + j) = y := ⟨_, rfl⟩
        obtain ⟨P, hP⟩ : ∃ P, putTo (natA U) j = P := ⟨_, rfl⟩
        rw [hyy] at hx hy HR
        rw [hP] at hll HR O
        have HL : Hid ((l ++ P).length + 10 ≤ 140737488355328) := hid (by rw [List.length_append]; omega)
        have HC : Hid (IntKind.u64.wrap (y : Int) = (y : Int)) := hid (by rw [IntKind.wrap_u64]; omega)
        clear hyy hP hll
        go_wp2_with fail
        with_reducible refine (outshortk_any base g (l ++ P) y _ _ O.out (by first | rfl | exact HC.out) (by omega) HL.out).mono ?_
        rintro en w4 ⟨⟨rfl, ho, hb⟩, hs⟩
        have O4 := hid ho
        have T4 := hid (T.out.trans hb)
        have S4 := hid (S.out.trans hs)
        clear ho hb hs
        go_wp2
        go_roundw
        case rel => exact ⟨j + 1, by omega, by go_num, hid (by rw [HR.out, ← List.append_assoc]; exact O4.out), T4, S4⟩
        case measure => simp only [intOf]; omega
      · have hj7 : j = 7 := by omega
        subst hj7
        obtain ⟨P, hP⟩ : ∃ P, putTo (natA U) 7 = P := ⟨_, rfl⟩
        rw [hP] at O ⊢
        have HPP := hid hP
        clear hP
        go_wp2
        go_end0
        exact ⟨rfl, O.out, T.out, S.out⟩

end Go.Proofs.Ytfpmmajgnijboaa
