/-
  Contract of path.withOneMore.
-/
import Derived.Test.YtbnhkpceihfalaaPLawParts
import Derived.Laws.MakeOwn
namespace Go.Proofs.Ytbnhkpceihfalaa
open Go.ChangeShapes Go.WideShapes Go.ChangeAt Go.RowKit

theorem info_bool : (Try.prog.info? 4).map (fun i => (i.zero, i.size, i.bytes)) = some (some (.bool false), 1, 1) := by kernel_rfl

/-- Of each count of first parts: whether the pattern means just these. -/
def marks (l P : List (List UInt8)) : List Value := (List.range (P.length + 1)).map fun i => .bool (means l (P.take i))
/-- The same, as far as it is filled in. -/
def half (l P : List (List UInt8)) (k : Nat) : List Value := (List.range (P.length + 1)).map fun i => if i ≤ k then .bool (means l (P.take i)) else .bool false
theorem marks_length (l P : List (List UInt8)) : (marks l P).length = P.length + 1 := by simp [marks]
theorem half_length (l P : List (List UInt8)) (k : Nat) : (half l P k).length = P.length + 1 := by simp [half]
theorem marks_at {l P : List (List UInt8)} {i : Nat} (h : i ≤ P.length) : (marks l P)[i]? = some (.bool (means l (P.take i))) := by
  simp [marks, List.getElem?_map, List.getElem?_range (show i < P.length + 1 by omega)]
theorem half_at {l P : List (List UInt8)} {k i : Nat} (h : i ≤ P.length) : (half l P k)[i]? = some (if i ≤ k then .bool (means l (P.take i)) else .bool false) := by
  simp [half, List.getElem?_map, List.getElem?_range (show i < P.length + 1 by omega)]
theorem half_end (l P : List (List UInt8)) : half l P P.length = marks l P := by
  unfold half marks
  apply List.map_congr_left
  intro i hi
  rw [if_pos (by have := List.mem_range.1 hi; omega)]
theorem half_set {l P : List (List UInt8)} {k : Nat} {b : Bool} (hb : means l (P.take (k + 1)) = b) : (half l P k).set (k + 1) (.bool b) = half l P (k + 1) := by
  apply List.ext_getElem
  · rw [List.length_set, half_length, half_length]
  · intro i h1 h2
    rw [half_length] at h2
    by_cases e : i = k + 1
    · subst e
      rw [List.getElem_set_self]
      simp [half, hb]
    · rw [List.getElem_set_ne (by omega)]
      simp only [half, List.getElem_map, List.getElem_range]
      by_cases hk : i ≤ k
      · rw [if_pos hk, if_pos (by omega)]
      · rw [if_neg hk, if_neg (by omega)]
theorem half_skip {l P : List (List UInt8)} {k : Nat} (hb : means l (P.take (k + 1)) = false) : half l P k = half l P (k + 1) := by
  unfold half
  apply List.map_congr_left
  intro i hi
  by_cases hk : i ≤ k
  · rw [if_pos hk, if_pos (by omega)]
  · rw [if_neg hk]
    by_cases e : i = k + 1
    · subst e; rw [if_pos (Nat.le_refl _), hb]
    · rw [if_neg (by omega)]
theorem half_start {l P : List (List UInt8)} {b : Bool} (hb : means l [] = b) : (List.replicate (P.length + 1) (Value.bool false)).set 0 (.bool b) = half l P 0 := by
  apply List.ext_getElem
  · rw [List.length_set, half_length, List.length_replicate]
  · intro i h1 h2
    rw [half_length] at h2
    by_cases e : i = 0
    · subst e
      rw [List.getElem_set_self]
      simp [half, hb]
    · rw [List.getElem_set_ne (by omega)]
      simp [half, e]

theorem made_false (n : Nat) : madeCells (Value.bool false).cells (n * 1) = (List.replicate n (Value.bool false)).toArray := by
  apply Array.ext
  · simp [size_madeCells]
  · intro i h1 h2
    simp only [madeCells, Value.cells, Array.getElem_map, Array.getElem_range, List.getElem_toArray, List.getElem_replicate]
    show (#[Value.bool false] : Array Value)[i % 1]! = _
    rw [Nat.mod_one]; rfl

theorem run_bools (n : Nat) (hn : n ≤ 1000) (w : World) : (Instr.makeSlice 51 (.int .i64 (n : Int)) (.int .i64 (n : Int))).run Try.prog w = .ok (.slice (some ⟨w.heap.size, 0, none⟩) n n) (w.alloc (.cells (List.replicate n (Value.bool false)).toArray 4)) := by
  obtain ⟨i0, hi, hz0, hz1, hz2⟩ := info_parts info_bool
  have := run_make (P := Try.prog) w 51 4 i0 (.bool false) Try.underlying51 hi hz0 .i64 .i64 (n : Int) (n : Int) (by omega) (Int.le_refl _) (by rw [hz2]; omega) (by omega)
  rw [this, hz1, Int.toNat_natCast, made_false]

theorem run_boolsZ (n : Nat) (hn : n ≤ 1000) : ∃ Z : Array Value, (∀ w, (Instr.makeSlice 51 (.int .i64 (n : Int)) (.int .i64 (n : Int))).run Try.prog w = .ok (.slice (some ⟨w.heap.size, 0, none⟩) n n) (w.alloc (.cells Z 4))) ∧ Z = (List.replicate n (Value.bool false)).toArray := ⟨_, run_bools n hn, rfl⟩

theorem vals_at {w : World} {b o : Nat} {vs : List Value} (h : Vals w (some ⟨b, o, none⟩) vs) {j : Nat} {u : Value} (hj : vs[j]? = some u) : w.cell? ⟨b, o + j, none⟩ = some u := by
  obtain ⟨b', o', he, _, hc⟩ := h j u hj
  injection he with he
  injection he with h1 h2
  subst h1; subst h2; exact hc
theorem vals_lt {w : World} {b o : Nat} {vs : List Value} (h : Vals w (some ⟨b, o, none⟩) vs) {j : Nat} {u : Value} (hj : vs[j]? = some u) : b < w.heap.size := by
  obtain ⟨b', o', he, hl, _⟩ := h j u hj
  injection he with he
  injection he with h1 h2
  subst h1; exact hl
theorem vals_some {w : World} {A : Option Addr} {vs : List Value} (h : Vals w A vs) (h0 : 0 < vs.length) : ∃ b o, A = some ⟨b, o, none⟩ := by
  obtain ⟨b, o, he, _⟩ := h.at_ h0
  exact ⟨b, o, he⟩

/-- One mark of each count. -/
def Marked (l P : List (List UInt8)) (w : World) (e : Ending) (w' : World) : Prop :=
  ∃ g, e = .returned (.slice (some ⟨g, 0, none⟩) (P.length + 1) (P.length + 1)) ∧ w.heap.size ≤ g ∧ Blk w' g 4 (marks l P).toArray ∧ Below w.heap.size w w'

theorem marked_mk {l P : List (List UInt8)} {n : Nat} {w w' : World} {e : Ending} (hn : n = P.length + 1) (g : Nat) (he : e = .returned (.slice (some ⟨g, 0, none⟩) n n)) (hg : w.heap.size ≤ g) (hb : Blk w' g 4 (marks l P).toArray) (hw : Below w.heap.size w w') : Marked l P w e w' := by
  subst hn; exact ⟨g, he, hg, hb, hw⟩
theorem blk_half {w : World} {g : Nat} {l P : List (List UInt8)} {k i : Nat} (h : Blk w g 4 (half l P k).toArray) (hi : i ≤ P.length) : w.cell? ⟨g, i, none⟩ = some (if i ≤ k then .bool (means l (P.take i)) else .bool false) := by
  rw [h.cell i, List.getElem?_toArray]
  exact half_at hi
theorem blk_half_set {w : World} {g : Nat} {l P : List (List UInt8)} {k : Nat} {b : Bool} (h : Blk w g 4 (half l P k).toArray) (hb : means l (P.take (k + 1)) = b) : Blk (w.setCell ⟨g, k + 1, none⟩ (.bool b)) g 4 (half l P (k + 1)).toArray := by
  have := h.set_ (k + 1) (.bool b)
  rwa [List.setIfInBounds_toArray, half_set hb] at this

set_option maxRecDepth 100000 in
set_option maxHeartbeats 4000000 in
theorem onemore_star (A : Option Addr) (n c : Nat) (u : Value) (x : ByteArray) (ys : List ByteArray) (l : List (List UInt8)) (w : World) (hx : L x = [42, 42]) (hn : n = (ys.map L).length + 1) (hl : ys.length ≤ 100)
    (hv : Vals w A (marks l (ys.map L))) (hu : Holds w u ys) :
    Calls Try.prog 42 #[.slice A n c, .string x, u] w (Marked (l ++ [L x]) (ys.map L) w) := by
  obtain ⟨P, hP⟩ : ∃ P, ys.map L = P := ⟨_, rfl⟩
  have hlen : P.length = ys.length := by rw [← hP, List.length_map]
  rw [hP] at hv hn ⊢
  obtain ⟨bM, oM, rfl⟩ := vals_some hv (by rw [marks_length]; omega)
  obtain ⟨A2, c2, rfl, _, hc2, hm2, hv2⟩ := hu
  unfold maxLen at hm2
  obtain ⟨e1, e2⟩ := spell_is hx
  have hM0 : w.cell? ⟨bM, oM, none⟩ = some (.bool (means l (P.take 0))) := vals_at hv (j := 0) (marks_at (Nat.zero_le _))
  have hMl : bM < w.heap.size := vals_lt hv (j := 0) (marks_at (Nat.zero_le _))
  obtain ⟨b0, hb0⟩ : ∃ b0, means l [] = b0 := ⟨_, rfl⟩
  rw [List.take_zero, hb0] at hM0
  have HV := hid hv
  have HV2 := hid hv2
  have HX := hid hx
  obtain ⟨Z, hmk, hZ⟩ := run_boolsZ n (by omega)
  have HZ := hid hZ
  have hZ0 : Z[0]? = some (.bool false) := by rw [hZ, List.getElem?_toArray, List.getElem?_replicate, if_pos (by omega)]
  have HB0 : Hid (means (l ++ [L x]) [] = b0) := hid (by rw [means_snoc_nil, hb0, hx]; simp)
  have HN : Hid (n = P.length + 1) := hid hn
  have HLEN := hid hlen
  have HP := hid hP
  have h0 : 0 < n := by omega
  have hny : ys.length < n := by omega
  have hn2 : n ≤ 101 := by omega
  clear hv hv2 hx hn hb0 hlen hP hZ
  go_enter Try.func42, Try.ntmps42
  go_wp2
  have hstart : Blk (w.alloc (.cells (Z.setIfInBounds 0 (.bool b0)) 4)) w.heap.size 4 (half (l ++ [L x]) P 0).toArray := by
    have := Blk.new w 4 (Z.setIfInBounds 0 (.bool b0))
    rw [HZ.out, List.setIfInBounds_toArray, HN.out, half_start HB0.out] at this
    rw [HZ.out, List.setIfInBounds_toArray, HN.out, half_start HB0.out]
    exact this
  go_loopw [24] (fun i wr => ∃ k : Nat, k ≤ ys.length ∧ i = .int .i64 k ∧ Hid (Blk wr w.heap.size 4 (half (l ++ [L x]) P k).toArray) ∧ Hid (Below w.heap.size w wr)) (fun i _ => ys.length - (intOf i).toNat)
  case atStart => exact ⟨0, Nat.zero_le _, rfl, hid hstart, hid ((Below.refl _ _).alloc (Nat.le_refl _) _)⟩
  case round =>
    obtain ⟨k, hk, rfl, HK, HB⟩ := hrel
    have hbz := HB.out.size
    clear hstart
    by_cases hlt : k < ys.length
    · have hp1 : k < P.length := by rw [HLEN.out]; exact hlt
      obtain ⟨b2, o2, rfl, _, hcell2⟩ := strs_at (HV2.out.below HB.out) hlt
      have hM1 : wr.cell? ⟨bM, oM + (k + 1), none⟩ = some (.bool (means l (P.take (k + 1)))) := vals_at (HV.out.below HB.out) (marks_at (by omega))
      have hk0 : wr.cell? ⟨w.heap.size, k, none⟩ = some (.bool (means (l ++ [L x]) (P.take k))) := by rw [blk_half HK.out (by omega), if_pos (Nat.le_refl _)]
      have hk1 : wr.cell? ⟨w.heap.size, k + 1, none⟩ = some (.bool false) := by rw [blk_half HK.out (by omega), if_neg (by omega)]
      have hfr := HK.out.frozen (k + 1)
      have hst : means (l ++ [L x]) (P.take (k + 1)) = (means l (P.take (k + 1)) || means (l ++ [L x]) (P.take k)) := by rw [HX.out]; exact means_snoc_star l P k hp1
      obtain ⟨m1, hm1⟩ : ∃ m1, means l (P.take (k + 1)) = m1 := ⟨_, rfl⟩
      obtain ⟨m0, hm0⟩ : ∃ m0, means (l ++ [L x]) (P.take k) = m0 := ⟨_, rfl⟩
      rw [hm1] at hM1 hst
      rw [hm0] at hk0 hst
      have HS := hid hst
      clear hst hm1 hm0
      cases m1 with
      | true =>
        go_wp2
        go_roundw
        case rel => exact ⟨k + 1, by omega, by go_num, hid (blk_half_set HK.out HS.out), hid (HB.out.setCell (p := ⟨w.heap.size, k + 1, none⟩) (Nat.le_refl _) _)⟩
        case measure => simp [intOf]; omega
      | false =>
        go_wp2
        go_roundw
        case rel => exact ⟨k + 1, by omega, by go_num, hid (blk_half_set HK.out HS.out), hid (HB.out.setCell (p := ⟨w.heap.size, k + 1, none⟩) (Nat.le_refl _) _)⟩
        case measure => simp [intOf]; omega
    · obtain rfl : k = ys.length := by omega
      have HE : Hid (Blk wr w.heap.size 4 (marks (l ++ [L x]) P).toArray) := hid (by rw [← half_end, HLEN.out]; exact HK.out)
      go_wp2
      go_ret
      exact marked_mk HN.out w.heap.size rfl (Nat.le_refl _) HE.out HB.out

set_option maxRecDepth 100000 in
set_option maxHeartbeats 4000000 in
theorem onemore_part (A : Option Addr) (n c : Nat) (u : Value) (x : ByteArray) (ys : List ByteArray) (l : List (List UInt8)) (w : World) (hx : L x ≠ [42, 42]) (hn : n = (ys.map L).length + 1) (hl : ys.length ≤ 100)
    (hv : Vals w A (marks l (ys.map L))) (hu : Holds w u ys) :
    Calls Try.prog 42 #[.slice A n c, .string x, u] w (Marked (l ++ [L x]) (ys.map L) w) := by
  obtain ⟨P, hP⟩ : ∃ P, ys.map L = P := ⟨_, rfl⟩
  have hlen : P.length = ys.length := by rw [← hP, List.length_map]
  rw [hP] at hv hn ⊢
  obtain ⟨bM, oM, rfl⟩ := vals_some hv (by rw [marks_length]; omega)
  obtain ⟨A2, c2, rfl, _, hc2, hm2, hv2⟩ := hu
  unfold maxLen at hm2
  obtain ⟨e1, e2⟩ := spell hx
  have HV := hid hv
  have HV2 := hid hv2
  have HX := hid hx
  obtain ⟨Z, hmk, hZ⟩ := run_boolsZ n (by omega)
  have HZ := hid hZ
  have hZ0 : Z[0]? = some (.bool false) := by rw [hZ, List.getElem?_toArray, List.getElem?_replicate, if_pos (by omega)]
  have HB0 : Hid (means (l ++ [L x]) [] = false) := hid (by rw [means_snoc_nil, decide_eq_false hx]; rfl)
  have HN : Hid (n = P.length + 1) := hid hn
  have HLEN := hid hlen
  have HP := hid hP
  have h0 : 0 < n := by omega
  have hny : ys.length < n := by omega
  have hn2 : n ≤ 101 := by omega
  clear hv hv2 hx hn hlen hP hZ
  go_enter Try.func42, Try.ntmps42
  go_wp2
  have hstart : Blk (w.alloc (.cells (Z.setIfInBounds 0 (.bool false)) 4)) w.heap.size 4 (half (l ++ [L x]) P 0).toArray := by
    have := Blk.new w 4 (Z.setIfInBounds 0 (.bool false))
    rw [HZ.out, List.setIfInBounds_toArray, HN.out, half_start HB0.out] at this
    rw [HZ.out, List.setIfInBounds_toArray, HN.out, half_start HB0.out]
    exact this
  go_loopw [24] (fun i wr => ∃ k : Nat, k ≤ ys.length ∧ i = .int .i64 k ∧ Hid (Blk wr w.heap.size 4 (half (l ++ [L x]) P k).toArray) ∧ Hid (Below w.heap.size w wr)) (fun i _ => ys.length - (intOf i).toNat)
  case atStart => exact ⟨0, Nat.zero_le _, rfl, hid hstart, hid ((Below.refl _ _).alloc (Nat.le_refl _) _)⟩
  case round =>
    obtain ⟨k, hk, rfl, HK, HB⟩ := hrel
    have hbz := HB.out.size
    clear hstart
    by_cases hlt : k < ys.length
    · have hp1 : k < P.length := by rw [HLEN.out]; exact hlt
      obtain ⟨b2, o2, rfl, _, hcell2⟩ := strs_at (HV2.out.below HB.out) hlt
      have hM1 : wr.cell? ⟨bM, oM + k, none⟩ = some (.bool (means l (P.take k))) := vals_at (HV.out.below HB.out) (marks_at (by omega))
      have hk1 : wr.cell? ⟨w.heap.size, k + 1, none⟩ = some (.bool false) := by rw [blk_half HK.out (by omega), if_neg (by omega)]
      have hfr := HK.out.frozen (k + 1)
      obtain ⟨y, hy⟩ : ∃ y, ys[k] = y := ⟨_, rfl⟩
      have hst : means (l ++ [L x]) (P.take (k + 1)) = ((decide (L x = [42]) || decide (x = y)) && means l (P.take k)) := by
        rw [means_snoc HX.out l P k hp1]
        congr 2
        refine decide_eq_decide.2 ?_
        have : P[k] = L y := by simp only [← HP.out, List.getElem_map, hy]
        rw [this]; exact L_inj
      rw [hy] at hcell2
      obtain ⟨m1, hm1⟩ : ∃ m1, means l (P.take k) = m1 := ⟨_, rfl⟩
      rw [hm1] at hM1 hst
      clear hm1 hy
      by_cases hs : L x = [42]
      · obtain ⟨e3, e4⟩ := spell_is hs
        have HS : Hid (means (l ++ [L x]) (P.take (k + 1)) = m1) := hid (by rw [hst, decide_eq_true hs]; rfl)
        clear hst hs
        have e5 : (x.toList == [42, 42]) = false := by rw [e4]; decide
        clear e1 e2
        go_wp2
        go_roundw
        case rel => exact ⟨k + 1, by omega, by go_num, hid (blk_half_set HK.out HS.out), hid (HB.out.setCell (p := ⟨w.heap.size, k + 1, none⟩) (Nat.le_refl _) _)⟩
        case measure => simp [intOf]; omega
      · obtain ⟨e3, e4⟩ := spell hs
        by_cases hxy : x = y
        · subst hxy
          have HS : Hid (means (l ++ [L x]) (P.take (k + 1)) = m1) := hid (by rw [hst]; simp)
          clear hst hs
          go_wp2
          go_roundw
          case rel => exact ⟨k + 1, by omega, by go_num, hid (blk_half_set HK.out HS.out), hid (HB.out.setCell (p := ⟨w.heap.size, k + 1, none⟩) (Nat.le_refl _) _)⟩
          case measure => simp [intOf]; omega
        · obtain ⟨e5, e6, e7⟩ := spell_ne hxy
          have HS : Hid (means (l ++ [L x]) (P.take (k + 1)) = false) := hid (by rw [hst, decide_eq_false hs, decide_eq_false hxy]; rfl)
          clear hst hs hxy
          go_wp2
          go_roundw
          case rel => exact ⟨k + 1, by omega, by go_num, hid (by rw [← half_skip HS.out]; exact HK.out), HB⟩
          case measure => simp [intOf]; omega
    · obtain rfl : k = ys.length := by omega
      have HE : Hid (Blk wr w.heap.size 4 (marks (l ++ [L x]) P).toArray) := hid (by rw [← half_end, HLEN.out]; exact HK.out)
      go_wp2
      go_ret
      exact marked_mk HN.out w.heap.size rfl (Nat.le_refl _) HE.out HB.out

theorem onemore_any (A : Option Addr) (n c : Nat) (u : Value) (x : ByteArray) (ys : List ByteArray) (l : List (List UInt8)) (w : World) (hn : n = (ys.map L).length + 1) (hl : ys.length ≤ 100)
    (hv : Vals w A (marks l (ys.map L))) (hu : Holds w u ys) :
    Calls Try.prog 42 #[.slice A n c, .string x, u] w (Marked (l ++ [L x]) (ys.map L) w) := by
  by_cases hx : L x = [42, 42]
  · exact onemore_star A n c u x ys l w hx hn hl hv hu
  · exact onemore_part A n c u x ys l w hx hn hl hv hu

end Go.Proofs.Ytbnhkpceihfalaa
