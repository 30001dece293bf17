/-
  Contracts of moothillref04.Join, Normal, Right.
-/
import Derived.Test.YtgjbhlianlbflaaGreatPRefP
namespace Go.Proofs.YtgjbhlianlbflaaGreat
open Go.ChangeShapes Go.WideShapes Go.ChangeAt Go.RowKit

/-- The first k with a slash between, as the loop builds it. -/
def joinK (l : List (List UInt8)) (k : Nat) : List UInt8 := join (l.take k)
theorem joinK_succ {l : List (List UInt8)} {k : Nat} (h : k < l.length) : joinK l (k + 1) = (if 0 < k then joinK l k ++ [47] else []) ++ l[k] := by
  unfold joinK
  rw [List.take_succ_eq_append_getElem h]
  by_cases h0 : 0 < k
  · rw [if_pos h0, join_append (by intro h1; have := congrArg List.length h1; rw [List.length_take, List.length_nil] at this; omega) (by simp), join_one]; simp
  · obtain rfl : k = 0 := by omega
    simp [join]
theorem joinK_all (l : List (List UInt8)) : joinK l l.length = join l := by unfold joinK; rw [List.take_length]
theorem joinK_le (l : List (List UInt8)) (m : Nat) (hm : ∀ x ∈ l, x.length ≤ m) : ∀ k, k ≤ l.length → (joinK l k).length ≤ k * (m + 1) := by
  intro k
  induction k with
  | zero => intro _; simp [joinK, join]
  | succ k ih =>
    intro hk
    rw [joinK_succ (by omega)]
    have h1 := ih (by omega)
    have h2 := hm _ (List.getElem_mem (show k < l.length by omega))
    have h3 : (k + 1) * (m + 1) = k * (m + 1) + (m + 1) := Nat.succ_mul _ _
    split <;> simp <;> omega

/-- A text of bytes. -/
def TellsL (l : List UInt8) (w : World) (e : Ending) (w' : World) : Prop := ∃ r : ByteArray, e = .returned (.string r) ∧ L r = l ∧ Below w.heap.size w w'

theorem L_snoc (s : ByteArray) (c : UInt8) : L (s ++ ⟨#[c]⟩) = L s ++ [c] := by rw [L_append]; rfl

set_option maxRecDepth 100000 in
set_option maxHeartbeats 1000000 in
theorem refjoin_any (v : Value) (xs : List ByteArray) (w : World) (hx : Holds w v xs) (hn : xs.length ≤ 1000) (hz : ∀ x ∈ xs, x.size ≤ 1100000) : Calls Tryz.prog 92 #[v] w (TellsL (join (xs.map L)) w) := by
  obtain ⟨A, c, rfl, hA, hc, hm, hv⟩ := hx
  have HV := hid hv
  have HZ := hid hz
  have HJ := hid (joinK_le (xs.map L) 1100000 (by intro x hx; obtain ⟨y, hy, rfl⟩ := List.mem_map.1 hx; rw [L_length]; exact hz y hy))
  clear hv hA hz
  go_enter Tryz.func92, Tryz.ntmps92
  go_wp2
  go_loop [3, 4] (fun s i => ∃ (r : ByteArray) (k : Nat), k ≤ xs.length ∧ i = .int .i64 k ∧ s = .string r ∧ Hid (L r = joinK (xs.map L) k)) (fun _ i => xs.length - (intOf i).toNat)
  case atStart => exact ⟨_, 0, Nat.zero_le _, rfl, rfl, hid rfl⟩
  case round =>
    obtain ⟨r, k, hk, rfl, rfl, H⟩ := hrel
    by_cases hlt : k < xs.length
    · obtain ⟨b, o, rfl, hb, hcell⟩ := strs_at HV.out hlt
      have HS := hid (joinK_succ (l := xs.map L) (k := k) (by simpa using hlt))
      have h2 : (k : Int) < xs.length := by omega
      have hz1 : xs[k].size ≤ 1100000 := HZ.out _ (List.getElem_mem hlt)
      have hz2 : r.size ≤ 1100001000 := by
        have h := HJ.out k (by simp; omega)
        rw [← H.out, L_length] at h
        omega
      by_cases h0 : 0 < k
      all_goals
        go_wp2
        go_round
        case rel =>
          refine ⟨_, k + 1, by omega, by go_num, rfl, hid ?_⟩
          rw [HS.out]
          first
            | rw [if_pos h0, L_append, L_snoc, H.out]; simp
            | (rw [if_neg h0, L_append, H.out]; obtain rfl : k = 0 := by omega
               simp [joinK, join])
        case measure => simp [intOf]; omega
    · obtain rfl : k = xs.length := by omega
      go_wp2
      go_ret
      exact ⟨r, rfl, by rw [H.out, ← joinK_all (xs.map L), List.length_map], Below.refl _ _⟩

/-- A text's path and an error. -/
def Norms (n : List UInt8 × Nat) (w : World) (e : Ending) (w' : World) : Prop := ∃ r : ByteArray, e = .returned (.tuple #[.string r, .int .i64 (n.2 : Int)]) ∧ L r = n.1 ∧ Below w.heap.size w w'

theorem norms_mk {n : List UInt8 × Nat} {l : List UInt8} {k : Nat} {w w' : World} {e : Ending} (h : n = (l, k)) (r : ByteArray) (hr : L r = l) (he : e = .returned (.tuple #[.string r, .int .i64 (k : Int)])) (hb : Below w.heap.size w w') : Norms n w e w' := by
  subst h; exact ⟨r, he, hr, hb⟩

theorem takes_size {s : ByteArray} {ys : List ByteArray} (h : takes [] (pieces (L s)) = some (ys.map L)) : ∀ y ∈ ys, y.size ≤ s.size := by
  intro y hy
  rcases takes_mem h (L y) (List.mem_map_of_mem hy) with h | h
  · cases h
  · have := piece_length _ _ h
    rwa [L_length, L_length] at this

set_option maxRecDepth 100000 in
set_option maxHeartbeats 1000000 in
theorem refnormal_big (s : ByteArray) (w : World) (hs : s.size ≤ 1100000) : Calls Tryz.prog 66 #[.string s] w (Norms (normal (L s)) w) := by
  go_enter Tryz.func66, Tryz.ntmps66
  go_wp2_with fail
  refine (refparts_any s _ (by omega)).mono ?_
  rintro e w1 ⟨hb, ⟨ht, rfl⟩ | ⟨v, ys, rfl, hh, ht, hl⟩⟩
  · have HN : Hid (normal (L s) = ([], 30)) := hid (by unfold normal; rw [ht])
    have HB := hid hb
    clear hb ht
    go_wp2
    go_ret2
    exact norms_mk HN.out ⟨#[]⟩ rfl rfl HB.out
  · have HN : Hid (normal (L s) = finish (ys.map L)) := hid (by unfold normal; rw [ht])
    have hz := takes_size ht
    have HZ : Hid (∀ y ∈ ys, y.size ≤ 1100000) := hid (fun y hy => Nat.le_trans (hz y hy) (by omega))
    have HB := hid hb
    have HH := hid hh
    clear hb ht hz
    obtain ⟨A, c, rfl, -⟩ := hh
    have hlen : (ys.map L).length = ys.length := List.length_map ..
    by_cases h0 : ys = []
    · subst h0
      have H : Hid (finish ([] : List (List UInt8)) = ([], 13)) := hid rfl
      go_wp2
      go_ret2
      exact norms_mk HN.out ⟨#[]⟩ rfl rfl HB.out
    · have hpos : 0 < ys.length := List.length_pos_iff.2 h0
      have hne : (ys.map L) ≠ [] := by simpa using h0
      have e0 : ((ys.length : Int) == 0) = false := by simp; exact h0
      by_cases h8 : 8 < ys.length
      · have H : Hid (finish (ys.map L) = ([], 31)) := hid (by unfold finish; rw [if_neg hne, hlen, if_pos h8])
        clear hlen hne h0
        go_wp2
        go_ret2
        exact norms_mk (HN.out.trans H.out) ⟨#[]⟩ rfl rfl HB.out
      · by_cases h64 : 64 < (join (ys.map L)).length
        · have H : Hid (finish (ys.map L) = ([], 11)) := hid (by unfold finish; rw [if_neg hne, hlen, if_neg h8, if_pos h64])
          have H64 := hid h64
          clear hlen hne h0 h64
          go_wp2_with fail
          refine (refjoin_any _ ys _ HH.out (by omega) HZ.out).mono ?_
          rintro e w2 ⟨r, rfl, hr, hb2⟩
          have hr64 : 64 < r.size := by rw [← L_length, hr]; exact H64.out
          have HB2 := hid (below_on HB.out hb2)
          clear hr hb2
          go_wp2
          go_ret2
          exact norms_mk (HN.out.trans H.out) ⟨#[]⟩ rfl rfl HB2.out
        · have H : Hid (finish (ys.map L) = (join (ys.map L), 0)) := hid (finish_ok hne (by omega) (by omega))
          have H64 := hid h64
          clear hlen hne h0 h64
          go_wp2_with fail
          refine (refjoin_any _ ys _ HH.out (by omega) HZ.out).mono ?_
          rintro e w2 ⟨r, rfl, hr, hb2⟩
          have hr64 : r.size ≤ 64 := by rw [← L_length, hr]; have := H64.out; omega
          have HB2 := hid (below_on HB.out hb2)
          have HH2 := hid (HH.out.below hb2)
          clear hr hb2
          go_wp2_with fail
          refine (refjoin_any _ ys _ HH2.out (by omega) HZ.out).mono ?_
          rintro e w3 ⟨r2, rfl, hr2, hb3⟩
          have HB3 := hid (below_on HB2.out hb3)
          have HR := hid hr2
          clear hr2 hb3
          go_wp2
          go_ret2
          exact norms_mk (HN.out.trans H.out) r2 HR.out rfl HB3.out

set_option maxRecDepth 100000 in
theorem refright_big (s : ByteArray) (w : World) (hs : s.size ≤ 1100000) : Calls Tryz.prog 39 #[.string s] w (Asks (.bool (right (L s))) w) := by
  have hr : right (L s) = decide ((normal (L s)).2 = 0 ∧ (normal (L s)).1 = L s) := by
    rw [right_eq]
    exact decide_eq_decide.2 ⟨fun h => by rw [h]; exact ⟨rfl, rfl⟩, fun h => Prod.ext h.2 h.1⟩
  by_cases h0 : (normal (L s)).2 = 0
  · have HR : Hid (right (L s) = decide ((normal (L s)).1 = L s)) := hid (by rw [hr]; exact decide_eq_decide.2 ⟨fun h => h.2, fun h => ⟨h0, h⟩⟩)
    have H0 := hid h0
    clear h0 hr
    go_enter Tryz.func39, Tryz.ntmps39
    go_wp2_with fail
    refine (refnormal_big s _ hs).mono ?_
    rintro e w1 ⟨r, rfl, hr, hb⟩
    rw [H0.out]
    have HB := hid hb
    have H := hid hr
    clear hb hr
    go_wp2
    go_ret
    exact ⟨ret_bool (by rw [HR.out, ← H.out, toList_L, toList_L, Bool.eq_iff_iff]; simp), HB.out⟩
  · have HR : Hid (right (L s) = false) := hid (by rw [hr]; exact decide_eq_false (fun h => h0 h.1))
    obtain ⟨k, hk⟩ : ∃ k : Nat, (normal (L s)).2 = k := ⟨_, rfl⟩
    rw [hk] at h0
    have e0 : ((k : Int) == 0) = false := by simpa using h0
    have HK := hid hk
    clear hk h0 hr
    go_enter Tryz.func39, Tryz.ntmps39
    go_wp2_with fail
    refine (refnormal_big s _ hs).mono ?_
    rintro e w1 ⟨r, rfl, hr, hb⟩
    rw [HK.out]
    have HB := hid hb
    clear hb hr
    go_wp2
    go_ret
    exact ⟨ret_bool HR.out.symm, HB.out⟩

theorem refnormal_any (s : ByteArray) (w : World) (hs : s.size ≤ 900) : Calls Tryz.prog 66 #[.string s] w (Norms (normal (L s)) w) := refnormal_big s w (by omega)
theorem refright_any (s : ByteArray) (w : World) (hs : s.size ≤ 900) : Calls Tryz.prog 39 #[.string s] w (Asks (.bool (right (L s))) w) := refright_big s w (by omega)
end Go.Proofs.YtgjbhlianlbflaaGreat
