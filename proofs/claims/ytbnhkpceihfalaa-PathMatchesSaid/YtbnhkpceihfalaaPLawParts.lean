/-
  Contracts of the law's own parts and pattern.
-/
import Derived.Test.YtbnhkpceihfalaaPMeans
import Derived.RegionTactic
namespace Go.Proofs.Ytbnhkpceihfalaa
open Go.ChangeShapes Go.WideShapes Go.ChangeAt Go.RowKit

/-- A store into a row of the call's own. -/
theorem own_set {w : World} {base g cap n k : Nat} {e : TypeId} {xs : List Value} (h : w.ownsRow base e 1 (.slice (some ⟨g, 0, none⟩) n cap) n xs) (u : Value) :
    (w.setCell ⟨g, k, none⟩ u).ownsRow base e 1 (.slice (some ⟨g, 0, none⟩) n cap) n (xs.set k u) := by
  obtain ⟨h1, h2⟩ := h
  refine ⟨by rw [List.length_set]; exact h1, ?_⟩
  rcases h2 with ⟨h2, _⟩ | ⟨g', cap', cur, he, hb, hg, hc, hm, hs, ht⟩
  · cases h2
  · injection he with he1 he2 he3
    injection he1 with he1
    injection he1 with he1
    subst he1; subst he3
    refine .inr ⟨g, cap, cur.setIfInBounds k u, rfl, hb, Blk.set_ (t := e) hg k u, hc, hm, by simpa using hs, ?_⟩
    rw [Array.toList_setIfInBounds, List.take_set, ht]

theorem own_cell {w : World} {base g cap n k : Nat} {e : TypeId} {xs : List Value} (h : w.ownsRow base e 1 (.slice (some ⟨g, 0, none⟩) n cap) n xs) (hk : k < xs.length) : w.cell? ⟨g, k, none⟩ = some xs[k] ∧ w.frozen? ⟨g, k, none⟩ = false ∧ base ≤ g ∧ g < w.heap.size ∧ cap ≤ maxLen := by
  have hl := h.1
  rcases h.2 with ⟨h2, _⟩ | ⟨g', cap', cur, he, hb, hg, hc, hm, hs, ht⟩
  · cases h2
  · injection he with he1 he2 he3
    injection he1 with he1
    injection he1 with he1
    subst he1; subst he3
    have hB : Blk w g e cur := hg
    refine ⟨?_, hB.frozen k, hb, hB.lt, hm⟩
    rw [hB.cell k, ← Array.getElem?_toList]
    have : (cur.toList.take (n * 1))[k]? = some xs[k] := by rw [ht]; exact List.getElem?_eq_getElem hk
    rw [List.getElem?_take] at this
    split at this
    · exact this
    · cases this

/-- What is known at the head of a round: k bytes are gone through. -/
def Upto (s : ByteArray) (ys : List ByteArray) (r : ByteArray) (k : Nat) : Prop := clean (L r) ∧ ys.map L ++ pieces (L r ++ (L s).drop k) = pieces (L s) ∧ ys.length ≤ k ∧ r.size ≤ k
theorem upto_start (s : ByteArray) : Upto s [] ⟨#[]⟩ 0 := ⟨(fun _ hc => nomatch hc), rfl, Nat.le_refl _, Nat.le_refl _⟩
theorem upto_keep {s r : ByteArray} {ys : List ByteArray} {k : Nat} (h : Upto s ys r k) (hk : k < s.size) (h47 : s[k]'hk ≠ 47) : Upto s ys (r ++ s.extract k (k + 1)) (k + 1) := by
  obtain ⟨hc, hp, h1, h2⟩ := h
  obtain ⟨a, b⟩ := step_keep hc hk h47
  refine ⟨a, by rw [b]; exact hp, by omega, ?_⟩
  rw [ByteArray.size_append, ByteArray.size_extract]
  omega
theorem upto_cut {s r : ByteArray} {ys : List ByteArray} {k : Nat} (h : Upto s ys r k) (hk : k < s.size) (h47 : s[k]'hk = 47) : Upto s (ys ++ [r]) ⟨#[]⟩ (k + 1) := by
  obtain ⟨hc, hp, h1, h2⟩ := h
  refine ⟨(fun _ hc => nomatch hc), ?_, by rw [List.length_append]; simp; omega, Nat.zero_le _⟩
  rw [step_cut hc hk h47] at hp
  rw [← hp, List.map_append]
  simp only [List.map_cons, List.map_nil, List.append_assoc, List.singleton_append]
  rfl
theorem upto_end {s r : ByteArray} {ys : List ByteArray} {k : Nat} (h : Upto s ys r k) (hk : ¬ k < s.size) : (ys ++ [r]).map L = pieces (L s) := by
  obtain ⟨hc, hp, _⟩ := h
  rw [step_end hc hk] at hp
  rw [← hp, List.map_append]
  rfl

set_option maxRecDepth 100000 in
set_option maxHeartbeats 4000000 in
theorem lawparts_any (s : ByteArray) (w : World) (hs : s.size ≤ 900) : Calls Try.prog 28 #[.string s] w (Gets (pieces (L s)) w) := by
  obtain ⟨i0, hi, hz0, hz1, hz2⟩ := info_parts info_str
  go_enter Try.func28, Try.ntmps28
  go_wp2
  have ho0 : (w.alloc (.cells #[.string ⟨#[]⟩] 9)).ownsRow w.heap.size 9 1 (.slice (some ⟨w.heap.size, 0, none⟩) 1 1) 1 (strs [⟨#[]⟩]) := World.ownsRow_lit w #[.string ⟨#[]⟩] 1 (Nat.le_refl _) (by decide) rfl
  go_loopw [3, 8] (fun v i wr => ∃ (ys : List ByteArray) (r : ByteArray) (k g c : Nat), k ≤ s.size ∧ i = .int .i64 k ∧ v = .slice (some ⟨g, 0, none⟩) (ys.length + 1) c ∧ Hid (wr.ownsRow w.heap.size 9 1 (.slice (some ⟨g, 0, none⟩) (ys.length + 1) c) (ys.length + 1) (strs (ys ++ [r]))) ∧ Hid (Upto s ys r k) ∧ Hid (Below w.heap.size w wr)) (fun _ i _ => s.size - (intOf i).toNat)
  case atStart => exact ⟨[], ⟨#[]⟩, 0, w.heap.size, 1, Nat.zero_le _, rfl, rfl, hid ho0, hid (upto_start s), hid ((Below.refl _ _).alloc (Nat.le_refl _) _)⟩
  case round =>
    obtain ⟨ys, r, k, g, c, hk, rfl, rfl, HO, HU, HB⟩ := hrel
    have hyl : ys.length ≤ 900 := by have := HU.out.2.2.1; omega
    have hrl : r.size ≤ 900 := by have := HU.out.2.2.2; omega
    have hlen : ys.length < (strs (ys ++ [r])).length := by rw [strs_length]; simp
    obtain ⟨hcell, hfr, hbg, hgl, hcm⟩ := own_cell HO.out hlen
    have hlast : (strs (ys ++ [r]))[ys.length] = .string r := by simp [strs]
    rw [hlast] at hcell
    unfold maxLen at hcm
    have hbz := HB.out.size
    clear hlast hlen
    by_cases hlt : k < s.size
    · by_cases h47 : s[k]'hlt = 47
      · have hb1 : ((((s[k]'hlt).toNat : Int)) == 47) = true := by rw [h47]; rfl
        have HK := hid (upto_cut HU.out hlt h47)
        clear h47
        go_wp2_with (at_builtin; refine wpList_append_vals rfl (.tmp 15) (.tmp 16) 29 rfl w.heap.size 9 i0 _ 16 Try.underlying29 hi hz0 hz1 hz2 rfl _ (ys.length + 1) (strs (ys ++ [r])) rfl (HO.out.alloc _) _ 1 [.string ⟨#[]⟩] 1 rfl rfl (fun h => nomatch h) (one_str _) (by intro u hu; simp at hu; subst hu; rfl) (by unfold maxLen; omega) (by omega) (by simp; omega) ?_; intro v2 w2 hown2 hg2; have hb2 : Below w.heap.size w w2 := (HB.out.alloc HB.out.size _).grown hg2 (by simp; omega) (fun j hj => (HO.out.lt j hj).1); have HB2 := hid hb2; obtain ⟨g2, c2, rfl⟩ := ownsRow_succ hown2; have HO2 := hid hown2; clear hb2 hg2 hown2)
        go_roundw
        case rel =>
          refine ⟨ys ++ [r], ⟨#[]⟩, k + 1, g2, c2, by omega, by go_num, by rw [List.length_append]; rfl, hid ?_, HK, HB2⟩
          have := HO2.out
          rw [show ([Value.string ⟨#[]⟩] : List Value) = strs [⟨#[]⟩] from rfl, strs_append] at this
          rw [List.length_append]
          exact this
        case measure => simp [intOf]; omega
      · have hb1 : ((((s[k]'hlt).toNat : Int)) == 47) = false := by
          rw [beq_eq_false_iff_ne]
          intro h
          exact h47 (UInt8.toNat_inj.1 (by simpa using (show (s[k]'hlt).toNat = 47 by omega)))
        have HK := hid (upto_keep HU.out hlt h47)
        have hez : (s.extract k (k + 1)).size ≤ 1 := by rw [ByteArray.size_extract]; omega
        clear h47
        go_wp2
        go_region
        go_wp2
        go_roundw
        case rel =>
          refine ⟨ys, r ++ s.extract k (k + 1), k + 1, g, c, by omega, by go_num, rfl, hid ?_, HK, hid (below_drew (HB.out.setCell (p := ⟨g, ys.length, none⟩) hbg _))⟩
          have := own_set (k := ys.length) HO.out (.string (r ++ s.extract k (k + 1)))
          rw [show (strs (ys ++ [r])).set ys.length (.string (r ++ s.extract k (k + 1))) = strs (ys ++ [r ++ s.extract k (k + 1)]) by simp [strs]] at this
          exact this
        case measure => simp [intOf]; omega
    · have HE := hid (upto_end HU.out hlt)
      go_wp2
      go_ret
      exact ⟨_, ys ++ [r], rfl, holds_own HO.out, HE.out, HB.out⟩

theorem right_piece {x : List UInt8} (hc : clean x) (hl : x.length ≤ 64) : right x = isPart x := by
  rw [Bool.eq_iff_iff, right_iff, pieces_one hc]
  simp [hl]

/-- What the law asks of a pattern, part by part. -/
def lawPat (x : List UInt8) : Bool := decide (x = [42]) || decide (x = [42, 42]) || right x
theorem pattern_law (s : ByteArray) : pattern (L s) = ((pieces (L s)).all lawPat && decide ((pieces (L s)).length ≤ 8) && decide (s.size ≤ 64)) := by
  unfold pattern rowOf
  rw [L_length]
  by_cases h : s.size ≤ 64
  · have : (pieces (L s)).all isPat = (pieces (L s)).all lawPat := by
      rw [Bool.eq_iff_iff, List.all_eq_true, List.all_eq_true]
      have key : ∀ x ∈ pieces (L s), isPat x = lawPat x := fun x hx => by
        unfold isPat lawPat
        rw [right_piece (pieces_clean _ x hx) (by have := piece_length _ x hx; rw [L_length] at this; omega)]
      exact ⟨fun h x hx => by rw [← key x hx]; exact h x hx, fun h x hx => by rw [key x hx]; exact h x hx⟩
    rw [this, decide_eq_true h]
    simp
  · rw [decide_eq_false h]; simp

set_option maxRecDepth 100000 in
set_option maxHeartbeats 4000000 in
theorem lawpattern_any (s : ByteArray) (w : World) (hs : s.size ≤ 900) : Calls Try.prog 24 #[.string s] w (Asks (.bool (pattern (L s))) w) := by
  have HPL := hid (pattern_law s)
  go_enter Try.func24, Try.ntmps24
  go_wp2_with fail
  refine (lawparts_any s _ hs).mono ?_
  rintro e w1 ⟨v, ys, rfl, hh, hy, hb⟩
  obtain ⟨A, c, rfl, _, hc, hm, hv⟩ := hh
  unfold maxLen at hm
  have HY := hid hy
  have HV := hid hv
  have HB := hid hb
  have HSZ : Hid (∀ y ∈ ys, y.size ≤ 900) := hid (fun y hx => by
    have h1 : L y ∈ pieces (L s) := by rw [← hy]; exact List.mem_map_of_mem hx
    have h2 := piece_length _ _ h1
    rw [L_length, L_length] at h2
    omega)
  clear hy hv hb
  go_wp2
  go_loopw [10] (fun i wr => ∃ k : Nat, k ≤ ys.length ∧ i = .int .i64 k ∧ Hid (∀ (j : Nat) (hj : j < ys.length), j < k → lawPat (L ys[j]) = true) ∧ Hid (Below w1.heap.size w1 wr)) (fun i _ => ys.length - (intOf i).toNat)
  case atStart => exact ⟨0, Nat.zero_le _, rfl, hid (fun _ _ h => absurd h (Nat.not_lt_zero _)), hid (Below.refl _ _)⟩
  case round =>
    obtain ⟨k, hk, rfl, HE, HW⟩ := hrel
    by_cases hlt : k < ys.length
    · obtain ⟨b, o, rfl, _, hcell⟩ := strs_at (HV.out.below HW.out) hlt
      obtain ⟨x, hx⟩ : ∃ x, ys[k] = x := ⟨_, rfl⟩
      rw [hx] at hcell
      have hxs : x.size ≤ 900 := by rw [← hx]; exact HSZ.out _ (List.getElem_mem hlt)
      have HN : Hid (lawPat (L x) = true → ∀ (j : Nat) (hj : j < ys.length), j < k + 1 → lawPat (L ys[j]) = true) := hid (fun h j hj hjk => by
        by_cases e : j = k
        · subst e; rw [hx]; exact h
        · exact HE.out j hj (by omega))
      have HF : Hid (lawPat (L x) = false → pattern (L s) = false) := hid (fun h => by
        rw [HPL.out]
        have : (pieces (L s)).all lawPat = false := by
          rw [← Bool.not_eq_true, List.all_eq_true]
          intro h'
          have := h' (L x) (by rw [← HY.out, ← hx]; exact List.mem_map_of_mem (List.getElem_mem hlt))
          rw [h] at this; cases this
        rw [this]; rfl)
      clear hx
      by_cases h1 : L x = [42]
      · obtain ⟨e1, e2⟩ := spell_is h1
        have HQ := hid (HN.out (by unfold lawPat; rw [h1]; rfl))
        clear h1
        go_wp2
        go_roundw
        case rel => exact ⟨k + 1, by omega, by go_num, HQ, HW⟩
        case measure => simp [intOf]; omega
      · obtain ⟨e1, e2⟩ := spell h1
        by_cases h2 : L x = [42, 42]
        · obtain ⟨e3, e4⟩ := spell_is h2
          have HQ := hid (HN.out (by unfold lawPat; rw [h2]; rfl))
          clear h1 h2 e1 e2
          have e1 : (x.toList == [42]) = false := by rw [e4]; decide
          go_wp2
          go_roundw
          case rel => exact ⟨k + 1, by omega, by go_num, HQ, HW⟩
          case measure => simp [intOf]; omega
        · obtain ⟨e3, e4⟩ := spell h2
          have HL : Hid (lawPat (L x) = right (L x)) := hid (by unfold lawPat; rw [decide_eq_false h1, decide_eq_false h2]; rfl)
          clear h1 h2
          cases hr : right (L x) with
          | true =>
            have HR := hid hr
            have HQ := hid (HN.out (HL.out.trans hr))
            clear hr
            go_wp2_with fail
            with_reducible refine (refright_any x _ hxs).mono ?_
            rintro e w2 ⟨rfl, hb⟩
            rw [HR.out]
            have HW2 := hid (below_on HW.out hb)
            clear hb
            go_wp2
            go_roundw
            case rel => exact ⟨k + 1, by omega, by go_num, HQ, HW2⟩
            case measure => simp [intOf]; omega
          | false =>
            have HR := hid hr
            have HQ := hid (HF.out (HL.out.trans hr))
            clear hr
            go_wp2_with fail
            with_reducible refine (refright_any x _ hxs).mono ?_
            rintro e w2 ⟨rfl, hb⟩
            rw [HR.out]
            have HW2 := hid (below_on HB.out (below_on HW.out hb))
            clear hb
            go_wp2
            go_ret
            exact ⟨ret_bool HQ.out.symm, HW2.out⟩
    · have hall : (pieces (L s)).all lawPat = true := by
        rw [List.all_eq_true, ← HY.out]
        intro x hx
        obtain ⟨y, hy, rfl⟩ := List.mem_map.1 hx
        obtain ⟨j, hj, rfl⟩ := List.getElem_of_mem hy
        exact HE.out j hj (by omega)
      have HQ : Hid (pattern (L s) = (decide ((ys.length : Int) ≤ 8) && decide ((s.size : Int) ≤ 64))) := hid (by
        rw [HPL.out, hall, ← HY.out, List.length_map, Bool.true_and]
        congr 1
        · exact decide_eq_decide.2 (by omega)
        · exact decide_eq_decide.2 (by omega))
      have HW2 := hid (below_on HB.out HW.out)
      clear hall
      by_cases h8 : ys.length ≤ 8
      · go_wp2
        go_ret
        exact ⟨ret_bool (by rw [HQ.out, decide_eq_true (show (ys.length : Int) ≤ 8 by omega)]; simp), HW2.out⟩
      · go_wp2
        go_ret
        exact ⟨ret_bool (by rw [HQ.out, decide_eq_false (show ¬ (ys.length : Int) ≤ 8 by omega)]; rfl), HW2.out⟩

end Go.Proofs.Ytbnhkpceihfalaa
