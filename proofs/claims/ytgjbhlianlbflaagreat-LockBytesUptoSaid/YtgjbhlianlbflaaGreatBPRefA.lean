/-
  Contract of moothillref04.Above.
-/
import Derived.Test.YtgjbhlianlbflaaGreatBPAbove
import Derived.Test.YtgjbhlianlbflaaGreatBVals
import Derived.Laws.AppendOwn
import Derived.OwnWalk
import Derived.Deep.QuietTactic
import Derived.BigQuiet
namespace Go.Proofs.YtgjbhlianlbflaaGreat
open Go.ChangeShapes Go.WideShapes Go.ChangeAt Go.RowKit
theorem info_str : (Tryz.prog.info? 9).map (fun i => (i.zero, i.size, i.bytes)) = some (some (.string ⟨#[]⟩), 1, 16) := by kernel_rfl
theorem one_str {w : World} {x : Value} (E : TypeId) : Vals (w.alloc (.cells #[x] E)) (some ⟨w.heap.size, 0, none⟩) [x] := by
  intro j u hj
  match j, hj with
  | 0, hj =>
    simp at hj; subst hj
    exact ⟨_, _, rfl, by simp, by simp⟩
def Takes1 (xs : List ByteArray) (p : ByteArray) (w : World) (e : Ending) (w' : World) : Prop :=
  Below w.heap.size w w' ∧ ((take1 (xs.map L) (L p) = none ∧ e = .returned (.tuple #[.slice none 0 0, .int .i64 30])) ∨
    ∃ v ys, e = .returned (.tuple #[v, .int .i64 0]) ∧ Holds w' v ys ∧ take1 (xs.map L) (L p) = some (ys.map L) ∧ ys.length ≤ xs.length + 1)
theorem not_empty {p : ByteArray} {l : List UInt8} (h : L p = l) (hl : l ≠ []) : (p.toList.isEmpty = false) ∧ ¬ p.toList = [] := by
  rw [toList_L, h]
  exact ⟨by cases l <;> simp_all, hl⟩
theorem spell {p : ByteArray} {c : List UInt8} (h : L p ≠ c) : (p.toList == c) = false ∧ ¬ p.toList = c := by
  rw [toList_L]
  exact ⟨by simpa using h, h⟩
theorem spell_is {p : ByteArray} {c : List UInt8} (h : L p = c) : (p.toList == c) = true ∧ p.toList = c := by
  rw [toList_L]
  exact ⟨by simpa using h, h⟩
set_option maxRecDepth 100000 in
set_option maxHeartbeats 400000 in
theorem take_none (v : Value) (xs : List ByteArray) (p : ByteArray) (w : World) (hx : Holds w v xs) (h : L p = [] ∨ L p = [46]) : Calls Tryz.prog 116 #[v, .string p] w (Takes1 xs p w) := by
  obtain ⟨A, c, rfl, hA, hc, hm, hv⟩ := hx
  have HT := hid (take1_none (l := xs.map L) h)
  have HV := hid hv
  have HA := hid hA
  clear hA hv
  rcases h with h | h
  · have e1 : p.toList = [] := by rw [toList_L]; exact h
    have e2 : p.toList.isEmpty = true := by rw [e1]; rfl
    clear h
    go_enter Tryz.func116, Tryz.ntmps116
    go_wp2
    go_ret2
    exact ⟨Below.refl _ _, .inr ⟨_, xs, rfl, ⟨A, c, rfl, HA.out, hc, hm, HV.out⟩, HT.out, by omega⟩⟩
  · obtain ⟨e1, e2⟩ := not_empty h (by simp)
    obtain ⟨e3, e4⟩ := spell_is h
    clear h
    go_enter Tryz.func116, Tryz.ntmps116
    go_wp2
    go_ret2
    exact ⟨Below.refl _ _, .inr ⟨_, xs, rfl, ⟨A, c, rfl, HA.out, hc, hm, HV.out⟩, HT.out, by omega⟩⟩
set_option maxRecDepth 100000 in
set_option maxHeartbeats 400000 in
theorem take_up (v : Value) (xs : List ByteArray) (p : ByteArray) (w : World) (hx : Holds w v xs) (h : L p = [46, 46]) : Calls Tryz.prog 116 #[v, .string p] w (Takes1 xs p w) := by
  obtain ⟨A, c, rfl, hA, hc, hm, hv⟩ := hx
  obtain ⟨i0, hi, hz0, hz1, hz2⟩ := info_parts info_str
  obtain ⟨e1, e2⟩ := not_empty h (by simp)
  obtain ⟨e3, e4⟩ := spell_is h
  have e5 : (p.toList == [46]) = false := by rw [e4]; decide
  have HT := hid (take1_up (l := xs.map L))
  have HP := hid h
  clear h e4
  by_cases h0 : xs = []
  · subst h0
    clear hA hv hc hm hi hz0 hz1 hz2
    go_enter Tryz.func116, Tryz.ntmps116
    go_wp2
    go_ret2
    exact ⟨Below.refl _ _, .inl ⟨by rw [HP.out, HT.out]; rfl, rfl⟩⟩
  · have hpos : 0 < xs.length := List.length_pos_iff.2 h0
    obtain ⟨n, hn⟩ : ∃ n, xs.length = n + 1 := ⟨xs.length - 1, by omega⟩
    obtain ⟨A1, r1, g1, s1⟩ := vals_front (P := Tryz.prog) 92 9 i0 Tryz.underlying92 hi (k := n) (n := xs.length) (by omega) hc hv hA
    rw [strs_take] at s1
    rw [hn] at r1 hc
    have HN := hid hn
    have HG := hid g1
    have HS := hid s1
    rw [hn]
    unfold maxLen at hm
    have hlt : n + 1 ≤ 9223372036854775807 := by omega
    have hp2 : 0 < n + 1 := by omega
    clear hA hv hi hz0 hz1 hz2 hn g1 s1 hpos
    go_enter Tryz.func116, Tryz.ntmps116
    go_wp2
    go_ret2
    have hl : (xs.take n).length = n := by rw [List.length_take, HN.out]; omega
    refine ⟨Below.refl _ _, .inr ⟨.slice A1 n c, xs.take n, rfl, ⟨A1, c, by rw [hl], HG.out, by rw [hl]; omega, by unfold maxLen; omega, HS.out⟩, ?_, by rw [hl, HN.out]; omega⟩⟩
    rw [HP.out, HT.out, if_neg (by simpa using h0), List.dropLast_eq_take, List.length_map, HN.out, List.map_take]
    simp
theorem isPart_bad {p : ByteArray} {k : Nat} (h : k < p.size) (hl : letterI ((p[k]'h).toNat : Int) = false) : isPart (L p) = false :=
  isPart_fail h (by rw [← letterI_u8]; exact hl)
theorem isPart_good {p : ByteArray} (h0 : L p ≠ []) (h : ∀ (j : Nat) (hj : j < p.size), letterI ((p[j]'hj).toNat : Int) = true) : isPart (L p) = true := by
  rw [isPart_all (fun j hj => by rw [← letterI_u8]; exact h j hj)]
  cases h : L p <;> simp_all
set_option maxRecDepth 100000 in
set_option maxHeartbeats 1000000 in
theorem take_part (v : Value) (xs : List ByteArray) (p : ByteArray) (w : World) (hx : Holds w v xs) (h1 : ¬ (L p = [] ∨ L p = [46])) (h2 : L p ≠ [46, 46]) (hp : p.size ≤ 9223372036854775807) (hlen : xs.length ≤ 1200000) :
    Calls Tryz.prog 116 #[v, .string p] w (Takes1 xs p w) := by
  obtain ⟨A, c, rfl, hA, hc, hm, hv⟩ := hx
  obtain ⟨i0, hi, hz0, hz1, hz2⟩ := info_parts info_str
  have h0 : L p ≠ [] := fun h => h1 (.inl h)
  obtain ⟨e1, e2⟩ := not_empty (p := p) rfl h0
  obtain ⟨e3, e4⟩ := spell (c := [46]) (p := p) (fun h => h1 (.inr h))
  obtain ⟨e5, e6⟩ := spell h2
  have HV := hid hv
  have HA := hid hA
  have H1 := hid h1
  have H2 := hid h2
  have H0 := hid h0
  clear h1 h2 h0 hv hA
  go_enter Tryz.func116, Tryz.ntmps116
  go_wp2
  go_loop [6] (fun i => ∃ k : Nat, k ≤ p.size ∧ i = .int .i64 k ∧ Hid (∀ (j : Nat) (hj : j < p.size), j < k → letterI ((p[j]'hj).toNat : Int) = true)) (fun i => p.size - (intOf i).toNat)
  case atStart => exact ⟨0, Nat.zero_le _, rfl, hid (fun j _ h => absurd h (Nat.not_lt_zero _))⟩
  case round =>
    obtain ⟨k, hk, rfl, H⟩ := hrel
    by_cases hlt : k < p.size
    · cases hl : letterI ((p[k]'hlt).toNat : Int) with
      | true =>
        have HL := hid hl
        clear hl
        go_wp2_with (go_at_call 142; refine (letter_any _ _).mono ?_; rintro e w' ⟨rfl, rfl⟩; rw [HL.out])
        go_round
        case rel =>
          refine ⟨k + 1, by omega, by go_num, hid (fun j hj hjk => ?_)⟩
          by_cases hjp : j = k
          · subst hjp; exact HL.out
          · exact H.out j hj (by omega)
        case measure => simp [intOf]; omega
      | false =>
        have HL := hid hl
        clear hl
        go_wp2_with (go_at_call 142; refine (letter_any _ _).mono ?_; rintro e w' ⟨rfl, rfl⟩; rw [HL.out])
        go_ret2
        exact ⟨Below.refl _ _, .inl ⟨take1_bad H1.out H2.out (isPart_bad hlt HL.out), rfl⟩⟩
    · have HG := hid (isPart_good H0.out (fun j hj => H.out j hj (by omega)))
      go_wp2_with (first
        | (at_builtin; refine wpList_append_vals rfl (.tmp 36) (.tmp 37) 92 rfl w.heap.size 9 i0 _ 16 Tryz.underlying92 hi hz0 hz1 hz2 rfl _ 0 [] rfl (World.ownsRow_nil _ _ _ _) A c (strs xs) xs.length (strs_length xs) rfl HA.out HV.out (strs_one xs) (by unfold maxLen; omega) (by omega) (Nat.le_refl _) ?_; intro v1 w1 hown1 hg1; simp only [Nat.zero_add, List.nil_append] at hown1; have hb1 : Below w.heap.size w w1 := (Below.refl _ _).grown hg1 (Nat.le_refl _) (fun k hk => nomatch hk); have z1 := hb1.size; have HB1 := hid hb1; clear hb1 hg1)
        | (at_builtin; refine wpList_append_vals rfl (.tmp 39) (.tmp 41) 92 rfl w.heap.size 9 i0 _ 16 Tryz.underlying92 hi hz0 hz1 hz2 rfl _ xs.length (strs xs) rfl (hown1.alloc _) _ 1 [.string p] 1 rfl rfl (fun h => nomatch h) (one_str _) (by intro u hu; simp at hu; subst hu; rfl) (by unfold maxLen; omega) (by omega) (by simp; omega) ?_; intro v2 w2 hown2 hg2; have hb2 : Below w.heap.size w w2 := (HB1.out.alloc z1 _).grown hg2 (by simp; omega) (fun k hk => (hown1.lt k hk).1); have HB2 := hid hb2; have HO := hid hown2; clear hb2 hg2 hown2 hown1))
      go_ret2
      have ho : w2.ownsRow w.heap.size 9 1 v2 (xs.length + 1) (strs (xs ++ [p])) := by
        have := HO.out
        rwa [show ([Value.string p] : List Value) = strs [p] from rfl, strs_append] at this
      exact ⟨HB2.out, .inr ⟨v2, xs ++ [p], rfl, holds_own ho, by rw [take1_part HG.out]; simp, by simp⟩⟩
theorem take_any (v : Value) (xs : List ByteArray) (p : ByteArray) (w : World) (hx : Holds w v xs) (hp : p.size ≤ 9223372036854775807) (hlen : xs.length ≤ 1200000) :
    Calls Tryz.prog 116 #[v, .string p] w (Takes1 xs p w) := by
  by_cases h1 : L p = [] ∨ L p = [46]
  · exact take_none v xs p w hx h1
  · by_cases h2 : L p = [46, 46]
    · exact take_up v xs p w hx h2
    · exact take_part v xs p w hx h1 h2 hp hlen
end Go.Proofs.YtgjbhlianlbflaaGreat
namespace Go.Proofs.YtgjbhlianlbflaaGreat
open Go.ChangeShapes Go.WideShapes Go.ChangeAt Go.RowKit
theorem L_one (s : ByteArray) (k : Nat) (h : k < s.size) : L (s.extract k (k + 1)) = [s[k]'h] := by
  have hl : k < (L s).length := by rw [L_length]; exact h
  rw [L_extract, List.drop_eq_getElem_cons hl]
  simp [L_get s k h]
theorem drop_byte (s : ByteArray) (k : Nat) (h : k < s.size) : (L s).drop k = s[k]'h :: (L s).drop (k + 1) := by
  have hl : k < (L s).length := by rw [L_length]; exact h
  rw [List.drop_eq_getElem_cons hl, L_get s k h]
theorem step_keep {s p : ByteArray} {k : Nat} (hc : clean (L p)) (h : k < s.size) (h47 : s[k]'h ≠ 47) :
    clean (L (p ++ s.extract k (k + 1))) ∧ L (p ++ s.extract k (k + 1)) ++ (L s).drop (k + 1) = L p ++ (L s).drop k := by
  rw [L_append, L_one s k h, drop_byte s k h]
  refine ⟨?_, by simp⟩
  intro c hx
  rcases List.mem_append.1 hx with hx | hx
  · exact hc c hx
  · simp at hx; subst hx; exact h47
theorem step_cut {s p : ByteArray} {k : Nat} (hc : clean (L p)) (h : k < s.size) (h47 : s[k]'h = 47) : pieces (L p ++ (L s).drop k) = L p :: pieces ((L s).drop (k + 1)) := by
  rw [drop_byte s k h, h47, pieces_mid, pieces_one hc]; rfl
theorem step_end {s p : ByteArray} {k : Nat} (hc : clean (L p)) (h : ¬ k < s.size) : pieces (L p ++ (L s).drop k) = [L p] := by
  rw [List.drop_of_length_le (by rw [L_length]; omega), List.append_nil, pieces_one hc]
def PartsOf (s : ByteArray) (w : World) (e : Ending) (w' : World) : Prop :=
  Below w.heap.size w w' ∧ ((takes [] (pieces (L s)) = none ∧ e = .returned (.tuple #[.slice none 0 0, .int .i64 30])) ∨
    ∃ v ys, e = .returned (.tuple #[v, .int .i64 0]) ∧ Holds w' v ys ∧ takes [] (pieces (L s)) = some (ys.map L) ∧ ys.length ≤ s.size + 1)
def Under (s : ByteArray) (xs : List ByteArray) (p : ByteArray) (k : Nat) : Prop :=
  (k ≤ s.size ∧ clean (L p) ∧ takes (xs.map L) (pieces (L p ++ (L s).drop k)) = takes [] (pieces (L s)) ∧ xs.length ≤ k ∧ p.size ≤ k) ∨ (k = s.size + 1 ∧ takes [] (pieces (L s)) = some (xs.map L) ∧ xs.length ≤ k ∧ p.size ≤ k)
theorem under_start (s : ByteArray) : Under s [] ⟨#[]⟩ 0 := .inl ⟨Nat.zero_le _, (fun _ hc => nomatch hc), rfl, Nat.le_refl _, Nat.le_refl _⟩
theorem under_keep {s p : ByteArray} {xs : List ByteArray} {k : Nat} (h : Under s xs p k) (hk : k < s.size) (h47 : s[k]'hk ≠ 47) : Under s xs (p ++ s.extract k (k + 1)) (k + 1) := by
  rcases h with ⟨_, hc, ht, hl, hp⟩ | ⟨h, _⟩
  · obtain ⟨h1, h2⟩ := step_keep hc hk h47
    refine .inl ⟨by omega, h1, by rw [h2]; exact ht, by omega, ?_⟩
    rw [ByteArray.size_append, ByteArray.size_extract]
    omega
  · omega
theorem under_take {s p : ByteArray} {xs ys : List ByteArray} {k : Nat} (h : Under s xs p k) (hle : k ≤ s.size) (hk : (hk : k < s.size) → s[k]'hk = 47) (hl1 : ys.length ≤ xs.length + 1) (ht : take1 (xs.map L) (L p) = some (ys.map L)) : Under s ys ⟨#[]⟩ (k + 1) := by
  rcases h with ⟨_, hc, h, hl, hp⟩ | ⟨h, _⟩
  · by_cases hlt : k < s.size
    · rw [step_cut hc hlt (hk hlt)] at h
      simp only [takes] at h
      rw [ht] at h
      exact .inl ⟨by omega, (fun _ hc => nomatch hc), h, by omega, Nat.zero_le _⟩
    · rw [step_end hc hlt] at h
      simp only [takes] at h
      rw [ht] at h
      exact .inr ⟨by omega, h.symm, by omega, Nat.zero_le _⟩
  · omega
theorem under_fail {s p : ByteArray} {xs : List ByteArray} {k : Nat} (h : Under s xs p k) (hle : k ≤ s.size) (hk : (hk : k < s.size) → s[k]'hk = 47) (ht : take1 (xs.map L) (L p) = none) : takes [] (pieces (L s)) = none := by
  rcases h with ⟨_, hc, h, hl⟩ | ⟨h, _⟩
  · by_cases hlt : k < s.size
    · rw [step_cut hc hlt (hk hlt)] at h
      simp only [takes] at h
      rw [ht] at h
      exact h.symm
    · rw [step_end hc hlt] at h
      simp only [takes] at h
      rw [ht] at h
      exact h.symm
  · omega
theorem under_end {s p : ByteArray} {xs : List ByteArray} {k : Nat} (h : Under s xs p k) (hk : ¬ k ≤ s.size) : takes [] (pieces (L s)) = some (xs.map L) ∧ xs.length ≤ s.size + 1 := by
  rcases h with ⟨h, _⟩ | ⟨h1, h2, h3, _⟩
  · omega
  · exact ⟨h2, by omega⟩
theorem under_len {s p : ByteArray} {xs : List ByteArray} {k : Nat} (h : Under s xs p k) : xs.length ≤ k ∧ k ≤ s.size + 1 ∧ p.size ≤ k := by
  rcases h with ⟨h1, _, _, h2, h3⟩ | ⟨h1, _, h2, h3⟩
  · exact ⟨h2, by omega, h3⟩
  · exact ⟨h2, by omega, h3⟩
set_option maxRecDepth 100000 in
set_option maxHeartbeats 2000000 in
theorem refparts_any (s : ByteArray) (w : World) (hs : s.size ≤ 1100000) : Calls Tryz.prog 91 #[.string s] w (PartsOf s w) := by
  go_enter Tryz.func91, Tryz.ntmps91
  go_wp2
  go_loopw [4, 5, 6, 7] (fun v p _ i wr => ∃ (xs : List ByteArray) (q : ByteArray) (k : Nat), i = .int .i64 k ∧ p = .string q ∧ Hid (Holds wr v xs) ∧ Hid (Under s xs q k) ∧ Hid (Below w.heap.size w wr)) (fun _ _ _ i _ => s.size + 1 - (intOf i).toNat)
  case atStart => exact ⟨[], ⟨#[]⟩, 0, rfl, rfl, hid (Holds.nil _), hid (under_start s), hid (Below.refl _ _)⟩
  case round =>
    obtain ⟨xs, q, k, rfl, rfl, HH, HU, HB⟩ := hrel
    obtain ⟨hl1, hl2, hl3⟩ := under_len HU.out
    by_cases hle : k ≤ s.size
    · by_cases h47 : ∃ hk : k < s.size, s[k]'hk ≠ 47
      · obtain ⟨hk, h47⟩ := h47
        have hb1 : ((((s[k]'hk).toNat : Int)) != 47) = true := by
          rw [bne_iff_ne]
          intro h
          exact h47 (UInt8.toNat_inj.1 (by simpa using (show (s[k]'hk).toNat = 47 by omega)))
        have HK := hid (under_keep HU.out hk h47)
        clear h47
        go_wp2
        go_roundw
        case rel => exact ⟨xs, _, k + 1, by go_num, rfl, HH, HK, HB⟩
        case measure => simp [intOf]; omega
      · have h47' : (hk : k < s.size) → s[k]'hk = 47 := fun hk => Decidable.byContradiction fun h => h47 ⟨hk, h⟩
        have HF := hid (fun ht => under_fail HU.out hle h47' ht)
        have HT := hid (fun ys (h1 : ys.length ≤ xs.length + 1) ht => under_take (ys := ys) HU.out hle h47' h1 ht)
        clear h47
        by_cases hk : k < s.size
        all_goals
          first
            | have hb1 : ((((s[k]'hk).toNat : Int)) != 47) = false := by rw [h47' hk]; rfl
            | skip
          clear h47'
          go_wp2_with fail
          refine (take_any _ xs q _ HH.out (by omega) (by omega)).mono ?_
          rintro e w1 ⟨hb, ⟨ht, rfl⟩ | ⟨v1, ys, rfl, hh, ht, hl⟩⟩
          · have H1 := hid (HB.out.trans (hb.mono HB.out.size))
            have H2 := hid (HF.out ht)
            clear hb ht HF HT
            go_wp2
            go_ret2
            exact ⟨H1.out, .inl ⟨H2.out, rfl⟩⟩
          · have H1 := hid (HB.out.trans (hb.mono HB.out.size))
            have H2 := hid (HT.out ys hl ht)
            have H3 := hid hh
            clear hb ht HF HT hl hh
            go_wp2
            go_roundw
            case rel => exact ⟨ys, _, k + 1, by go_num, rfl, H3, H2, H1⟩
            case measure => simp [intOf]; omega
    · have H := hid (under_end HU.out hle)
      go_wp2
      go_ret2
      exact ⟨HB.out, .inr ⟨_, xs, rfl, HH.out, H.out.1, H.out.2⟩⟩
end Go.Proofs.YtgjbhlianlbflaaGreat
namespace Go.Proofs.YtgjbhlianlbflaaGreat
open Go.ChangeShapes Go.WideShapes Go.ChangeAt Go.RowKit
def joinK (l : List (List UInt8)) (k : Nat) : List UInt8 := join (l.take k)
theorem joinK_succ {l : List (List UInt8)} {k : Nat} (h : k < l.length) : joinK l (k + 1) = (if 0 < k then joinK l k ++ [47] else []) ++ l[k] := by
  unfold joinK
  rw [List.take_succ_eq_append_getElem h]
  by_cases h0 : 0 < k
  · rw [if_pos h0, join_append (by intro h1; have := congrArg List.length h1; rw [List.length_take, List.length_nil] at this; omega) (by simp), join_one]; simp
  · obtain rfl : k = 0 := by omega
    simp [join]
theorem joinK_all (l : List (List UInt8)) : joinK l l.length = join l := by unfold joinK; rw [List.take_length]
theorem joinK_le (l : List (List UInt8)) (m : Nat) (hm : ∀ x ∈ l, x.length ≤ m) : ∀ k, k ≤ l.length → (joinK l k).length ≤ k * (m + 1) := by
  intro k
  induction k with
  | zero => intro _; simp [joinK, join]
  | succ k ih =>
    intro hk
    rw [joinK_succ (by omega)]
    have h1 := ih (by omega)
    have h2 := hm _ (List.getElem_mem (show k < l.length by omega))
    have h3 : (k + 1) * (m + 1) = k * (m + 1) + (m + 1) := Nat.succ_mul _ _
    split <;> simp <;> omega
def TellsL (l : List UInt8) (w : World) (e : Ending) (w' : World) : Prop := ∃ r : ByteArray, e = .returned (.string r) ∧ L r = l ∧ Below w.heap.size w w'
theorem L_snoc (s : ByteArray) (c : UInt8) : L (s ++ ⟨#[c]⟩) = L s ++ [c] := by rw [L_append]; rfl
set_option maxRecDepth 100000 in
set_option maxHeartbeats 1000000 in
theorem refjoin_any (v : Value) (xs : List ByteArray) (w : World) (hx : Holds w v xs) (hn : xs.length ≤ 1000) (hz : ∀ x ∈ xs, x.size ≤ 1100000) : Calls Tryz.prog 92 #[v] w (TellsL (join (xs.map L)) w) := by
  obtain ⟨A, c, rfl, hA, hc, hm, hv⟩ := hx
  have HV := hid hv
  have HZ := hid hz
  have HJ := hid (joinK_le (xs.map L) 1100000 (by intro x hx; obtain ⟨y, hy, rfl⟩ := List.mem_map.1 hx; rw [L_length]; exact hz y hy))
  clear hv hA hz
  go_enter Tryz.func92, Tryz.ntmps92
  go_wp2
  go_loop [3, 4] (fun s i => ∃ (r : ByteArray) (k : Nat), k ≤ xs.length ∧ i = .int .i64 k ∧ s = .string r ∧ Hid (L r = joinK (xs.map L) k)) (fun _ i => xs.length - (intOf i).toNat)
  case atStart => exact ⟨_, 0, Nat.zero_le _, rfl, rfl, hid rfl⟩
  case round =>
    obtain ⟨r, k, hk, rfl, rfl, H⟩ := hrel
    by_cases hlt : k < xs.length
    · obtain ⟨b, o, rfl, hb, hcell⟩ := strs_at HV.out hlt
      have HS := hid (joinK_succ (l := xs.map L) (k := k) (by simpa using hlt))
      have h2 : (k : Int) < xs.length := by omega
      have hz1 : xs[k].size ≤ 1100000 := HZ.out _ (List.getElem_mem hlt)
      have hz2 : r.size ≤ 1100001000 := by
        have h := HJ.out k (by simp; omega)
        rw [← H.out, L_length] at h
        omega
      by_cases h0 : 0 < k
      all_goals
        go_wp2
        go_round
        case rel =>
          refine ⟨_, k + 1, by omega, by go_num, rfl, hid ?_⟩
          rw [HS.out]
          first
            | rw [if_pos h0, L_append, L_snoc, H.out]; simp
            | (rw [if_neg h0, L_append, H.out]; obtain rfl : k = 0 := by omega
               simp [joinK, join])
        case measure => simp [intOf]; omega
    · obtain rfl : k = xs.length := by omega
      go_wp2
      go_ret
      exact ⟨r, rfl, by rw [H.out, ← joinK_all (xs.map L), List.length_map], Below.refl _ _⟩
def Norms (n : List UInt8 × Nat) (w : World) (e : Ending) (w' : World) : Prop := ∃ r : ByteArray, e = .returned (.tuple #[.string r, .int .i64 (n.2 : Int)]) ∧ L r = n.1 ∧ Below w.heap.size w w'
theorem norms_mk {n : List UInt8 × Nat} {l : List UInt8} {k : Nat} {w w' : World} {e : Ending} (h : n = (l, k)) (r : ByteArray) (hr : L r = l) (he : e = .returned (.tuple #[.string r, .int .i64 (k : Int)])) (hb : Below w.heap.size w w') : Norms n w e w' := by
  subst h; exact ⟨r, he, hr, hb⟩
theorem takes_size {s : ByteArray} {ys : List ByteArray} (h : takes [] (pieces (L s)) = some (ys.map L)) : ∀ y ∈ ys, y.size ≤ s.size := by
  intro y hy
  rcases takes_mem h (L y) (List.mem_map_of_mem hy) with h | h
  · cases h
  · have := piece_length _ _ h
    rwa [L_length, L_length] at this
set_option maxRecDepth 100000 in
set_option maxHeartbeats 1000000 in
theorem refnormal_big (s : ByteArray) (w : World) (hs : s.size ≤ 1100000) : Calls Tryz.prog 66 #[.string s] w (Norms (normal (L s)) w) := by
  go_enter Tryz.func66, Tryz.ntmps66
  go_wp2_with fail
  refine (refparts_any s _ (by omega)).mono ?_
  rintro e w1 ⟨hb, ⟨ht, rfl⟩ | ⟨v, ys, rfl, hh, ht, hl⟩⟩
  · have HN : Hid (normal (L s) = ([], 30)) := hid (by unfold normal; rw [ht])
    have HB := hid hb
    clear hb ht
    go_wp2
    go_ret2
    exact norms_mk HN.out ⟨#[]⟩ rfl rfl HB.out
  · have HN : Hid (normal (L s) = finish (ys.map L)) := hid (by unfold normal; rw [ht])
    have hz := takes_size ht
    have HZ : Hid (∀ y ∈ ys, y.size ≤ 1100000) := hid (fun y hy => Nat.le_trans (hz y hy) (by omega))
    have HB := hid hb
    have HH := hid hh
    clear hb ht hz
    obtain ⟨A, c, rfl, -⟩ := hh
    have hlen : (ys.map L).length = ys.length := List.length_map ..
    by_cases h0 : ys = []
    · subst h0
      have H : Hid (finish ([] : List (List UInt8)) = ([], 13)) := hid rfl
      go_wp2
      go_ret2
      exact norms_mk HN.out ⟨#[]⟩ rfl rfl HB.out
    · have hpos : 0 < ys.length := List.length_pos_iff.2 h0
      have hne : (ys.map L) ≠ [] := by simpa using h0
      have e0 : ((ys.length : Int) == 0) = false := by simp; exact h0
      by_cases h8 : 8 < ys.length
      · have H : Hid (finish (ys.map L) = ([], 31)) := hid (by unfold finish; rw [if_neg hne, hlen, if_pos h8])
        clear hlen hne h0
        go_wp2
        go_ret2
        exact norms_mk (HN.out.trans H.out) ⟨#[]⟩ rfl rfl HB.out
      · by_cases h64 : 64 < (join (ys.map L)).length
        · have H : Hid (finish (ys.map L) = ([], 11)) := hid (by unfold finish; rw [if_neg hne, hlen, if_neg h8, if_pos h64])
          have H64 := hid h64
          clear hlen hne h0 h64
          go_wp2_with fail
          refine (refjoin_any _ ys _ HH.out (by omega) HZ.out).mono ?_
          rintro e w2 ⟨r, rfl, hr, hb2⟩
          have hr64 : 64 < r.size := by rw [← L_length, hr]; exact H64.out
          have HB2 := hid (below_on HB.out hb2)
          clear hr hb2
          go_wp2
          go_ret2
          exact norms_mk (HN.out.trans H.out) ⟨#[]⟩ rfl rfl HB2.out
        · have H : Hid (finish (ys.map L) = (join (ys.map L), 0)) := hid (finish_ok hne (by omega) (by omega))
          have H64 := hid h64
          clear hlen hne h0 h64
          go_wp2_with fail
          refine (refjoin_any _ ys _ HH.out (by omega) HZ.out).mono ?_
          rintro e w2 ⟨r, rfl, hr, hb2⟩
          have hr64 : r.size ≤ 64 := by rw [← L_length, hr]; have := H64.out; omega
          have HB2 := hid (below_on HB.out hb2)
          have HH2 := hid (HH.out.below hb2)
          clear hr hb2
          go_wp2_with fail
          refine (refjoin_any _ ys _ HH2.out (by omega) HZ.out).mono ?_
          rintro e w3 ⟨r2, rfl, hr2, hb3⟩
          have HB3 := hid (below_on HB2.out hb3)
          have HR := hid hr2
          clear hr2 hb3
          go_wp2
          go_ret2
          exact norms_mk (HN.out.trans H.out) r2 HR.out rfl HB3.out
set_option maxRecDepth 100000 in
theorem refright_big (s : ByteArray) (w : World) (hs : s.size ≤ 1100000) : Calls Tryz.prog 39 #[.string s] w (Asks (.bool (right (L s))) w) := by
  have hr : right (L s) = decide ((normal (L s)).2 = 0 ∧ (normal (L s)).1 = L s) := by
    rw [right_eq]
    exact decide_eq_decide.2 ⟨fun h => by rw [h]; exact ⟨rfl, rfl⟩, fun h => Prod.ext h.2 h.1⟩
  by_cases h0 : (normal (L s)).2 = 0
  · have HR : Hid (right (L s) = decide ((normal (L s)).1 = L s)) := hid (by rw [hr]; exact decide_eq_decide.2 ⟨fun h => h.2, fun h => ⟨h0, h⟩⟩)
    have H0 := hid h0
    clear h0 hr
    go_enter Tryz.func39, Tryz.ntmps39
    go_wp2_with fail
    refine (refnormal_big s _ hs).mono ?_
    rintro e w1 ⟨r, rfl, hr, hb⟩
    rw [H0.out]
    have HB := hid hb
    have H := hid hr
    clear hb hr
    go_wp2
    go_ret
    exact ⟨ret_bool (by rw [HR.out, ← H.out, toList_L, toList_L, Bool.eq_iff_iff]; simp), HB.out⟩
  · have HR : Hid (right (L s) = false) := hid (by rw [hr]; exact decide_eq_false (fun h => h0 h.1))
    obtain ⟨k, hk⟩ : ∃ k : Nat, (normal (L s)).2 = k := ⟨_, rfl⟩
    rw [hk] at h0
    have e0 : ((k : Int) == 0) = false := by simpa using h0
    have HK := hid hk
    clear hk h0 hr
    go_enter Tryz.func39, Tryz.ntmps39
    go_wp2_with fail
    refine (refnormal_big s _ hs).mono ?_
    rintro e w1 ⟨r, rfl, hr, hb⟩
    rw [HK.out]
    have HB := hid hb
    clear hb hr
    go_wp2
    go_ret
    exact ⟨ret_bool HR.out.symm, HB.out⟩
theorem refright_any (s : ByteArray) (w : World) (hs : s.size ≤ 900) : Calls Tryz.prog 39 #[.string s] w (Asks (.bool (right (L s))) w) := refright_big s w (by omega)
end Go.Proofs.YtgjbhlianlbflaaGreat
namespace Go.Proofs.YtgjbhlianlbflaaGreat
open Go.ChangeShapes Go.WideShapes Go.ChangeAt Go.RowKit
theorem prefix_get {ys zs : List ByteArray} : (ys.map L).isPrefixOf (zs.map L) = true ↔ ys.length ≤ zs.length ∧ ∀ (j : Nat) (h1 : j < ys.length) (h2 : j < zs.length), ys[j] = zs[j] := by
  rw [List.isPrefixOf_iff_prefix]
  constructor
  · rintro h
    refine ⟨by simpa using h.length_le, fun j h1 h2 => ?_⟩
    have := h.getElem (i := j) (by simpa using h1)
    simp at this
    exact L_inj.1 this
  · rintro ⟨h1, h2⟩
    rw [List.prefix_iff_eq_take]
    apply List.ext_getElem
    · simp; omega
    · intro j h3 h4
      have h3' : j < ys.length := by simpa using h3
      simp
      rw [h2 j h3' (by omega)]
theorem takes_right {s : List UInt8} (h : right s = true) : takes [] (pieces s) = some (pieces s) := by
  rw [takes_parts (right_iff.1 h).2.1]; rfl
theorem spell_ne {y z : ByteArray} (h : y ≠ z) : (y.toList == z.toList) = false ∧ ¬ y.toList = z.toList ∧ (y.toList != z.toList) = true := by
  have h' : ¬ y.toList = z.toList := by rw [toList_L, toList_L]; exact fun e => h (L_inj.1 e)
  exact ⟨by simpa using h', h', by simpa using h'⟩
set_option maxRecDepth 100000 in
set_option maxHeartbeats 2000000 in
theorem refabove_both (p q : ByteArray) (w : World) (hp : p.size ≤ 900) (hq : q.size ≤ 900) (h1 : right (L p) = true) (h2 : right (L q) = true) : Calls Tryz.prog 89 #[.string p, .string q] w (Asks (.bool (above (L p) (L q))) w) := by
  have HP := hid h1
  have HQ := hid h2
  have HA : Hid (above (L p) (L q) = (pieces (L p)).isPrefixOf (pieces (L q))) := hid (by unfold above; rw [h1, h2]; rfl)
  have HTP := hid (takes_right h1)
  have HTQ := hid (takes_right h2)
  clear h1 h2
  go_enter Tryz.func89, Tryz.ntmps89
  go_wp2_with fail
  refine (refright_any p _ hp).mono ?_
  rintro e w1 ⟨rfl, hb1⟩
  rw [HP.out]
  have HB1 := hid hb1
  clear hb1
  go_wp2_with fail
  refine (refright_any q _ hq).mono ?_
  rintro e w2 ⟨rfl, hb2⟩
  rw [HQ.out]
  have HB2 := hid (below_on HB1.out hb2)
  clear hb2
  go_wp2_with fail
  refine (refparts_any p _ (by omega)).mono ?_
  rintro e w3 ⟨hb3, ⟨ht, rfl⟩ | ⟨v, ys, rfl, hy, ht, hyl⟩⟩
  · rw [HTP.out] at ht; cases ht
  rw [HTP.out] at ht
  injection ht with hty
  have HTY := hid hty
  have HB3 := hid (below_on HB2.out hb3)
  have HY := hid hy
  clear hb3 hty hy
  go_wp2_with fail
  refine (refparts_any q _ (by omega)).mono ?_
  rintro e w4 ⟨hb4, ⟨ht, rfl⟩ | ⟨u, zs, rfl, hz, ht, hzl⟩⟩
  · rw [HTQ.out] at ht; cases ht
  rw [HTQ.out] at ht
  injection ht with htz
  have HTZ := hid htz
  have HB4 := hid (below_on HB3.out hb4)
  have HY4 := hid (HY.out.below hb4)
  have HZ := hid hz
  clear hb4 htz hz
  obtain ⟨A, c, rfl, _, hc, hm, hv⟩ := HY4.out
  obtain ⟨A2, c2, rfl, _, hc2, hm2, hv2⟩ := HZ.out
  have HV := hid hv
  have HV2 := hid hv2
  clear hv hv2 HY4 HZ HY
  by_cases hlen : zs.length < ys.length
  · have HF : Hid (above (L p) (L q) = false) := hid (by
      rw [HA.out, HTY.out, HTZ.out, ← Bool.not_eq_true, prefix_get]
      rintro ⟨h, _⟩; omega)
    go_wp2
    go_ret
    exact ⟨ret_bool HF.out.symm, HB4.out⟩
  · go_wp2
    go_loopw [9] (fun i wr => ∃ k m : Nat, wr = w4.drewN m ∧ k ≤ ys.length ∧ i = .int .i64 k ∧ Hid (∀ (j : Nat) (_ : j < ys.length) (_ : j < zs.length), j < k → ys[j] = zs[j])) (fun i _ => ys.length - (intOf i).toNat)
    case atStart => exact ⟨0, 0, rfl, Nat.zero_le _, rfl, hid (fun j _ _ h => absurd h (Nat.not_lt_zero _))⟩
    case round =>
      obtain ⟨k, m, rfl, hk, rfl, HE⟩ := hrel
      by_cases hlt : k < ys.length
      · have hlt2 : k < zs.length := by omega
        obtain ⟨b, o, rfl, _, hcell⟩ := strs_at HV.out hlt
        obtain ⟨b2, o2, rfl, _, hcell2⟩ := strs_at HV2.out hlt2
        by_cases hne : ys[k] = zs[k]
        · have HE2 : Hid (∀ (j : Nat) (_ : j < ys.length) (_ : j < zs.length), j < k + 1 → ys[j] = zs[j]) := hid (fun j h1 h2 h3 => by
            by_cases e : j = k
            · subst e; exact hne
            · exact HE.out j h1 h2 (by omega))
          rw [← hne] at hcell2
          clear hne
          go_wp2
          go_quiet (fail)
          go_wp2
          go_roundw
          case rel => exact ⟨k + 1, _, rfl, by omega, by go_num, HE2⟩
          case measure => simp [intOf]; omega
        · have HF : Hid (above (L p) (L q) = false) := hid (by
            rw [HA.out, HTY.out, HTZ.out, ← Bool.not_eq_true, prefix_get]
            rintro ⟨_, h⟩; exact hne (h k hlt hlt2))
          obtain ⟨e1, e2, e3⟩ := spell_ne hne
          clear hne
          go_wp2
          go_quiet (fail)
          go_wp2
          go_ret
          exact ⟨ret_bool HF.out.symm, below_drewN (below_drewN HB4.out _) _⟩
      · have HF : Hid (above (L p) (L q) = true) := hid (by
          rw [HA.out, HTY.out, HTZ.out, prefix_get]
          exact ⟨by omega, fun j h1 h2 => HE.out j h1 h2 (by omega)⟩)
        go_wp2
        go_ret
        exact ⟨ret_bool HF.out.symm, below_drewN HB4.out _⟩
set_option maxRecDepth 100000 in
set_option maxHeartbeats 400000 in
theorem refabove_any (p q : ByteArray) (w : World) (hp : p.size ≤ 900) (hq : q.size ≤ 900) : Calls Tryz.prog 89 #[.string p, .string q] w (Asks (.bool (above (L p) (L q))) w) := by
  cases h1 : right (L p) with
  | false =>
    have HA : Hid (above (L p) (L q) = false) := hid (by unfold above; rw [h1]; rfl)
    have H1 := hid h1
    clear h1
    go_enter Tryz.func89, Tryz.ntmps89
    go_wp2_with fail
    refine (refright_any p _ hp).mono ?_
    rintro e w1 ⟨rfl, hb1⟩
    rw [H1.out]
    have HB1 := hid hb1
    clear hb1
    go_wp2
    go_ret
    exact ⟨ret_bool HA.out.symm, HB1.out⟩
  | true =>
    cases h2 : right (L q) with
    | true => exact refabove_both p q w hp hq h1 h2
    | false =>
      have HA : Hid (above (L p) (L q) = false) := hid (by unfold above; rw [h1, h2]; rfl)
      have H1 := hid h1
      have H2 := hid h2
      clear h1 h2
      go_enter Tryz.func89, Tryz.ntmps89
      go_wp2_with fail
      refine (refright_any p _ hp).mono ?_
      rintro e w1 ⟨rfl, hb1⟩
      rw [H1.out]
      have HB1 := hid hb1
      clear hb1
      go_wp2_with fail
      refine (refright_any q _ hq).mono ?_
      rintro e w2 ⟨rfl, hb2⟩
      rw [H2.out]
      have HB2 := hid (below_on HB1.out hb2)
      clear hb2
      go_wp2
      go_ret
      exact ⟨ret_bool HA.out.symm, HB2.out⟩
end Go.Proofs.YtgjbhlianlbflaaGreat
