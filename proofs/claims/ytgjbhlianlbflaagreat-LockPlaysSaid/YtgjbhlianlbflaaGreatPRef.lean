/-
  The document's own answers: contracts of moothillref04.take, Parts, Join, Normal, Right.
-/
import Derived.Test.YtgjbhlianlbflaaGreatPAbove
import Derived.Test.YtgjbhlianlbflaaGreatVals
import Derived.Laws.AppendOwn
import Derived.OwnWalk
namespace Go.Proofs.YtgjbhlianlbflaaGreat
open Go.ChangeShapes Go.WideShapes Go.ChangeAt Go.RowKit

theorem info_str : (Tryz.prog.info? 9).map (fun i => (i.zero, i.size, i.bytes)) = some (some (.string ⟨#[]⟩), 1, 16) := by kernel_rfl

theorem one_str {w : World} {x : Value} (E : TypeId) : Vals (w.alloc (.cells #[x] E)) (some ⟨w.heap.size, 0, none⟩) [x] := by
  intro j u hj
  match j, hj with
  | 0, hj =>
    simp at hj; subst hj
    exact ⟨_, _, rfl, by simp, by simp⟩

/-- What the document's take hands back. -/
def Takes1 (xs : List ByteArray) (p : ByteArray) (w : World) (e : Ending) (w' : World) : Prop :=
  Below w.heap.size w w' ∧ ((take1 (xs.map L) (L p) = none ∧ e = .returned (.tuple #[.slice none 0 0, .int .i64 30])) ∨
    ∃ v ys, e = .returned (.tuple #[v, .int .i64 0]) ∧ Holds w' v ys ∧ take1 (xs.map L) (L p) = some (ys.map L) ∧ ys.length ≤ xs.length + 1)

theorem not_empty {p : ByteArray} {l : List UInt8} (h : L p = l) (hl : l ≠ []) : (p.toList.isEmpty = false) ∧ ¬ p.toList = [] := by
  rw [toList_L, h]
  exact ⟨by cases l <;> simp_all, hl⟩
theorem spell {p : ByteArray} {c : List UInt8} (h : L p ≠ c) : (p.toList == c) = false ∧ ¬ p.toList = c := by
  rw [toList_L]
  exact ⟨by simpa using h, h⟩
theorem spell_is {p : ByteArray} {c : List UInt8} (h : L p = c) : (p.toList == c) = true ∧ p.toList = c := by
  rw [toList_L]
  exact ⟨by simpa using h, h⟩

set_option maxRecDepth 100000 in
set_option maxHeartbeats 400000 in
theorem take_none (v : Value) (xs : List ByteArray) (p : ByteArray) (w : World) (hx : Holds w v xs) (h : L p = [] ∨ L p = [46]) : Calls Tryz.prog 116 #[v, .string p] w (Takes1 xs p w) := by
  obtain ⟨A, c, rfl, hA, hc, hm, hv⟩ := hx
  have HT := hid (take1_none (l := xs.map L) h)
  have HV := hid hv
  have HA := hid hA
  clear hA hv
  rcases h with h | h
  · have e1 : p.toList = [] := by rw [toList_L]; exact h
    have e2 : p.toList.isEmpty = true := by rw [e1]; rfl
    clear h
    go_enter Tryz.func116, Tryz.ntmps116
    go_wp2
    go_ret2
    exact ⟨Below.refl _ _, .inr ⟨_, xs, rfl, ⟨A, c, rfl, HA.out, hc, hm, HV.out⟩, HT.out, by omega⟩⟩
  · obtain ⟨e1, e2⟩ := not_empty h (by simp)
    obtain ⟨e3, e4⟩ := spell_is h
    clear h
    go_enter Tryz.func116, Tryz.ntmps116
    go_wp2
    go_ret2
    exact ⟨Below.refl _ _, .inr ⟨_, xs, rfl, ⟨A, c, rfl, HA.out, hc, hm, HV.out⟩, HT.out, by omega⟩⟩

set_option maxRecDepth 100000 in
set_option maxHeartbeats 400000 in
theorem take_up (v : Value) (xs : List ByteArray) (p : ByteArray) (w : World) (hx : Holds w v xs) (h : L p = [46, 46]) : Calls Tryz.prog 116 #[v, .string p] w (Takes1 xs p w) := by
  obtain ⟨A, c, rfl, hA, hc, hm, hv⟩ := hx
  obtain ⟨i0, hi, hz0, hz1, hz2⟩ := info_parts info_str
  obtain ⟨e1, e2⟩ := not_empty h (by simp)
  obtain ⟨e3, e4⟩ := spell_is h
  have e5 : (p.toList == [46]) = false := by rw [e4]; decide
  have HT := hid (take1_up (l := xs.map L))
  have HP := hid h
  clear h e4
  by_cases h0 : xs = []
  · subst h0
    clear hA hv hc hm hi hz0 hz1 hz2
    go_enter Tryz.func116, Tryz.ntmps116
    go_wp2
    go_ret2
    exact ⟨Below.refl _ _, .inl ⟨by rw [HP.out, HT.out]; rfl, rfl⟩⟩
  · have hpos : 0 < xs.length := List.length_pos_iff.2 h0
    obtain ⟨n, hn⟩ : ∃ n, xs.length = n + 1 := ⟨xs.length - 1, by omega⟩
    obtain ⟨A1, r1, g1, s1⟩ := vals_front (P := Tryz.prog) 92 9 i0 Tryz.underlying92 hi (k := n) (n := xs.length) (by omega) hc hv hA
    rw [strs_take] at s1
    rw [hn] at r1 hc
    have HN := hid hn
    have HG := hid g1
    have HS := hid s1
    rw [hn]
    unfold maxLen at hm
    have hlt : n + 1 ≤ 9223372036854775807 := by omega
    have hp2 : 0 < n + 1 := by omega
    clear hA hv hi hz0 hz1 hz2 hn g1 s1 hpos
    go_enter Tryz.func116, Tryz.ntmps116
    go_wp2
    go_ret2
    have hl : (xs.take n).length = n := by rw [List.length_take, HN.out]; omega
    refine ⟨Below.refl _ _, .inr ⟨.slice A1 n c, xs.take n, rfl, ⟨A1, c, by rw [hl], HG.out, by rw [hl]; omega, by unfold maxLen; omega, HS.out⟩, ?_, by rw [hl, HN.out]; omega⟩⟩
    rw [HP.out, HT.out, if_neg (by simpa using h0), List.dropLast_eq_take, List.length_map, HN.out, List.map_take]
    simp

theorem isPart_bad {p : ByteArray} {k : Nat} (h : k < p.size) (hl : letterI ((p[k]'h).toNat : Int) = false) : isPart (L p) = false :=
  isPart_fail h (by rw [← letterI_u8]; exact hl)
theorem isPart_good {p : ByteArray} (h0 : L p ≠ []) (h : ∀ (j : Nat) (hj : j < p.size), letterI ((p[j]'hj).toNat : Int) = true) : isPart (L p) = true := by
  rw [isPart_all (fun j hj => by rw [← letterI_u8]; exact h j hj)]
  cases h : L p <;> simp_all

set_option maxRecDepth 100000 in
set_option maxHeartbeats 1000000 in
theorem take_part (v : Value) (xs : List ByteArray) (p : ByteArray) (w : World) (hx : Holds w v xs) (h1 : ¬ (L p = [] ∨ L p = [46])) (h2 : L p ≠ [46, 46]) (hp : p.size ≤ 9223372036854775807) (hlen : xs.length ≤ 1200000) :
    Calls Tryz.prog 116 #[v, .string p] w (Takes1 xs p w) := by
  obtain ⟨A, c, rfl, hA, hc, hm, hv⟩ := hx
  obtain ⟨i0, hi, hz0, hz1, hz2⟩ := info_parts info_str
  have h0 : L p ≠ [] := fun h => h1 (.inl h)
  obtain ⟨e1, e2⟩ := not_empty (p := p) rfl h0
  obtain ⟨e3, e4⟩ := spell (c := [46]) (p := p) (fun h => h1 (.inr h))
  obtain ⟨e5, e6⟩ := spell h2
  have HV := hid hv
  have HA := hid hA
  have H1 := hid h1
  have H2 := hid h2
  have H0 := hid h0
  clear h1 h2 h0 hv hA
  go_enter Tryz.func116, Tryz.ntmps116
  go_wp2
  go_loop [6] (fun i => ∃ k : Nat, k ≤ p.size ∧ i = .int .i64 k ∧ Hid (∀ (j : Nat) (hj : j < p.size), j < k → letterI ((p[j]'hj).toNat : Int) = true)) (fun i => p.size - (intOf i).toNat)
  case atStart => exact ⟨0, Nat.zero_le _, rfl, hid (fun j _ h => absurd h (Nat.not_lt_zero _))⟩
  case round =>
    obtain ⟨k, hk, rfl, H⟩ := hrel
    by_cases hlt : k < p.size
    · cases hl : letterI ((p[k]'hlt).toNat : Int) with
      | true =>
        have HL := hid hl
        clear hl
        go_wp2_with (go_at_call 142; refine (letter_any _ _).mono ?_; rintro e w' ⟨rfl, rfl⟩; rw [HL.out])
        go_round
        case rel =>
          refine ⟨k + 1, by omega, by go_num, hid (fun j hj hjk => ?_)⟩
          by_cases hjp : j = k
          · subst hjp; exact HL.out
          · exact H.out j hj (by omega)
        case measure => simp [intOf]; omega
      | false =>
        have HL := hid hl
        clear hl
        go_wp2_with (go_at_call 142; refine (letter_any _ _).mono ?_; rintro e w' ⟨rfl, rfl⟩; rw [HL.out])
        go_ret2
        exact ⟨Below.refl _ _, .inl ⟨take1_bad H1.out H2.out (isPart_bad hlt HL.out), rfl⟩⟩
    · have HG := hid (isPart_good H0.out (fun j hj => H.out j hj (by omega)))
      go_wp2_with (first
        | (at_builtin; refine wpList_append_vals rfl (.tmp 36) (.tmp 37) 92 rfl w.heap.size 9 i0 _ 16 Tryz.underlying92 hi hz0 hz1 hz2 rfl _ 0 [] rfl (World.ownsRow_nil _ _ _ _) A c (strs xs) xs.length (strs_length xs) rfl HA.out HV.out (strs_one xs) (by unfold maxLen; omega) (by omega) (Nat.le_refl _) ?_; intro v1 w1 hown1 hg1; simp only [Nat.zero_add, List.nil_append] at hown1; have hb1 : Below w.heap.size w w1 := (Below.refl _ _).grown hg1 (Nat.le_refl _) (fun k hk => nomatch hk); have z1 := hb1.size; have HB1 := hid hb1; clear hb1 hg1)
        | (at_builtin; refine wpList_append_vals rfl (.tmp 39) (.tmp 41) 92 rfl w.heap.size 9 i0 _ 16 Tryz.underlying92 hi hz0 hz1 hz2 rfl _ xs.length (strs xs) rfl (hown1.alloc _) _ 1 [.string p] 1 rfl rfl (fun h => nomatch h) (one_str _) (by intro u hu; simp at hu; subst hu; rfl) (by unfold maxLen; omega) (by omega) (by simp; omega) ?_; intro v2 w2 hown2 hg2; have hb2 : Below w.heap.size w w2 := (HB1.out.alloc z1 _).grown hg2 (by simp; omega) (fun k hk => (hown1.lt k hk).1); have HB2 := hid hb2; have HO := hid hown2; clear hb2 hg2 hown2 hown1))
      go_ret2
      have ho : w2.ownsRow w.heap.size 9 1 v2 (xs.length + 1) (strs (xs ++ [p])) := by
        have := HO.out
        rwa [show ([Value.string p] : List Value) = strs [p] from rfl, strs_append] at this
      exact ⟨HB2.out, .inr ⟨v2, xs ++ [p], rfl, holds_own ho, by rw [take1_part HG.out]; simp, by simp⟩⟩

theorem take_any (v : Value) (xs : List ByteArray) (p : ByteArray) (w : World) (hx : Holds w v xs) (hp : p.size ≤ 9223372036854775807) (hlen : xs.length ≤ 1200000) :
    Calls Tryz.prog 116 #[v, .string p] w (Takes1 xs p w) := by
  by_cases h1 : L p = [] ∨ L p = [46]
  · exact take_none v xs p w hx h1
  · by_cases h2 : L p = [46, 46]
    · exact take_up v xs p w hx h2
    · exact take_part v xs p w hx h1 h2 hp hlen

end Go.Proofs.YtgjbhlianlbflaaGreat
