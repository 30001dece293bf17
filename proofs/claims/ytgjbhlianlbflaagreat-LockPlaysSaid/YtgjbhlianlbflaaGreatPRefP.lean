/-
  Contract of moothillref04.Parts.
-/
import Derived.Test.YtgjbhlianlbflaaGreatPRef
namespace Go.Proofs.YtgjbhlianlbflaaGreat
open Go.ChangeShapes Go.WideShapes Go.ChangeAt Go.RowKit

theorem L_one (s : ByteArray) (k : Nat) (h : k < s.size) : L (s.extract k (k + 1)) = [s[k]'h] := by
  have hl : k < (L s).length := by rw [L_length]; exact h
  rw [L_extract, List.drop_eq_getElem_cons hl]
  simp [L_get s k h]
theorem drop_byte (s : ByteArray) (k : Nat) (h : k < s.size) : (L s).drop k = s[k]'h :: (L s).drop (k + 1) := by
  have hl : k < (L s).length := by rw [L_length]; exact h
  rw [List.drop_eq_getElem_cons hl, L_get s k h]

theorem step_keep {s p : ByteArray} {k : Nat} (hc : clean (L p)) (h : k < s.size) (h47 : s[k]'h ≠ 47) :
    clean (L (p ++ s.extract k (k + 1))) ∧ L (p ++ s.extract k (k + 1)) ++ (L s).drop (k + 1) = L p ++ (L s).drop k := by
  rw [L_append, L_one s k h, drop_byte s k h]
  refine ⟨?_, by simp⟩
  intro c hx
  rcases List.mem_append.1 hx with hx | hx
  · exact hc c hx
  · simp at hx; subst hx; exact h47
theorem step_cut {s p : ByteArray} {k : Nat} (hc : clean (L p)) (h : k < s.size) (h47 : s[k]'h = 47) : pieces (L p ++ (L s).drop k) = L p :: pieces ((L s).drop (k + 1)) := by
  rw [drop_byte s k h, h47, pieces_mid, pieces_one hc]; rfl
theorem step_end {s p : ByteArray} {k : Nat} (hc : clean (L p)) (h : ¬ k < s.size) : pieces (L p ++ (L s).drop k) = [L p] := by
  rw [List.drop_of_length_le (by rw [L_length]; omega), List.append_nil, pieces_one hc]

/-- What the document's Parts hands back. -/
def PartsOf (s : ByteArray) (w : World) (e : Ending) (w' : World) : Prop :=
  Below w.heap.size w w' ∧ ((takes [] (pieces (L s)) = none ∧ e = .returned (.tuple #[.slice none 0 0, .int .i64 30])) ∨
    ∃ v ys, e = .returned (.tuple #[v, .int .i64 0]) ∧ Holds w' v ys ∧ takes [] (pieces (L s)) = some (ys.map L) ∧ ys.length ≤ s.size + 1)

/-- What is known at the head of a round: k bytes are gone through. -/
def Under (s : ByteArray) (xs : List ByteArray) (p : ByteArray) (k : Nat) : Prop :=
  (k ≤ s.size ∧ clean (L p) ∧ takes (xs.map L) (pieces (L p ++ (L s).drop k)) = takes [] (pieces (L s)) ∧ xs.length ≤ k ∧ p.size ≤ k) ∨ (k = s.size + 1 ∧ takes [] (pieces (L s)) = some (xs.map L) ∧ xs.length ≤ k ∧ p.size ≤ k)

theorem under_start (s : ByteArray) : Under s [] ⟨#[]⟩ 0 := .inl ⟨Nat.zero_le _, (fun _ hc => nomatch hc), rfl, Nat.le_refl _, Nat.le_refl _⟩
theorem under_keep {s p : ByteArray} {xs : List ByteArray} {k : Nat} (h : Under s xs p k) (hk : k < s.size) (h47 : s[k]'hk ≠ 47) : Under s xs (p ++ s.extract k (k + 1)) (k + 1) := by
  rcases h with ⟨_, hc, ht, hl, hp⟩ | ⟨h, _⟩
  · obtain ⟨h1, h2⟩ := step_keep hc hk h47
    refine .inl ⟨by omega, h1, by rw [h2]; exact ht, by omega, ?_⟩
    rw [ByteArray.size_append, ByteArray.size_extract]
    omega
  · omega
theorem under_take {s p : ByteArray} {xs ys : List ByteArray} {k : Nat} (h : Under s xs p k) (hle : k ≤ s.size) (hk : (hk : k < s.size) → s[k]'hk = 47) (hl1 : ys.length ≤ xs.length + 1) (ht : take1 (xs.map L) (L p) = some (ys.map L)) : Under s ys ⟨#[]⟩ (k + 1) := by
  rcases h with ⟨_, hc, h, hl, hp⟩ | ⟨h, _⟩
  · by_cases hlt : k < s.size
    · rw [step_cut hc hlt (hk hlt)] at h
      simp only [takes] at h
      rw [ht] at h
      exact .inl ⟨by omega, (fun _ hc => nomatch hc), h, by omega, Nat.zero_le _⟩
    · rw [step_end hc hlt] at h
      simp only [takes] at h
      rw [ht] at h
      exact .inr ⟨by omega, h.symm, by omega, Nat.zero_le _⟩
  · omega
theorem under_fail {s p : ByteArray} {xs : List ByteArray} {k : Nat} (h : Under s xs p k) (hle : k ≤ s.size) (hk : (hk : k < s.size) → s[k]'hk = 47) (ht : take1 (xs.map L) (L p) = none) : takes [] (pieces (L s)) = none := by
  rcases h with ⟨_, hc, h, hl⟩ | ⟨h, _⟩
  · by_cases hlt : k < s.size
    · rw [step_cut hc hlt (hk hlt)] at h
      simp only [takes] at h
      rw [ht] at h
      exact h.symm
    · rw [step_end hc hlt] at h
      simp only [takes] at h
      rw [ht] at h
      exact h.symm
  · omega
theorem under_end {s p : ByteArray} {xs : List ByteArray} {k : Nat} (h : Under s xs p k) (hk : ¬ k ≤ s.size) : takes [] (pieces (L s)) = some (xs.map L) ∧ xs.length ≤ s.size + 1 := by
  rcases h with ⟨h, _⟩ | ⟨h1, h2, h3, _⟩
  · omega
  · exact ⟨h2, by omega⟩
theorem under_len {s p : ByteArray} {xs : List ByteArray} {k : Nat} (h : Under s xs p k) : xs.length ≤ k ∧ k ≤ s.size + 1 ∧ p.size ≤ k := by
  rcases h with ⟨h1, _, _, h2, h3⟩ | ⟨h1, _, h2, h3⟩
  · exact ⟨h2, by omega, h3⟩
  · exact ⟨h2, by omega, h3⟩

set_option maxRecDepth 100000 in
set_option maxHeartbeats 2000000 in
theorem refparts_any (s : ByteArray) (w : World) (hs : s.size ≤ 1100000) : Calls Tryz.prog 91 #[.string s] w (PartsOf s w) := by
  go_enter Tryz.func91, Tryz.ntmps91
  go_wp2
  go_loopw [4, 5, 6, 7] (fun v p _ i wr => ∃ (xs : List ByteArray) (q : ByteArray) (k : Nat), i = .int .i64 k ∧ p = .string q ∧ Hid (Holds wr v xs) ∧ Hid (Under s xs q k) ∧ Hid (Below w.heap.size w wr)) (fun _ _ _ i _ => s.size + 1 - (intOf i).toNat)
  case atStart => exact ⟨[], ⟨#[]⟩, 0, rfl, rfl, hid (Holds.nil _), hid (under_start s), hid (Below.refl _ _)⟩
  case round =>
    obtain ⟨xs, q, k, rfl, rfl, HH, HU, HB⟩ := hrel
    obtain ⟨hl1, hl2, hl3⟩ := under_len HU.out
    by_cases hle : k ≤ s.size
    · by_cases h47 : ∃ hk : k < s.size, s[k]'hk ≠ 47
      · obtain ⟨hk, h47⟩ := h47
        have hb1 : ((((s[k]'hk).toNat : Int)) != 47) = true := by
          rw [bne_iff_ne]
          intro h
          exact h47 (UInt8.toNat_inj.1 (by simpa using (show (s[k]'hk).toNat = 47 by omega)))
        have HK := hid (under_keep HU.out hk h47)
        clear h47
        go_wp2
        go_roundw
        case rel => exact ⟨xs, _, k + 1, by go_num, rfl, HH, HK, HB⟩
        case measure => simp [intOf]; omega
      · have h47' : (hk : k < s.size) → s[k]'hk = 47 := fun hk => Decidable.byContradiction fun h => h47 ⟨hk, h⟩
        have HF := hid (fun ht => under_fail HU.out hle h47' ht)
        have HT := hid (fun ys (h1 : ys.length ≤ xs.length + 1) ht => under_take (ys := ys) HU.out hle h47' h1 ht)
        clear h47
        by_cases hk : k < s.size
        all_goals
          first
            | have hb1 : ((((s[k]'hk).toNat : Int)) != 47) = false := by rw [h47' hk]; rfl
            | skip
          clear h47'
          go_wp2_with fail
          refine (take_any _ xs q _ HH.out (by omega) (by omega)).mono ?_
          rintro e w1 ⟨hb, ⟨ht, rfl⟩ | ⟨v1, ys, rfl, hh, ht, hl⟩⟩
          · have H1 := hid (HB.out.trans (hb.mono HB.out.size))
            have H2 := hid (HF.out ht)
            clear hb ht HF HT
            go_wp2
            go_ret2
            exact ⟨H1.out, .inl ⟨H2.out, rfl⟩⟩
          · have H1 := hid (HB.out.trans (hb.mono HB.out.size))
            have H2 := hid (HT.out ys hl ht)
            have H3 := hid hh
            clear hb ht HF HT hl hh
            go_wp2
            go_roundw
            case rel => exact ⟨ys, _, k + 1, by go_num, rfl, H3, H2, H1⟩
            case measure => simp [intOf]; omega
    · have H := hid (under_end HU.out hle)
      go_wp2
      go_ret2
      exact ⟨HB.out, .inr ⟨_, xs, rfl, HH.out, H.out.1, H.out.2⟩⟩

end Go.Proofs.YtgjbhlianlbflaaGreat
