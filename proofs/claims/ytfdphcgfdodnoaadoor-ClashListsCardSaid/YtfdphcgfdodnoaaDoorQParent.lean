/-
  The contract of path.Parent (as XPParent, but over stage 7's strings.Clone).
-/
import Derived.Test.YtfdphcgfdodnoaaDoorPRow
import Derived.Test.YtfdphcgfdodnoaaDoorKSmall
import Derived.Test.YtfdphcgfdodnoaaDoorPRefP
import Derived.Test.YtfdphcgfdodnoaaDoorPMathB
import Derived.Lib.LastIndexByte
namespace Go.Proofs.YtfdphcgfdodnoaaDoor
open Go.ChangeShapes Go.WideShapes Go.ChangeAt Go.RowKit

theorem byte_at (s : ByteArray) (j : Nat) (h : j < s.size) : s.data[j]! = s[j]'h := by
  have h' : j < s.data.size := h
  rw [getElem!_pos s.data j h']
  rfl

theorem last_cases (s : ByteArray) : (Lib.lastIndexByte s 47 = -1 ∧ clean (L s)) ∨
    ∃ i : Nat, i < s.size ∧ Lib.lastIndexByte s 47 = (i : Int) ∧ L s = (L s).take i ++ 47 :: (L s).drop (i + 1) ∧ clean ((L s).drop (i + 1)) := by
  have key : ∀ j, (h : j < s.size) → ((s.data[j]!).toNat : Int) ≠ 47 → s[j]'h ≠ 47 := fun j h hne he => by
    rw [byte_at s j h, he] at hne
    exact hne rfl
  rcases Lib.lastIdx_spec s 47 s.size with ⟨h1, h2⟩ | ⟨i, h0, h1, h2, h3⟩
  · refine .inl ⟨h1, fun c hc => ?_⟩
    obtain ⟨j, hj, rfl⟩ := List.getElem_of_mem hc
    rw [L_length] at hj
    exact key j hj (h2 j hj)
  · refine .inr ⟨i, h0, h1, ?_, fun c hc => ?_⟩
    · have hb : s[i]'h0 = 47 := by
        rw [byte_at s i h0] at h2
        exact UInt8.toNat_inj.1 (by simpa using (show (s[i]'h0).toNat = 47 by omega))
      have := drop_byte s i h0
      rw [hb] at this
      rw [← this, List.take_append_drop]
    · obtain ⟨j, hj, rfl⟩ := List.getElem_of_mem hc
      rw [List.length_drop, L_length] at hj
      rw [List.getElem_drop]
      exact key (i + 1 + j) (by omega) (h3 _ (by omega) (by omega))

theorem last_any (s : ByteArray) (w : World) (hs : s.size ≤ 4611686018427387903) (i : Int) (hi : Lib.lastIndexByte s 47 = i) : Calls Tryd.prog 92 #[.string s, .string ⟨#[47]⟩] w fun e w' => e = .returned (.int .i64 i) ∧ w = w' := by
  subst hi
  refine (Tryd.strings_LastIndex_one s ⟨#[47]⟩ rfl (by omega) w).mono ?_
  rintro e w' ⟨rfl, rfl⟩
  exact ⟨rfl, rfl⟩

/-- A path's parent, and whether it has one. -/
def Parents (p : List UInt8 × Bool) (w : World) (e : Ending) (w' : World) : Prop := ∃ r : ByteArray, e = .returned (.tuple #[.string r, .bool p.2]) ∧ L r = p.1 ∧ Below w.heap.size w w'
theorem parents_mk {n : List UInt8 × Bool} {l : List UInt8} {k : Bool} {w w' : World} {e : Ending} (h : n = (l, k)) (r : ByteArray) (hr : L r = l) (he : e = .returned (.tuple #[.string r, .bool k])) (hb : Below w.heap.size w w') : Parents n w e w' := by
  subst h; exact ⟨r, he, hr, hb⟩

set_option maxRecDepth 100000 in
set_option maxHeartbeats 1000000 in
theorem parent_any (s : ByteArray) (w : World) (hs : s.size ≤ 100000) : Calls Tryd.prog 77 #[.string s] w (Parents (parent (L s)) w) := by
  rcases last_cases s with ⟨h1, h2⟩ | ⟨i, h0, h1, h2, h3⟩
  · have HP := hid (parent_one h2)
    have H1 := hid h1
    clear h1 h2
    go_enter Tryd.func77, Tryd.ntmps77
    go_wp2_with fail
    refine (last_any s _ (by omega) _ H1.out).mono ?_
    rintro e w1 ⟨rfl, rfl⟩
    go_wp2
    go_ret2
    exact parents_mk HP.out ⟨#[]⟩ rfl rfl (Below.refl _ _)
  · have H1 := hid h1
    cases hr : right (L s) with
    | false =>
      have HP := hid (parent_wrong hr)
      have HR := hid hr
      clear h1 h2 h3 hr
      go_enter Tryd.func77, Tryd.ntmps77
      go_wp2_with fail
      refine (last_any s _ (by omega) _ H1.out).mono ?_
      rintro e w1 ⟨rfl, rfl⟩
      go_wp2_with fail
      refine (right_any s _ (by omega)).mono ?_
      rintro e w2 ⟨rfl, hb⟩
      rw [HR.out]
      have HB := hid hb
      clear hb
      go_wp2
      go_ret2
      exact parents_mk HP.out ⟨#[]⟩ rfl rfl HB.out
    | true =>
      have HR := hid hr
      have HP : Hid (parent (L s) = ((L s).take i, true)) := hid (by rw [h2] at hr; rw [h2, parent_last h3 hr, ← h2])
      clear h1 h2 h3 hr
      have hsz : (s.extract 0 i).size = i := by rw [ByteArray.size_extract]; omega
      have HS := hid hsz
      clear hsz
      go_enter Tryd.func77, Tryd.ntmps77
      go_wp2_with fail
      refine (last_any s _ (by omega) _ H1.out).mono ?_
      rintro e w1 ⟨rfl, rfl⟩
      go_wp2_with fail
      refine (right_any s _ (by omega)).mono ?_
      rintro e w2 ⟨rfl, hb⟩
      rw [HR.out]
      have HB := hid hb
      clear hb
      go_wp2_with fail
      refine (sclone_any (s.extract 0 i) _ (by rw [HS.out]; omega)).mono ?_
      rintro e w3 ⟨rfl, hb⟩
      have HB2 := hid (below_on HB.out hb)
      clear hb
      go_wp2
      go_ret2
      exact parents_mk HP.out _ (by rw [L_extract]; simp) rfl HB2.out


end Go.Proofs.YtfdphcgfdodnoaaDoor
