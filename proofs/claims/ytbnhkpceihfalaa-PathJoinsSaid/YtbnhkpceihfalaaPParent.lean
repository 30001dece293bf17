/-
  Contracts of path.Parent and Common.
-/
import Derived.Test.YtbnhkpceihfalaaPParts
import Derived.Test.YtbnhkpceihfalaaPMathB
import Derived.Lib.LastIndexByte
namespace Go.Proofs.Ytbnhkpceihfalaa
open Go.ChangeShapes Go.WideShapes Go.ChangeAt Go.RowKit

theorem byte_at (s : ByteArray) (j : Nat) (h : j < s.size) : s.data[j]! = s[j]'h := by
  have h' : j < s.data.size := h
  rw [getElem!_pos s.data j h']
  rfl

theorem last_cases (s : ByteArray) : (Lib.lastIndexByte s 47 = -1 ∧ clean (L s)) ∨
    ∃ i : Nat, i < s.size ∧ Lib.lastIndexByte s 47 = (i : Int) ∧ L s = (L s).take i ++ 47 :: (L s).drop (i + 1) ∧ clean ((L s).drop (i + 1)) := by
  have key : ∀ j, (h : j < s.size) → ((s.data[j]!).toNat : Int) ≠ 47 → s[j]'h ≠ 47 := fun j h hne he => by
    rw [byte_at s j h, he] at hne
    exact hne rfl
  rcases Lib.lastIdx_spec s 47 s.size with ⟨h1, h2⟩ | ⟨i, h0, h1, h2, h3⟩
  · refine .inl ⟨h1, fun c hc => ?_⟩
    obtain ⟨j, hj, rfl⟩ := List.getElem_of_mem hc
    rw [L_length] at hj
    exact key j hj (h2 j hj)
  · refine .inr ⟨i, h0, h1, ?_, fun c hc => ?_⟩
    · have hb : s[i]'h0 = 47 := by
        rw [byte_at s i h0] at h2
        exact UInt8.toNat_inj.1 (by simpa using (show (s[i]'h0).toNat = 47 by omega))
      have := drop_byte s i h0
      rw [hb] at this
      rw [← this, List.take_append_drop]
    · obtain ⟨j, hj, rfl⟩ := List.getElem_of_mem hc
      rw [List.length_drop, L_length] at hj
      rw [List.getElem_drop]
      exact key (i + 1 + j) (by omega) (h3 _ (by omega) (by omega))

theorem last_any (s : ByteArray) (w : World) (hs : s.size ≤ 4611686018427387903) (i : Int) (hi : Lib.lastIndexByte s 47 = i) : Calls Try.prog 38 #[.string s, .string ⟨#[47]⟩] w fun e w' => e = .returned (.int .i64 i) ∧ w = w' := by
  subst hi
  refine (Try.strings_LastIndex_one s ⟨#[47]⟩ rfl (by omega) w).mono ?_
  rintro e w' ⟨rfl, rfl⟩
  exact ⟨rfl, rfl⟩

/-- A path's parent, and whether it has one. -/
def Parents (p : List UInt8 × Bool) (w : World) (e : Ending) (w' : World) : Prop := ∃ r : ByteArray, e = .returned (.tuple #[.string r, .bool p.2]) ∧ L r = p.1 ∧ Below w.heap.size w w'
theorem parents_mk {n : List UInt8 × Bool} {l : List UInt8} {k : Bool} {w w' : World} {e : Ending} (h : n = (l, k)) (r : ByteArray) (hr : L r = l) (he : e = .returned (.tuple #[.string r, .bool k])) (hb : Below w.heap.size w w') : Parents n w e w' := by
  subst h; exact ⟨r, he, hr, hb⟩

set_option maxRecDepth 100000 in
set_option maxHeartbeats 1000000 in
theorem parent_any (s : ByteArray) (w : World) (hs : s.size ≤ 100000) : Calls Try.prog 19 #[.string s] w (Parents (parent (L s)) w) := by
  rcases last_cases s with ⟨h1, h2⟩ | ⟨i, h0, h1, h2, h3⟩
  · have HP := hid (parent_one h2)
    have H1 := hid h1
    clear h1 h2
    go_enter Try.func19, Try.ntmps19
    go_wp2_with fail
    refine (last_any s _ (by omega) _ H1.out).mono ?_
    rintro e w1 ⟨rfl, rfl⟩
    go_wp2
    go_ret2
    exact parents_mk HP.out ⟨#[]⟩ rfl rfl (Below.refl _ _)
  · have H1 := hid h1
    cases hr : right (L s) with
    | false =>
      have HP := hid (parent_wrong hr)
      have HR := hid hr
      clear h1 h2 h3 hr
      go_enter Try.func19, Try.ntmps19
      go_wp2_with fail
      refine (last_any s _ (by omega) _ H1.out).mono ?_
      rintro e w1 ⟨rfl, rfl⟩
      go_wp2_with fail
      refine (right_any s _ (by omega)).mono ?_
      rintro e w2 ⟨rfl, hb⟩
      rw [HR.out]
      have HB := hid hb
      clear hb
      go_wp2
      go_ret2
      exact parents_mk HP.out ⟨#[]⟩ rfl rfl HB.out
    | true =>
      have HR := hid hr
      have HP : Hid (parent (L s) = ((L s).take i, true)) := hid (by rw [h2] at hr; rw [h2, parent_last h3 hr, ← h2])
      clear h1 h2 h3 hr
      have hsz : (s.extract 0 i).size = i := by rw [ByteArray.size_extract]; omega
      have HS := hid hsz
      clear hsz
      go_enter Try.func19, Try.ntmps19
      go_wp2_with fail
      refine (last_any s _ (by omega) _ H1.out).mono ?_
      rintro e w1 ⟨rfl, rfl⟩
      go_wp2_with fail
      refine (right_any s _ (by omega)).mono ?_
      rintro e w2 ⟨rfl, hb⟩
      rw [HR.out]
      have HB := hid hb
      clear hb
      go_wp2_with fail
      refine (clone_any (s.extract 0 i) _ (by rw [HS.out]; omega)).mono ?_
      rintro e w3 ⟨rfl, hb⟩
      have HB2 := hid (below_on HB.out hb)
      clear hb
      go_wp2
      go_ret2
      exact parents_mk HP.out _ (by rw [L_extract]; simp) rfl HB2.out

/-- What two have in common, and whether there is any. -/
def Commons (a b : List (List UInt8)) (w : World) (e : Ending) (w' : World) : Prop := ∃ r : ByteArray, e = .returned (.tuple #[.string r, .bool (decide (0 < common a b))]) ∧ L r = join (a.take (common a b)) ∧ Below w.heap.size w w'

theorem run_min (P : Program) (a b m : Nat) (h : min a b = m) (w : World) (ts : Array TypeId) (t : TypeId) : (Builtin.min_ ts t #[.int .i64 (a : Int), .int .i64 (b : Int)]).run P w = .ok (.int .i64 (m : Int)) w := by
  subst h
  rcases Nat.lt_or_ge b a with h | h
  · have : min a b = b := by omega
    rw [this]
    have h2 : (b : Int) < a := by omega
    simp [Builtin.min_, Builtin.min2, h2]
  · have : min a b = a := by omega
    rw [this]
    have h2 : ¬ (b : Int) < a := by omega
    simp [Builtin.min_, Builtin.min2, h2]

/-- How far two lists of strings agree. -/
def Agree (ys zs : List ByteArray) (k : Nat) : Prop := ∀ (j : Nat) (_ : j < ys.length) (_ : j < zs.length), j < k → ys[j] = zs[j]
theorem agree_zero (ys zs : List ByteArray) : Agree ys zs 0 := fun _ _ _ h => absurd h (Nat.not_lt_zero _)
theorem agree_succ {ys zs : List ByteArray} {k : Nat} (h : Agree ys zs k) (h1 : k < ys.length) (h2 : k < zs.length) (he : ys[k] = zs[k]) : Agree ys zs (k + 1) := fun j a b hj => by
  by_cases e : j = k
  · subst e; exact he
  · exact h j a b (by omega)
theorem agree_end {ys zs : List ByteArray} {k : Nat} (h : Agree ys zs k) (h1 : k ≤ ys.length) (h2 : k ≤ zs.length) (hx : ∀ (a : k < ys.length) (b : k < zs.length), ys[k] ≠ zs[k]) : common (ys.map L) (zs.map L) = k :=
  common_eq (by simpa using h1) (by simpa using h2) (fun j hj => by simp; rw [h j (by omega) (by omega) hj]) (fun a b => by
    simp at a b ⊢
    exact fun e => hx a b (L_inj.1 e))

set_option maxRecDepth 100000 in
set_option maxHeartbeats 2000000 in
theorem common_any (p q : ByteArray) (w : World) (hp : p.size ≤ 900) (hq : q.size ≤ 900) : Calls Try.prog 21 #[.string p, .string q] w (Commons (parts (L p)) (parts (L q)) w) := by
  obtain ⟨i0, hi, hz0, hz1, hz2⟩ := info_parts info_str
  go_enter Try.func21, Try.ntmps21
  go_wp2_with fail
  refine (parts_any p _ (by omega)).mono ?_
  rintro e w1 ⟨v, ys, rfl, hh, hy, hb⟩
  have HY := hid hy
  have HH := hid hh
  have HB := hid hb
  clear hy hh hb
  go_wp2_with fail
  refine (parts_any q _ (by omega)).mono ?_
  rintro e w2 ⟨u, zs, rfl, hh2, hz, hb2⟩
  have HZ := hid hz
  replace HB := hid (below_on HB.out hb2)
  replace HH := hid (HH.out.below hb2)
  have HH2 := hid hh2
  clear hz hh2 hb2
  obtain ⟨A, c, rfl, hA, hc, hm, hv⟩ := HH.out
  obtain ⟨A2, c2, rfl, _, _, _, hv2⟩ := HH2.out
  obtain ⟨m, hm1⟩ : ∃ m, min ys.length zs.length = m := ⟨_, rfl⟩
  have hmin := run_min Try.prog ys.length zs.length m hm1
  have hm2 : m ≤ ys.length ∧ m ≤ zs.length := by omega
  have hl8 : ys.length ≤ 8 := by
    have h := congrArg List.length HY.out
    rw [List.length_map] at h
    rw [h]; exact parts_le
  obtain ⟨hm2, hm3⟩ := hm2
  have HM := hid hm1
  have HSZ : Hid (∀ y ∈ ys, y.size ≤ 64) := hid (fun y hy => by
    have := parts_size (p := L p) (L y) (by rw [← HY.out]; exact List.mem_map_of_mem hy)
    rwa [L_length] at this)
  have HV := hid hv
  have HV2 := hid hv2
  have HA := hid hA
  clear hv hv2 hA hm1 HH HH2 hm
  go_wp2
  go_loopw [8] (fun i wr => ∃ k n : Nat, wr = w2.drewN n ∧ k ≤ m ∧ i = .int .i64 k ∧ Hid (Agree ys zs k)) (fun i _ => m - (intOf i).toNat)
  case atStart => exact ⟨0, 0, rfl, Nat.zero_le _, rfl, hid (agree_zero _ _)⟩
  case round =>
    obtain ⟨k, n, rfl, hk, rfl, HE⟩ := hrel
    obtain ⟨A1, r1, g1, s1⟩ := vals_front (P := Try.prog) 29 9 i0 Try.underlying29 hi (k := k) (n := ys.length) (by omega) hc HV.out HA.out
    rw [strs_take] at s1
    have HS := hid s1
    clear s1 g1
    by_cases hgo : ∃ (h1 : k < ys.length) (h2 : k < zs.length), ys[k] = zs[k]
    · obtain ⟨h1, h2, hne⟩ := hgo
      have hlt : k < m := by have := HM.out; omega
      obtain ⟨b, o, rfl, _, hcell⟩ := strs_at HV.out h1
      obtain ⟨b2, o2, rfl, _, hcell2⟩ := strs_at HV2.out h2
      have HE2 := hid (agree_succ HE.out h1 h2 hne)
      rw [← hne] at hcell2
      clear hne r1 hi hz0 hz1 hz2
      go_wp2
      go_region
      go_wp2
      go_roundw
      case rel => exact ⟨k + 1, n + 1, rfl, by omega, by go_num, HE2⟩
      case measure => simp [intOf]; omega
    · have HC : Hid (common (parts (L p)) (parts (L q)) = k) := hid (by
        rw [← HY.out, ← HZ.out]
        exact agree_end HE.out (by omega) (by omega) (fun a b e => hgo ⟨a, b, e⟩))
      have HT : Hid ((ys.take k).length = k) := hid (by rw [List.length_take]; omega)
      have HTZ : Hid (∀ y ∈ ys.take k, y.size ≤ 1000) := hid (fun y hy => Nat.le_trans (HSZ.out y (List.mem_of_mem_take hy)) (by decide))
      have HTL : Hid ((ys.take k).map L = (parts (L p)).take k) := hid (by rw [← HY.out, List.map_take])
      clear hi hz0 hz1 hz2
      by_cases hlt : k < m
      · obtain ⟨b, o, rfl, _, hcell⟩ := strs_at HV.out (show k < ys.length by omega)
        obtain ⟨b2, o2, rfl, _, hcell2⟩ := strs_at HV2.out (show k < zs.length by omega)
        obtain ⟨e1, e2, e3⟩ := spell_ne (y := ys[k]'(by omega)) (z := zs[k]'(by omega)) (fun e => hgo ⟨by omega, by omega, e⟩)
        clear hgo
        go_wp2
        go_region
        go_wp2_with fail
        refine (join_any A1 k c (ys.take k) _ HT.out (by omega) (by omega) HTZ.out (HS.out.drewN _)).mono ?_
        rintro e w3 ⟨r, rfl, hr, hb⟩
        have HR := hid hr
        have HB3 := hid ((below_drewN HB.out (n + 1)).trans (hb.mono (below_drewN HB.out (n + 1)).size))
        clear hr hb
        go_wp2
        go_ret2
        exact ⟨r, by rw [HC.out]; simp, by rw [HC.out, HR.out, HTL.out], HB3.out⟩
      · obtain rfl : k = m := by omega
        clear hgo
        go_wp2
        go_region
        go_wp2_with fail
        refine (join_any A1 k c (ys.take k) _ HT.out (by omega) (by omega) HTZ.out (HS.out.drewN _)).mono ?_
        rintro e w3 ⟨r, rfl, hr, hb⟩
        have HR := hid hr
        have HB3 := hid ((below_drewN HB.out (n + 1)).trans (hb.mono (below_drewN HB.out (n + 1)).size))
        clear hr hb
        go_wp2
        go_ret2
        exact ⟨r, by rw [HC.out]; simp, by rw [HC.out, HR.out, HTL.out], HB3.out⟩

end Go.Proofs.Ytbnhkpceihfalaa
