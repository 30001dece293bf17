/-
  The contracts of package crew that touch no memory.
-/
import Derived.Test.YtkkjjhljlcabaaaRows
import Derived.Test.YtkkjjhljlcabaaaCMath
import Derived.Test.YtkkjjhljlcabaaaVals
import Derived.Test.YtkkjjhljlcabaaaShelf
import Derived.IntWalk
namespace Go.Proofs.Ytkkjjhljlcabaaa
open Go.ChangeShapes Go.WideShapes Go.ChangeAt Go.RowKit

theorem shl_walk {n : Nat} (h : n < 7) : IntKind.u8.wrap (2 ^ n) = 2 ^ n := by
  rcases seven h with h | h | h | h | h | h | h <;> rw [h] <;> decide

set_option maxHeartbeats 400000 in
theorem alone_any (r : Int) (w : World) :
    Calls Try.prog 22 #[.int .i64 r] w fun e w' => e = .returned (.int .u8 (alone r : Int)) ∧ w = w' := by
  have HA : Hid (alone r = if 0 ≤ r ∧ r < 7 then 2 ^ r.toNat else 0) := hid rfl
  by_cases hr : 0 ≤ r ∧ r < 7
  · obtain ⟨n, rfl⟩ := Int.eq_ofNat_of_zero_le hr.1
    have hn : n < 7 := by omega
    have hp := hid (shl_walk hn)
    have HE : Hid ((alone (n : Int) : Int) = 2 ^ n) := hid (by rw [HA.out, if_pos hr]; simp)
    clear hr
    go_enter Try.func22, Try.ntmps22
    go_wp2
    go_ret
    exact ⟨ret_num (by rw [HE.out]; exact hp.out), rfl⟩
  · by_cases h2 : r < 0
    · clear hr
      go_enter Try.func22, Try.ntmps22
      go_wp2
      go_ret
      exact ⟨ret_num (by rw [HA.out, if_neg (by omega)]; rfl), rfl⟩
    · have h3 : 7 ≤ r := by omega
      clear hr
      go_enter Try.func22, Try.ntmps22
      go_wp2
      go_ret
      exact ⟨ret_num (by rw [HA.out, if_neg (by omega)]; rfl), rfl⟩

/-- What a call of one replica leans on. -/
theorem alone_small (r : Int) : alone r < 256 := by have := alone_lt r; omega

set_option maxHeartbeats 400000 in
theorem has_any (s : Nat) (r : Int) (w : World) (hs : s < 256) :
    Calls Try.prog 8 #[.int .u8 (s : Int), .int .i64 r] w fun e w' => e = .returned (.bool (hasB s r)) ∧ w = w' := by
  have HW := hid (has_walk hs r)
  go_enter Try.func8, Try.ntmps8
  go_wp2_with (go_at_call 22; refine (alone_any _ _).mono ?_; rintro e w' ⟨rfl, rfl⟩)
  go_ret
  exact ⟨ret_bool HW.out, rfl⟩

set_option maxHeartbeats 400000 in
theorem with_any (s : Nat) (r : Int) (w : World) (hs : s < 256) :
    Calls Try.prog 14 #[.int .u8 (s : Int), .int .i64 r] w fun e w' => e = .returned (.int .u8 (withN s r : Int)) ∧ w = w' := by
  have HW := hid (or_walk hs r)
  go_enter Try.func14, Try.ntmps14
  go_wp2_with (go_at_call 22; refine (alone_any _ _).mono ?_; rintro e w' ⟨rfl, rfl⟩)
  go_ret
  exact ⟨ret_num HW.out, rfl⟩

set_option maxHeartbeats 400000 in
theorem without_any (s : Nat) (r : Int) (w : World) (hs : s < 256) :
    Calls Try.prog 15 #[.int .u8 (s : Int), .int .i64 r] w fun e w' => e = .returned (.int .u8 (lessN s r : Int)) ∧ w = w' := by
  have HW := hid (andNot_walk hs r)
  go_enter Try.func15, Try.ntmps15
  go_wp2_with (go_at_call 22; refine (alone_any _ _).mono ?_; rintro e w' ⟨rfl, rfl⟩)
  go_ret
  exact ⟨ret_num HW.out, rfl⟩

set_option maxHeartbeats 400000 in
theorem lacks_any (s : Nat) (r : Int) (w : World) (hs : s < 256) :
    Calls Try.prog 25 #[.int .u8 (s : Int), .int .i64 r] w fun e w' => e = .returned (.bool (!hasB s r)) ∧ w = w' := by
  go_enter Try.func25, Try.ntmps25
  go_wp2_with (go_at_call 8; refine (has_any _ _ _ hs).mono ?_; rintro e w' ⟨rfl, rfl⟩)
  go_ret
  exact ⟨rfl, rfl⟩

theorem run_mini (P : Program) (a b m : Int) (h : min a b = m) (w : World) (ts : Array TypeId) (t : TypeId) : (Builtin.min_ ts t #[.int .i64 a, .int .i64 b]).run P w = .ok (.int .i64 m) w := by
  subst h
  rcases (show b < a ∨ a ≤ b by omega) with h | h
  · have : min a b = b := by omega
    rw [this]
    simp [Builtin.min_, Builtin.min2, h]
  · have : min a b = a := by omega
    rw [this]
    have h2 : ¬ b < a := by omega
    simp [Builtin.min_, Builtin.min2, h2]

set_option maxHeartbeats 400000 in
theorem allset_any (n : Int) (w : World) :
    Calls Try.prog 17 #[.int .i64 n] w fun e w' => e = .returned (.int .u8 (firstN (cutN n) : Int)) ∧ w = w' := by
  obtain ⟨m, hm⟩ : ∃ m, min n 7 = m := ⟨_, rfl⟩
  have hc : Hid (cutN n = m.toNat) := hid (by unfold cutN; rw [hm])
  have hm7 : m ≤ 7 := by omega
  have hmin := fun w => run_mini Try.prog n 7 m hm w
  clear hm
  go_enter Try.func17, Try.ntmps17
  go_wp2
  go_loop [3, 7] (fun s r => ∃ k : Nat, (k = 0 ∨ (k : Int) ≤ m) ∧ r = .int .i64 k ∧ s = .int .u8 (firstN k : Int)) (fun _ r => 7 - (intOf r).toNat)
  case atStart => exact ⟨0, .inl rfl, rfl, rfl⟩
  case round =>
    obtain ⟨k, hk, rfl, rfl⟩ := hrel
    by_cases hlt : (k : Int) < m
    · have HN := hid (first_next (show k < 7 by omega))
      have hf := first_lt (show k ≤ 7 by omega)
      go_wp2_with (go_at_call 14; refine (with_any _ _ _ (by omega)).mono ?_; rintro e w' ⟨rfl, rfl⟩)
      go_round
      case rel => exact ⟨k + 1, .inr (by omega), by go_num, by rw [HN.out]⟩
      case measure => simp [intOf]; omega
    · have hkc : Hid (cutN n = k) := hid (by rw [hc.out]; omega)
      go_wp2
      go_ret
      exact ⟨ret_num (by rw [hkc.out]), rfl⟩

set_option maxHeartbeats 400000 in
theorem meet_any (s o : Nat) (w : World) (hs : s < 256) (ho : o < 256) :
    Calls Try.prog 12 #[.int .u8 (s : Int), .int .u8 (o : Int)] w fun e w' => e = .returned (.int .u8 (meetN s o : Int)) ∧ w = w' := by
  have HW := hid (meet_walk hs ho)
  have HF : Hid ((firstN (cutN 7) : Int) = 127) := hid (by decide)
  go_enter Try.func12, Try.ntmps12
  go_wp2_with (go_at_call 17; refine (allset_any _ _).mono ?_; rintro e w' ⟨rfl, rfl⟩; rw [HF.out])
  go_ret
  exact ⟨ret_num HW.out, rfl⟩

theorem ones_cnt : ∀ s : Fin 128, Lib.onesCount s.val = cnt s.val := by decide +kernel

set_option maxHeartbeats 400000 in
theorem count_any (s : Nat) (w : World) (hs : s < 256) :
    Calls Try.prog 9 #[.int .u8 (s : Int)] w fun e w' => e = .returned (.int .i64 (cnt s : Int)) ∧ w = w' := by
  obtain ⟨m, hm⟩ : ∃ m, meetN s s = m := ⟨_, rfl⟩
  have hml : m < 128 := by have := meet_lt s s; omega
  have HM := hid hm
  have HC : Hid (Lib.onesCount (m : Int).toNat = cnt s) := hid (by rw [Int.toNat_natCast]; exact (ones_cnt ⟨m, hml⟩).trans (by show cnt m = _; rw [← hm]; exact cnt_meet_self s))
  clear hm
  go_enter Try.func9, Try.ntmps9
  go_wp2_with (first
    | (go_at_call 12; refine (meet_any _ _ _ hs hs).mono ?_; rintro e w' ⟨rfl, rfl⟩; rw [HM.out])
    | (go_at_call 23; refine (Try.bits_OnesCount8 _ _ (by omega) (by omega)).mono ?_; rintro e w' ⟨rfl, rfl⟩; rw [HC.out]))
  go_ret
  exact ⟨rfl, rfl⟩

/-! ### The numbers of a crew -/
set_option maxHeartbeats 400000 in
theorem right_any (n : Int) (w : World) : Calls Try.prog 18 #[.int .i64 n] w fun e w' => e = .returned (.bool (rightN n)) ∧ w = w' := by
  have HR : Hid (rightN n = ((n == 3 || n == 5) || n == 7)) := hid rfl
  go_enter Try.func18, Try.ntmps18
  go_wp2
  all_goals
    go_ret
    refine ⟨ret_bool ?_, rfl⟩
    first | exact HR.out.symm | (rw [HR.out]; simp_all)

/-- F of a number. -/
def fN (n : Int) : Int := if n = 3 then 1 else if n = 5 then 2 else if n = 7 then 3 else 0
theorem fN_bd (n : Int) : 0 ≤ fN n ∧ fN n ≤ 3 := by unfold fN; split <;> (try split) <;> (try split) <;> omega
theorem right_of {n : Int} (h : rightN n = true) : n = 3 ∨ n = 5 ∨ n = 7 := by simpa [rightN, or_assoc] using h
theorem not_right {n : Int} (h : rightN n = false) : fN n = 0 := by
  unfold rightN at h
  simp at h
  unfold fN
  rw [if_neg h.1.1, if_neg h.1.2, if_neg h.2]

set_option maxHeartbeats 400000 in
theorem f_any (n : Int) (w : World) : Calls Try.prog 19 #[.int .i64 n] w fun e w' => e = .returned (.int .i64 (fN n)) ∧ w = w' := by
  cases hr : rightN n with
  | false =>
    have HR := hid hr
    have HN := hid (not_right hr)
    clear hr
    go_enter Try.func19, Try.ntmps19
    go_wp2_with (go_at_call 18; refine (right_any _ _).mono ?_; rintro e w' ⟨rfl, rfl⟩; rw [HR.out])
    go_ret
    exact ⟨ret_num HN.out.symm, rfl⟩
  | true =>
    have HR := hid hr
    have h3 : 3 ≤ n ∧ n ≤ 7 := by have := right_of hr; omega
    have HN : Hid ((n - 1) / 2 = fN n) := hid (by rcases right_of hr with h | h | h <;> subst h <;> decide)
    obtain ⟨h3, h7⟩ := h3
    clear hr
    go_enter Try.func19, Try.ntmps19
    go_wp2_with (go_at_call 18; refine (right_any _ _).mono ?_; rintro e w' ⟨rfl, rfl⟩; rw [HR.out])
    go_ret
    exact ⟨ret_num HN.out, rfl⟩

def majN (n : Int) : Int := if rightN n then fN n + 1 else 0
set_option maxHeartbeats 400000 in
theorem majority_any (n : Int) (w : World) : Calls Try.prog 20 #[.int .i64 n] w fun e w' => e = .returned (.int .i64 (majN n)) ∧ w = w' := by
  have hf := fN_bd n
  obtain ⟨h3, h7⟩ := hf
  cases hr : rightN n with
  | false =>
    have HR := hid hr
    have HN : Hid (majN n = 0) := hid (by unfold majN; rw [hr]; rfl)
    clear hr
    go_enter Try.func20, Try.ntmps20
    go_wp2_with (go_at_call 18; refine (right_any _ _).mono ?_; rintro e w' ⟨rfl, rfl⟩; rw [HR.out])
    go_ret
    exact ⟨ret_num HN.out.symm, rfl⟩
  | true =>
    have HR := hid hr
    have HN : Hid (majN n = fN n + 1) := hid (by unfold majN; rw [hr]; rfl)
    clear hr
    go_enter Try.func20, Try.ntmps20
    go_wp2_with (first
      | (go_at_call 18; refine (right_any _ _).mono ?_; rintro e w' ⟨rfl, rfl⟩; rw [HR.out])
      | (go_at_call 19; refine (f_any _ _).mono ?_; rintro e w' ⟨rfl, rfl⟩))
    go_ret
    exact ⟨ret_num HN.out.symm, rfl⟩

set_option maxHeartbeats 400000 in
theorem fast_any (n : Int) (w : World) : Calls Try.prog 21 #[.int .i64 n] w fun e w' => e = .returned (.int .i64 (2 * fN n)) ∧ w = w' := by
  have hf := fN_bd n
  obtain ⟨h3, h7⟩ := hf
  go_enter Try.func21, Try.ntmps21
  go_wp2_with (go_at_call 19; refine (f_any _ _).mono ?_; rintro e w' ⟨rfl, rfl⟩)
  go_ret
  exact ⟨rfl, rfl⟩

/-! ### A set of some replicas -/
def ints (l : List Int) : List Value := l.map (Value.int .i64)
theorem ints_length (l : List Int) : (ints l).length = l.length := by simp [ints]
def ofN (l : List Int) : Nat := l.foldl withN 0
theorem ofN_snoc (l : List Int) (r : Int) : ofN (l ++ [r]) = withN (ofN l) r := by simp [ofN]
theorem fold_lt : ∀ (l : List Int) (s : Nat), s < 256 → l.foldl withN s < 256
  | [], _, h => h
  | r :: l, _, h => fold_lt l _ (with_lt h r)
theorem ofN_lt (l : List Int) : ofN l < 256 := fold_lt l 0 (by decide)
theorem fold_bit (i : Nat) : ∀ (l : List Int) (s : Nat), (l.foldl withN s).testBit i = (s.testBit i || (decide (i < 7) && l.any fun r => r == (i : Int)))
  | [], s => by simp
  | r :: l, s => by
    rw [List.foldl_cons, fold_bit i l, with_bit, List.any_cons]
    by_cases h : i < 7
    · by_cases hr : (i : Int) = r
      · subst hr; simp [h]
      · have : (r == (i : Int)) = false := beq_eq_false_iff_ne.2 (Ne.symm hr)
        simp [h, hr, this]
    · simp [h]
theorem ofN_bit (l : List Int) (i : Nat) : (ofN l).testBit i = (decide (i < 7) && l.any fun r => r == (i : Int)) := by
  unfold ofN; rw [fold_bit, Nat.zero_testBit, Bool.false_or]

set_option maxHeartbeats 400000 in
theorem ofset_any (A : Option Addr) (l : List Int) (n c : Nat) (w : World) (hn : l.length = n) (hm : n ≤ 9223372036854775807) (hv : Vals w A (ints l)) :
    Calls Try.prog 16 #[.slice A n c] w fun e w' => e = .returned (.int .u8 (ofN l : Int)) ∧ w = w' := by
  have HV := hid hv
  have HN := hid hn
  clear hv hn
  go_enter Try.func16, Try.ntmps16
  go_wp2
  go_loop [3, 5, 8] (fun s _ i => ∃ k : Nat, k ≤ n ∧ i = .int .i64 k ∧ s = .int .u8 (ofN (l.take k) : Int)) (fun _ _ i => n - (intOf i).toNat)
  case atStart => exact ⟨0, Nat.zero_le _, rfl, rfl⟩
  case round =>
    obtain ⟨k, hk, rfl, rfl⟩ := hrel
    by_cases hlt : k < n
    · have hkl : k < l.length := by rw [HN.out]; exact hlt
      obtain ⟨b, o, rfl, _, hcell⟩ := HV.out.at_ (show k < (ints l).length by rw [ints_length]; exact hkl)
      have he : (ints l)[k]'(by rw [ints_length]; exact hkl) = .int .i64 l[k] := by simp [ints]
      rw [he] at hcell
      have HS := hid (show ofN (l.take (k + 1)) = withN (ofN (l.take k)) l[k] by rw [List.take_succ_eq_append_getElem hkl, ofN_snoc])
      have hf := ofN_lt (l.take k)
      generalize l[k] = x at hcell HS
      generalize ofN (l.take k) = q at hf HS
      clear he
      go_wp2_with (go_at_call 14; refine (with_any _ _ _ hf).mono ?_; rintro e w' ⟨rfl, rfl⟩)
      go_round
      case rel => exact ⟨k + 1, by omega, by go_num, by rw [HS.out]⟩
      case measure => simp [intOf]; omega
    · have hkc : Hid (l.take k = l) := hid (List.take_of_length_le (by rw [HN.out]; omega))
      go_wp2
      go_ret
      exact ⟨ret_num (by rw [hkc.out]), rfl⟩

end Go.Proofs.Ytkkjjhljlcabaaa
