/-
  The law's own digits (package cmd).
-/
import Derived.Test.YtfdphcgfdodnoaaDoorKRead
import Derived.Test.YtfdphcgfdodnoaaDoorKHas
import Derived.LoopTactic
namespace Go.Proofs.YtfdphcgfdodnoaaDoor
open Go.ChangeShapes Go.WideShapes Go.ChangeAt Go.RowKit Go.Lib
set_option linter.unusedSimpArgs false
set_option linter.unusedVariables false

theorem conv7 (y : Int) (w : World) (c : ByteArray) (hc : c = ⟨#[UInt8.ofNat y.toNat]⟩) :
    (convert 56 9 (.slice (some ⟨w.heap.size, 0, none⟩) 1 1)).run Tryd.prog (w.alloc (.cells #[.int .u8 y] 5)) = .ok (.string c) (w.alloc (.cells #[.int .u8 y] 5)) := by
  subst hc
  refine run_convert_bytes_arg _ 56 5 Tryd.underlying56 Tryd.underlying5 w.heap.size 0 1 1 [y] rfl ?_ 9 Tryd.underlying9
  intro i hi
  obtain rfl : i = 0 := by omega
  rw [(Blk.new w 5 #[.int .u8 y]).cell]
  rfl

set_option maxRecDepth 100000 in
set_option maxHeartbeats 1000000 in
theorem digits7 (v : Nat) (w : World) (hv : v < 18446744073709551616) :
    Calls Tryd.prog 36 #[.int .u64 (v : Int)] w (TellsL (decDigits v) w) := by
  have hlen : (decDigits v).length ≤ 20 := by rw [decDigits_length]; exact nDigits_le20 v hv
  go_enter Tryd.func36, Tryd.ntmps36
  go_wp2
  go_loopw [0, 3] (fun n s wr => ∃ (u : Nat) (r : ByteArray), n = .int .u64 (u : Int) ∧ s = .string r ∧ u < 18446744073709551616 ∧ Hid (decDigits v = decDigits u ++ L r) ∧ Hid (Below w.heap.size w wr)) (fun n _ _ => (RowKit.intOf n).toNat)
  case atStart => exact ⟨v, ⟨#[]⟩, rfl, rfl, hv, hid (by simp [L]), hid (Below.refl _ _)⟩
  case round =>
    obtain ⟨u, r, rfl, rfl, hu, H, HB⟩ := hrel
    have hr : r.size ≤ 20 := by
      have h := congrArg List.length H.out
      rw [List.length_append, L_length] at h
      omega
    obtain ⟨q, hq⟩ : ∃ q : Int, (u : Int) / 10 = q := ⟨_, rfl⟩
    obtain ⟨m, hm⟩ : ∃ m : Int, (u : Int) % 10 = m := ⟨_, rfl⟩
    have hm0 : 0 ≤ m := by omega
    have hm1 : m < 10 := by omega
    have hq0 : 0 ≤ q := by omega
    have hq1 : q < 18446744073709551616 := by omega
    obtain ⟨c1, hc1⟩ : ∃ c1 : ByteArray, c1 = ⟨#[UInt8.ofNat (48 + m).toNat]⟩ := ⟨_, rfl⟩
    have hcv := conv7 (48 + m) wr c1 hc1
    have hs1 : c1.size ≤ 1 := by rw [hc1]; exact Nat.le_refl _
    have HC : Hid (L (c1 ++ r) = UInt8.ofNat (48 + u % 10) :: L r) := hid (by
      rw [L_append, hc1, show (48 + m).toNat = 48 + u % 10 by omega]; rfl)
    have HB1 := hid (HB.out.alloc HB.out.size (.cells #[.int .u8 (48 + m)] 5))
    clear hc1
    rcases Decidable.em (q = 0) with h0 | h0
    · subst h0
      have HD : Hid (decDigits v = L (c1 ++ r)) := hid (by rw [H.out, HC.out, dec_small (by omega), show u % 10 = u by omega]; rfl)
      go_wp2
      go_ret
      exact ⟨_, rfl, HD.out.symm, HB1.out⟩
    · have hz : (q == 0) = false := beq_eq_false_iff_ne.2 h0
      have HD : Hid (decDigits v = decDigits (u / 10) ++ L (c1 ++ r)) := hid (by rw [H.out, HC.out, dec_big (by omega)]; simp)
      go_wp2
      go_roundw
      case rel => exact ⟨u / 10, _, by rw [← hq]; congr 1, rfl, by omega, HD, HB1⟩
      case measure => simp only [RowKit.intOf]; omega

theorem digits_at (v : Nat) (x : Int) (w : World) (hx : x = (v : Int)) (hv : v < 18446744073709551616) :
    Calls Tryd.prog 36 #[.int .u64 x] w (TellsL (decDigits v) w) := by
  subst hx
  exact digits7 v w hv
/-- The literals of the text's words. -/
theorem lits7 : L ⟨#[32, 110, 117, 109, 61]⟩ = 32 :: (nNum ++ [61]) ∧ L ⟨#[32, 102, 111, 111, 116, 61]⟩ = 32 :: (nFoot ++ [61]) ∧ L ⟨#[32, 114, 101, 113, 117, 101, 115, 116, 61]⟩ = 32 :: (nReq ++ [61]) ∧ L ⟨#[32, 112, 97, 116, 104, 61]⟩ = 32 :: (nPath ++ [61]) ∧ L ⟨#[32, 109, 111, 100, 101, 61]⟩ = 32 :: (nMode ++ [61]) ∧ L ⟨#[32, 110, 61]⟩ = 32 :: (nN ++ [61]) ∧ L ⟨#[32, 116, 105, 109, 101, 61]⟩ = 32 :: (nTime ++ [61]) := ⟨rfl, rfl, rfl, rfl, rfl, rfl, rfl⟩

end Go.Proofs.YtfdphcgfdodnoaaDoor
