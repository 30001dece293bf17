/-
  The contracts of num.ReadShort and of the document's own reader.
-/
import Derived.Test.YtilocedppkmikaaMath
import Derived.Test.YtilocedppkmikaaBase
import Derived.WalkKit
import Derived.WalkSpells
import Derived.WalkLawsBesides
namespace Go.Proofs.Ytilocedppkmikaa
open Go.RowKit

/-- What a reader answers: the number, how many bytes, the error; the world is as it was. -/
def Tells (t : Nat × Nat × Nat) (w : World) (e : Ending) (w' : World) : Prop :=
  e = .returned (.tuple #[.int .u64 (t.1 : Int), .int .i64 (t.2.1 : Int), .int .i64 (t.2.2 : Int)]) ∧ w = w'

theorem tells3 {t : Nat × Nat × Nat} {w : World} {a b c : Int} {x y z : Nat} (h : t = (x, y, z)) (ha : a = x) (hb : b = y) (hc : c = z) :
    Tells t w (.returned (.tuple #[.int .u64 a, .int .i64 b, .int .i64 c])) w := by
  subst h; subst ha; subst hb; subst hc; exact ⟨rfl, rfl⟩

def ReadRel (l : List Nat) (v i : Value) : Prop :=
  ∃ k n : Nat, k ≤ l.length ∧ k ≤ 9 ∧ n < 128 ^ k ∧ i = .int .i64 k ∧ v = .int .u64 n ∧ readAt k n (l.drop k) = readN l

set_option maxRecDepth 100000 in
set_option maxHeartbeats 400000 in
theorem readshort_any (A : Option Addr) (l : List Nat) (ca : Nat) (w : World) (hl : l.length ≤ 9223372036854775807) (h8 : ∀ x ∈ l, x < 256) (hA : Sees .u8 w A l) :
    Calls Try.prog 27 #[.slice A l.length ca] w (Tells (readN l) w) := by
  have HA := hid hA
  have H8 := hid h8
  clear hA h8
  go_enter Try.func27, Try.ntmps27
  go_wp2
  go_loop [2, 9] (fun v i => ReadRel l v i) (fun _ i => l.length - (intOf i).toNat)
  case atStart => exact ⟨0, 0, Nat.zero_le _, Nat.zero_le _, by decide, rfl, rfl, rfl⟩
  case round =>
    obtain ⟨k, n, hk, hk9, hn, rfl, rfl, hread⟩ := hrel
    have HR := hid hread
    have HN := hid hn
    clear hread hn
    by_cases hlt : k < l.length
    · have hc256 := H8.out _ (List.getElem_mem hlt)
      have hd := List.drop_eq_getElem_cons hlt
      obtain ⟨b, o, rfl, _, hc⟩ := HA.out k l[k] (List.getElem?_eq_getElem hlt)
      have HD := hid hd
      clear hd
      generalize l[k] = c at *
      by_cases hk' : k = 9
      · obtain rfl : k = 9 := hk'
        by_cases h1 : 1 < c
        · go_wp2
          go_ret3
          exact tells3 (by rw [← HR.out, HD.out, readAt_range ⟨rfl, h1⟩]) rfl rfl rfl
        · by_cases h3 : c = 0
          · obtain rfl : c = 0 := h3
            go_wp2
            go_ret3
            exact tells3 (by rw [← HR.out, HD.out, readAt_form ⟨rfl, by omega⟩]) rfl rfl rfl
          · obtain rfl : c = 1 := by omega
            have HT := hid (take9_walk n 1 (by omega) HN.out)
            go_wp2
            go_ret3
            exact tells3 (by rw [← HR.out, HD.out, readAt_ok (by omega) (by omega) (by omega)]) HT.out rfl rfl
      · have hk8 : k ≤ 8 := by omega
        clear hk'
        have HT := hid (take7_walk n c k hc256 (.inl hk8) HN.out)
        by_cases h2 : 128 ≤ c
        · go_wp2
          go_round
          case rel => exact ⟨k + 1, n + c % 128 * 128 ^ k, by omega, by omega, HT.out.2.2 hk8, by go_num, by rw [HT.out.1], by rw [← HR.out, HD.out, readAt_more (by omega) h2]⟩
          case measure => simp [intOf]; omega
        · by_cases h3 : c = 0
          · obtain rfl : c = 0 := h3
            by_cases h0 : 0 < k
            · go_wp2
              go_ret3
              exact tells3 (by rw [← HR.out, HD.out, readAt_form ⟨rfl, h0⟩]) rfl rfl rfl
            · go_wp2
              go_ret3
              exact tells3 (by rw [← HR.out, HD.out, readAt_ok (by omega) (by omega) (by omega)]) HT.out.1 (by omega) rfl
          · go_wp2
            go_ret3
            exact tells3 (by rw [← HR.out, HD.out, readAt_ok (by omega) (by omega) (by omega)]) HT.out.1 (by omega) rfl
    · go_wp2
      go_ret3
      exact tells3 (by rw [← HR.out, List.drop_of_length_le (by omega), readAt_nil]) rfl rfl rfl

theorem readshort_as (A : Option Addr) (l : List Nat) (n ca : Nat) (w : World) (hl : n ≤ 9223372036854775807) (hn : l.length = n) (h8 : ∀ x ∈ l, x < 256) (hA : Sees .u8 w A l) :
    Calls Try.prog 27 #[.slice A n ca] w (Tells (readN l) w) := by
  subst hn; exact readshort_any A l ca w hl h8 hA

def RefRel (l : List Nat) (v p i : Value) : Prop :=
  ∃ k n : Nat, k ≤ l.length ∧ k ≤ 9 ∧ n < 128 ^ k ∧ i = .int .i64 k ∧ v = .int .u64 n ∧ p = .int .u64 ((128 ^ k : Nat) : Int) ∧ readAt k n (l.drop k) = readN l

set_option maxRecDepth 100000 in
set_option maxHeartbeats 400000 in
theorem refreadshort_any (A : Option Addr) (l : List Nat) (ca : Nat) (w : World) (hl : l.length ≤ 9223372036854775807) (h8 : ∀ x ∈ l, x < 256) (hA : Sees .u8 w A l) :
    Calls Try.prog 22 #[.slice A l.length ca] w (Tells (readN l) w) := by
  have HA := hid hA
  have H8 := hid h8
  clear hA h8
  go_enter Try.func22, Try.ntmps22
  go_wp2
  go_loop [5, 6, 7] (fun v p i => RefRel l v p i) (fun _ _ i => l.length - (intOf i).toNat)
  case atStart => exact ⟨0, 0, Nat.zero_le _, Nat.zero_le _, by decide, rfl, rfl, rfl, rfl⟩
  case round =>
    obtain ⟨k, n, hk, hk9, hn, rfl, rfl, rfl, hread⟩ := hrel
    have HR := hid hread
    have HN := hid hn
    clear hread hn
    by_cases hlt : k < l.length
    · have hc256 := H8.out _ (List.getElem_mem hlt)
      have hd := List.drop_eq_getElem_cons hlt
      obtain ⟨b, o, rfl, _, hc⟩ := HA.out k l[k] (List.getElem?_eq_getElem hlt)
      have HD := hid hd
      clear hd
      generalize l[k] = c at *
      by_cases hk' : k = 9
      · obtain rfl : k = 9 := hk'
        by_cases h1 : 1 < c
        · go_wp2
          go_ret3
          exact tells3 (by rw [← HR.out, HD.out, readAt_range ⟨rfl, h1⟩]) rfl rfl rfl
        · by_cases h3 : c = 0
          · obtain rfl : c = 0 := h3
            go_wp2
            go_ret3
            exact tells3 (by rw [← HR.out, HD.out, readAt_form ⟨rfl, by omega⟩]) rfl rfl rfl
          · obtain rfl : c = 1 := by omega
            have HT := hid (refadd1_walk n HN.out)
            go_wp2
            go_ret3
            exact tells3 (by rw [← HR.out, HD.out, readAt_ok (by omega) (by omega) (by omega)]) HT.out rfl rfl
      · have hk8 : k ≤ 8 := by omega
        clear hk'
        have HT := hid (refadd_walk n c k hc256 (.inl hk8) HN.out)
        have HB := hid (take7_walk n c k hc256 (.inl hk8) HN.out)
        have HP := hid (refpow_walk k hk8)
        by_cases h2 : 128 ≤ c
        · go_wp2
          go_round
          case rel => exact ⟨k + 1, n + c % 128 * 128 ^ k, by omega, by omega, HB.out.2.2 hk8, by go_num, by rw [HT.out], by rw [HP.out], by rw [← HR.out, HD.out, readAt_more (by omega) h2]⟩
          case measure => simp [intOf]; omega
        · by_cases h3 : c = 0
          · obtain rfl : c = 0 := h3
            by_cases h0 : 0 < k
            · go_wp2
              go_ret3
              exact tells3 (by rw [← HR.out, HD.out, readAt_form ⟨rfl, h0⟩]) rfl rfl rfl
            · have HZ := hid (refadd0_walk n k hk8 HN.out)
              go_wp2
              go_ret3
              exact tells3 (by rw [← HR.out, HD.out, readAt_ok (by omega) (by omega) (by omega)]) HZ.out (by omega) rfl
          · go_wp2
            go_ret3
            exact tells3 (by rw [← HR.out, HD.out, readAt_ok (by omega) (by omega) (by omega)]) HT.out (by omega) rfl
    · go_wp2
      go_ret3
      exact tells3 (by rw [← HR.out, List.drop_of_length_le (by omega), readAt_nil]) rfl rfl rfl

end Go.Proofs.Ytilocedppkmikaa
