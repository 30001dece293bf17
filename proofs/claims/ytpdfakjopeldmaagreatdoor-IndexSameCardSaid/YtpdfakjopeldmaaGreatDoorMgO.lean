/-
  The contract of num.Short.
-/
import Derived.Test.YtpdfakjopeldmaaGreatDoorMath
import Derived.Test.YtpdfakjopeldmaaGreatDoorBase
import Derived.WalkKit
import Derived.WalkSpells
import Derived.WalkLawsBesides
import Derived.Laws.BytesArg
import Derived.Test.YtpdfakjopeldmaaGreatDoorHeld
import Derived.Laws.IdiomStrings
namespace Go.Proofs.YtpdfakjopeldmaaGreatDoor
open Go.RowKit

/-- What a loop that writes a short number holds: `a` is written, `n` is left. -/
def ShortRel (V : Nat) (base : Nat) (w : World) (n : Value) (s : Value) (wr : World) : Prop :=
  ∃ (m : Nat) (a : List Nat), n = .int .u64 m ∧ m < 18446744073709551616 ∧ a.length + (shortN m).length = (shortN V).length ∧ a ++ shortN m = shortN V ∧
    wr.ownsRow base 5 1 s a.length (a.map bv) ∧ Below base w wr

theorem short_step {V base m : Nat} {a : List Nat} {w wr w1 : World} {s v' : Value} {o : Obj} {x : Int} (hsz : base ≤ wr.heap.size) (hx : x = ((m % 128 + 128 : Nat) : Int))
    (hm : m < 18446744073709551616) (h128 : 128 ≤ m)
    (hlen : a.length + (shortN m).length = (shortN V).length) (happ : a ++ shortN m = shortN V) (hown : wr.ownsRow base 5 1 s a.length (a.map bv)) (hb : Below base w wr)
    (hown' : w1.ownsRow base 5 1 v' (a.length + 1) (a.map bv ++ [.int .u8 x])) (hg : (wr.alloc o).grownBy w1 s.ownBlock) :
    ShortRel V base w (.int .u64 ((m / 128 : Nat) : Int)) v' w1 := by
  subst hx
  rw [shortN_hi h128] at hlen happ
  refine ⟨m / 128, a ++ [m % 128 + 128], rfl, by omega, ?_, ?_, ?_, below_append hb hsz hown hg⟩
  · rw [← hlen]; simp; omega
  · rw [← happ]; simp
  · simpa [bv] using hown'

theorem short_end {V m : Nat} {a : List Nat} {w wr w1 : World} {s v' : Value} {o : Obj} {x : Int} (hsz : w.heap.size ≤ wr.heap.size) (hx : x = (m : Int)) (h128 : m < 128)
    (happ : a ++ shortN m = shortN V) (hown : wr.ownsRow w.heap.size 5 1 s a.length (a.map bv)) (hb : Below w.heap.size w wr)
    (hown' : w1.ownsRow w.heap.size 5 1 v' (a.length + 1) (a.map bv ++ [.int .u8 x])) (hg : (wr.alloc o).grownBy w1 s.ownBlock) :
    Makes (shortN V) w (.returned v') w1 := by
  subst hx
  rw [shortN_lo h128] at happ
  refine ⟨v', rfl, ?_, below_append hb hsz hown hg⟩
  rw [← happ]
  simpa [bv] using hown'

set_option maxRecDepth 100000 in
set_option maxHeartbeats 400000 in
theorem short_any (v : Nat) (w : World) (hv : v < 18446744073709551616) :
    Calls Tryz.prog 82 #[.int .u64 v] w (Makes (shortN v) w) := by
  obtain ⟨i0, hi, hz0, hz1, hz2⟩ := info_parts info_u8
  have HL := hid (shortN_len10 hv)
  go_enter Tryz.func82, Tryz.ntmps82
  go_wp2
  go_loopw [0, 3] (fun n s wr => ShortRel v w.heap.size w n s wr) (fun n _ _ => (intOf n).toNat)
  case atStart => exact ⟨v, [], rfl, hv, by simp, by simp, World.ownsRow_nil _ _ _ _, Below.refl _ _⟩
  case round =>
    obtain ⟨m, a, rfl, hm, hlen, happ, hown, hbel⟩ := hrel
    have hsz := hbel.size
    have hal : a.length ≤ 10 := by have h1 := HL.out; have h2 := shortN_pos m; omega
    have HA := hid happ
    have HN := hid hlen
    clear happ hlen
    by_cases h128 : 128 ≤ m
    · go_wp2_with (at_builtin; refine wpList_append_own _ rfl (.tmp 6) (.tmp 10) 48 rfl w.heap.size 5 i0 (.int .u8 0) 1 1 Tryz.underlying48 hi hz0 hz1 hz2 rfl (by decide) _ _ _ rfl (hown.alloc _) ⟨wr.heap.size, 0, none⟩ 1 1 [.int .u8 (bits BinOp.or IntKind.u8 ((m : Int) % 256) 128)] rfl rfl (one_at _) one_cell (by unfold maxLen; omega) (by omega) (by simp; omega) ?_)
      intro v' w1 hown' hgrow _
      have R := hid (short_step hsz (or128_walk m) hm h128 HN.out HA.out hown hbel hown' hgrow)
      clear hown' hgrow hown
      go_wp2
      go_roundw
      case rel => exact R.out
      case measure => simp [intOf]; omega
    · go_wp2_with (at_builtin; refine wpList_append_own _ rfl (.tmp 14) (.tmp 17) 48 rfl w.heap.size 5 i0 (.int .u8 0) 1 1 Tryz.underlying48 hi hz0 hz1 hz2 rfl (by decide) _ _ _ rfl (hown.alloc _) ⟨wr.heap.size, 0, none⟩ 1 1 [.int .u8 (m : Int)] rfl rfl (one_at _) one_cell (by unfold maxLen; omega) (by omega) (by simp; omega) ?_)
      intro v' w1 hown' hgrow _
      have R := hid (short_end hsz rfl (by omega) HA.out hown hbel hown' hgrow)
      clear hown' hgrow hown
      go_wp2
      go_ret
      exact R.out

theorem short_hands (v : Nat) (w : World) (hv : v < 18446744073709551616) : Calls Tryz.prog 82 #[.int .u64 v] w (Hands (shortN v) w) :=
  (short_any v w hv).mono fun _ _ h => h.hands

end Go.Proofs.YtpdfakjopeldmaaGreatDoor

/-
  The contracts of num.ReadShort and of the document's own reader.
-/
namespace Go.Proofs.YtpdfakjopeldmaaGreatDoor
open Go.RowKit

/-- What a reader answers: the number, how many bytes, the error; the world is as it was. -/
def Tells (t : Nat × Nat × Nat) (w : World) (e : Ending) (w' : World) : Prop :=
  e = .returned (.tuple #[.int .u64 (t.1 : Int), .int .i64 (t.2.1 : Int), .int .i64 (t.2.2 : Int)]) ∧ w = w'

theorem tells3 {t : Nat × Nat × Nat} {w : World} {a b c : Int} {x y z : Nat} (h : t = (x, y, z)) (ha : a = x) (hb : b = y) (hc : c = z) :
    Tells t w (.returned (.tuple #[.int .u64 a, .int .i64 b, .int .i64 c])) w := by
  subst h; subst ha; subst hb; subst hc; exact ⟨rfl, rfl⟩

def ReadRel (l : List Nat) (v i : Value) : Prop :=
  ∃ k n : Nat, k ≤ l.length ∧ k ≤ 9 ∧ n < 128 ^ k ∧ i = .int .i64 k ∧ v = .int .u64 n ∧ readAt k n (l.drop k) = readN l

set_option maxRecDepth 100000 in
set_option maxHeartbeats 400000 in
theorem readshort_any (A : Option Addr) (l : List Nat) (ca : Nat) (w : World) (hl : l.length ≤ 9223372036854775807) (h8 : ∀ x ∈ l, x < 256) (hA : Sees .u8 w A l) :
    Calls Tryz.prog 85 #[.slice A l.length ca] w (Tells (readN l) w) := by
  have HA := hid hA
  have H8 := hid h8
  clear hA h8
  go_enter Tryz.func85, Tryz.ntmps85
  go_wp2
  go_loop [2, 9] (fun v i => ReadRel l v i) (fun _ i => l.length - (intOf i).toNat)
  case atStart => exact ⟨0, 0, Nat.zero_le _, Nat.zero_le _, by decide, rfl, rfl, rfl⟩
  case round =>
    obtain ⟨k, n, hk, hk9, hn, rfl, rfl, hread⟩ := hrel
    have HR := hid hread
    have HN := hid hn
    clear hread hn
    by_cases hlt : k < l.length
    · have hc256 := H8.out _ (List.getElem_mem hlt)
      have hd := List.drop_eq_getElem_cons hlt
      obtain ⟨b, o, rfl, _, hc⟩ := HA.out k l[k] (List.getElem?_eq_getElem hlt)
      have HD := hid hd
      clear hd
      generalize l[k] = c at *
      by_cases hk' : k = 9
      · obtain rfl : k = 9 := hk'
        by_cases h1 : 1 < c
        · go_wp2
          go_ret3
          exact tells3 (by rw [← HR.out, HD.out, readAt_range ⟨rfl, h1⟩]) rfl rfl rfl
        · by_cases h3 : c = 0
          · obtain rfl : c = 0 := h3
            go_wp2
            go_ret3
            exact tells3 (by rw [← HR.out, HD.out, readAt_form ⟨rfl, by omega⟩]) rfl rfl rfl
          · obtain rfl : c = 1 := by omega
            have HT := hid (take9_walk n 1 (by omega) HN.out)
            go_wp2
            go_ret3
            exact tells3 (by rw [← HR.out, HD.out, readAt_ok (by omega) (by omega) (by omega)]) HT.out rfl rfl
      · have hk8 : k ≤ 8 := by omega
        clear hk'
        have HT := hid (take7_walk n c k hc256 (.inl hk8) HN.out)
        by_cases h2 : 128 ≤ c
        · go_wp2
          go_round
          case rel => exact ⟨k + 1, n + c % 128 * 128 ^ k, by omega, by omega, HT.out.2.2 hk8, by go_num, by rw [HT.out.1], by rw [← HR.out, HD.out, readAt_more (by omega) h2]⟩
          case measure => simp [intOf]; omega
        · by_cases h3 : c = 0
          · obtain rfl : c = 0 := h3
            by_cases h0 : 0 < k
            · go_wp2
              go_ret3
              exact tells3 (by rw [← HR.out, HD.out, readAt_form ⟨rfl, h0⟩]) rfl rfl rfl
            · go_wp2
              go_ret3
              exact tells3 (by rw [← HR.out, HD.out, readAt_ok (by omega) (by omega) (by omega)]) HT.out.1 (by omega) rfl
          · go_wp2
            go_ret3
            exact tells3 (by rw [← HR.out, HD.out, readAt_ok (by omega) (by omega) (by omega)]) HT.out.1 (by omega) rfl
    · go_wp2
      go_ret3
      exact tells3 (by rw [← HR.out, List.drop_of_length_le (by omega), readAt_nil]) rfl rfl rfl

theorem readshort_as (A : Option Addr) (l : List Nat) (n ca : Nat) (w : World) (hl : n ≤ 9223372036854775807) (hn : l.length = n) (h8 : ∀ x ∈ l, x < 256) (hA : Sees .u8 w A l) :
    Calls Tryz.prog 85 #[.slice A n ca] w (Tells (readN l) w) := by
  subst hn; exact readshort_any A l ca w hl h8 hA

def RefRel (l : List Nat) (v p i : Value) : Prop :=
  ∃ k n : Nat, k ≤ l.length ∧ k ≤ 9 ∧ n < 128 ^ k ∧ i = .int .i64 k ∧ v = .int .u64 n ∧ p = .int .u64 ((128 ^ k : Nat) : Int) ∧ readAt k n (l.drop k) = readN l

end Go.Proofs.YtpdfakjopeldmaaGreatDoor

/-
  The contracts of num.Bytes and num.Read.
-/
namespace Go.Proofs.YtpdfakjopeldmaaGreatDoor
open Go.RowKit

/-- What a loop that writes a number's bytes from the last one on holds. -/
def BytesRel (V n base : Nat) (w : World) (v i : Value) (wr : World) : Prop :=
  (∃ (k m : Nat) (tail : List Nat), i = .int .i64 (k : Int) ∧ k < n ∧ v = .int .u64 (m : Int) ∧ m < 18446744073709551616 ∧ tail.length + (k + 1) = n ∧ bytesN m (k + 1) ++ tail = bytesN V n ∧
    wr.ownsRow base 5 1 (.slice (some ⟨base, 0, none⟩) n n) n ((List.replicate (k + 1) 0 ++ tail).map bv) ∧ Below base w wr) ∨
  (i = .int .i64 (-1) ∧ wr.ownsRow base 5 1 (.slice (some ⟨base, 0, none⟩) n n) n ((bytesN V n).map bv) ∧ Below base w wr)

theorem bytes_step {V n base k m : Nat} {tail : List Nat} {w wr : World} {x a i : Int} (hk : k < n) (hm : m < 18446744073709551616) (hlen : tail.length + (k + 1) = n) (heq : bytesN m (k + 1) ++ tail = bytesN V n)
    (hown : wr.ownsRow base 5 1 (.slice (some ⟨base, 0, none⟩) n n) n ((List.replicate (k + 1) 0 ++ tail).map bv)) (hb : Below base w wr) (hx : x = (m : Int) % 256) (ha : a = (m : Int) / 256) (hi : i = (k : Int) - 1) :
    BytesRel V n base w (.int .u64 a) (.int .i64 i) (wr.setCell ⟨base, k, none⟩ (.int .u8 x)) := by
  subst hx; subst ha; subst hi
  have hs := (hown.stored k (.int .u8 ((m : Int) % 256))).1
  have ev : (Value.int .u8 ((m : Int) % 256)) = bv (m % 256) := by unfold bv; congr 1
  rw [ev] at hs ⊢
  rw [← List.map_set, replicate_set] at hs
  have hb' : Below base w (wr.setCell ⟨base, k, none⟩ (bv (m % 256))) := hb.setCell (Nat.le_refl _) _
  rw [bytesN, List.append_assoc, List.singleton_append] at heq
  cases k with
  | zero =>
    right
    refine ⟨by simp, ?_, hb'⟩
    rw [← heq]
    simpa [bytesN] using hs
  | succ k =>
    left
    refine ⟨k, m / 256, m % 256 :: tail, ?_, by omega, by congr 1, by omega, by simp; omega, heq, hs, hb'⟩
    congr 1
    omega

theorem zeros_of_made (n : Nat) : (madeCells (Value.int .u8 0).cells (n * 1)).toList = (List.replicate n 0).map bv := by
  rw [Nat.mul_one, show (Value.int IntKind.u8 0).cells = #[.int .u8 0] from rfl, toList_madeCells_one, List.map_replicate]
  rfl

theorem bytes_start {V n : Nat} {w w1 : World} (hV : V < 18446744073709551616) (h : w1.ownsRow w.heap.size 5 1 (.slice (some ⟨w.heap.size, 0, none⟩) n n) n (madeCells (Value.int .u8 0).cells (n * 1)).toList) (hg : w.grownBy w1 none) :
    BytesRel V n w.heap.size w (.int .u64 (V : Int)) (.int .i64 ((n : Int) - 1)) w1 := by
  have hb : Below w.heap.size w w1 := (Below.refl _ _).grown hg (Nat.le_refl _) (by intro k hk; cases hk)
  rw [zeros_of_made] at h
  cases n with
  | zero => right; exact ⟨by simp, by simpa [bytesN] using h, hb⟩
  | succ n =>
    left
    refine ⟨n, V, [], ?_, by omega, rfl, hV, by simp, by simp, by simpa using h, hb⟩
    congr 1
    omega

theorem bytes_end {V n : Nat} {w wr : World} (h : wr.ownsRow w.heap.size 5 1 (.slice (some ⟨w.heap.size, 0, none⟩) n n) n ((bytesN V n).map bv)) (hb : Below w.heap.size w wr) : Makes (bytesN V n) w (.returned (.slice (some ⟨w.heap.size, 0, none⟩) n n)) wr :=
  ⟨_, rfl, by rw [bytesN_len]; exact h, hb⟩

set_option maxRecDepth 100000 in
set_option maxHeartbeats 400000 in
theorem bytes_any (V n : Nat) (a : Int) (w : World) (hV : V < 18446744073709551616) (hn : n ≤ 8) (ha : a < 0 ∧ n = 0 ∨ a = n ∨ 8 < a ∧ n = 8) :
    Calls Tryz.prog 55 #[.int .u64 V, .int .i64 a] w (Makes (bytesN V n) w) := by
  obtain ⟨i0, hi, hz0, hz1, hz2⟩ := info_parts info_u8
  have HV := hid hV
  clear hV
  rcases ha with ⟨ha, hz⟩ | rfl | ⟨ha, hz⟩
  · have hz0' : n ≤ 0 := by omega
    clear hz
    go_enter Tryz.func55, Tryz.ntmps55
    go_wp2_with (at_make; refine wpList_make_full _ rfl _ _ 48 rfl w.heap.size 5 i0 (.int .u8 0) 1 Tryz.underlying48 hi hz0 hz1 .i64 .i64 _ _ n rfl rfl (by omega) (by omega) (by rw [hz2]; omega) (by unfold maxLen; omega) (Nat.le_refl _) ?_; intro w1 hown hg)
    have HR := hid (bytes_start HV.out hown hg)
    clear hown hg
    go_loopw [0, 6] (fun v i wr => BytesRel V n w.heap.size w v i wr) (fun _ i _ => (intOf i + 1).toNat)
    case atStart => exact HR.out
    case round =>
      rcases hrel with ⟨k, m, tail, rfl, hk, rfl, hm, hlen, heq, hown, hb⟩ | ⟨rfl, hown, hb⟩
      · exact absurd hk (by omega)
      · go_wp2
        go_ret
        exact bytes_end hown hb
  · go_enter Tryz.func55, Tryz.ntmps55
    go_wp2_with (at_make; refine wpList_make_full _ rfl _ _ 48 rfl w.heap.size 5 i0 (.int .u8 0) 1 Tryz.underlying48 hi hz0 hz1 .i64 .i64 _ _ n rfl rfl (by omega) (by omega) (by rw [hz2]; omega) (by unfold maxLen; omega) (Nat.le_refl _) ?_; intro w1 hown hg)
    have HR := hid (bytes_start HV.out hown hg)
    clear hown hg
    go_loopw [0, 6] (fun v i wr => BytesRel V n w.heap.size w v i wr) (fun _ i _ => (intOf i + 1).toNat)
    case atStart => exact HR.out
    case round =>
      rcases hrel with ⟨k, m, tail, rfl, hk, rfl, hm, hlen, heq, hown, hb⟩ | ⟨rfl, hown, hb⟩
      · have HS := hid (bytes_step hk hm hlen heq hown hb rfl rfl rfl)
        obtain ⟨u, hc⟩ : ∃ u, wr.cell? ⟨w.heap.size, k, none⟩ = some u := ⟨_, (hown.cellAt k (by omega)).trans (List.getElem?_eq_getElem (by simp; omega))⟩
        have hf := hown.frozenAt k
        have hmI : (m : Int) ≤ 18446744073709551615 := by omega
        clear heq hown hm
        go_wp2
        go_roundw
        case rel => exact HS.out
        case measure => simp only [intOf]; omega
      · go_wp2
        go_ret
        exact bytes_end hown hb
  · have hz0' : 8 ≤ n := by omega
    clear hz
    go_enter Tryz.func55, Tryz.ntmps55
    go_wp2_with (at_make; refine wpList_make_full _ rfl _ _ 48 rfl w.heap.size 5 i0 (.int .u8 0) 1 Tryz.underlying48 hi hz0 hz1 .i64 .i64 _ _ n rfl rfl (by omega) (by omega) (by rw [hz2]; omega) (by unfold maxLen; omega) (Nat.le_refl _) ?_; intro w1 hown hg)
    have HR := hid (bytes_start HV.out hown hg)
    clear hown hg
    go_loopw [0, 6] (fun v i wr => BytesRel V n w.heap.size w v i wr) (fun _ i _ => (intOf i + 1).toNat)
    case atStart => exact HR.out
    case round =>
      rcases hrel with ⟨k, m, tail, rfl, hk, rfl, hm, hlen, heq, hown, hb⟩ | ⟨rfl, hown, hb⟩
      · have HS := hid (bytes_step hk hm hlen heq hown hb rfl rfl rfl)
        obtain ⟨u, hc⟩ : ∃ u, wr.cell? ⟨w.heap.size, k, none⟩ = some u := ⟨_, (hown.cellAt k (by omega)).trans (List.getElem?_eq_getElem (by simp; omega))⟩
        have hf := hown.frozenAt k
        have hmI : (m : Int) ≤ 18446744073709551615 := by omega
        clear heq hown hm
        go_wp2
        go_roundw
        case rel => exact HS.out
        case measure => simp only [intOf]; omega
      · go_wp2
        go_ret
        exact bytes_end hown hb

/-- The same, where the length is known by another name. -/
def HandsN (l : List Nat) (n : Nat) (w : World) (e : Ending) (w' : World) : Prop :=
  ∃ A cap, e = .returned (.slice A n cap) ∧ (A = none → cap = 0) ∧ n ≤ cap ∧ Sees .u8 w' A l ∧ Below w.heap.size w w'
theorem Hands.named {l : List Nat} {n : Nat} {w : World} {e : Ending} {w' : World} (h : Hands l w e w') (hn : l.length = n) : HandsN l n w e w' := by
  subst hn; exact h
theorem bytes_hands (V n : Nat) (a : Int) (w : World) (hV : V < 18446744073709551616) (hn : n ≤ 8) (ha : a < 0 ∧ n = 0 ∨ a = n ∨ 8 < a ∧ n = 8) :
    Calls Tryz.prog 55 #[.int .u64 V, .int .i64 a] w (HandsN (bytesN V n) n w) := (bytes_any V n a w hV hn ha).mono fun _ _ h => h.hands.named (bytesN_len n V)
set_option maxRecDepth 100000 in
set_option maxHeartbeats 400000 in
theorem read_range (A : Option Addr) (len ca : Nat) (a : Int) (w : World) (ha : a < 1 ∨ 8 < a) :
    Calls Tryz.prog 61 #[.slice A len ca, .int .i64 a] w (Tells (0, 0, 12) w) := by
  rcases ha with ha | ha
  · go_enter Tryz.func61, Tryz.ntmps61
    go_wp2
    go_ret3
    exact tells3 rfl rfl rfl rfl
  · go_enter Tryz.func61, Tryz.ntmps61
    go_wp2
    go_ret3
    exact tells3 rfl rfl rfl rfl

set_option maxRecDepth 100000 in
set_option maxHeartbeats 400000 in
theorem read_short (A : Option Addr) (len ca n : Nat) (w : World) (h1 : 1 ≤ n) (h8 : n ≤ 8) (hl : len < n) :
    Calls Tryz.prog 61 #[.slice A len ca, .int .i64 n] w (Tells (0, 0, 20) w) := by
  go_enter Tryz.func61, Tryz.ntmps61
  go_wp2
  go_ret3
  exact tells3 rfl rfl rfl rfl

def NumRel (l : List Nat) (n : Nat) (v i : Value) : Prop := ∃ k : Nat, k ≤ n ∧ i = .int .i64 (k : Int) ∧ v = .int .u64 (numN (l.take k) : Int)

set_option maxRecDepth 100000 in
set_option maxHeartbeats 400000 in
theorem read_any (b o : Nat) (l : List Nat) (ca n : Nat) (w : World) (h1 : 1 ≤ n) (h8 : n ≤ 8) (hl : n ≤ l.length) (hca : l.length ≤ ca) (hx : ∀ x ∈ l, x < 256) (hA : Sees .u8 w (some ⟨b, o, none⟩) l) :
    Calls Tryz.prog 61 #[.slice (some ⟨b, o, none⟩) l.length ca, .int .i64 n] w (Tells (numN (l.take n), n, 0) w) := by
  have HA := hid hA
  have HX := hid hx
  have hc0 : ¬ ca = 0 := by omega
  clear hA hx
  go_enter Tryz.func61, Tryz.ntmps61
  go_wp2
  go_loop [4, 23] (fun v i => NumRel l n v i) (fun _ i => n - (intOf i).toNat)
  case atStart => exact ⟨0, Nat.zero_le _, rfl, by simp [numN]⟩
  case round =>
    obtain ⟨k, hk, rfl, rfl⟩ := hrel
    by_cases hlt : k < n
    · obtain ⟨b', o', hA', _, hc⟩ := HA.out k l[k] (List.getElem?_eq_getElem (by omega))
      injection hA' with hA'
      injection hA' with e1 e2
      subst e1; subst e2
      have hm : numN (l.take k) < 72057594037927936 := by have := numN_lt l HX.out k; have := pow256 (k := k) (by omega); omega
      have HJ := hid (join8_walk (numN (l.take k)) l[k] hm (HX.out _ (List.getElem_mem _)))
      have HS := hid (numN_take (l := l) (k := k) (by omega))
      have hc8 := HX.out _ (List.getElem_mem (l := l) (n := k) (by omega))
      clear hm
      generalize numN (l.take k) = m at *
      generalize l[k] = c at *
      go_wp2
      go_round
      case rel => exact ⟨k + 1, by omega, by go_num, by rw [HS.out, ← HJ.out]⟩
      case measure => simp only [intOf]; omega
    · go_wp2
      go_ret3
      have e : k = n := by omega
      exact tells3 rfl (by rw [e]) rfl rfl

end Go.Proofs.YtpdfakjopeldmaaGreatDoor

/-
  Bytes as a string; the contract of bytes.Clone.
-/
namespace Go.Proofs.YtpdfakjopeldmaaGreatDoor
open Go.RowKit

def strN (l : List Nat) : ByteArray := strOfNums (l.map fun x : Nat => (x : Int))

theorem run_convert_none0 (P : Program) (w : World) (src dst e : TypeId) (hs : P.underlying src = some (.slice e)) (he : P.underlying e = some (.int .u8)) (hd : P.underlying dst = some .string) (A : Option Addr) (c : Nat) :
    (convert src dst (.slice A 0 c)).run P w = .ok (.string ByteArray.empty) w := by
  rw [run_convert_bytes_string w src dst e _ 0 c hs he hd]
  cases A <;> simp [Conv.bytesToString, loadCells, loadCellsFrom]

theorem sees_convert {w : World} {A : Option Addr} {l : List Nat} {n : Nat} (hS : Sees .u8 w A l) (hn : l.length = n) (c : Nat) :
    (convert 48 9 (.slice A n c)).run Tryz.prog w = .ok (.string (strN l)) w := by
  cases l with
  | nil =>
    simp at hn
    subst hn
    exact run_convert_none0 _ w _ _ 5 Tryz.underlying48 Tryz.underlying5 Tryz.underlying9 A c
  | cons x l =>
    obtain ⟨b, o, rfl, _, _⟩ := hS 0 x rfl
    refine run_convert_bytes_arg w 48 5 Tryz.underlying48 Tryz.underlying5 b o n c _ (by simpa using hn) ?_ 9 Tryz.underlying9
    intro i hi
    have hi' : i < (x :: l).length := by omega
    obtain ⟨b', o', he, _, hc⟩ := hS i _ (List.getElem?_eq_getElem hi')
    injection he with he
    injection he with h1 h2
    subst h1; subst h2
    rw [hc, List.getD_eq_getElem?_getD, List.getElem?_map, List.getElem?_eq_getElem hi']
    rfl

set_option maxRecDepth 100000 in
set_option maxHeartbeats 400000 in
theorem clone_some (b o : Nat) (l : List Nat) (n c : Nat) (w : World) (hn : l.length = n) (hl : n ≤ 140737488355328) (hA : Sees .u8 w (some ⟨b, o, none⟩) l) :
    Calls Tryz.prog 29 #[.slice (some ⟨b, o, none⟩) n c] w (Makes l w) := by
  obtain ⟨i0, hi, hz0, hz1, hz2⟩ := info_parts info_u8
  have HA := hid hA
  have HN := hid hn
  clear hA hn
  have q22 : ∀ (w : World) (a : Option Addr) (n c n' c' : Nat), (binOp .eql 48 (.slice a n c) (.slice none n' c')).run Tryz.prog w = .ok (.bool a.isNone) w := fun w a n c n' c' => Lib.run_eql_slice_nil w _ _ a n c n' c' Tryz.underlying48
  go_enter Tryz.func29, Tryz.ntmps29
  go_wp2_with (first
    | ((with_reducible refine wpList_build_none (o := ⟨some 5, _, _, _, _, _⟩) rfl 48 5 rfl Tryz.underlying48 i0 hi w.heap.size (Nat.le_refl _) ?_); intro s5 w5 hown5 hb5; have z5 := hb5.size)
    | (at_builtin; refine wpList_append_named rfl (.tmp 5) (.tmp 6) 48 rfl w.heap.size 5 i0 (.int .u8 0) 1 Tryz.underlying48 hi hz0 hz1 hz2 rfl _ 0 [] rfl hown5 .u8 (some ⟨b, o, none⟩) c l n HN.out rfl (fun h => nomatch h) (HA.out.below hb5) (by unfold maxLen; omega) (by omega) z5 ?_; intro s6 w6 hown6 hg6; simp only [Nat.zero_add, List.nil_append] at hown6; have HO := hid hown6; have HB := hid (hb5.grown hg6 z5 (fun k hk => (hown5.lt k hk).1)); clear hown6 hg6))
  go_ret
  exact ⟨_, rfl, by rw [HN.out]; exact HO.out, HB.out⟩


set_option maxRecDepth 100000 in
set_option maxHeartbeats 400000 in
theorem clone_none (w : World) : Calls Tryz.prog 29 #[.slice none 0 0] w (Makes [] w) := by
  have q22 : ∀ (w : World) (a : Option Addr) (n c n' c' : Nat), (binOp .eql 48 (.slice a n c) (.slice none n' c')).run Tryz.prog w = .ok (.bool a.isNone) w := fun w a n c n' c' => Lib.run_eql_slice_nil w _ _ a n c n' c' Tryz.underlying48
  go_enter Tryz.func29, Tryz.ntmps29
  go_wp2
  go_ret
  exact ⟨_, rfl, World.ownsRow_nil _ _ _ _, Below.refl _ _⟩

/-- A slice that starts at a cell, or is empty: as an argument comes. -/
theorem sees_some {w : World} {a : Addr} {l : List Nat} (h : Sees .u8 w (some a) l) : l = [] ∨ ∃ b o, a = ⟨b, o, none⟩ := by
  cases l with
  | nil => exact .inl rfl
  | cons x l =>
    obtain ⟨b, o, he, _⟩ := h 0 x rfl
    injection he with he
    exact .inr ⟨b, o, he⟩
set_option maxRecDepth 100000 in
set_option maxHeartbeats 400000 in
theorem clone_empty (a : Addr) (c : Nat) (w : World) : Calls Tryz.prog 29 #[.slice (some a) 0 c] w (Makes [] w) := by
  obtain ⟨i0, hi, hz0, hz1, hz2⟩ := info_parts info_u8
  have q22 : ∀ (w : World) (a : Option Addr) (n c n' c' : Nat), (binOp .eql 48 (.slice a n c) (.slice none n' c')).run Tryz.prog w = .ok (.bool a.isNone) w := fun w a n c n' c' => Lib.run_eql_slice_nil w _ _ a n c n' c' Tryz.underlying48
  go_enter Tryz.func29, Tryz.ntmps29
  go_wp2_with (first
    | ((with_reducible refine wpList_build_none (o := ⟨some 5, _, _, _, _, _⟩) rfl 48 5 rfl Tryz.underlying48 i0 hi w.heap.size (Nat.le_refl _) ?_); intro s5 w5 hown5 hb5; have z5 := hb5.size)
    | (at_builtin; refine wpList_append_named rfl (.tmp 5) (.tmp 6) 48 rfl w.heap.size 5 i0 (.int .u8 0) 1 Tryz.underlying48 hi hz0 hz1 hz2 rfl _ 0 [] rfl hown5 .u8 (some a) c [] 0 rfl rfl (fun h => nomatch h) (Sees.nil _ _ _) (by unfold maxLen; omega) (by omega) z5 ?_; intro s6 w6 hown6 hg6; simp only [Nat.zero_add, List.nil_append] at hown6; have HO := hid hown6; have HB := hid (hb5.grown hg6 z5 (fun k hk => (hown5.lt k hk).1)); clear hown6 hg6))
  go_ret
  exact ⟨_, rfl, HO.out, HB.out⟩

theorem clone_any (A : Option Addr) (l : List Nat) (n c : Nat) (w : World) (hn : l.length = n) (hl : n ≤ 140737488355328) (hc : A = none → c = 0) (hA : Sees .u8 w A l) :
    Calls Tryz.prog 29 #[.slice A n c] w (Makes l w) := by
  cases A with
  | none =>
    have h0 : l = [] := by
      cases l with
      | nil => rfl
      | cons x l => obtain ⟨b, o, he, _⟩ := hA 0 x rfl; cases he
    subst h0
    rw [hc rfl, ← hn]
    exact clone_none w
  | some a =>
    rcases sees_some hA with rfl | ⟨b, o, rfl⟩
    · rw [← hn]
      exact clone_empty a c w
    · exact clone_some b o l n c w hn hl hA

end Go.Proofs.YtpdfakjopeldmaaGreatDoor

/-
  Contracts of package wire's Out.
-/
namespace Go.Proofs.YtpdfakjopeldmaaGreatDoor
open Go.ChangeShapes Go.WideShapes Go.ChangeAt Go.RowKit
set_option linter.unusedVariables false

/-- An Out at block g, with the bytes l, all of it in blocks of the call's own. -/
def OutAt (w : World) (base g : Nat) (l : List Nat) : Prop :=
  base ≤ g ∧ ∃ v, Blk w g 50 #[v] ∧ w.ownsRow base 5 1 v l.length (l.map fun y : Nat => Value.int .u8 (y : Int))

theorem row_ne {w : World} {base n g : Nat} {T : TypeId} {cs : Array Value} {v : Value} {xs : List Value} (h : w.ownsRow base 5 1 v n xs) (hg : Blk w g T cs) (hne : 5 ≠ T) : v.ownBlock ≠ some g := by
  rcases h.2 with ⟨rfl, _⟩ | ⟨g', cap, cur, rfl, _, hh, _⟩
  · simp [Value.ownBlock]
  · intro he
    have : g' = g := by simpa [Value.ownBlock] using he
    subst this
    unfold Blk at hg
    rw [hh] at hg
    injection hg with hg
    injection hg with _ ht
    exact hne ht

theorem own_below {w w' : World} {base : Nat} {e : TypeId} {v : Value} {n : Nat} {xs : List Value} (h : w.ownsRow base e 1 v n xs) (hb : Below w.heap.size w w') : w'.ownsRow base e 1 v n xs :=
  h.kept (row := none) ⟨hb.os, hb.tape, hb.output, hb.size, fun k hk _ => hb.block k hk⟩ (by cases hv : v.ownBlock <;> simp)
theorem OutAt.later {w w' : World} {base g : Nat} {l : List Nat} (h : OutAt w base g l) (hb : Below w.heap.size w w') : OutAt w' base g l := by
  obtain ⟨h0, v, h1, h2⟩ := h
  exact ⟨h0, v, h1.below hb h1.lt, own_below h2 hb⟩
theorem OutAt.alloc {w : World} {base g : Nat} {l : List Nat} (h : OutAt w base g l) (o : Obj) : OutAt (w.alloc o) base g l := h.later ((Below.refl _ _).alloc (Nat.le_refl _) o)
theorem OutAt.base_le {w : World} {base g : Nat} {l : List Nat} (h : OutAt w base g l) : base ≤ w.heap.size := Nat.le_of_lt (Nat.lt_of_le_of_lt h.1 (by obtain ⟨_, v, h1, _⟩ := h; exact h1.lt))

/-- What a putting does. -/
def Puts (base g : Nat) (l : List Nat) (w : World) (en : Ending) (w' : World) : Prop := en = .returned (.pointer (some ⟨g, 0, none⟩)) ∧ OutAt w' base g l ∧ Below base w w'

theorem put_step {w w1 : World} {base g : Nat} {l bs L : List Nat} {v v' : Value} (hL : L = l ++ bs) (hg : base ≤ g) (hb : Blk w g 50 #[v]) (hown : w.ownsRow base 5 1 v l.length (l.map fun y : Nat => Value.int .u8 (y : Int)))
    (hown' : w1.ownsRow base 5 1 v' (l.length + bs.length) ((l.map fun y : Nat => Value.int .u8 (y : Int)) ++ bs.map fun y : Nat => Value.int .u8 (y : Int))) (hgr : w.grownBy w1 v.ownBlock) :
    Puts base g L w (.returned (.pointer (some ⟨g, 0, none⟩))) (w1.setCell ⟨g, 0, none⟩ v') := by
  subst hL
  have hne := row_ne hown hb (by decide)
  have hb1 : Blk w1 g 50 #[v] := hb.grown hgr (fun h => hne h.symm)
  have hne' := row_ne hown' hb1 (by decide)
  have hsz : base ≤ w.heap.size := Nat.le_of_lt (Nat.lt_of_le_of_lt hg hb.lt)
  refine ⟨rfl, ⟨hg, v', hb1.set_ 0 v', ?_⟩, Below.setCell (p := ⟨g, 0, none⟩) ((Below.refl _ _).grown hgr hsz (fun k hk => (hown.lt k hk).1)) hg _⟩
  rw [List.length_append, List.map_append]
  have hr : w1.grownBy (w1.setCell ⟨g, 0, none⟩ v') (some g) := only_setCell (p := ⟨g, 0, none⟩) (World.grownBy.refl _ _) (.inl rfl) _
  exact hown'.kept hr (.inr hne')

set_option maxRecDepth 100000 in
set_option maxHeartbeats 400000 in
theorem put_as (base g : Nat) (A : Option Addr) (l bs L : List Nat) (n c : Nat) (w : World) (hL : L = l ++ bs) (h : OutAt w base g l) (hn : bs.length = n) (hA0 : A = none → c = 0) (hA : Sees .u8 w A bs) (hlen : l.length + n ≤ 140737488355328) :
    Calls Tryz.prog 54 #[.pointer (some ⟨g, 0, none⟩), .slice A n c] w (Puts base g L w) := by
  obtain ⟨i0, hi, hz0, hz1, hz2⟩ := info_parts info_u8
  have hsz := h.base_le
  obtain ⟨hg, v, hb, hown⟩ := h
  have HA := hid hA
  have HN := hid hn
  have H0 := hid hA0
  have HO := hid hown
  have hgl := hb.lt
  have hne := row_ne hown hb (by decide)
  have HNE := hid hne
  have HP := hid (fun (w1 : World) (v' : Value) (h1 : w1.ownsRow base 5 1 v' (l.length + bs.length) _) (h2 : w.grownBy w1 v.ownBlock) => put_step (L := L) hL hg hb hown h1 h2)
  have HL := hid hL
  have HBk := hid hb
  have c0 : w.cell? ⟨g, 0, none⟩ = some v := (hb.cell 0).trans rfl
  have f0 := hb.frozen 0
  obtain ⟨Av, cv, rfl, _, _, _⟩ := own_slice hown
  clear hb hown hA hn hA0 hne hL
  go_enter Tryz.func54, Tryz.ntmps54
  go_wp2_with (at_builtin; refine wpList_append_named rfl (.tmp 9) (.tmp 10) 48 rfl base 5 i0 (.int .u8 0) 1 Tryz.underlying48 hi hz0 hz1 hz2 rfl _ l.length _ rfl HO.out .u8 A c bs n HN.out rfl H0.out HA.out (by unfold maxLen; omega) (by omega) hsz ?_; intro v1 w1 hown1 hg1; rw [← HN.out] at hown1; have HR := hid (HP.out w1 v1 hown1 hg1); have hb1 := HBk.out.grown hg1 (fun h => HNE.out h.symm); have c1 := (hb1.cell 0).trans rfl; have f1 := hb1.frozen 0; obtain ⟨Aw, cw, rfl, _, _, _⟩ := own_slice2 (L := L) HL.out hown1; clear hown1 hg1 hb1)
  go_ret
  exact HR.out

theorem put_any (base g : Nat) (A : Option Addr) (l bs : List Nat) (n c : Nat) (w : World) (h : OutAt w base g l) (hn : bs.length = n) (hA0 : A = none → c = 0) (hA : Sees .u8 w A bs) (hlen : l.length + n ≤ 140737488355328) :
    Calls Tryz.prog 54 #[.pointer (some ⟨g, 0, none⟩), .slice A n c] w (Puts base g (l ++ bs) w) := put_as base g A l bs _ n c w rfl h hn hA0 hA hlen

theorem sees_one {w : World} {x : Nat} (T : TypeId) : Sees .u8 (w.alloc (.cells #[.int .u8 (x : Int)] T)) (some ⟨w.heap.size, 0, none⟩) [x] := by
  intro j y hj
  match j, hj with
  | 0, hj =>
    simp at hj
    subst hj
    exact ⟨w.heap.size, 0, rfl, by simp, by rw [cell_of_row _ _ _ _ _ _ (heap_alloc_new w _)]; rfl⟩

def truthN (t : Bool) : Nat := if t then 1 else 0

set_option maxRecDepth 100000 in
set_option maxHeartbeats 400000 in
theorem outshort_any (base g : Nat) (l : List Nat) (v : Nat) (a : Int) (w : World) (h : OutAt w base g l) (ha : a = (v : Int)) (hv : v < 18446744073709551616) (hlen : l.length + 10 ≤ 140737488355328) :
    Calls Tryz.prog 53 #[.pointer (some ⟨g, 0, none⟩), .int .u64 a] w (Puts base g (l ++ shortN v) w) := by
  subst ha
  have HO := hid h
  have hB := h.base_le
  have h10 := shortN_len10 hv
  clear h
  go_enter Tryz.func53, Tryz.ntmps53
  go_wp2_with fail
  with_reducible refine (short_hands v _ hv).mono ?_
  rintro en w1 ⟨A1, c1, rfl, hn1, _, hs1, hb1⟩
  have HS := hid hs1
  have HN := hid hn1
  have HO1 := hid (HO.out.later hb1)
  have HB1 := hid hb1
  clear hs1 hn1 hb1
  go_wp2_with fail
  with_reducible refine (put_any base g A1 l (shortN v) _ c1 _ HO1.out rfl HN.out HS.out (by omega)).mono ?_
  rintro en w2 ⟨rfl, ho, hb⟩
  have HR : Hid (OutAt w2 base g (l ++ shortN v) ∧ Below base w w2) := hid ⟨ho, (HB1.out.mono hB).trans hb⟩
  clear ho hb
  go_wp2
  go_ret
  exact ⟨rfl, HR.out.1, HR.out.2⟩

set_option maxRecDepth 100000 in
set_option maxHeartbeats 400000 in
theorem outfixed_any (base g : Nat) (l : List Nat) (v : Nat) (a : Int) (w : World) (h : OutAt w base g l) (ha : a = (v : Int)) (hv : v < 18446744073709551616) (hlen : l.length + 8 ≤ 140737488355328) :
    Calls Tryz.prog 27 #[.pointer (some ⟨g, 0, none⟩), .int .u64 a] w (Puts base g (l ++ bytesN v 8) w) := by
  subst ha
  have HO := hid h
  have hB := h.base_le
  have HL := hid (bytesN_len 8 v)
  clear h
  go_enter Tryz.func27, Tryz.ntmps27
  go_wp2_with fail
  with_reducible refine (bytes_hands v 8 _ _ hv (by omega) (by omega)).mono ?_
  rintro en w1 ⟨A1, c1, rfl, hn1, _, hs1, hb1⟩
  have HS := hid hs1
  have HN := hid hn1
  have HO1 := hid (HO.out.later hb1)
  have HB1 := hid hb1
  clear hs1 hn1 hb1
  go_wp2_with fail
  with_reducible refine (put_any base g A1 l (bytesN v 8) 8 c1 _ HO1.out HL.out HN.out HS.out hlen).mono ?_
  rintro en w2 ⟨rfl, ho, hb⟩
  have HR : Hid (OutAt w2 base g (l ++ bytesN v 8) ∧ Below base w w2) := hid ⟨ho, (HB1.out.mono hB).trans hb⟩
  clear ho hb
  go_wp2
  go_ret
  exact ⟨rfl, HR.out.1, HR.out.2⟩

/-- A string's bytes. -/
def bytesOfS (s : ByteArray) : List Nat := s.data.toList.map UInt8.toNat
theorem bytesOfS_len (s : ByteArray) : (bytesOfS s).length = s.size := by simp [bytesOfS]
theorem bytesOfS_byte (s : ByteArray) : ∀ x ∈ bytesOfS s, x < 256 := by
  intro x hx
  obtain ⟨b, _, rfl⟩ := List.mem_map.1 hx
  exact b.toNat_lt
theorem strN_bytesOfS (s : ByteArray) : strN (bytesOfS s) = s := by
  apply ByteArray.ext
  apply Array.toList_inj.1
  simp only [strN, strOfNums_data, bytesOfS, List.map_map]
  conv => rhs; rw [← List.map_id s.data.toList]
  apply List.map_congr_left
  intro x hx
  simp

theorem sees_bytes (w : World) (s : ByteArray) (c : Nat) (T : TypeId) (fz : Nat × Nat) : Sees .u8 (w.drew.alloc (.cells (bytesRow s c) T fz)) (some ⟨w.heap.size, 0, none⟩) (bytesOfS s) := by
  intro j x hj
  have hl : j < s.size := by have := (List.getElem?_eq_some_iff.1 hj).1; rw [bytesOfS_len] at this; exact this
  have hh : (w.drew.alloc (.cells (bytesRow s c) T fz)).heap[w.heap.size]? = some (.cells (bytesRow s c) T fz) := by
    have := heap_alloc_new w.drew (.cells (bytesRow s c) T fz)
    exact this
  refine ⟨w.heap.size, 0, rfl, (Array.getElem?_eq_some_iff.1 hh).1, ?_⟩
  rw [cell_of_row _ _ _ _ _ _ hh, Nat.zero_add]
  have hd : j < s.data.size := hl
  unfold bytesRow
  rw [Array.getElem?_append_left (by simpa using hd)]
  simp only [bytesOfS, List.getElem?_map, Array.getElem?_toList] at hj
  simp only [Array.getElem?_map, Array.getElem?_eq_getElem hd, Option.map_some] at hj ⊢
  injection hj with hj
  rw [← hj]

set_option maxRecDepth 100000 in
set_option maxHeartbeats 400000 in
theorem outtext_as (base g : Nat) (l L : List Nat) (s : ByteArray) (w : World) (hL : L = (l ++ shortN s.size) ++ bytesOfS s) (h : OutAt w base g l) (hs : s.size ≤ 9223372036854775807) (hlen : l.length + 10 + s.size ≤ 140737488355328) :
    Calls Tryz.prog 26 #[.pointer (some ⟨g, 0, none⟩), .string s] w (Puts base g L w) := by
  have HO := hid h
  have HL := hid hL
  have hB := h.base_le
  have h10 := shortN_len10 (show s.size < 18446744073709551616 by omega)
  have hcv := fun (w : World) => run_bytes_of_string (P := Tryz.prog) w 9 48 5 s Tryz.underlying9 Tryz.underlying48 Tryz.underlying5
  have HSL := hid (bytesOfS_len s)
  clear h hL
  go_enter Tryz.func26, Tryz.ntmps26
  go_wp2_with fail
  with_reducible refine (outshort_any base g l s.size _ _ HO.out (by omega) (by omega) (by omega)).mono ?_
  rintro en w1 ⟨rfl, ho, hb⟩
  have HO1 := hid ho
  have HB1 := hid hb
  have hB1 := ho.base_le
  clear ho hb
  go_wp2_with fail
  have HO2 : Hid (OutAt (w1.drew.alloc (.cells (bytesRow s (grownCap w1 s.size 0 5)) 5 ((bytesRow s (grownCap w1 s.size 0 5)).size, (bytesRow s (grownCap w1 s.size 0 5)).size + 1))) base g (l ++ shortN s.size)) := hid (by
    have h1 : OutAt w1.drew base g (l ++ shortN s.size) := HO1.out
    exact h1.alloc _)
  have HB2 : Hid (Below base w (w1.drew.alloc (.cells (bytesRow s (grownCap w1 s.size 0 5)) 5 ((bytesRow s (grownCap w1 s.size 0 5)).size, (bytesRow s (grownCap w1 s.size 0 5)).size + 1)))) := hid ((below_drew HB1.out).alloc (by exact hB1) _)
  have HS2 := hid (sees_bytes w1 s (grownCap w1 s.size 0 5) 5 ((bytesRow s (grownCap w1 s.size 0 5)).size, (bytesRow s (grownCap w1 s.size 0 5)).size + 1))
  refine (put_as base g (some ⟨w1.heap.size, 0, none⟩) (l ++ shortN s.size) (bytesOfS s) L s.size _ _ HL.out HO2.out HSL.out (fun h => nomatch h) HS2.out (by rw [List.length_append]; omega)).mono ?_
  rintro en w2 ⟨rfl, ho, hb⟩
  have HR : Hid (OutAt w2 base g L ∧ Below base w w2) := hid ⟨ho, HB2.out.trans hb⟩
  clear ho hb HS2 HB2 HO2
  go_wp2
  go_ret
  exact ⟨rfl, HR.out.1, HR.out.2⟩

set_option maxRecDepth 100000 in
set_option maxHeartbeats 400000 in
theorem outbytes_any (base g : Nat) (l : List Nat) (w : World) (h : OutAt w base g l) (hlen : l.length ≤ 140737488355328) :
    Calls Tryz.prog 12 #[.pointer (some ⟨g, 0, none⟩)] w (Makes l w) := by
  obtain ⟨hg, v, hb, hown⟩ := h
  have c0 : w.cell? ⟨g, 0, none⟩ = some v := (hb.cell 0).trans rfl
  have f0 := hb.frozen 0
  obtain ⟨Av, cv, rfl, hn, _, hs⟩ := own_slice hown
  have HN := hid hn
  have HS := hid hs
  clear hb hown hn hs
  go_enter Tryz.func12, Tryz.ntmps12
  go_wp2_with fail
  with_reducible refine (clone_any Av l l.length cv _ rfl hlen HN.out HS.out).mono ?_
  rintro en w1 hm
  obtain ⟨s, rfl, hown, hb⟩ := hm
  have HM : Hid (Makes l w (.returned s) w1) := hid ⟨s, rfl, hown, hb⟩
  clear hown hb
  go_wp2
  go_ret
  exact HM.out

/-- The zero Out, in a block that has just been made. -/
theorem out_new (w : World) : OutAt (w.alloc (.cells #[.slice none 0 0] 50)) w.heap.size w.heap.size [] :=
  ⟨Nat.le_refl _, _, Blk.new _ _ _, World.ownsRow_nil _ _ _ _⟩

/-- The document's example. -/
def four : List Nat := [1, 2, 97, 98]

end Go.Proofs.YtpdfakjopeldmaaGreatDoor

/-
  Contracts of package wire's Out once more: besides, a block of another type than bytes, but the Out's own, stays as it is.
-/
namespace Go.Proofs.YtpdfakjopeldmaaGreatDoor
open Go.ChangeShapes Go.WideShapes Go.ChangeAt Go.RowKit
set_option linter.unusedVariables false

/-- Blocks of other types than bytes stay, but the one at g. -/
def Stays (g : Nat) (w w' : World) : Prop := w.heap.size ≤ w'.heap.size ∧ ∀ k T cs, k ≠ g → 5 ≠ T → Blk w k T cs → Blk w' k T cs
theorem Stays.of_below {g : Nat} {w w' : World} (h : Below w.heap.size w w') : Stays g w w' := ⟨h.size, fun _ _ _ _ _ hb => hb.below h hb.lt⟩
theorem Stays.trans {g : Nat} {a b c : World} (h : Stays g a b) (k : Stays g b c) : Stays g a c := ⟨Nat.le_trans h.1 k.1, fun i T cs hi hT hb => k.2 i T cs hi hT (h.2 i T cs hi hT hb)⟩
theorem Stays.drew {g : Nat} {a b : World} (h : Stays g a.drew b) : Stays g a b := h
theorem Stays.refl (g : Nat) (w : World) : Stays g w w := ⟨Nat.le_refl _, fun _ _ _ _ _ h => h⟩
def PutsK (base g : Nat) (l : List Nat) (w : World) (en : Ending) (w' : World) : Prop := Puts base g l w en w' ∧ Stays g w w'

theorem put_stays {w w1 : World} {base g n : Nat} {v v' : Value} {xs : List Value} (hown : w.ownsRow base 5 1 v n xs) (hgr : w.grownBy w1 v.ownBlock) : Stays g w (w1.setCell ⟨g, 0, none⟩ v') :=
  ⟨Nat.le_trans hgr.size (by simp), fun k T cs hk hT hb => (hb.grown hgr (fun e => row_ne hown hb hT e.symm)).far hk _⟩

set_option maxRecDepth 100000 in
set_option maxHeartbeats 400000 in
theorem putk_as (base g : Nat) (A : Option Addr) (l bs L : List Nat) (n c : Nat) (w : World) (hL : L = l ++ bs) (h : OutAt w base g l) (hn : bs.length = n) (hA0 : A = none → c = 0) (hA : Sees .u8 w A bs) (hlen : l.length + n ≤ 140737488355328) :
    Calls Tryz.prog 54 #[.pointer (some ⟨g, 0, none⟩), .slice A n c] w (PutsK base g L w) := by
  obtain ⟨i0, hi, hz0, hz1, hz2⟩ := info_parts info_u8
  have hsz := h.base_le
  obtain ⟨hg, v, hb, hown⟩ := h
  have HA := hid hA
  have HN := hid hn
  have H0 := hid hA0
  have HO := hid hown
  have hgl := hb.lt
  have hne := row_ne hown hb (by decide)
  have HNE := hid hne
  have HP := hid (fun (w1 : World) (v' : Value) (h1 : w1.ownsRow base 5 1 v' (l.length + bs.length) _) (h2 : w.grownBy w1 v.ownBlock) => And.intro (put_step (L := L) hL hg hb hown h1 h2) (put_stays (g := g) (v' := v') hown h2))
  have HL := hid hL
  have HBk := hid hb
  have c0 : w.cell? ⟨g, 0, none⟩ = some v := (hb.cell 0).trans rfl
  have f0 := hb.frozen 0
  obtain ⟨Av, cv, rfl, _, _, _⟩ := own_slice hown
  clear hb hown hA hn hA0 hne hL
  go_enter Tryz.func54, Tryz.ntmps54
  go_wp2_with (at_builtin; refine wpList_append_named rfl (.tmp 9) (.tmp 10) 48 rfl base 5 i0 (.int .u8 0) 1 Tryz.underlying48 hi hz0 hz1 hz2 rfl _ l.length _ rfl HO.out .u8 A c bs n HN.out rfl H0.out HA.out (by unfold maxLen; omega) (by omega) hsz ?_; intro v1 w1 hown1 hg1; rw [← HN.out] at hown1; have HR := hid (HP.out w1 v1 hown1 hg1); have hb1 := HBk.out.grown hg1 (fun h => HNE.out h.symm); have c1 := (hb1.cell 0).trans rfl; have f1 := hb1.frozen 0; obtain ⟨Aw, cw, rfl, _, _, _⟩ := own_slice2 (L := L) HL.out hown1; clear hown1 hg1 hb1)
  go_ret
  exact HR.out

set_option maxRecDepth 100000 in
set_option maxHeartbeats 400000 in
theorem outshortk_any (base g : Nat) (l : List Nat) (v : Nat) (a : Int) (w : World) (h : OutAt w base g l) (ha : a = (v : Int)) (hv : v < 18446744073709551616) (hlen : l.length + 10 ≤ 140737488355328) :
    Calls Tryz.prog 53 #[.pointer (some ⟨g, 0, none⟩), .int .u64 a] w (PutsK base g (l ++ shortN v) w) := by
  subst ha
  have HO := hid h
  have hB := h.base_le
  have h10 := shortN_len10 hv
  clear h
  go_enter Tryz.func53, Tryz.ntmps53
  go_wp2_with fail
  with_reducible refine (short_hands v _ hv).mono ?_
  rintro en w1 ⟨A1, c1, rfl, hn1, _, hs1, hb1⟩
  have HS := hid hs1
  have HN := hid hn1
  have HO1 := hid (HO.out.later hb1)
  have HB1 := hid hb1
  clear hs1 hn1 hb1
  go_wp2_with fail
  with_reducible refine (putk_as base g A1 l (shortN v) (l ++ shortN v) _ c1 _ rfl HO1.out rfl HN.out HS.out (by omega)).mono ?_
  rintro en w2 ⟨⟨rfl, ho, hb⟩, hst⟩
  have HR : Hid (OutAt w2 base g (l ++ shortN v) ∧ Below base w w2 ∧ Stays g w w2) := hid ⟨ho, (HB1.out.mono hB).trans hb, (Stays.of_below HB1.out).trans hst⟩
  clear ho hb hst
  go_wp2
  go_ret
  exact ⟨⟨rfl, HR.out.1, HR.out.2.1⟩, HR.out.2.2⟩

set_option maxRecDepth 100000 in
set_option maxHeartbeats 400000 in
theorem outfixedk_any (base g : Nat) (l : List Nat) (v : Nat) (a : Int) (w : World) (h : OutAt w base g l) (ha : a = (v : Int)) (hv : v < 18446744073709551616) (hlen : l.length + 8 ≤ 140737488355328) :
    Calls Tryz.prog 27 #[.pointer (some ⟨g, 0, none⟩), .int .u64 a] w (PutsK base g (l ++ bytesN v 8) w) := by
  subst ha
  have HO := hid h
  have hB := h.base_le
  have HL := hid (bytesN_len 8 v)
  clear h
  go_enter Tryz.func27, Tryz.ntmps27
  go_wp2_with fail
  with_reducible refine (bytes_hands v 8 _ _ hv (by omega) (by omega)).mono ?_
  rintro en w1 ⟨A1, c1, rfl, hn1, _, hs1, hb1⟩
  have HS := hid hs1
  have HN := hid hn1
  have HO1 := hid (HO.out.later hb1)
  have HB1 := hid hb1
  clear hs1 hn1 hb1
  go_wp2_with fail
  with_reducible refine (putk_as base g A1 l (bytesN v 8) (l ++ bytesN v 8) 8 c1 _ rfl HO1.out HL.out HN.out HS.out hlen).mono ?_
  rintro en w2 ⟨⟨rfl, ho, hb⟩, hst⟩
  have HR : Hid (OutAt w2 base g (l ++ bytesN v 8) ∧ Below base w w2 ∧ Stays g w w2) := hid ⟨ho, (HB1.out.mono hB).trans hb, (Stays.of_below HB1.out).trans hst⟩
  clear ho hb hst
  go_wp2
  go_ret
  exact ⟨⟨rfl, HR.out.1, HR.out.2.1⟩, HR.out.2.2⟩

set_option maxRecDepth 100000 in
set_option maxHeartbeats 400000 in
theorem outtextk_as (base g : Nat) (l L : List Nat) (s : ByteArray) (w : World) (hL : L = (l ++ shortN s.size) ++ bytesOfS s) (h : OutAt w base g l) (hs : s.size ≤ 9223372036854775807) (hlen : l.length + 10 + s.size ≤ 140737488355328) :
    Calls Tryz.prog 26 #[.pointer (some ⟨g, 0, none⟩), .string s] w (PutsK base g L w) := by
  have HO := hid h
  have HL := hid hL
  have hB := h.base_le
  have h10 := shortN_len10 (show s.size < 18446744073709551616 by omega)
  have hcv := fun (w : World) => run_bytes_of_string (P := Tryz.prog) w 9 48 5 s Tryz.underlying9 Tryz.underlying48 Tryz.underlying5
  have HSL := hid (bytesOfS_len s)
  clear h hL
  go_enter Tryz.func26, Tryz.ntmps26
  go_wp2_with fail
  with_reducible refine (outshortk_any base g l s.size _ _ HO.out (by omega) (by omega) (by omega)).mono ?_
  rintro en w1 ⟨⟨rfl, ho, hb⟩, hst⟩
  have HO1 := hid ho
  have HB1 := hid hb
  have HT1 := hid hst
  have hB1 := ho.base_le
  clear ho hb hst
  go_wp2_with fail
  have HO2 : Hid (OutAt (w1.drew.alloc (.cells (bytesRow s (grownCap w1 s.size 0 5)) 5 ((bytesRow s (grownCap w1 s.size 0 5)).size, (bytesRow s (grownCap w1 s.size 0 5)).size + 1))) base g (l ++ shortN s.size)) := hid (by
    have h1 : OutAt w1.drew base g (l ++ shortN s.size) := HO1.out
    exact h1.alloc _)
  have HB2 : Hid (Below base w (w1.drew.alloc (.cells (bytesRow s (grownCap w1 s.size 0 5)) 5 ((bytesRow s (grownCap w1 s.size 0 5)).size, (bytesRow s (grownCap w1 s.size 0 5)).size + 1)))) := hid ((below_drew HB1.out).alloc (by exact hB1) _)
  have HT2 : Hid (Stays g w (w1.drew.alloc (.cells (bytesRow s (grownCap w1 s.size 0 5)) 5 ((bytesRow s (grownCap w1 s.size 0 5)).size, (bytesRow s (grownCap w1 s.size 0 5)).size + 1)))) := hid (HT1.out.trans (Stays.of_below ((below_drew (Below.refl _ w1)).alloc (by exact Nat.le_refl _) _)))
  have HS2 := hid (sees_bytes w1 s (grownCap w1 s.size 0 5) 5 ((bytesRow s (grownCap w1 s.size 0 5)).size, (bytesRow s (grownCap w1 s.size 0 5)).size + 1))
  refine (putk_as base g (some ⟨w1.heap.size, 0, none⟩) (l ++ shortN s.size) (bytesOfS s) L s.size _ _ HL.out HO2.out HSL.out (fun h => nomatch h) HS2.out (by rw [List.length_append]; omega)).mono ?_
  rintro en w2 ⟨⟨rfl, ho, hb⟩, hst⟩
  have HR : Hid (OutAt w2 base g L ∧ Below base w w2 ∧ Stays g w w2) := hid ⟨ho, HB2.out.trans hb, HT2.out.trans hst⟩
  clear ho hb hst HS2 HB2 HO2 HT2 HT1
  go_wp2
  go_ret
  exact ⟨⟨rfl, HR.out.1, HR.out.2.1⟩, HR.out.2.2⟩

end Go.Proofs.YtpdfakjopeldmaaGreatDoor
