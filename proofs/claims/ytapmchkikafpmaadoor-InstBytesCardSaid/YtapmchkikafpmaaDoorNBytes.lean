/-
  The contracts of num.Bytes and num.Read.
-/
import Derived.Test.YtapmchkikafpmaaDoorNRead
import Derived.WalkKit
import Derived.WalkSpells
import Derived.WalkLawsBesides
namespace Go.Proofs.YtapmchkikafpmaaDoor
open Go.RowKit

/-- What a loop that writes a number's bytes from the last one on holds. -/
def BytesRel (V n base : Nat) (w : World) (v i : Value) (wr : World) : Prop :=
  (∃ (k m : Nat) (tail : List Nat), i = .int .i64 (k : Int) ∧ k < n ∧ v = .int .u64 (m : Int) ∧ m < 18446744073709551616 ∧ tail.length + (k + 1) = n ∧ bytesN m (k + 1) ++ tail = bytesN V n ∧
    wr.ownsRow base 5 1 (.slice (some ⟨base, 0, none⟩) n n) n ((List.replicate (k + 1) 0 ++ tail).map bv) ∧ Below base w wr) ∨
  (i = .int .i64 (-1) ∧ wr.ownsRow base 5 1 (.slice (some ⟨base, 0, none⟩) n n) n ((bytesN V n).map bv) ∧ Below base w wr)

theorem bytes_step {V n base k m : Nat} {tail : List Nat} {w wr : World} {x a i : Int} (hk : k < n) (hm : m < 18446744073709551616) (hlen : tail.length + (k + 1) = n) (heq : bytesN m (k + 1) ++ tail = bytesN V n)
    (hown : wr.ownsRow base 5 1 (.slice (some ⟨base, 0, none⟩) n n) n ((List.replicate (k + 1) 0 ++ tail).map bv)) (hb : Below base w wr) (hx : x = (m : Int) % 256) (ha : a = (m : Int) / 256) (hi : i = (k : Int) - 1) :
    BytesRel V n base w (.int .u64 a) (.int .i64 i) (wr.setCell ⟨base, k, none⟩ (.int .u8 x)) := by
  subst hx; subst ha; subst hi
  have hs := (hown.stored k (.int .u8 ((m : Int) % 256))).1
  have ev : (Value.int .u8 ((m : Int) % 256)) = bv (m % 256) := by unfold bv; congr 1
  rw [ev] at hs ⊢
  rw [← List.map_set, replicate_set] at hs
  have hb' : Below base w (wr.setCell ⟨base, k, none⟩ (bv (m % 256))) := hb.setCell (Nat.le_refl _) _
  rw [bytesN, List.append_assoc, List.singleton_append] at heq
  cases k with
  | zero =>
    right
    refine ⟨by simp, ?_, hb'⟩
    rw [← heq]
    simpa [bytesN] using hs
  | succ k =>
    left
    refine ⟨k, m / 256, m % 256 :: tail, ?_, by omega, by congr 1, by omega, by simp; omega, heq, hs, hb'⟩
    congr 1
    omega

theorem zeros_of_made (n : Nat) : (madeCells (Value.int .u8 0).cells (n * 1)).toList = (List.replicate n 0).map bv := by
  rw [Nat.mul_one, show (Value.int IntKind.u8 0).cells = #[.int .u8 0] from rfl, toList_madeCells_one, List.map_replicate]
  rfl

theorem bytes_start {V n : Nat} {w w1 : World} (hV : V < 18446744073709551616) (h : w1.ownsRow w.heap.size 5 1 (.slice (some ⟨w.heap.size, 0, none⟩) n n) n (madeCells (Value.int .u8 0).cells (n * 1)).toList) (hg : w.grownBy w1 none) :
    BytesRel V n w.heap.size w (.int .u64 (V : Int)) (.int .i64 ((n : Int) - 1)) w1 := by
  have hb : Below w.heap.size w w1 := (Below.refl _ _).grown hg (Nat.le_refl _) (by intro k hk; cases hk)
  rw [zeros_of_made] at h
  cases n with
  | zero => right; exact ⟨by simp, by simpa [bytesN] using h, hb⟩
  | succ n =>
    left
    refine ⟨n, V, [], ?_, by omega, rfl, hV, by simp, by simp, by simpa using h, hb⟩
    congr 1
    omega

theorem bytes_end {V n : Nat} {w wr : World} (h : wr.ownsRow w.heap.size 5 1 (.slice (some ⟨w.heap.size, 0, none⟩) n n) n ((bytesN V n).map bv)) (hb : Below w.heap.size w wr) : Makes (bytesN V n) w (.returned (.slice (some ⟨w.heap.size, 0, none⟩) n n)) wr :=
  ⟨_, rfl, by rw [bytesN_len]; exact h, hb⟩

set_option maxRecDepth 100000 in
set_option maxHeartbeats 400000 in
theorem bytes_any (V n : Nat) (a : Int) (w : World) (hV : V < 18446744073709551616) (hn : n ≤ 8) (ha : a < 0 ∧ n = 0 ∨ a = n ∨ 8 < a ∧ n = 8) :
    Calls Tryd.prog 74 #[.int .u64 V, .int .i64 a] w (Makes (bytesN V n) w) := by
  obtain ⟨i0, hi, hz0, hz1, hz2⟩ := info_parts info_u8
  have HV := hid hV
  clear hV
  rcases ha with ⟨ha, hz⟩ | rfl | ⟨ha, hz⟩
  · have hz0' : n ≤ 0 := by omega
    clear hz
    go_enter Tryd.func74, Tryd.ntmps74
    go_wp2_with (at_make; refine wpList_make_full _ rfl _ _ 39 rfl w.heap.size 5 i0 (.int .u8 0) 1 Tryd.underlying39 hi hz0 hz1 .i64 .i64 _ _ n rfl rfl (by omega) (by omega) (by rw [hz2]; omega) (by unfold maxLen; omega) (Nat.le_refl _) ?_; intro w1 hown hg)
    have HR := hid (bytes_start HV.out hown hg)
    clear hown hg
    go_loopw [0, 6] (fun v i wr => BytesRel V n w.heap.size w v i wr) (fun _ i _ => (intOf i + 1).toNat)
    case atStart => exact HR.out
    case round =>
      rcases hrel with ⟨k, m, tail, rfl, hk, rfl, hm, hlen, heq, hown, hb⟩ | ⟨rfl, hown, hb⟩
      · exact absurd hk (by omega)
      · go_wp2
        go_ret
        exact bytes_end hown hb
  · go_enter Tryd.func74, Tryd.ntmps74
    go_wp2_with (at_make; refine wpList_make_full _ rfl _ _ 39 rfl w.heap.size 5 i0 (.int .u8 0) 1 Tryd.underlying39 hi hz0 hz1 .i64 .i64 _ _ n rfl rfl (by omega) (by omega) (by rw [hz2]; omega) (by unfold maxLen; omega) (Nat.le_refl _) ?_; intro w1 hown hg)
    have HR := hid (bytes_start HV.out hown hg)
    clear hown hg
    go_loopw [0, 6] (fun v i wr => BytesRel V n w.heap.size w v i wr) (fun _ i _ => (intOf i + 1).toNat)
    case atStart => exact HR.out
    case round =>
      rcases hrel with ⟨k, m, tail, rfl, hk, rfl, hm, hlen, heq, hown, hb⟩ | ⟨rfl, hown, hb⟩
      · have HS := hid (bytes_step hk hm hlen heq hown hb rfl rfl rfl)
        obtain ⟨u, hc⟩ : ∃ u, wr.cell? ⟨w.heap.size, k, none⟩ = some u := ⟨_, (hown.cellAt k (by omega)).trans (List.getElem?_eq_getElem (by simp; omega))⟩
        have hf := hown.frozenAt k
        have hmI : (m : Int) ≤ 18446744073709551615 := by omega
        clear heq hown hm
        go_wp2
        go_roundw
        case rel => exact HS.out
        case measure => simp only [intOf]; omega
      · go_wp2
        go_ret
        exact bytes_end hown hb
  · have hz0' : 8 ≤ n := by omega
    clear hz
    go_enter Tryd.func74, Tryd.ntmps74
    go_wp2_with (at_make; refine wpList_make_full _ rfl _ _ 39 rfl w.heap.size 5 i0 (.int .u8 0) 1 Tryd.underlying39 hi hz0 hz1 .i64 .i64 _ _ n rfl rfl (by omega) (by omega) (by rw [hz2]; omega) (by unfold maxLen; omega) (Nat.le_refl _) ?_; intro w1 hown hg)
    have HR := hid (bytes_start HV.out hown hg)
    clear hown hg
    go_loopw [0, 6] (fun v i wr => BytesRel V n w.heap.size w v i wr) (fun _ i _ => (intOf i + 1).toNat)
    case atStart => exact HR.out
    case round =>
      rcases hrel with ⟨k, m, tail, rfl, hk, rfl, hm, hlen, heq, hown, hb⟩ | ⟨rfl, hown, hb⟩
      · have HS := hid (bytes_step hk hm hlen heq hown hb rfl rfl rfl)
        obtain ⟨u, hc⟩ : ∃ u, wr.cell? ⟨w.heap.size, k, none⟩ = some u := ⟨_, (hown.cellAt k (by omega)).trans (List.getElem?_eq_getElem (by simp; omega))⟩
        have hf := hown.frozenAt k
        have hmI : (m : Int) ≤ 18446744073709551615 := by omega
        clear heq hown hm
        go_wp2
        go_roundw
        case rel => exact HS.out
        case measure => simp only [intOf]; omega
      · go_wp2
        go_ret
        exact bytes_end hown hb

/-- The same, where the length is known by another name. -/
def HandsN (l : List Nat) (n : Nat) (w : World) (e : Ending) (w' : World) : Prop :=
  ∃ A cap, e = .returned (.slice A n cap) ∧ (A = none → cap = 0) ∧ n ≤ cap ∧ Sees .u8 w' A l ∧ Below w.heap.size w w'
theorem Hands.named {l : List Nat} {n : Nat} {w : World} {e : Ending} {w' : World} (h : Hands l w e w') (hn : l.length = n) : HandsN l n w e w' := by
  subst hn; exact h
theorem bytes_hands (V n : Nat) (a : Int) (w : World) (hV : V < 18446744073709551616) (hn : n ≤ 8) (ha : a < 0 ∧ n = 0 ∨ a = n ∨ 8 < a ∧ n = 8) :
    Calls Tryd.prog 74 #[.int .u64 V, .int .i64 a] w (HandsN (bytesN V n) n w) := (bytes_any V n a w hV hn ha).mono fun _ _ h => h.hands.named (bytesN_len n V)
set_option maxRecDepth 100000 in
set_option maxHeartbeats 400000 in
theorem read_range (A : Option Addr) (len ca : Nat) (a : Int) (w : World) (ha : a < 1 ∨ 8 < a) :
    Calls Tryd.prog 75 #[.slice A len ca, .int .i64 a] w (Tells (0, 0, 12) w) := by
  rcases ha with ha | ha
  · go_enter Tryd.func75, Tryd.ntmps75
    go_wp2
    go_ret3
    exact tells3 rfl rfl rfl rfl
  · go_enter Tryd.func75, Tryd.ntmps75
    go_wp2
    go_ret3
    exact tells3 rfl rfl rfl rfl

set_option maxRecDepth 100000 in
set_option maxHeartbeats 400000 in
theorem read_short (A : Option Addr) (len ca n : Nat) (w : World) (h1 : 1 ≤ n) (h8 : n ≤ 8) (hl : len < n) :
    Calls Tryd.prog 75 #[.slice A len ca, .int .i64 n] w (Tells (0, 0, 20) w) := by
  go_enter Tryd.func75, Tryd.ntmps75
  go_wp2
  go_ret3
  exact tells3 rfl rfl rfl rfl

def NumRel (l : List Nat) (n : Nat) (v i : Value) : Prop := ∃ k : Nat, k ≤ n ∧ i = .int .i64 (k : Int) ∧ v = .int .u64 (numN (l.take k) : Int)

set_option maxRecDepth 100000 in
set_option maxHeartbeats 400000 in
theorem read_any (b o : Nat) (l : List Nat) (ca n : Nat) (w : World) (h1 : 1 ≤ n) (h8 : n ≤ 8) (hl : n ≤ l.length) (hca : l.length ≤ ca) (hx : ∀ x ∈ l, x < 256) (hA : Sees .u8 w (some ⟨b, o, none⟩) l) :
    Calls Tryd.prog 75 #[.slice (some ⟨b, o, none⟩) l.length ca, .int .i64 n] w (Tells (numN (l.take n), n, 0) w) := by
  have HA := hid hA
  have HX := hid hx
  have hc0 : ¬ ca = 0 := by omega
  clear hA hx
  go_enter Tryd.func75, Tryd.ntmps75
  go_wp2
  go_loop [4, 23] (fun v i => NumRel l n v i) (fun _ i => n - (intOf i).toNat)
  case atStart => exact ⟨0, Nat.zero_le _, rfl, by simp [numN]⟩
  case round =>
    obtain ⟨k, hk, rfl, rfl⟩ := hrel
    by_cases hlt : k < n
    · obtain ⟨b', o', hA', _, hc⟩ := HA.out k l[k] (List.getElem?_eq_getElem (by omega))
      injection hA' with hA'
      injection hA' with e1 e2
      subst e1; subst e2
      have hm : numN (l.take k) < 72057594037927936 := by have := numN_lt l HX.out k; have := pow256 (k := k) (by omega); omega
      have HJ := hid (join8_walk (numN (l.take k)) l[k] hm (HX.out _ (List.getElem_mem _)))
      have HS := hid (numN_take (l := l) (k := k) (by omega))
      have hc8 := HX.out _ (List.getElem_mem (l := l) (n := k) (by omega))
      clear hm
      generalize numN (l.take k) = m at *
      generalize l[k] = c at *
      go_wp2
      go_round
      case rel => exact ⟨k + 1, by omega, by go_num, by rw [HS.out, ← HJ.out]⟩
      case measure => simp only [intOf]; omega
    · go_wp2
      go_ret3
      have e : k = n := by omega
      exact tells3 rfl (by rw [e]) rfl rfl

end Go.Proofs.YtapmchkikafpmaaDoor
