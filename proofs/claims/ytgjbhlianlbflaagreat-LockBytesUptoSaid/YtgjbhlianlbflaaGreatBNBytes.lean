/-
  The contracts of num.Bytes and num.Read.
-/
import Derived.Test.YtgjbhlianlbflaaGreatBMath
import Derived.Test.YtgjbhlianlbflaaGreatBBase
import Derived.WalkKit
import Derived.WalkSpells
import Derived.WalkLawsBesides
namespace Go.Proofs.YtgjbhlianlbflaaGreat
open Go.RowKit
def ShortRel (V : Nat) (base : Nat) (w : World) (n : Value) (s : Value) (wr : World) : Prop :=
  ∃ (m : Nat) (a : List Nat), n = .int .u64 m ∧ m < 18446744073709551616 ∧ a.length + (shortN m).length = (shortN V).length ∧ a ++ shortN m = shortN V ∧
    wr.ownsRow base 5 1 s a.length (a.map bv) ∧ Below base w wr
theorem short_step {V base m : Nat} {a : List Nat} {w wr w1 : World} {s v' : Value} {o : Obj} {x : Int} (hsz : base ≤ wr.heap.size) (hx : x = ((m % 128 + 128 : Nat) : Int))
    (hm : m < 18446744073709551616) (h128 : 128 ≤ m)
    (hlen : a.length + (shortN m).length = (shortN V).length) (happ : a ++ shortN m = shortN V) (hown : wr.ownsRow base 5 1 s a.length (a.map bv)) (hb : Below base w wr)
    (hown' : w1.ownsRow base 5 1 v' (a.length + 1) (a.map bv ++ [.int .u8 x])) (hg : (wr.alloc o).grownBy w1 s.ownBlock) :
    ShortRel V base w (.int .u64 ((m / 128 : Nat) : Int)) v' w1 := by
  subst hx
  rw [shortN_hi h128] at hlen happ
  refine ⟨m / 128, a ++ [m % 128 + 128], rfl, by omega, ?_, ?_, ?_, below_append hb hsz hown hg⟩
  · rw [← hlen]; simp; omega
  · rw [← happ]; simp
  · simpa [bv] using hown'
theorem short_end {V m : Nat} {a : List Nat} {w wr w1 : World} {s v' : Value} {o : Obj} {x : Int} (hsz : w.heap.size ≤ wr.heap.size) (hx : x = (m : Int)) (h128 : m < 128)
    (happ : a ++ shortN m = shortN V) (hown : wr.ownsRow w.heap.size 5 1 s a.length (a.map bv)) (hb : Below w.heap.size w wr)
    (hown' : w1.ownsRow w.heap.size 5 1 v' (a.length + 1) (a.map bv ++ [.int .u8 x])) (hg : (wr.alloc o).grownBy w1 s.ownBlock) :
    Makes (shortN V) w (.returned v') w1 := by
  subst hx
  rw [shortN_lo h128] at happ
  refine ⟨v', rfl, ?_, below_append hb hsz hown hg⟩
  rw [← happ]
  simpa [bv] using hown'
set_option maxRecDepth 100000 in
set_option maxHeartbeats 400000 in
theorem short_any (v : Nat) (w : World) (hv : v < 18446744073709551616) :
    Calls Tryz.prog 77 #[.int .u64 v] w (Makes (shortN v) w) := by
  obtain ⟨i0, hi, hz0, hz1, hz2⟩ := info_parts info_u8
  have HL := hid (shortN_len10 hv)
  go_enter Tryz.func77, Tryz.ntmps77
  go_wp2
  go_loopw [0, 3] (fun n s wr => ShortRel v w.heap.size w n s wr) (fun n _ _ => (intOf n).toNat)
  case atStart => exact ⟨v, [], rfl, hv, by simp, by simp, World.ownsRow_nil _ _ _ _, Below.refl _ _⟩
  case round =>
    obtain ⟨m, a, rfl, hm, hlen, happ, hown, hbel⟩ := hrel
    have hsz := hbel.size
    have hal : a.length ≤ 10 := by have h1 := HL.out; have h2 := shortN_pos m; omega
    have HA := hid happ
    have HN := hid hlen
    clear happ hlen
    by_cases h128 : 128 ≤ m
    · go_wp2_with (at_builtin; refine wpList_append_own _ rfl (.tmp 6) (.tmp 10) 56 rfl w.heap.size 5 i0 (.int .u8 0) 1 1 Tryz.underlying56 hi hz0 hz1 hz2 rfl (by decide) _ _ _ rfl (hown.alloc _) ⟨wr.heap.size, 0, none⟩ 1 1 [.int .u8 (bits BinOp.or IntKind.u8 ((m : Int) % 256) 128)] rfl rfl (one_at _) one_cell (by unfold maxLen; omega) (by omega) (by simp; omega) ?_)
      intro v' w1 hown' hgrow _
      have R := hid (short_step hsz (or128_walk m) hm h128 HN.out HA.out hown hbel hown' hgrow)
      clear hown' hgrow hown
      go_wp2
      go_roundw
      case rel => exact R.out
      case measure => simp [intOf]; omega
    · go_wp2_with (at_builtin; refine wpList_append_own _ rfl (.tmp 14) (.tmp 17) 56 rfl w.heap.size 5 i0 (.int .u8 0) 1 1 Tryz.underlying56 hi hz0 hz1 hz2 rfl (by decide) _ _ _ rfl (hown.alloc _) ⟨wr.heap.size, 0, none⟩ 1 1 [.int .u8 (m : Int)] rfl rfl (one_at _) one_cell (by unfold maxLen; omega) (by omega) (by simp; omega) ?_)
      intro v' w1 hown' hgrow _
      have R := hid (short_end hsz rfl (by omega) HA.out hown hbel hown' hgrow)
      clear hown' hgrow hown
      go_wp2
      go_ret
      exact R.out
theorem short_hands (v : Nat) (w : World) (hv : v < 18446744073709551616) : Calls Tryz.prog 77 #[.int .u64 v] w (Hands (shortN v) w) :=
  (short_any v w hv).mono fun _ _ h => h.hands
end Go.Proofs.YtgjbhlianlbflaaGreat
namespace Go.Proofs.YtgjbhlianlbflaaGreat
open Go.RowKit
end Go.Proofs.YtgjbhlianlbflaaGreat
namespace Go.Proofs.YtgjbhlianlbflaaGreat
open Go.RowKit
def BytesRel (V n base : Nat) (w : World) (v i : Value) (wr : World) : Prop :=
  (∃ (k m : Nat) (tail : List Nat), i = .int .i64 (k : Int) ∧ k < n ∧ v = .int .u64 (m : Int) ∧ m < 18446744073709551616 ∧ tail.length + (k + 1) = n ∧ bytesN m (k + 1) ++ tail = bytesN V n ∧
    wr.ownsRow base 5 1 (.slice (some ⟨base, 0, none⟩) n n) n ((List.replicate (k + 1) 0 ++ tail).map bv) ∧ Below base w wr) ∨
  (i = .int .i64 (-1) ∧ wr.ownsRow base 5 1 (.slice (some ⟨base, 0, none⟩) n n) n ((bytesN V n).map bv) ∧ Below base w wr)
theorem bytes_step {V n base k m : Nat} {tail : List Nat} {w wr : World} {x a i : Int} (hk : k < n) (hm : m < 18446744073709551616) (hlen : tail.length + (k + 1) = n) (heq : bytesN m (k + 1) ++ tail = bytesN V n)
    (hown : wr.ownsRow base 5 1 (.slice (some ⟨base, 0, none⟩) n n) n ((List.replicate (k + 1) 0 ++ tail).map bv)) (hb : Below base w wr) (hx : x = (m : Int) % 256) (ha : a = (m : Int) / 256) (hi : i = (k : Int) - 1) :
    BytesRel V n base w (.int .u64 a) (.int .i64 i) (wr.setCell ⟨base, k, none⟩ (.int .u8 x)) := by
  subst hx; subst ha; subst hi
  have hs := (hown.stored k (.int .u8 ((m : Int) % 256))).1
  have ev : (Value.int .u8 ((m : Int) % 256)) = bv (m % 256) := by unfold bv; congr 1
  rw [ev] at hs ⊢
  rw [← List.map_set, replicate_set] at hs
  have hb' : Below base w (wr.setCell ⟨base, k, none⟩ (bv (m % 256))) := hb.setCell (Nat.le_refl _) _
  rw [bytesN, List.append_assoc, List.singleton_append] at heq
  cases k with
  | zero =>
    right
    refine ⟨by simp, ?_, hb'⟩
    rw [← heq]
    simpa [bytesN] using hs
  | succ k =>
    left
    refine ⟨k, m / 256, m % 256 :: tail, ?_, by omega, by congr 1, by omega, by simp; omega, heq, hs, hb'⟩
    congr 1
    omega
theorem zeros_of_made (n : Nat) : (madeCells (Value.int .u8 0).cells (n * 1)).toList = (List.replicate n 0).map bv := by
  rw [Nat.mul_one, show (Value.int IntKind.u8 0).cells = #[.int .u8 0] from rfl, toList_madeCells_one, List.map_replicate]
  rfl
theorem bytes_start {V n : Nat} {w w1 : World} (hV : V < 18446744073709551616) (h : w1.ownsRow w.heap.size 5 1 (.slice (some ⟨w.heap.size, 0, none⟩) n n) n (madeCells (Value.int .u8 0).cells (n * 1)).toList) (hg : w.grownBy w1 none) :
    BytesRel V n w.heap.size w (.int .u64 (V : Int)) (.int .i64 ((n : Int) - 1)) w1 := by
  have hb : Below w.heap.size w w1 := (Below.refl _ _).grown hg (Nat.le_refl _) (by intro k hk; cases hk)
  rw [zeros_of_made] at h
  cases n with
  | zero => right; exact ⟨by simp, by simpa [bytesN] using h, hb⟩
  | succ n =>
    left
    refine ⟨n, V, [], ?_, by omega, rfl, hV, by simp, by simp, by simpa using h, hb⟩
    congr 1
    omega
theorem bytes_end {V n : Nat} {w wr : World} (h : wr.ownsRow w.heap.size 5 1 (.slice (some ⟨w.heap.size, 0, none⟩) n n) n ((bytesN V n).map bv)) (hb : Below w.heap.size w wr) : Makes (bytesN V n) w (.returned (.slice (some ⟨w.heap.size, 0, none⟩) n n)) wr :=
  ⟨_, rfl, by rw [bytesN_len]; exact h, hb⟩
set_option maxRecDepth 100000 in
set_option maxHeartbeats 400000 in
theorem bytes_any (V n : Nat) (a : Int) (w : World) (hV : V < 18446744073709551616) (hn : n ≤ 8) (ha : a < 0 ∧ n = 0 ∨ a = n ∨ 8 < a ∧ n = 8) :
    Calls Tryz.prog 81 #[.int .u64 V, .int .i64 a] w (Makes (bytesN V n) w) := by
  obtain ⟨i0, hi, hz0, hz1, hz2⟩ := info_parts info_u8
  have HV := hid hV
  clear hV
  rcases ha with ⟨ha, hz⟩ | rfl | ⟨ha, hz⟩
  · have hz0' : n ≤ 0 := by omega
    clear hz
    go_enter Tryz.func81, Tryz.ntmps81
    go_wp2_with (at_make; refine wpList_make_full _ rfl _ _ 56 rfl w.heap.size 5 i0 (.int .u8 0) 1 Tryz.underlying56 hi hz0 hz1 .i64 .i64 _ _ n rfl rfl (by omega) (by omega) (by rw [hz2]; omega) (by unfold maxLen; omega) (Nat.le_refl _) ?_; intro w1 hown hg)
    have HR := hid (bytes_start HV.out hown hg)
    clear hown hg
    go_loopw [0, 6] (fun v i wr => BytesRel V n w.heap.size w v i wr) (fun _ i _ => (intOf i + 1).toNat)
    case atStart => exact HR.out
    case round =>
      rcases hrel with ⟨k, m, tail, rfl, hk, rfl, hm, hlen, heq, hown, hb⟩ | ⟨rfl, hown, hb⟩
      · exact absurd hk (by omega)
      · go_wp2
        go_ret
        exact bytes_end hown hb
  · go_enter Tryz.func81, Tryz.ntmps81
    go_wp2_with (at_make; refine wpList_make_full _ rfl _ _ 56 rfl w.heap.size 5 i0 (.int .u8 0) 1 Tryz.underlying56 hi hz0 hz1 .i64 .i64 _ _ n rfl rfl (by omega) (by omega) (by rw [hz2]; omega) (by unfold maxLen; omega) (Nat.le_refl _) ?_; intro w1 hown hg)
    have HR := hid (bytes_start HV.out hown hg)
    clear hown hg
    go_loopw [0, 6] (fun v i wr => BytesRel V n w.heap.size w v i wr) (fun _ i _ => (intOf i + 1).toNat)
    case atStart => exact HR.out
    case round =>
      rcases hrel with ⟨k, m, tail, rfl, hk, rfl, hm, hlen, heq, hown, hb⟩ | ⟨rfl, hown, hb⟩
      · have HS := hid (bytes_step hk hm hlen heq hown hb rfl rfl rfl)
        obtain ⟨u, hc⟩ : ∃ u, wr.cell? ⟨w.heap.size, k, none⟩ = some u := ⟨_, (hown.cellAt k (by omega)).trans (List.getElem?_eq_getElem (by simp; omega))⟩
        have hf := hown.frozenAt k
        have hmI : (m : Int) ≤ 18446744073709551615 := by omega
        clear heq hown hm
        go_wp2
        go_roundw
        case rel => exact HS.out
        case measure => simp only [intOf]; omega
      · go_wp2
        go_ret
        exact bytes_end hown hb
  · have hz0' : 8 ≤ n := by omega
    clear hz
    go_enter Tryz.func81, Tryz.ntmps81
    go_wp2_with (at_make; refine wpList_make_full _ rfl _ _ 56 rfl w.heap.size 5 i0 (.int .u8 0) 1 Tryz.underlying56 hi hz0 hz1 .i64 .i64 _ _ n rfl rfl (by omega) (by omega) (by rw [hz2]; omega) (by unfold maxLen; omega) (Nat.le_refl _) ?_; intro w1 hown hg)
    have HR := hid (bytes_start HV.out hown hg)
    clear hown hg
    go_loopw [0, 6] (fun v i wr => BytesRel V n w.heap.size w v i wr) (fun _ i _ => (intOf i + 1).toNat)
    case atStart => exact HR.out
    case round =>
      rcases hrel with ⟨k, m, tail, rfl, hk, rfl, hm, hlen, heq, hown, hb⟩ | ⟨rfl, hown, hb⟩
      · have HS := hid (bytes_step hk hm hlen heq hown hb rfl rfl rfl)
        obtain ⟨u, hc⟩ : ∃ u, wr.cell? ⟨w.heap.size, k, none⟩ = some u := ⟨_, (hown.cellAt k (by omega)).trans (List.getElem?_eq_getElem (by simp; omega))⟩
        have hf := hown.frozenAt k
        have hmI : (m : Int) ≤ 18446744073709551615 := by omega
        clear heq hown hm
        go_wp2
        go_roundw
        case rel => exact HS.out
        case measure => simp only [intOf]; omega
      · go_wp2
        go_ret
        exact bytes_end hown hb
def HandsN (l : List Nat) (n : Nat) (w : World) (e : Ending) (w' : World) : Prop :=
  ∃ A cap, e = .returned (.slice A n cap) ∧ (A = none → cap = 0) ∧ n ≤ cap ∧ Sees .u8 w' A l ∧ Below w.heap.size w w'
theorem Hands.named {l : List Nat} {n : Nat} {w : World} {e : Ending} {w' : World} (h : Hands l w e w') (hn : l.length = n) : HandsN l n w e w' := by
  subst hn; exact h
theorem bytes_hands (V n : Nat) (a : Int) (w : World) (hV : V < 18446744073709551616) (hn : n ≤ 8) (ha : a < 0 ∧ n = 0 ∨ a = n ∨ 8 < a ∧ n = 8) :
    Calls Tryz.prog 81 #[.int .u64 V, .int .i64 a] w (HandsN (bytesN V n) n w) := (bytes_any V n a w hV hn ha).mono fun _ _ h => h.hands.named (bytesN_len n V)
end Go.Proofs.YtgjbhlianlbflaaGreat
