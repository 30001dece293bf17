/-
  Contracts of num.Bytes (of four), slices.Reverse (of four bytes of the call's own) and sum.tail.
-/
import Derived.Test.YtilocedppkmikaaSSum
import Derived.RegionTactic
import Derived.ChangeAlike
import Derived.BigRegion
namespace Go.Proofs.Ytilocedppkmikaa
open Go.RowKit

/-- What a loop that writes a number's bytes from the last one on holds. -/
def BytesRelS (V n base : Nat) (w : World) (v i : Value) (wr : World) : Prop :=
  (∃ (k m : Nat) (tail : List Nat), i = .int .i64 (k : Int) ∧ k < n ∧ v = .int .u64 (m : Int) ∧ m < 18446744073709551616 ∧ tail.length + (k + 1) = n ∧ bytesN m (k + 1) ++ tail = bytesN V n ∧
    wr.ownsRow base 5 1 (.slice (some ⟨base, 0, none⟩) n n) n ((List.replicate (k + 1) 0 ++ tail).map bv) ∧ Below base w wr) ∨
  (i = .int .i64 (-1) ∧ wr.ownsRow base 5 1 (.slice (some ⟨base, 0, none⟩) n n) n ((bytesN V n).map bv) ∧ Below base w wr)

theorem bytes_stepS {V n base k m : Nat} {tail : List Nat} {w wr : World} {x a i : Int} (hk : k < n) (hm : m < 18446744073709551616) (hlen : tail.length + (k + 1) = n) (heq : bytesN m (k + 1) ++ tail = bytesN V n)
    (hown : wr.ownsRow base 5 1 (.slice (some ⟨base, 0, none⟩) n n) n ((List.replicate (k + 1) 0 ++ tail).map bv)) (hb : Below base w wr) (hx : x = (m : Int) % 256) (ha : a = (m : Int) / 256) (hi : i = (k : Int) - 1) :
    BytesRelS V n base w (.int .u64 a) (.int .i64 i) (wr.setCell ⟨base, k, none⟩ (.int .u8 x)) := by
  subst hx; subst ha; subst hi
  have hs := (hown.stored k (.int .u8 ((m : Int) % 256))).1
  have ev : (Value.int .u8 ((m : Int) % 256)) = bv (m % 256) := by unfold bv; congr 1
  rw [ev] at hs ⊢
  rw [← List.map_set, replicate_set] at hs
  have hb' : Below base w (wr.setCell ⟨base, k, none⟩ (bv (m % 256))) := hb.setCell (Nat.le_refl _) _
  rw [bytesN, List.append_assoc, List.singleton_append] at heq
  cases k with
  | zero =>
    right
    refine ⟨by simp, ?_, hb'⟩
    rw [← heq]
    simpa [bytesN] using hs
  | succ k =>
    left
    refine ⟨k, m / 256, m % 256 :: tail, ?_, by omega, by congr 1, by omega, by simp; omega, heq, hs, hb'⟩
    congr 1
    omega

theorem zeros_of_madeS (n : Nat) : (madeCells (Value.int .u8 0).cells (n * 1)).toList = (List.replicate n 0).map bv := by
  rw [Nat.mul_one, show (Value.int IntKind.u8 0).cells = #[.int .u8 0] from rfl, toList_madeCells_one, List.map_replicate]
  rfl

theorem bytes_startS {V n : Nat} {w w1 : World} (hV : V < 18446744073709551616) (h : w1.ownsRow w.heap.size 5 1 (.slice (some ⟨w.heap.size, 0, none⟩) n n) n (madeCells (Value.int .u8 0).cells (n * 1)).toList) (hg : w.grownBy w1 none) :
    BytesRelS V n w.heap.size w (.int .u64 (V : Int)) (.int .i64 ((n : Int) - 1)) w1 := by
  have hb : Below w.heap.size w w1 := (Below.refl _ _).grown hg (Nat.le_refl _) (by intro k hk; cases hk)
  rw [zeros_of_madeS] at h
  cases n with
  | zero => right; exact ⟨by simp, by simpa [bytesN] using h, hb⟩
  | succ n =>
    left
    refine ⟨n, V, [], ?_, by omega, rfl, hV, by simp, by simp, by simpa using h, hb⟩
    congr 1
    omega

theorem bytes_endS {V n : Nat} {w wr : World} (h : wr.ownsRow w.heap.size 5 1 (.slice (some ⟨w.heap.size, 0, none⟩) n n) n ((bytesN V n).map bv)) (hb : Below w.heap.size w wr) : Makes (bytesN V n) w (.returned (.slice (some ⟨w.heap.size, 0, none⟩) n n)) wr :=
  ⟨_, rfl, by rw [bytesN_len]; exact h, hb⟩

set_option maxRecDepth 100000 in
set_option maxHeartbeats 400000 in
theorem bytes4_any (V : Nat) (w : World) (hV : V < 18446744073709551616) :
    Calls Try.prog 29 #[.int .u64 V, .int .i64 4] w (fun e w' => e = .returned (.slice (some ⟨w.heap.size, 0, none⟩) 4 4) ∧ w'.ownsRow w.heap.size 5 1 (.slice (some ⟨w.heap.size, 0, none⟩) 4 4) 4 ((bytesN V 4).map bv) ∧ Below w.heap.size w w') := by
  obtain ⟨i0, hi, hz0, hz1, hz2⟩ := info_parts info_u8
  have HV := hid hV
  clear hV
  go_enter Try.func29, Try.ntmps29
  go_wp2_with (at_make; refine wpList_make_full _ rfl _ _ 22 rfl w.heap.size 5 i0 (.int .u8 0) 1 Try.underlying22 hi hz0 hz1 .i64 .i64 _ _ 4 rfl rfl (by omega) (by omega) (by rw [hz2]; omega) (by unfold maxLen; omega) (Nat.le_refl _) ?_; intro w1 hown hg)
  have HR := hid (bytes_startS HV.out hown hg)
  clear hown hg
  go_loopw [0, 6] (fun v i wr => BytesRelS V 4 w.heap.size w v i wr) (fun _ i _ => (intOf i + 1).toNat)
  case atStart => exact HR.out
  case round =>
    rcases hrel with ⟨k, m, tail, rfl, hk, rfl, hm, hlen, heq, hown, hb⟩ | ⟨rfl, hown, hb⟩
    · have HS := hid (bytes_stepS hk hm hlen heq hown hb rfl rfl rfl)
      obtain ⟨u, hc⟩ : ∃ u, wr.cell? ⟨w.heap.size, k, none⟩ = some u := ⟨_, (hown.cellAt k (by omega)).trans (List.getElem?_eq_getElem (by simp; omega))⟩
      have hf := hown.frozenAt k
      have hmI : (m : Int) ≤ 18446744073709551615 := by omega
      clear heq hown hm
      go_wp2
      go_roundw
      case rel => exact HS.out
      case measure => simp only [intOf]; omega
    · go_wp2
      go_ret
      exact ⟨rfl, hown, hb⟩

/-- Four bytes of the call's own, each as it lies there. -/
theorem own4 {g base x0 x1 x2 x3 : Nat} {w : World} (h : w.ownsRow base 5 1 (.slice (some ⟨g, 0, none⟩) 4 4) 4 ([x0, x1, x2, x3].map bv)) :
    (w.cell? ⟨g, 0, none⟩ = some (.int .u8 (x0 : Int)) ∧ w.cell? ⟨g, 1, none⟩ = some (.int .u8 (x1 : Int)) ∧ w.cell? ⟨g, 2, none⟩ = some (.int .u8 (x2 : Int)) ∧ w.cell? ⟨g, 3, none⟩ = some (.int .u8 (x3 : Int))) ∧
    w.frozen? ⟨g, 0, none⟩ = false ∧ w.frozen? ⟨g, 1, none⟩ = false ∧ w.frozen? ⟨g, 2, none⟩ = false ∧ w.frozen? ⟨g, 3, none⟩ = false :=
  ⟨⟨h.cellAt 0 (by omega), h.cellAt 1 (by omega), h.cellAt 2 (by omega), h.cellAt 3 (by omega)⟩, h.frozenAt 0, h.frozenAt 1, h.frozenAt 2, h.frozenAt 3⟩

theorem swap03 {g base x0 x1 x2 x3 : Nat} {w : World} (hbase : base ≤ g) (h : w.ownsRow base 5 1 (.slice (some ⟨g, 0, none⟩) 4 4) 4 ([x0, x1, x2, x3].map bv)) :
    ((w.setCell ⟨g, 0, none⟩ (bv x3)).setCell ⟨g, 3, none⟩ (bv x0)).drew.ownsRow base 5 1 (.slice (some ⟨g, 0, none⟩) 4 4) 4 ([x3, x1, x2, x0].map bv) ∧ Below base w ((w.setCell ⟨g, 0, none⟩ (bv x3)).setCell ⟨g, 3, none⟩ (bv x0)).drew :=
  ⟨((h.stored 0 (bv x3)).1.stored 3 (bv x0)).1.drew, below_drew (((Below.refl _ _).setCell (by exact hbase) _).setCell (by exact hbase) _)⟩
theorem swap12 {g base x0 x1 x2 x3 : Nat} {w : World} (hbase : base ≤ g) (h : w.ownsRow base 5 1 (.slice (some ⟨g, 0, none⟩) 4 4) 4 ([x0, x1, x2, x3].map bv)) :
    ((w.setCell ⟨g, 1, none⟩ (bv x2)).setCell ⟨g, 2, none⟩ (bv x1)).drew.ownsRow base 5 1 (.slice (some ⟨g, 0, none⟩) 4 4) 4 ([x0, x2, x1, x3].map bv) ∧ Below base w ((w.setCell ⟨g, 1, none⟩ (bv x2)).setCell ⟨g, 2, none⟩ (bv x1)).drew :=
  ⟨((h.stored 1 (bv x2)).1.stored 2 (bv x1)).1.drew, below_drew (((Below.refl _ _).setCell (by exact hbase) _).setCell (by exact hbase) _)⟩

set_option maxRecDepth 100000 in
set_option maxHeartbeats 400000 in
theorem reverse4_any (g base : Nat) (x0 x1 x2 x3 : Nat) (w : World) (hbase : base ≤ g) (hown : w.ownsRow base 5 1 (.slice (some ⟨g, 0, none⟩) 4 4) 4 ([x0, x1, x2, x3].map bv)) :
    Calls Try.prog 31 #[.slice (some ⟨g, 0, none⟩) 4 4] w (fun e w' => e = .returned (.tuple #[]) ∧ w'.ownsRow base 5 1 (.slice (some ⟨g, 0, none⟩) 4 4) 4 ([x3, x2, x1, x0].map bv) ∧ Below base w w') := by
  obtain ⟨⟨c0, c1, c2, c3⟩, f0, f1, f2, f3⟩ := own4 hown
  have HO := hid (swap03 hbase hown)
  clear hown
  go_enter Try.func31, Try.ntmps31
  go_wp2
  refine wp_loop_rounds 3 ?_
  rw [rounds_succ]
  go_wp2
  go_region
  have HO2 := HO.out
  unfold bv at HO2
  generalize ((w.setCell ⟨g, 0, none⟩ (.int .u8 (x3 : Int))).setCell ⟨g, 3, none⟩ (.int .u8 (x0 : Int))).drew = w2 at *
  obtain ⟨hown2, hb2⟩ := HO2
  clear c0 c1 c2 c3 f0 f1 f2 f3 HO
  obtain ⟨⟨c0, c1, c2, c3⟩, f0, f1, f2, f3⟩ := own4 hown2
  have HP := hid (swap12 hbase hown2)
  have HB := hid hb2
  clear hown2 hb2
  go_wp2
  rw [rounds_succ]
  go_wp2
  go_region
  have HP2 := HP.out
  unfold bv at HP2
  generalize ((w2.setCell ⟨g, 1, none⟩ (.int .u8 (x2 : Int))).setCell ⟨g, 2, none⟩ (.int .u8 (x1 : Int))).drew = w3 at *
  have HQ := hid HP2
  clear HP2 HP c0 c1 c2 c3 f0 f1 f2 f3
  go_wp2
  rw [rounds_succ]
  go_wp2
  go_end0
  exact ⟨rfl, HQ.out.1, HB.out.trans HQ.out.2⟩

theorem own_low {w : World} {base base' n : Nat} {e : TypeId} {v : Value} {xs : List Value} (h : w.ownsRow base e 1 v n xs) (hb : base' ≤ base) : w.ownsRow base' e 1 v n xs := by
  refine ⟨h.1, ?_⟩
  rcases h.2 with h2 | ⟨g, cap, cur, h3, h4, h5⟩
  · exact .inl h2
  · exact .inr ⟨g, cap, cur, h3, Nat.le_trans hb h4, h5⟩

/-- A sum's four bytes, the least first. -/
def le4 (y : Nat) : List Nat := [y % 256, y / 256 % 256, y / 256 / 256 % 256, y / 256 / 256 / 256 % 256]
theorem bytesN_4 (y : Nat) : bytesN y 4 = [y / 256 / 256 / 256 % 256, y / 256 / 256 % 256, y / 256 % 256, y % 256] := by simp [bytesN]
theorem le4_byte (y : Nat) : ∀ x ∈ le4 y, x < 256 := by
  intro x hx
  simp [le4] at hx
  omega
theorem numLE_le4 {y : Nat} (hy : y < 4294967296) : numLE (le4 y) = y := by
  simp only [le4, numLE]
  omega

/-- What Bytes hands back, of four bytes, behind a name. -/
def Four (V g : Nat) (w w' : World) : Prop := w'.ownsRow g 5 1 (.slice (some ⟨g, 0, none⟩) 4 4) 4 ((bytesN V 4).map bv) ∧ Below g w w'
theorem bytes4_hid (V g : Nat) (w : World) (hg : w.heap.size = g) (hV : V < 18446744073709551616) :
    Calls Try.prog 29 #[.int .u64 V, .int .i64 4] w (fun e w' => e = .returned (.slice (some ⟨g, 0, none⟩) 4 4) ∧ Four V g w w') := by
  subst hg
  exact (bytes4_any V w hV).mono fun _ _ ⟨h1, h2, h3⟩ => ⟨h1, h2, h3⟩
theorem own4_of {V g : Nat} {w w' : World} (h : Four V g w w') : w'.ownsRow g 5 1 (.slice (some ⟨g, 0, none⟩) 4 4) 4 ([V / 256 / 256 / 256 % 256, V / 256 / 256 % 256, V / 256 % 256, V % 256].map bv) ∧ Below g w w' := by
  have h1 := h.1
  rw [bytesN_4] at h1
  exact ⟨h1, h.2⟩

set_option maxRecDepth 100000 in
set_option maxHeartbeats 400000 in
theorem tail_any (A : Option Addr) (l : List Nat) (n c : Nat) (w : World) (hn : l.length = n) (hl : n ≤ 9223372036854775807) (h8 : ∀ x ∈ l, x < 256) (hA : Sees .u8 w A l) :
    Calls Try.prog 25 #[.slice A n c] w (Makes (le4 (crcOf l)) w) := by
  have HA := hid hA
  have H8 := hid h8
  have HN := hid hn
  have hlt := crcOf_lt l
  clear hA h8 hn
  go_enter Try.func25, Try.ntmps25
  go_wp2_with (first
    | (go_at_call 30; ((with_reducible refine (of_made w A l n c 1 HN.out hl H8.out HA.out).mono ?_); rintro e w' ⟨rfl, rfl⟩))
    | (go_at_call 29; ((with_reducible refine (bytes4_hid (crcOf l) (w.heap.size + 1) _ (by simp) (by omega)).mono ?_); rintro e w2 ⟨rfl, H2⟩; have H3 := hid (own4_of H2)))
    | (go_at_call 31; ((with_reducible refine (reverse4_any (w.heap.size + 1) (w.heap.size + 1) _ _ _ _ w2 (Nat.le_refl _) H3.out.1).mono ?_); rintro e w3 ⟨rfl, hown3, hb3⟩)))
  go_ret
  have hb1 : Below w.heap.size w (w.alloc (.cells #[.slice A n c] 22)) := (Below.refl _ _).alloc (Nat.le_refl _) _
  exact ⟨_, rfl, own_low hown3 (by omega), hb1.trans ((H3.out.2.trans hb3).mono (by omega))⟩

end Go.Proofs.Ytilocedppkmikaa
