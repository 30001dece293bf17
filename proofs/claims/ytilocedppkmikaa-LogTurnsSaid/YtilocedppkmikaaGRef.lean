/-
  The contracts of the document's own Short and Frame.
-/
import Derived.Test.YtilocedppkmikaaGJoin
import Derived.Test.YtilocedppkmikaaSRefOf
namespace Go.Proofs.Ytilocedppkmikaa
open Go.RowKit

/-- The document's own answer: by dividing. -/
theorem div128_walk (m : Nat) : (128 + (m : Int) % 128) = ((m % 128 + 128 : Nat) : Int) := by omega

set_option maxRecDepth 100000 in
set_option maxHeartbeats 400000 in
theorem refshort_any (v : Nat) (w : World) (hv : v < 18446744073709551616) :
    Calls Try.prog 19 #[.int .u64 v] w (Makes (shortN v) w) := by
  obtain ⟨i0, hi, hz0, hz1, hz2⟩ := info_parts info_u8
  have HL := hid (shortN_len10 hv)
  go_enter Try.func19, Try.ntmps19
  go_wp2
  go_loopw [0, 3] (fun n s wr => ShortRel v w.heap.size w n s wr) (fun n _ _ => (intOf n).toNat)
  case atStart => exact ⟨v, [], rfl, hv, by simp, by simp, World.ownsRow_nil _ _ _ _, Below.refl _ _⟩
  case round =>
    obtain ⟨m, a, rfl, hm, hlen, happ, hown, hbel⟩ := hrel
    have hsz := hbel.size
    have hal : a.length ≤ 10 := by have h1 := HL.out; have h2 := shortN_pos m; omega
    have HA := hid happ
    have HN := hid hlen
    clear happ hlen
    by_cases h128 : 128 ≤ m
    · go_wp2_with (at_builtin; refine wpList_append_own _ rfl (.tmp 6) (.tmp 11) 22 rfl w.heap.size 5 i0 (.int .u8 0) 1 1 Try.underlying22 hi hz0 hz1 hz2 rfl (by decide) _ _ _ rfl (hown.alloc _) ⟨wr.heap.size, 0, none⟩ 1 1 [.int .u8 (128 + (m : Int) % 128)] rfl rfl (one_at _) one_cell (by unfold maxLen; omega) (by omega) (by simp; omega) ?_)
      intro v' w1 hown' hgrow _
      have R := hid (short_step hsz (div128_walk m) hm h128 HN.out HA.out hown hbel hown' hgrow)
      clear hown' hgrow hown
      go_wp2
      go_roundw
      case rel => exact R.out
      case measure => simp [intOf]; omega
    · go_wp2_with (at_builtin; refine wpList_append_own _ rfl (.tmp 15) (.tmp 18) 22 rfl w.heap.size 5 i0 (.int .u8 0) 1 1 Try.underlying22 hi hz0 hz1 hz2 rfl (by decide) _ _ _ rfl (hown.alloc _) ⟨wr.heap.size, 0, none⟩ 1 1 [.int .u8 (m : Int)] rfl rfl (one_at _) one_cell (by unfold maxLen; omega) (by omega) (by simp; omega) ?_)
      intro v' w1 hown' hgrow _
      have R := hid (short_end hsz rfl (by omega) HA.out hown hbel hown' hgrow)
      clear hown' hgrow hown
      go_wp2
      go_ret
      exact R.out

theorem refshort_as (x : Int) (v : Nat) (w : World) (hx : x = (v : Int)) (hv : v < 18446744073709551616) : Calls Try.prog 19 #[.int .u64 x] w (Makes (shortN v) w) := by
  subst hx; exact refshort_any v w hv

/-- What is left of a sum, byte by byte. -/
def quotN (y : Nat) : Nat → Nat
  | 0 => y
  | j + 1 => quotN y j / 256
theorem le4_take (y : Nat) {j : Nat} (hj : j < 4) : (le4 y).take (j + 1) = (le4 y).take j ++ [quotN y j % 256] := by
  match j, hj with
  | 0, _ => rfl
  | 1, _ => rfl
  | 2, _ => rfl
  | 3, _ => rfl
theorem quotN_lt {y : Nat} (h : y < 4294967296) (j : Nat) : quotN y j < 4294967296 := by
  induction j with
  | zero => exact h
  | succ j ih => simp only [quotN]; omega

def TailRel (P : List Nat) (y : Nat) (base : Nat) (w : World) (v s i : Value) (wr : World) : Prop :=
  ∃ j : Nat, j ≤ 4 ∧ i = .int .i64 (j : Int) ∧ s = .int .u32 ((quotN y j : Nat) : Int) ∧ wr.ownsRow base 5 1 v (P.length + j) ((P ++ (le4 y).take j).map bv) ∧ Below base w wr

theorem tail_step {P : List Nat} {y base j q : Nat} {w wr w1 : World} {v v' : Value} {o : Obj} {x z : Int} (hj : j < 4) (hq : q = quotN y j) (hsz : base ≤ wr.heap.size) (hown : wr.ownsRow base 5 1 v (P.length + j) ((P ++ (le4 y).take j).map bv)) (hb : Below base w wr)
    (hx : x = ((q % 256 : Nat) : Int)) (hz : z = ((q / 256 : Nat) : Int)) (hown' : w1.ownsRow base 5 1 v' (P.length + j + 1) ((P ++ (le4 y).take j).map bv ++ [.int .u8 x])) (hg : (wr.alloc o).grownBy w1 v.ownBlock) :
    TailRel P y base w v' (.int .u32 z) (.int .i64 ((j : Int) + 1)) w1 := by
  subst hx; subst hz; subst hq
  refine ⟨j + 1, hj, by go_num, rfl, ?_, below_append hb hsz hown hg⟩
  rw [le4_take y hj, ← List.append_assoc, List.map_append]
  exact hown'

set_option maxRecDepth 100000 in
set_option maxHeartbeats 400000 in
theorem refframe_any (A : Option Addr) (r : List Nat) (n c : Nat) (w : World) (hr : r.length = n) (hn : n ≤ 16384) (hA0 : A = none → c = 0) (h8 : ∀ x ∈ r, x < 256) (hA : Sees .u8 w A r) :
    Calls Try.prog 11 #[.slice A n c] w (Makes (frameN r) w) := by
  obtain ⟨i0, hi, hz0, hz1, hz2⟩ := info_parts info_u8
  obtain ⟨S, hS⟩ : ∃ S, shortN (n + 4) = S := ⟨_, rfl⟩
  obtain ⟨N, hN⟩ : ∃ N, S.length = N := ⟨_, rfl⟩
  have hN3 : N ≤ 3 := by rw [← hN, ← hS]; exact shortN_len3 (by omega)
  obtain ⟨y, hy⟩ : ∃ y, y = crcOf r := ⟨_, rfl⟩
  have hy32 : y < 4294967296 := by rw [hy]; exact crcOf_lt r
  obtain ⟨P, hP⟩ : ∃ P, P = S ++ r := ⟨_, rfl⟩
  have HPL : Hid (P.length = N + n) := hid (by rw [hP, List.length_append, hN, hr])
  have HPM : Hid (P.map bv = S.map bv ++ r.map bv) := hid (by rw [hP, List.map_append])
  have HF : Hid (P ++ (le4 y).take 4 = frameN r) := hid (by rw [hP, hy, ← hS]; unfold frameN sealed; rw [hr, List.append_assoc]; rfl)
  have HSN := hid hS
  have HN := hid hN
  have HR := hid hr
  have HA := hid hA
  have H8 := hid h8
  have H0 := hid hA0
  have HY := hid hy
  clear hS hN hr hA h8 hA0 hP hy
  go_enter Try.func11, Try.ntmps11
  go_wp2_with (first
    | (go_at_call 19; ((with_reducible refine (refshort_as _ (n + 4) _ (by omega) (by omega)).mono ?_); rintro e w1 ⟨s1, rfl, hown1, hb1⟩; rw [HSN.out, HN.out] at hown1; have HO1 := hid hown1; have HB1 := hid hb1; have hz1' := hb1.size; clear hown1 hb1))
    | (at_builtin; refine wpList_append_named rfl (.tmp 11) (.tmp 12) 22 rfl w.heap.size 5 i0 (.int .u8 0) 1 Try.underlying22 hi hz0 hz1 hz2 rfl _ _ _ rfl HO1.out .u8 A c r n HR.out rfl H0.out (HA.out.below HB1.out) (by unfold maxLen; omega) (by omega) hz1' ?_; intro s2 w2 hown2 hg2; have HB2 := hid (HB1.out.grown hg2 hz1' (fun k hk => (HO1.out.lt k hk).1)); have HO2 := hid hown2; clear hown2 hg2)
    | (go_at_call 20; ((with_reducible refine (refof_any A r n c _ HR.out (by omega) H8.out (HA.out.below HB2.out)).mono ?_); rintro e w3 ⟨rfl, hb3⟩; rw [← HY.out]; have HB3 := hid (below_on HB2.out hb3); have HO3 := hid (row_below HO2.out hb3); clear hb3)))
  go_loopw [3, 4, 5] (fun v s i wr => TailRel P y w.heap.size w v s i wr) (fun _ _ i _ => 4 - (intOf i).toNat)
  case atStart => exact ⟨0, by omega, rfl, rfl, by rw [HPL.out, List.take_zero, List.append_nil, HPM.out]; exact HO3.out, HB3.out⟩
  case round =>
    obtain ⟨j, hj, rfl, rfl, hown, hb⟩ := hrel
    have hsz := hb.size
    by_cases hlt : j < 4
    · have hq32 := quotN_lt hy32 j
      have HST := hid (fun (w1 : World) (v' : Value) (o : Obj) (x z : Int) => tail_step (w1 := w1) (v' := v') (o := o) (x := x) (z := z) hlt rfl hsz hown hb)
      have HOW := hid hown
      obtain ⟨M, hM⟩ : ∃ M, P.length + j = M := ⟨_, rfl⟩
      have hMb : M ≤ 20000 := by rw [← hM, HPL.out]; omega
      obtain ⟨Y, hY⟩ : ∃ Y, (P ++ (le4 y).take j).map bv = Y := ⟨_, rfl⟩
      rw [hM, hY] at HST HOW
      clear hown hb hM hY
      generalize quotN y j = q at *
      go_wp2_with (at_builtin; refine wpList_append_own _ rfl (.tmp 20) (.tmp 24) 22 rfl w.heap.size 5 i0 (.int .u8 0) 1 1 Try.underlying22 hi hz0 hz1 hz2 rfl (by decide) _ _ _ rfl (HOW.out.alloc _) ⟨wr.heap.size, 0, none⟩ 1 1 [.int .u8 ((q : Int) % 256)] rfl rfl (one_at _) one_cell (by unfold maxLen; omega) (by omega) (by simp; omega) ?_; intro v' w1 hown' hg' _; have R := hid (HST.out w1 v' _ _ ((q / 256 : Nat) : Int) (by omega) rfl hown' hg'); clear hown' hg')
      go_roundw
      case rel => exact R.out
      case measure => simp only [intOf]; omega
    · obtain rfl : j = 4 := by omega
      go_wp2
      go_ret
      rw [HF.out] at hown
      have hl : (frameN r).length = P.length + 4 := by rw [← HF.out, List.length_append]; rfl
      exact ⟨_, rfl, by rw [hl]; exact hown, hb⟩

end Go.Proofs.Ytilocedppkmikaa
