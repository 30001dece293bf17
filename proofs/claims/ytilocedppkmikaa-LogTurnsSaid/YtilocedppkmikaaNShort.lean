/-
  The contract of num.Short.
-/
import Derived.Test.YtilocedppkmikaaMath
import Derived.Test.YtilocedppkmikaaBase
import Derived.WalkKit
import Derived.WalkSpells
import Derived.WalkLawsBesides
namespace Go.Proofs.Ytilocedppkmikaa
open Go.RowKit

/-- What a loop that writes a short number holds: `a` is written, `n` is left. -/
def ShortRel (V : Nat) (base : Nat) (w : World) (n : Value) (s : Value) (wr : World) : Prop :=
  ∃ (m : Nat) (a : List Nat), n = .int .u64 m ∧ m < 18446744073709551616 ∧ a.length + (shortN m).length = (shortN V).length ∧ a ++ shortN m = shortN V ∧
    wr.ownsRow base 5 1 s a.length (a.map bv) ∧ Below base w wr

theorem short_step {V base m : Nat} {a : List Nat} {w wr w1 : World} {s v' : Value} {o : Obj} {x : Int} (hsz : base ≤ wr.heap.size) (hx : x = ((m % 128 + 128 : Nat) : Int))
    (hm : m < 18446744073709551616) (h128 : 128 ≤ m)
    (hlen : a.length + (shortN m).length = (shortN V).length) (happ : a ++ shortN m = shortN V) (hown : wr.ownsRow base 5 1 s a.length (a.map bv)) (hb : Below base w wr)
    (hown' : w1.ownsRow base 5 1 v' (a.length + 1) (a.map bv ++ [.int .u8 x])) (hg : (wr.alloc o).grownBy w1 s.ownBlock) :
    ShortRel V base w (.int .u64 ((m / 128 : Nat) : Int)) v' w1 := by
  subst hx
  rw [shortN_hi h128] at hlen happ
  refine ⟨m / 128, a ++ [m % 128 + 128], rfl, by omega, ?_, ?_, ?_, below_append hb hsz hown hg⟩
  · rw [← hlen]; simp; omega
  · rw [← happ]; simp
  · simpa [bv] using hown'

theorem short_end {V m : Nat} {a : List Nat} {w wr w1 : World} {s v' : Value} {o : Obj} {x : Int} (hsz : w.heap.size ≤ wr.heap.size) (hx : x = (m : Int)) (h128 : m < 128)
    (happ : a ++ shortN m = shortN V) (hown : wr.ownsRow w.heap.size 5 1 s a.length (a.map bv)) (hb : Below w.heap.size w wr)
    (hown' : w1.ownsRow w.heap.size 5 1 v' (a.length + 1) (a.map bv ++ [.int .u8 x])) (hg : (wr.alloc o).grownBy w1 s.ownBlock) :
    Makes (shortN V) w (.returned v') w1 := by
  subst hx
  rw [shortN_lo h128] at happ
  refine ⟨v', rfl, ?_, below_append hb hsz hown hg⟩
  rw [← happ]
  simpa [bv] using hown'

set_option maxRecDepth 100000 in
set_option maxHeartbeats 400000 in
theorem short_any (v : Nat) (w : World) (hv : v < 18446744073709551616) :
    Calls Try.prog 24 #[.int .u64 v] w (Makes (shortN v) w) := by
  obtain ⟨i0, hi, hz0, hz1, hz2⟩ := info_parts info_u8
  have HL := hid (shortN_len10 hv)
  go_enter Try.func24, Try.ntmps24
  go_wp2
  go_loopw [0, 3] (fun n s wr => ShortRel v w.heap.size w n s wr) (fun n _ _ => (intOf n).toNat)
  case atStart => exact ⟨v, [], rfl, hv, by simp, by simp, World.ownsRow_nil _ _ _ _, Below.refl _ _⟩
  case round =>
    obtain ⟨m, a, rfl, hm, hlen, happ, hown, hbel⟩ := hrel
    have hsz := hbel.size
    have hal : a.length ≤ 10 := by have h1 := HL.out; have h2 := shortN_pos m; omega
    have HA := hid happ
    have HN := hid hlen
    clear happ hlen
    by_cases h128 : 128 ≤ m
    · go_wp2_with (at_builtin; refine wpList_append_own _ rfl (.tmp 6) (.tmp 10) 22 rfl w.heap.size 5 i0 (.int .u8 0) 1 1 Try.underlying22 hi hz0 hz1 hz2 rfl (by decide) _ _ _ rfl (hown.alloc _) ⟨wr.heap.size, 0, none⟩ 1 1 [.int .u8 (bits BinOp.or IntKind.u8 ((m : Int) % 256) 128)] rfl rfl (one_at _) one_cell (by unfold maxLen; omega) (by omega) (by simp; omega) ?_)
      intro v' w1 hown' hgrow _
      have R := hid (short_step hsz (or128_walk m) hm h128 HN.out HA.out hown hbel hown' hgrow)
      clear hown' hgrow hown
      go_wp2
      go_roundw
      case rel => exact R.out
      case measure => simp [intOf]; omega
    · go_wp2_with (at_builtin; refine wpList_append_own _ rfl (.tmp 14) (.tmp 17) 22 rfl w.heap.size 5 i0 (.int .u8 0) 1 1 Try.underlying22 hi hz0 hz1 hz2 rfl (by decide) _ _ _ rfl (hown.alloc _) ⟨wr.heap.size, 0, none⟩ 1 1 [.int .u8 (m : Int)] rfl rfl (one_at _) one_cell (by unfold maxLen; omega) (by omega) (by simp; omega) ?_)
      intro v' w1 hown' hgrow _
      have R := hid (short_end hsz rfl (by omega) HA.out hown hbel hown' hgrow)
      clear hown' hgrow hown
      go_wp2
      go_ret
      exact R.out

theorem short_hands (v : Nat) (w : World) (hv : v < 18446744073709551616) : Calls Try.prog 24 #[.int .u64 v] w (Hands (shortN v) w) :=
  (short_any v w hv).mono fun _ _ h => h.hands

end Go.Proofs.Ytilocedppkmikaa
