/-
  The contracts of package num and of the document's own answers for it: what each call answers, and what becomes of the world.
-/
import Derived.Test.YtklehahedjbkjaaRows
import Derived.Test.YtklehahedjbkjaaMath
import Derived.Test.YtklehahedjbkjaaFrame
import Derived.WalkKit
import Derived.WalkSpells
import Derived.WalkLawsBesides
namespace Go.Proofs.Ytklehahedjbkjaa
open Go.RowKit

set_option maxHeartbeats 400000 in
theorem zig_any (i : Int) (w : World) (h0 : -9223372036854775808 ≤ i) (h1 : i ≤ 9223372036854775807) :
    Calls Try.prog 20 #[.int .i64 i] w fun e w' => e = .returned (.int .u64 (zigOf i)) ∧ w = w' := by
  have HZ := hid (zig_walk i h0 h1)
  go_enter Try.func20, Try.ntmps20
  go_wp2
  go_ret
  exact ⟨ret_num HZ.out, rfl⟩

set_option maxHeartbeats 400000 in
theorem zag_any (v : Int) (w : World) (h0 : 0 ≤ v) (h1 : v ≤ 18446744073709551615) :
    Calls Try.prog 21 #[.int .u64 v] w fun e w' => e = .returned (.int .i64 (zagOf v)) ∧ w = w' := by
  have HZ := hid (zag_walk v h0 h1)
  go_enter Try.func21, Try.ntmps21
  go_wp2
  go_ret
  exact ⟨ret_num HZ.out, rfl⟩

set_option maxHeartbeats 400000 in
theorem low_any (v b : Int) (w : World) (h0 : 0 ≤ v) (h1 : v ≤ 18446744073709551615) :
    Calls Try.prog 15 #[.int .u64 v, .int .i64 b] w fun e w' => e = .returned (.int .u64 (lowOf v b)) ∧ w = w' := by
  have HD : Hid (lowOf v b = if b ≤ 0 then 0 else if b < 64 then v % 2 ^ b.toNat else v) := hid rfl
  by_cases hb : 64 ≤ b
  · go_enter Try.func15, Try.ntmps15
    go_wp2
    go_ret
    exact ⟨ret_num (by rw [HD.out, if_neg (by omega), if_neg (by omega)]), rfl⟩
  · have HM := hid (mask_walk v 0 (by omega) h0 h1)
    have HM2 : Hid (b < 64 → bits BinOp.and IntKind.u64 v (IntKind.u64.wrap (IntKind.u64.wrap (2 ^ b.toNat) - 1)) = v % 2 ^ b.toNat) := hid (fun h => mask_walk v b.toNat (by omega) h0 h1)
    go_enter Try.func15, Try.ntmps15
    go_wp2
    · go_ret
      refine ⟨ret_num ?_, rfl⟩
      rw [HD.out, if_pos (by omega)]
      exact HM.out.trans (by rw [Int.pow_zero, Int.emod_one])
    · go_ret
      refine ⟨ret_num ?_, rfl⟩
      rw [HD.out, HM2.out (by omega)]
      by_cases hz : b = 0
      · rw [hz]; simp
      · rw [if_neg (by omega), if_pos (by omega)]

theorem low_as (v b q : Int) (w : World) (h0 : 0 ≤ v) (h1 : v ≤ 18446744073709551615) (hq : lowOf v b = q) :
    Calls Try.prog 15 #[.int .u64 v, .int .i64 b] w fun e w' => e = .returned (.int .u64 q) ∧ w = w' := by
  subst hq; exact low_any v b w h0 h1

/-- The row of the byte's type. -/
theorem info_u8 : (Try.prog.info? 5).map (fun i => (i.zero, i.size, i.bytes)) = some (some (.int .u8 0), 1, 1) := by kernel_rfl

theorem one_at {w : World} {x : Value} (E : TypeId) : ∀ j u, [x][j]? = some u → (w.alloc (.cells #[x] E)).cell? ((⟨w.heap.size, 0, none⟩ : Addr).add j) = some u := by
  intro j u hj
  match j, hj with
  | 0, hj => simp at hj; subst hj; simp [Addr.add]
theorem one_cell {k : IntKind} {x : Int} : ∀ u ∈ [Value.int k x], u.oneCell' = true := by
  intro u hu; simp at hu; subst hu; rfl

/-- What a call that makes bytes hands back: a slice of its own over them. -/
def Makes (l : List Nat) (w : World) (e : Ending) (w' : World) : Prop :=
  ∃ s, e = .returned s ∧ w'.ownsRow w.heap.size 5 1 s l.length (l.map bv) ∧ Below w.heap.size w w'

/-- What a loop that writes a short number holds: `a` is written, `n` is left. -/
def ShortRel (V : Nat) (base : Nat) (w : World) (n : Value) (s : Value) (wr : World) : Prop :=
  ∃ (m : Nat) (a : List Nat), n = .int .u64 m ∧ m < 18446744073709551616 ∧ a.length + (shortN m).length = (shortN V).length ∧ a ++ shortN m = shortN V ∧
    wr.ownsRow base 5 1 s a.length (a.map bv) ∧ Below base w wr

theorem below_append {base : Nat} {w wr w1 : World} {s : Value} {n : Nat} {xs : List Value} {E : TypeId} {o : Obj} (hb : Below base w wr) (hsz : base ≤ wr.heap.size)
    (hown : wr.ownsRow base E 1 s n xs) (hg : (wr.alloc o).grownBy w1 s.ownBlock) : Below base w w1 :=
  (hb.alloc hsz o).grown hg (by simp; omega) (fun k hk => (hown.lt k hk).1)

theorem short_step {V base m : Nat} {a : List Nat} {w wr w1 : World} {s v' : Value} {o : Obj} {x : Int} (hsz : base ≤ wr.heap.size) (hx : x = ((m % 128 + 128 : Nat) : Int))
    (hm : m < 18446744073709551616) (h128 : 128 ≤ m)
    (hlen : a.length + (shortN m).length = (shortN V).length) (happ : a ++ shortN m = shortN V) (hown : wr.ownsRow base 5 1 s a.length (a.map bv)) (hb : Below base w wr)
    (hown' : w1.ownsRow base 5 1 v' (a.length + 1) (a.map bv ++ [.int .u8 x])) (hg : (wr.alloc o).grownBy w1 s.ownBlock) :
    ShortRel V base w (.int .u64 ((m / 128 : Nat) : Int)) v' w1 := by
  subst hx
  rw [shortN_hi h128] at hlen happ
  refine ⟨m / 128, a ++ [m % 128 + 128], rfl, by omega, ?_, ?_, ?_, below_append hb hsz hown hg⟩
  · rw [← hlen]; simp; omega
  · rw [← happ]; simp
  · simpa [bv] using hown'

theorem short_end {V m : Nat} {a : List Nat} {w wr w1 : World} {s v' : Value} {o : Obj} {x : Int} (hsz : w.heap.size ≤ wr.heap.size) (hx : x = (m : Int)) (h128 : m < 128)
    (happ : a ++ shortN m = shortN V) (hown : wr.ownsRow w.heap.size 5 1 s a.length (a.map bv)) (hb : Below w.heap.size w wr)
    (hown' : w1.ownsRow w.heap.size 5 1 v' (a.length + 1) (a.map bv ++ [.int .u8 x])) (hg : (wr.alloc o).grownBy w1 s.ownBlock) :
    Makes (shortN V) w (.returned v') w1 := by
  subst hx
  rw [shortN_lo h128] at happ
  refine ⟨v', rfl, ?_, below_append hb hsz hown hg⟩
  rw [← happ]
  simpa [bv] using hown'

set_option maxRecDepth 100000 in
set_option maxHeartbeats 400000 in
theorem short_any (v : Nat) (w : World) (hv : v < 18446744073709551616) :
    Calls Try.prog 16 #[.int .u64 v] w (Makes (shortN v) w) := by
  obtain ⟨i0, hi, hz0, hz1, hz2⟩ := info_parts info_u8
  have HL := hid (shortN_len10 hv)
  go_enter Try.func16, Try.ntmps16
  go_wp2
  go_loopw [0, 3] (fun n s wr => ShortRel v w.heap.size w n s wr) (fun n _ _ => (intOf n).toNat)
  case atStart => exact ⟨v, [], rfl, hv, by simp, by simp, World.ownsRow_nil _ _ _ _, Below.refl _ _⟩
  case round =>
    obtain ⟨m, a, rfl, hm, hlen, happ, hown, hbel⟩ := hrel
    have hsz := hbel.size
    have hal : a.length ≤ 10 := by have h1 := HL.out; have h2 := shortN_pos m; omega
    have HA := hid happ
    have HN := hid hlen
    clear happ hlen
    by_cases h128 : 128 ≤ m
    · go_wp2_with (at_builtin; refine wpList_append_own _ rfl (.tmp 6) (.tmp 10) 23 rfl w.heap.size 5 i0 (.int .u8 0) 1 1 Try.underlying23 hi hz0 hz1 hz2 rfl (by decide) _ _ _ rfl (hown.alloc _) ⟨wr.heap.size, 0, none⟩ 1 1 [.int .u8 (bits BinOp.or IntKind.u8 ((m : Int) % 256) 128)] rfl rfl (one_at _) one_cell (by unfold maxLen; omega) (by omega) (by simp; omega) ?_)
      intro v' w1 hown' hgrow _
      have R := hid (short_step hsz (or128_walk m) hm h128 HN.out HA.out hown hbel hown' hgrow)
      clear hown' hgrow hown
      go_wp2
      go_roundw
      case rel => exact R.out
      case measure => simp [intOf]; omega
    · go_wp2_with (at_builtin; refine wpList_append_own _ rfl (.tmp 14) (.tmp 17) 23 rfl w.heap.size 5 i0 (.int .u8 0) 1 1 Try.underlying23 hi hz0 hz1 hz2 rfl (by decide) _ _ _ rfl (hown.alloc _) ⟨wr.heap.size, 0, none⟩ 1 1 [.int .u8 (m : Int)] rfl rfl (one_at _) one_cell (by unfold maxLen; omega) (by omega) (by simp; omega) ?_)
      intro v' w1 hown' hgrow _
      have R := hid (short_end hsz rfl (by omega) HA.out hown hbel hown' hgrow)
      clear hown' hgrow hown
      go_wp2
      go_ret
      exact R.out

/-- The document's own answer: by dividing. -/
theorem div128_walk (m : Nat) : (128 + (m : Int) % 128) = ((m % 128 + 128 : Nat) : Int) := by omega

set_option maxRecDepth 100000 in
set_option maxHeartbeats 400000 in
theorem refshort_any (v : Nat) (w : World) (hv : v < 18446744073709551616) :
    Calls Try.prog 17 #[.int .u64 v] w (Makes (shortN v) w) := by
  obtain ⟨i0, hi, hz0, hz1, hz2⟩ := info_parts info_u8
  have HL := hid (shortN_len10 hv)
  go_enter Try.func17, Try.ntmps17
  go_wp2
  go_loopw [0, 3] (fun n s wr => ShortRel v w.heap.size w n s wr) (fun n _ _ => (intOf n).toNat)
  case atStart => exact ⟨v, [], rfl, hv, by simp, by simp, World.ownsRow_nil _ _ _ _, Below.refl _ _⟩
  case round =>
    obtain ⟨m, a, rfl, hm, hlen, happ, hown, hbel⟩ := hrel
    have hsz := hbel.size
    have hal : a.length ≤ 10 := by have h1 := HL.out; have h2 := shortN_pos m; omega
    have HA := hid happ
    have HN := hid hlen
    clear happ hlen
    by_cases h128 : 128 ≤ m
    · go_wp2_with (at_builtin; refine wpList_append_own _ rfl (.tmp 6) (.tmp 11) 23 rfl w.heap.size 5 i0 (.int .u8 0) 1 1 Try.underlying23 hi hz0 hz1 hz2 rfl (by decide) _ _ _ rfl (hown.alloc _) ⟨wr.heap.size, 0, none⟩ 1 1 [.int .u8 (128 + (m : Int) % 128)] rfl rfl (one_at _) one_cell (by unfold maxLen; omega) (by omega) (by simp; omega) ?_)
      intro v' w1 hown' hgrow _
      have R := hid (short_step hsz (div128_walk m) hm h128 HN.out HA.out hown hbel hown' hgrow)
      clear hown' hgrow hown
      go_wp2
      go_roundw
      case rel => exact R.out
      case measure => simp [intOf]; omega
    · go_wp2_with (at_builtin; refine wpList_append_own _ rfl (.tmp 15) (.tmp 18) 23 rfl w.heap.size 5 i0 (.int .u8 0) 1 1 Try.underlying23 hi hz0 hz1 hz2 rfl (by decide) _ _ _ rfl (hown.alloc _) ⟨wr.heap.size, 0, none⟩ 1 1 [.int .u8 (m : Int)] rfl rfl (one_at _) one_cell (by unfold maxLen; omega) (by omega) (by simp; omega) ?_)
      intro v' w1 hown' hgrow _
      have R := hid (short_end hsz rfl (by omega) HA.out hown hbel hown' hgrow)
      clear hown' hgrow hown
      go_wp2
      go_ret
      exact R.out

/-- What a call that makes bytes hands back, as a caller reads it. -/
def Hands (l : List Nat) (w : World) (e : Ending) (w' : World) : Prop :=
  ∃ A cap, e = .returned (.slice A l.length cap) ∧ (A = none → cap = 0) ∧ l.length ≤ cap ∧ Sees .u8 w' A l ∧ Below w.heap.size w w'

theorem Makes.hands {l : List Nat} {w : World} {e : Ending} {w' : World} (h : Makes l w e w') : Hands l w e w' := by
  obtain ⟨s, rfl, hown, hb⟩ := h
  rcases hown.2 with ⟨rfl, h0⟩ | ⟨g, cap, cur, rfl, _, _, hc, _⟩
  · have : l = [] := List.eq_nil_of_length_eq_zero h0
    subst this
    exact ⟨none, 0, rfl, fun _ => rfl, Nat.le_refl _, Sees.nil _ _ _, hb⟩
  · exact ⟨_, cap, rfl, fun h => (by cases h), hc, Sees.of_own hown, hb⟩

theorem short_hands (v : Nat) (w : World) (hv : v < 18446744073709551616) : Calls Try.prog 16 #[.int .u64 v] w (Hands (shortN v) w) :=
  (short_any v w hv).mono fun _ _ h => h.hands

theorem refshort_hands (v : Nat) (w : World) (hv : v < 18446744073709551616) : Calls Try.prog 17 #[.int .u64 v] w (Hands (shortN v) w) :=
  (refshort_any v w hv).mono fun _ _ h => h.hands

theorem short_300 (w : World) : Calls Try.prog 16 #[.int .u64 300] w fun e w' =>
    ∃ b o cap, e = .returned (.slice (some ⟨b, o, none⟩) 2 cap) ∧ b < w'.heap.size ∧ w'.cell? ⟨b, o, none⟩ = some (.int .u8 172) ∧ w'.cell? ⟨b, o + 1, none⟩ = some (.int .u8 2) ∧ Below w.heap.size w w' := by
  refine (short_hands 300 w (by omega)).mono ?_
  rintro e w' ⟨A, cap, rfl, _, _, hs, hb⟩
  rw [shortN_300] at hs
  obtain ⟨b, o, rfl, hlt, h0⟩ := hs 0 172 rfl
  obtain ⟨b', o', hA, _, h1⟩ := hs 1 2 rfl
  injection hA with hA
  injection hA with hA1 hA2
  subst hA1; subst hA2
  exact ⟨b, o, cap, by rw [shortN_300]; rfl, hlt, h0, h1, hb⟩

set_option maxRecDepth 100000 in
set_option maxHeartbeats 400000 in
theorem anchor_any (w : World) :
    Calls Try.prog 10 #[] w fun e w' => e = .returned (.bool true) ∧ Below w.heap.size w w' := by
  have hz : zigOf (-1) = 1 := by decide
  go_enter Try.func10, Try.ntmps10
  go_wp2_with (first
    | (go_at_call 16; refine (short_300 _).mono ?_; rintro e w' ⟨b, o, cap, rfl, hlt, h0, h1, hb⟩)
    | (go_at_call 20; refine (zig_any (-1) _ (by omega) (by omega)).mono ?_; rintro e w' ⟨rfl, rfl⟩))
  go_ret
  exact ⟨rfl, hb⟩

end Go.Proofs.Ytklehahedjbkjaa
