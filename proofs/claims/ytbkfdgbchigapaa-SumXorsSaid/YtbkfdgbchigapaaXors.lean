/-
  SumXors: of any three messages, cut to the shortest's length and 300, the sums' xor is the sum of the messages' xor. No condition.
-/
import Derived.Test.YtbkfdgbchigapaaSum
import Derived.Test.YtbkfdgbchigapaaFlow
import Derived.RegionTactic
import Derived.Deep.RegionHeld3
import Derived.StillTailTactics
namespace Go.Proofs.Ytbkfdgbchigapaa.sumXors
open Go.ChangeShapes Go.WideShapes Go.ChangeAt Go.RowKit
set_option linter.unusedVariables false

theorem own : ownKnob Try.prog.godebug = none := by kernel_rfl
theorem laidOut : laidOutB Try.prog = true := by kernel_rfl
theorem bytes_u8 : Try.prog.bytesOf 5 = 1 := by kernel_rfl
theorem cells_u8 : Try.prog.cellsOf 5 = 1 := by kernel_rfl

theorem run_min4 {P : Program} {w : World} (ts : Array TypeId) (t : TypeId) (a b c n : Nat) (hna : n ≤ a) (hnb : n ≤ b) (hnc : n ≤ c) (hn : n ≤ 300) (hmin : n = 300 ∨ n = a ∨ n = b ∨ n = c) :
    (Builtin.min_ ts t #[.int .i64 (a : Int), .int .i64 (b : Int), .int .i64 (c : Int), .int .i64 300]).run P w = .ok (.int .i64 (n : Int)) w := by
  simp [Builtin.min_, Builtin.min2]
  repeat' split
  all_goals omega

theorem xor3_append : ∀ (n : Nat) (a b c a' b' c' : List Nat), a.length = n → b.length = n → c.length = n → xor3 (a ++ a') (b ++ b') (c ++ c') = xor3 a b c ++ xor3 a' b' c' := by
  intro n
  induction n with
  | zero => intro a b c a' b' c' ha hb hc; rw [List.eq_nil_of_length_eq_zero ha, List.eq_nil_of_length_eq_zero hb, List.eq_nil_of_length_eq_zero hc]; rfl
  | succ n ih =>
    intro a b c a' b' c' ha hb hc
    cases a <;> cases b <;> cases c <;> simp at ha hb hc
    simp only [List.cons_append, xor3]
    rw [ih _ _ _ _ _ _ ha hb hc]
theorem xor3_take {a b c : List Nat} {k : Nat} (ha : k < a.length) (hb : k < b.length) (hc : k < c.length) :
    xor3 (a.take (k + 1)) (b.take (k + 1)) (c.take (k + 1)) = xor3 (a.take k) (b.take k) (c.take k) ++ [a[k] ^^^ b[k] ^^^ c[k]] := by
  rw [List.take_succ_eq_append_getElem ha, List.take_succ_eq_append_getElem hb, List.take_succ_eq_append_getElem hc, xor3_append k _ _ _ _ _ _ (by rw [List.length_take]; omega) (by rw [List.length_take]; omega) (by rw [List.length_take]; omega)]
  rfl

/-- What the loop holds: the first bytes are written, the others are zero. -/
def XorRel (a b c : List Nat) (n base : Nat) (w : World) (i : Value) (wr : World) : Prop :=
  ∃ k : Nat, k ≤ n ∧ i = .int .i64 (k : Int) ∧ wr.ownsRow base 5 1 (.slice (some ⟨base, 0, none⟩) n n) n ((xor3 (a.take k) (b.take k) (c.take k) ++ List.replicate (n - k) 0).map bv) ∧ Below base w wr

theorem xor_start {a b c : List Nat} {n : Nat} {w w1 : World} (h : w1.ownsRow w.heap.size 5 1 (.slice (some ⟨w.heap.size, 0, none⟩) n n) n (madeCells (Value.int .u8 0).cells (n * 1)).toList) (hg : w.grownBy w1 none) : XorRel a b c n w.heap.size w (.int .i64 0) w1 := by
  refine ⟨0, Nat.zero_le _, rfl, ?_, (Below.refl _ _).grown hg (Nat.le_refl _) (by intro k hk; cases hk)⟩
  have e : (madeCells (Value.int .u8 0).cells (n * 1)).toList = (List.replicate n 0).map bv := by
    rw [Nat.mul_one, show (Value.int IntKind.u8 0).cells = #[.int .u8 0] from rfl, toList_madeCells_one, List.map_replicate]
    rfl
  rw [e] at h
  simpa [xor3] using h

theorem xor_step {a b c : List Nat} {n base k : Nat} {w wr : World} {x : Int} (hk : k < n) (hna : n ≤ a.length) (hnb : n ≤ b.length) (hnc : n ≤ c.length)
    (hown : wr.ownsRow base 5 1 (.slice (some ⟨base, 0, none⟩) n n) n ((xor3 (a.take k) (b.take k) (c.take k) ++ List.replicate (n - k) 0).map bv)) (hb : Below base w wr)
    (hx : x = ((a[k]'(by omega) ^^^ b[k]'(by omega) ^^^ c[k]'(by omega) : Nat) : Int)) : XorRel a b c n base w (.int .i64 ((k : Int) + 1)) (wr.setCell ⟨base, k, none⟩ (.int .u8 x)) := by
  subst hx
  have hs := (hown.stored k (bv (a[k]'(by omega) ^^^ b[k]'(by omega) ^^^ c[k]'(by omega)))).1
  have hl : (xor3 (a.take k) (b.take k) (c.take k)).length = k := xor3_len k _ _ _ (by rw [List.length_take]; omega) (by rw [List.length_take]; omega) (by rw [List.length_take]; omega)
  refine ⟨k + 1, hk, by go_num, ?_, hb.setCell (Nat.le_refl _) _⟩
  rw [← List.map_set, List.set_append_right _ _ (by omega), hl, Nat.sub_self, show n - k = (n - (k + 1)) + 1 by omega, List.replicate_succ, List.set_cons_zero] at hs
  rw [xor3_take (by omega) (by omega) (by omega), List.append_assoc, List.singleton_append]
  exact hs

theorem xor8_walk (a b c : Nat) (ha : a < 256) (hb : b < 256) (hc : c < 256) : bits BinOp.xor IntKind.u8 (bits BinOp.xor IntKind.u8 (a : Int) (b : Int)) (c : Int) = ((a ^^^ b ^^^ c : Nat) : Int) := by
  rw [u8_xor_nat a b ha hb, u8_xor_nat _ c (xor_lt8 ha hb) hc]

/-- A slice of one slice, in a block of its own. -/
def Boxed (B : Option Addr) (n c : Nat) (v : Value) (w : World) : Prop := ∃ g, v = .slice (some ⟨g, 0, none⟩) 1 1 ∧ g < w.heap.size ∧ w.cell? ⟨g, 0, none⟩ = some (.slice B n c)
theorem Boxed.below {B : Option Addr} {n c : Nat} {v : Value} {w w' : World} (h : Boxed B n c v w) (hb : Below w.heap.size w w') : Boxed B n c v w' := by
  obtain ⟨g, hv, hg, hc⟩ := h
  exact ⟨g, hv, Nat.lt_of_lt_of_le hg hb.size, (hb.cell (by exact hg)).trans hc⟩

/-- What each operation of the last region tells. -/
def Tell (A B C X : Option Addr) (la lb lc ca cb cc k : Nat) (p q r s : Nat) (i : Nat) (v : Value) (w : World) : Prop :=
  match i with
  | 0 => v = .slice A la ca
  | 1 => v = .int .i64 (k : Int)
  | 2 => v = .slice A k ca
  | 3 => Boxed A k ca v w
  | 4 => v = .int .u32 (p : Int)
  | 5 => v = .slice B lb cb
  | 6 => v = .int .i64 (k : Int)
  | 7 => v = .slice B k cb
  | 8 => Boxed B k cb v w
  | 9 => v = .int .u32 (q : Int)
  | 10 => v = .int .u32 ((p ^^^ q : Nat) : Int)
  | 11 => v = .slice C lc cc
  | 12 => v = .int .i64 (k : Int)
  | 13 => v = .slice C k cc
  | 14 => Boxed C k cc v w
  | 15 => v = .int .u32 (r : Int)
  | 16 => v = .int .u32 ((p ^^^ q ^^^ r : Nat) : Int)
  | 17 => v = .slice X k k
  | 18 => Boxed X k k v w
  | 19 => v = .int .u32 (s : Int)
  | 20 => v = .bool true
  | 21 => v = .bool true
  | _ => True

theorem Tell.stays {A B C X : Option Addr} {la lb lc ca cb cc k p q r s : Nat} (i : Nat) (v : Value) (w w' : World) (h : Tell A B C X la lb lc ca cb cc k p q r s i v w) (hb : Below w.heap.size w w') : Tell A B C X la lb lc ca cb cc k p q r s i v w' := by
  unfold Tell at *
  split at h <;> first | exact h | exact h.below hb

set_option maxRecDepth 100000 in
set_option maxHeartbeats 1000000 in
theorem walk_all (A B C : Option Addr) (a b c : List Nat) (ca cb cc n : Nat) (w : World) (hna : n ≤ a.length) (hnb : n ≤ b.length) (hnc : n ≤ c.length) (hn : n ≤ 300)
    (hmin : n = 300 ∨ n = a.length ∨ n = b.length ∨ n = c.length)
    (ha : a.length ≤ 9223372036854775807) (hb : b.length ≤ 9223372036854775807) (hc : c.length ≤ 9223372036854775807) (hca : a.length ≤ ca) (hcb : b.length ≤ cb) (hcc : c.length ≤ cc)
    (xa : ∀ x ∈ a, x < 256) (xb : ∀ x ∈ b, x < 256) (xc : ∀ x ∈ c, x < 256) (hA : Sees .u8 w A a) (hB : Sees .u8 w B b) (hC : Sees .u8 w C c) :
    Calls Try.prog 6 #[.slice A a.length ca, .slice B b.length cb, .slice C c.length cc] w fun e w' => e = .returned (.bool true) ∧ Below w.heap.size w w' := by
  obtain ⟨i0, hi, hz0, hz1, hz2⟩ := info_parts info_u8
  have HA := hid hA
  have HB := hid hB
  have HC := hid hC
  have XA := hid xa
  have XB := hid xb
  have XC := hid xc
  have hmn := fun (w : World) => run_min4 (P := Try.prog) (w := w) #[3, 3, 3, 3] 3 _ _ _ _ hna hnb hnc hn hmin
  clear hA hB hC xa xb xc hmin
  go_enter Try.func6, Try.ntmps6
  go_wp2_with (first
    | (go_at_call 8; refine (anchor_any _).mono ?_; rintro e w1 ⟨rfl, hw1⟩)
    | (at_make; refine wpList_make_full _ rfl _ _ 22 rfl w1.heap.size 5 i0 (.int .u8 0) 1 Try.underlying22 hi hz0 hz1 .i64 .i64 _ _ n rfl rfl rfl rfl (by rw [hz2]; omega) (by unfold maxLen; omega) (Nat.le_refl _) ?_; intro w2 hown hg))
  have HR := hid (xor_start (a := a) (b := b) (c := c) hown hg)
  have HW := hid hw1
  clear hown hg hmn hw1
  go_loopw [23] (fun i wr => XorRel a b c n w1.heap.size w1 i wr) (fun i _ => n - (intOf i).toNat)
  case atStart => exact HR.out
  case round =>
    obtain ⟨k, hk, rfl, hown, hbel⟩ := hrel
    by_cases hlt : k < n
    · obtain ⟨ba, oa, rfl, _, hca'⟩ := ((HA.out.below HW.out).below (hbel.mono (Nat.le_refl _))) k (a[k]'(by omega)) (List.getElem?_eq_getElem (by omega))
      obtain ⟨bb, ob, rfl, _, hcb'⟩ := ((HB.out.below HW.out).below (hbel.mono (Nat.le_refl _))) k (b[k]'(by omega)) (List.getElem?_eq_getElem (by omega))
      obtain ⟨bc, oc, rfl, _, hcc'⟩ := ((HC.out.below HW.out).below (hbel.mono (Nat.le_refl _))) k (c[k]'(by omega)) (List.getElem?_eq_getElem (by omega))
      have HX := hid (xor8_walk (a[k]'(by omega)) (b[k]'(by omega)) (c[k]'(by omega)) (XA.out _ (take_one (by omega))) (XB.out _ (take_one (by omega))) (XC.out _ (take_one (by omega))))
      have HS := hid (xor_step (x := bits BinOp.xor IntKind.u8 (bits BinOp.xor IntKind.u8 ((a[k]'(by omega) : Nat) : Int) ((b[k]'(by omega) : Nat) : Int)) ((c[k]'(by omega) : Nat) : Int)) hlt hna hnb hnc hown.drew (below_drew hbel) HX.out)
      obtain ⟨u, hcu⟩ : ∃ u, wr.cell? ⟨w1.heap.size, k, none⟩ = some u := ⟨_, (hown.cellAt k (by omega)).trans (List.getElem?_eq_getElem (by simp [xor3_len k _ _ _ (show (a.take k).length = k by rw [List.length_take]; omega) (show (b.take k).length = k by rw [List.length_take]; omega) (show (c.take k).length = k by rw [List.length_take]; omega)]; omega))⟩
      have hf := hown.frozenAt k
      clear hown HX
      have l1 : (k : Int) < (a.length : Int) := by omega
      have l2 : (k : Int) < (b.length : Int) := by omega
      have l3 : (k : Int) < (c.length : Int) := by omega
      have l4 : (k : Int) < (n : Int) := by omega
      go_wp2
      go_still_tail 17, (by kernel_rfl)
      change wpList _ _ _ _ _ wr.drew
      have hcu2 : wr.drew.cell? ⟨w1.heap.size, k, none⟩ = some u := hcu
      have hf2 : wr.drew.frozen? ⟨w1.heap.size, k, none⟩ = false := hf
      generalize wr.drew = w3 at *
      go_wp2
      go_roundw
      case rel => exact HS.out
      case measure => simp only [intOf]; omega
    · have e : k = n := by omega
      subst e
      have SA := hid (((HA.out.below HW.out).below (hbel.mono (Nat.le_refl _))).take k)
      have SB := hid (((HB.out.below HW.out).below (hbel.mono (Nat.le_refl _))).take k)
      have SC := hid (((HC.out.below HW.out).below (hbel.mono (Nat.le_refl _))).take k)
      have l1 : (k : Int) ≤ (a.length : Int) := by omega
      have l2 : (k : Int) ≤ (b.length : Int) := by omega
      have l3 : (k : Int) ≤ (c.length : Int) := by omega
      have m1 : (k : Int) ≤ (ca : Int) := by omega
      have m2 : (k : Int) ≤ (cb : Int) := by omega
      have m3 : (k : Int) ≤ (cc : Int) := by omega
      have HO := hid hown
      clear hown
      go_wp2_with fail
      have TA := hid (show ∀ x ∈ a.take k, x < 256 from fun x hx => XA.out x (List.mem_of_mem_take hx))
      have TB := hid (show ∀ x ∈ b.take k, x < 256 from fun x hx => XB.out x (List.mem_of_mem_take hx))
      have TC := hid (show ∀ x ∈ c.take k, x < 256 from fun x hx => XC.out x (List.mem_of_mem_take hx))
      have LA := hid (show (a.take k).length = k by rw [List.length_take]; omega)
      have LB := hid (show (b.take k).length = k by rw [List.length_take]; omega)
      have LC := hid (show (c.take k).length = k by rw [List.length_take]; omega)
      have LX := hid (xor3_len k _ _ _ LA.out LB.out LC.out)
      have TX := hid (xor3_byte _ _ _ TA.out TB.out TC.out)
      have SX : Hid (Sees .u8 wr (some ⟨w1.heap.size, 0, none⟩) (xor3 (a.take k) (b.take k) (c.take k))) := hid (by
        have h := HO.out
        rw [Nat.sub_self, List.replicate_zero, List.append_nil] at h
        exact Sees.of_own h)
      have HF := hid (crcOf_xor3 LA.out LB.out LC.out TA.out TB.out TC.out)
      clear HO HR
      generalize xor3 (a.take k) (b.take k) (c.take k) = x at *
      generalize a.take k = a' at *
      generalize b.take k = b' at *
      generalize c.take k = c' at *
      have HC1 := crcOf_lt a'
      have HC2 := crcOf_lt b'
      have HC3 := crcOf_lt c'
      refine wp_region_flow (Tell A B C (some ⟨w1.heap.size, 0, none⟩) a.length b.length c.length ca cb cc k (crcOf a') (crcOf b') (crcOf c') (crcOf x)) (by kernel_rfl) (by kernel_rfl) Tell.stays ?_ ?_
      · intro i o ho f av w' hat hold hb' hd K hK
        have HB' := hid hb'
        have hsz := hb'.size
        clear hb'
        have HK := hid hK
        have HAT := hid hat
        have HOLD := hid hold
        have HD := hid hd
        clear hK hat hold hd
        match i, ho with
        | 0, ho =>
          obtain rfl := Option.some.inj ho
          have hK : ∀ v w2, Below w'.heap.size w' w2 → v = .slice A a.length ca → K (av.put (some 44) v) w2 := HK.out
          have HK2 := hid hK
          clear hK
          have e0 : av.tmps[0]?.getD undef = .slice A a.length ca := slot_of ((HOLD.out 0 (by kernel_rfl)).trans rfl)
          go_simp
          exact HK2.out _ _ (Below.refl _ _) rfl
        | 1, ho =>
          obtain rfl := Option.some.inj ho
          have hK : ∀ v w2, Below w'.heap.size w' w2 → v = .int .i64 (k : Int) → K (av.put (some 45) v) w2 := HK.out
          have HK2 := hid hK
          clear hK
          have e0 : av.tmps[7]?.getD undef = .int .i64 (k : Int) := slot_of ((HOLD.out 7 (by kernel_rfl)).trans rfl)
          go_simp
          exact HK2.out _ _ (Below.refl _ _) rfl
        | 2, ho =>
          obtain rfl := Option.some.inj ho
          have hK : ∀ v w2, Below w'.heap.size w' w2 → v = .slice A k ca → K (av.put (some 46) v) w2 := HK.out
          have HK2 := hid hK
          clear hK
          have e0 : av.tmps[44]?.getD undef = .slice A a.length ca := slot_of ((HAT.out 0 44 (by kernel_rfl) (by change _ < 65; decide)).trans (HD.out 0 (by kernel_rfl)))
          have e1 : av.tmps[45]?.getD undef = .int .i64 (k : Int) := slot_of ((HAT.out 1 45 (by kernel_rfl) (by change _ < 65; decide)).trans (HD.out 1 (by kernel_rfl)))
          go_simp
          exact HK2.out _ _ (Below.refl _ _) rfl
        | 3, ho =>
          obtain rfl := Option.some.inj ho
          have hK : ∀ v w2, Below w'.heap.size w' w2 → Boxed A k ca v w2 → K (av.put (some 47) v) w2 := HK.out
          have HK2 := hid hK
          clear hK
          have e0 : av.tmps[46]?.getD undef = .slice A k ca := slot_of ((HAT.out 2 46 (by kernel_rfl) (by change _ < 65; decide)).trans (HD.out 2 (by kernel_rfl)))
          go_simp
          exact HK2.out _ _ ((Below.refl _ _).alloc (Nat.le_refl _) _) ⟨w'.heap.size, rfl, by simp, by go_simp⟩
        | 4, ho =>
          obtain rfl := Option.some.inj ho
          have hK : ∀ v w2, Below w'.heap.size w' w2 → v = .int .u32 (crcOf a' : Int) → K (av.put (some 48) v) w2 := HK.out
          have HK2 := hid hK
          clear hK
          obtain ⟨g, hv, hg, hc⟩ : Boxed A k ca (f 3) w' := HD.out 3 (by kernel_rfl)
          have e0 : av.tmps[47]?.getD undef = .slice (some ⟨g, 0, none⟩) 1 1 := slot_of ((HAT.out 3 47 (by kernel_rfl) (by change _ < 65; decide)).trans hv)
          clear hv
          have h1 := of_one g A a' k ca 1 w' LA.out hg hc (by omega) TA.out (SA.out.below HB'.out)
          clear hc
          go_simp
          refine h1.mono ?_
          rintro e w'' ⟨rfl, rfl⟩
          exact HK2.out _ _ (Below.refl _ _) rfl
        | 5, ho =>
          obtain rfl := Option.some.inj ho
          have hK : ∀ v w2, Below w'.heap.size w' w2 → v = .slice B b.length cb → K (av.put (some 49) v) w2 := HK.out
          have HK2 := hid hK
          clear hK
          have e0 : av.tmps[1]?.getD undef = .slice B b.length cb := slot_of ((HOLD.out 1 (by kernel_rfl)).trans rfl)
          go_simp
          exact HK2.out _ _ (Below.refl _ _) rfl
        | 6, ho =>
          obtain rfl := Option.some.inj ho
          have hK : ∀ v w2, Below w'.heap.size w' w2 → v = .int .i64 (k : Int) → K (av.put (some 50) v) w2 := HK.out
          have HK2 := hid hK
          clear hK
          have e0 : av.tmps[7]?.getD undef = .int .i64 (k : Int) := slot_of ((HOLD.out 7 (by kernel_rfl)).trans rfl)
          go_simp
          exact HK2.out _ _ (Below.refl _ _) rfl
        | 7, ho =>
          obtain rfl := Option.some.inj ho
          have hK : ∀ v w2, Below w'.heap.size w' w2 → v = .slice B k cb → K (av.put (some 51) v) w2 := HK.out
          have HK2 := hid hK
          clear hK
          have e0 : av.tmps[49]?.getD undef = .slice B b.length cb := slot_of ((HAT.out 5 49 (by kernel_rfl) (by change _ < 65; decide)).trans (HD.out 5 (by kernel_rfl)))
          have e1 : av.tmps[50]?.getD undef = .int .i64 (k : Int) := slot_of ((HAT.out 6 50 (by kernel_rfl) (by change _ < 65; decide)).trans (HD.out 6 (by kernel_rfl)))
          go_simp
          exact HK2.out _ _ (Below.refl _ _) rfl
        | 8, ho =>
          obtain rfl := Option.some.inj ho
          have hK : ∀ v w2, Below w'.heap.size w' w2 → Boxed B k cb v w2 → K (av.put (some 52) v) w2 := HK.out
          have HK2 := hid hK
          clear hK
          have e0 : av.tmps[51]?.getD undef = .slice B k cb := slot_of ((HAT.out 7 51 (by kernel_rfl) (by change _ < 65; decide)).trans (HD.out 7 (by kernel_rfl)))
          go_simp
          exact HK2.out _ _ ((Below.refl _ _).alloc (Nat.le_refl _) _) ⟨w'.heap.size, rfl, by simp, by go_simp⟩
        | 9, ho =>
          obtain rfl := Option.some.inj ho
          have hK : ∀ v w2, Below w'.heap.size w' w2 → v = .int .u32 (crcOf b' : Int) → K (av.put (some 53) v) w2 := HK.out
          have HK2 := hid hK
          clear hK
          obtain ⟨g, hv, hg, hc⟩ : Boxed B k cb (f 8) w' := HD.out 8 (by kernel_rfl)
          have e0 : av.tmps[52]?.getD undef = .slice (some ⟨g, 0, none⟩) 1 1 := slot_of ((HAT.out 8 52 (by kernel_rfl) (by change _ < 65; decide)).trans hv)
          clear hv
          have h1 := of_one g B b' k cb 1 w' LB.out hg hc (by omega) TB.out (SB.out.below HB'.out)
          clear hc
          go_simp
          refine h1.mono ?_
          rintro e w'' ⟨rfl, rfl⟩
          exact HK2.out _ _ (Below.refl _ _) rfl
        | 10, ho =>
          obtain rfl := Option.some.inj ho
          have hK : ∀ v w2, Below w'.heap.size w' w2 → v = .int .u32 ((crcOf a' ^^^ crcOf b' : Nat) : Int) → K (av.put (some 54) v) w2 := HK.out
          have HK2 := hid hK
          clear hK
          have e0 : av.tmps[48]?.getD undef = .int .u32 (crcOf a' : Int) := slot_of ((HAT.out 4 48 (by kernel_rfl) (by change _ < 65; decide)).trans (HD.out 4 (by kernel_rfl)))
          have e1 : av.tmps[53]?.getD undef = .int .u32 (crcOf b' : Int) := slot_of ((HAT.out 9 53 (by kernel_rfl) (by change _ < 65; decide)).trans (HD.out 9 (by kernel_rfl)))
          have hx := u32_xor_nat (crcOf a') (crcOf b') HC1 HC2
          go_simp
          exact HK2.out _ _ (Below.refl _ _) (by rw [← hx])
        | 11, ho =>
          obtain rfl := Option.some.inj ho
          have hK : ∀ v w2, Below w'.heap.size w' w2 → v = .slice C c.length cc → K (av.put (some 55) v) w2 := HK.out
          have HK2 := hid hK
          clear hK
          have e0 : av.tmps[2]?.getD undef = .slice C c.length cc := slot_of ((HOLD.out 2 (by kernel_rfl)).trans rfl)
          go_simp
          exact HK2.out _ _ (Below.refl _ _) rfl
        | 12, ho =>
          obtain rfl := Option.some.inj ho
          have hK : ∀ v w2, Below w'.heap.size w' w2 → v = .int .i64 (k : Int) → K (av.put (some 56) v) w2 := HK.out
          have HK2 := hid hK
          clear hK
          have e0 : av.tmps[7]?.getD undef = .int .i64 (k : Int) := slot_of ((HOLD.out 7 (by kernel_rfl)).trans rfl)
          go_simp
          exact HK2.out _ _ (Below.refl _ _) rfl
        | 13, ho =>
          obtain rfl := Option.some.inj ho
          have hK : ∀ v w2, Below w'.heap.size w' w2 → v = .slice C k cc → K (av.put (some 57) v) w2 := HK.out
          have HK2 := hid hK
          clear hK
          have e0 : av.tmps[55]?.getD undef = .slice C c.length cc := slot_of ((HAT.out 11 55 (by kernel_rfl) (by change _ < 65; decide)).trans (HD.out 11 (by kernel_rfl)))
          have e1 : av.tmps[56]?.getD undef = .int .i64 (k : Int) := slot_of ((HAT.out 12 56 (by kernel_rfl) (by change _ < 65; decide)).trans (HD.out 12 (by kernel_rfl)))
          go_simp
          exact HK2.out _ _ (Below.refl _ _) rfl
        | 14, ho =>
          obtain rfl := Option.some.inj ho
          have hK : ∀ v w2, Below w'.heap.size w' w2 → Boxed C k cc v w2 → K (av.put (some 58) v) w2 := HK.out
          have HK2 := hid hK
          clear hK
          have e0 : av.tmps[57]?.getD undef = .slice C k cc := slot_of ((HAT.out 13 57 (by kernel_rfl) (by change _ < 65; decide)).trans (HD.out 13 (by kernel_rfl)))
          go_simp
          exact HK2.out _ _ ((Below.refl _ _).alloc (Nat.le_refl _) _) ⟨w'.heap.size, rfl, by simp, by go_simp⟩
        | 15, ho =>
          obtain rfl := Option.some.inj ho
          have hK : ∀ v w2, Below w'.heap.size w' w2 → v = .int .u32 (crcOf c' : Int) → K (av.put (some 59) v) w2 := HK.out
          have HK2 := hid hK
          clear hK
          obtain ⟨g, hv, hg, hc⟩ : Boxed C k cc (f 14) w' := HD.out 14 (by kernel_rfl)
          have e0 : av.tmps[58]?.getD undef = .slice (some ⟨g, 0, none⟩) 1 1 := slot_of ((HAT.out 14 58 (by kernel_rfl) (by change _ < 65; decide)).trans hv)
          clear hv
          have h1 := of_one g C c' k cc 1 w' LC.out hg hc (by omega) TC.out (SC.out.below HB'.out)
          clear hc
          go_simp
          refine h1.mono ?_
          rintro e w'' ⟨rfl, rfl⟩
          exact HK2.out _ _ (Below.refl _ _) rfl
        | 16, ho =>
          obtain rfl := Option.some.inj ho
          have hK : ∀ v w2, Below w'.heap.size w' w2 → v = .int .u32 ((crcOf a' ^^^ crcOf b' ^^^ crcOf c' : Nat) : Int) → K (av.put (some 60) v) w2 := HK.out
          have HK2 := hid hK
          clear hK
          have e0 : av.tmps[54]?.getD undef = .int .u32 ((crcOf a' ^^^ crcOf b' : Nat) : Int) := slot_of ((HAT.out 10 54 (by kernel_rfl) (by change _ < 65; decide)).trans (HD.out 10 (by kernel_rfl)))
          have e1 : av.tmps[59]?.getD undef = .int .u32 (crcOf c' : Int) := slot_of ((HAT.out 15 59 (by kernel_rfl) (by change _ < 65; decide)).trans (HD.out 15 (by kernel_rfl)))
          have hx := u32_xor_nat (crcOf a' ^^^ crcOf b') (crcOf c') (xor_lt32 HC1 HC2) HC3
          go_simp
          exact HK2.out _ _ (Below.refl _ _) (by rw [← hx])
        | 17, ho =>
          obtain rfl := Option.some.inj ho
          have hK : ∀ v w2, Below w'.heap.size w' w2 → v = .slice (some ⟨w1.heap.size, 0, none⟩) k k → K (av.put (some 61) v) w2 := HK.out
          have HK2 := hid hK
          clear hK
          have e0 : av.tmps[8]?.getD undef = .slice (some ⟨w1.heap.size, 0, none⟩) k k := slot_of ((HOLD.out 8 (by kernel_rfl)).trans rfl)
          go_simp
          exact HK2.out _ _ (Below.refl _ _) rfl
        | 18, ho =>
          obtain rfl := Option.some.inj ho
          have hK : ∀ v w2, Below w'.heap.size w' w2 → Boxed (some ⟨w1.heap.size, 0, none⟩) k k v w2 → K (av.put (some 62) v) w2 := HK.out
          have HK2 := hid hK
          clear hK
          have e0 : av.tmps[61]?.getD undef = .slice (some ⟨w1.heap.size, 0, none⟩) k k := slot_of ((HAT.out 17 61 (by kernel_rfl) (by change _ < 65; decide)).trans (HD.out 17 (by kernel_rfl)))
          go_simp
          exact HK2.out _ _ ((Below.refl _ _).alloc (Nat.le_refl _) _) ⟨w'.heap.size, rfl, by simp, by go_simp⟩
        | 19, ho =>
          obtain rfl := Option.some.inj ho
          have hK : ∀ v w2, Below w'.heap.size w' w2 → v = .int .u32 (crcOf x : Int) → K (av.put (some 63) v) w2 := HK.out
          have HK2 := hid hK
          clear hK
          obtain ⟨g, hv, hg, hc⟩ : Boxed (some ⟨w1.heap.size, 0, none⟩) k k (f 18) w' := HD.out 18 (by kernel_rfl)
          have e0 : av.tmps[62]?.getD undef = .slice (some ⟨g, 0, none⟩) 1 1 := slot_of ((HAT.out 18 62 (by kernel_rfl) (by change _ < 65; decide)).trans hv)
          clear hv
          have h1 := of_one g (some ⟨w1.heap.size, 0, none⟩) x k k 1 w' LX.out hg hc (by omega) TX.out (SX.out.below HB'.out)
          clear hc
          go_simp
          refine h1.mono ?_
          rintro e w'' ⟨rfl, rfl⟩
          exact HK2.out _ _ (Below.refl _ _) rfl
        | 20, ho =>
          obtain rfl := Option.some.inj ho
          have hK : ∀ v w2, Below w'.heap.size w' w2 → v = .bool true → K (av.put (some 64) v) w2 := HK.out
          have HK2 := hid hK
          clear hK
          have e0 : av.tmps[60]?.getD undef = .int .u32 ((crcOf a' ^^^ crcOf b' ^^^ crcOf c' : Nat) : Int) := slot_of ((HAT.out 16 60 (by kernel_rfl) (by change _ < 65; decide)).trans (HD.out 16 (by kernel_rfl)))
          have e1 : av.tmps[63]?.getD undef = .int .u32 (crcOf x : Int) := slot_of ((HAT.out 19 63 (by kernel_rfl) (by change _ < 65; decide)).trans (HD.out 19 (by kernel_rfl)))
          have hx := HF.out
          rw [hx] at e0
          go_simp
          exact HK2.out _ _ (Below.refl _ _) rfl
        | 21, ho =>
          obtain rfl := Option.some.inj ho
          have hK : ∀ v w2, Below w'.heap.size w' w2 → v = .bool true → K (av.put (some 6) v) w2 := HK.out
          have HK2 := hid hK
          clear hK
          have e0 : av.tmps[64]?.getD undef = .bool true := slot_of ((HAT.out 20 64 (by kernel_rfl) (by change _ < 65; decide)).trans (HD.out 20 (by kernel_rfl)))
          go_simp
          exact HK2.out _ _ (Below.refl _ _) rfl
        | n + 22, ho => cases ho
      · intro f av w' hat hold hdef hb' hall
        have h21 : f 21 = .bool true := hall 21 (by decide)
        have e6 : av.tmps[6]?.getD undef = .bool true := slot_of ((hat 21 6 (by kernel_rfl) (by change _ < 65; decide)).trans h21)
        have hdf : av.defers = [] := hdef
        have HD := hid hdf
        have HF6 := hid (below_on (HW.out.trans (hbel.mono HW.out.size)) hb')
        clear hat hold hdef hb' hall h21 hdf
        go_wp2
        exact bodyPost_ret (v := .bool true) (by simp [results, Try.results6, go_sem, e6]) HD.out ⟨rfl, HF6.out⟩

/-- The Go text returns true. -/
theorem walk (A : Option Addr) (a : List Nat) (ca : Nat) (B : Option Addr) (b : List Nat) (cb : Nat) (C : Option Addr) (c : List Nat) (cc : Nat)
    (_ : A = none → ca = 0) (la : a.length ≤ ca) (ma : ca ≤ maxLen) (_ : a.length * 1 ≤ 140737488351232) (xa : ∀ x ∈ a, (Lit.int .u8 (x : Int)).wf = true)
    (_ : B = none → cb = 0) (lb : b.length ≤ cb) (mb : cb ≤ maxLen) (_ : b.length * 1 ≤ 140737488351232) (xb : ∀ x ∈ b, (Lit.int .u8 (x : Int)).wf = true)
    (_ : C = none → cc = 0) (lc : c.length ≤ cc) (mc : cc ≤ maxLen) (_ : c.length * 1 ≤ 140737488351232) (xc : ∀ x ∈ c, (Lit.int .u8 (x : Int)).wf = true) (w : World) (hA : Sees .u8 w A a) (hB : Sees .u8 w B b) (hC : Sees .u8 w C c) :
    Calls Try.prog 6 #[.slice A a.length ca, .slice B b.length cb, .slice C c.length cc] w fun e w' => e = .returned (.bool true) ∧ Below w.heap.size w w' := by
  obtain ⟨n, h1, h2, h3, h4, h5⟩ : ∃ n, n ≤ a.length ∧ n ≤ b.length ∧ n ≤ c.length ∧ n ≤ 300 ∧ (n = 300 ∨ n = a.length ∨ n = b.length ∨ n = c.length) := ⟨min (min a.length b.length) (min c.length 300), by omega, by omega, by omega, by omega, by omega⟩
  exact walk_all A B C a b c ca cb cc n w h1 h2 h3 h4 h5 (by omega) (by omega) (by omega) la lb lc (fun x hx => by have := u8_lt _ (xa x hx); omega) (fun x hx => by have := u8_lt _ (xb x hx); omega) (fun x hx => by have := u8_lt _ (xc x hx); omega) hA hB hC

set_option maxRecDepth 100000 in
theorem lifted (os : Os) (started : os.Started) (H : Type) (enc : TypeId × Value → H) :
    ReturnsInHanded {} Try.checked os 6 .any (Rows.sumXorsSpec.pre6 enc Try.prog Try.f6 Rows.sumXorsRow.domain false) (Rows.sumXorsSpec.post enc Try.prog Try.f6 false true false false) := by
  refine returnsInHanded_of_change_sized (C := Try.checked) own started (by kernel_rfl) Try.func6
    (ChangeSpec.witness6 (enc := enc) (C := Try.checked) false ⟨#[], #[.slice none 0 0, .slice none 0 0, .slice none 0 0], []⟩ 8 (by kernel_rfl) (by kernel_rfl) (by kernel_rfl) (by kernel_rfl)) ?_
  intro W base args ds gs before hval0 hW _ hsz0 _
  have hsz : (DataW.weightsEach Try.prog (Try.f6.params.toList ++ Rows.sumXorsSpec.plain.varTypes Try.prog) (ds ++ gs)).all (· ≤ reachBytes) = true := hsz0
  have hval : ∀ (j : Nat) t v, Try.f6.params[j]? = some t → args[j]? = some v → Value.okWide Try.prog W .any base t v := hval0
  have hW' := hW
  obtain ⟨p, q, hA0, hV, rfl, _, _⟩ := hW
  have hA : DataW.TrodAll enc Try.prog W 0 (fun _ => true) true Try.f6.params.toList args.toList ds p := hA0
  rw [Try.params6] at hA hval hsz
  have hlt : ∀ x ∈ p, x.block < W.heap.size := fun x hx => by simpa using hW'.lt x (List.mem_append_left _ hx)
  obtain ⟨v0, vs0, d0, ds0, p0, q0, hargs, rfl, rfl, g0, r0⟩ := trodAll_cons hA
  obtain ⟨v1, vs1, d1, ds1, p1, q1, rfl, rfl, rfl, g1, r1⟩ := trodAll_cons r0
  obtain ⟨v2, vs2, d2, ds2, p2, q2, rfl, rfl, rfl, g2, r2⟩ := trodAll_cons r1
  obtain ⟨rfl, rfl, rfl⟩ := trodAll_nil r2
  obtain rfl : args = #[v0, v1, v2] := by cases args; simp_all
  obtain ⟨rfl, rfl⟩ := trodVars_none hV
  obtain ⟨A0, c0, l0, rfl, hn0, hl0, hm0, hs0, hw0, hd0⟩ := open_nums Try.underlying22 Try.underlying5 cells_u8 u8_pos (hval 0 22 v0 rfl rfl) g0 (fun x hx => hlt x <| List.mem_append_left _ hx)
  have hr0 : l0.length * 1 ≤ 140737488351232 := by
    rcases hd0 with rfl | ⟨es, sp, hd, hlen⟩
    · simp
    · have := sized_slice hsz (j := 0) (t := 22) (e := 5) rfl (by rw [hd]; rfl) Try.underlying22
      rw [bytes_u8] at this
      simp only [reachBytes] at this
      omega
  obtain ⟨A1, c1, l1, rfl, hn1, hl1, hm1, hs1, hw1, hd1⟩ := open_nums Try.underlying22 Try.underlying5 cells_u8 u8_pos (hval 1 22 v1 rfl rfl) g1 (fun x hx => hlt x <| List.mem_append_right _ <| List.mem_append_left _ hx)
  have hr1 : l1.length * 1 ≤ 140737488351232 := by
    rcases hd1 with rfl | ⟨es, sp, hd, hlen⟩
    · simp
    · have := sized_slice hsz (j := 1) (t := 22) (e := 5) rfl (by rw [hd]; rfl) Try.underlying22
      rw [bytes_u8] at this
      simp only [reachBytes] at this
      omega
  obtain ⟨A2, c2, l2, rfl, hn2, hl2, hm2, hs2, hw2, hd2⟩ := open_nums Try.underlying22 Try.underlying5 cells_u8 u8_pos (hval 2 22 v2 rfl rfl) g2 (fun x hx => hlt x <| List.mem_append_right _ <| List.mem_append_right _ <| List.mem_append_left _ hx)
  have hr2 : l2.length * 1 ≤ 140737488351232 := by
    rcases hd2 with rfl | ⟨es, sp, hd, hlen⟩
    · simp
    · have := sized_slice hsz (j := 2) (t := 22) (e := 5) rfl (by rw [hd]; rfl) Try.underlying22
      rw [bytes_u8] at this
      simp only [reachBytes] at this
      omega
  refine (walk A0 l0 c0 A1 l1 c1 A2 l2 c2 hn0 hl0 hm0 hr0 hw0 hn1 hl1 hm1 hr1 hw1 hn2 hl2 hm2 hr2 hw2 W hs0 hs1 hs2).mono fun e W' ⟨he, hg⟩ => ?_
  subst he
  exact ⟨_, rfl, law_post laidOut hW' (by kernel_rfl) rfl rfl Try.underlying4 rfl hg⟩

theorem proved : Rows.SumXorsSaid :=
  OpenClaim.holds_of_wide 6 Try.f6 rfl rfl rfl rfl rfl rfl rfl ⟨rfl, rfl, rfl, rfl, rfl⟩ rfl rfl rfl rfl rfl (by kernel_rfl) Try.func6 (by kernel_rfl)
    (of_decide_eq_true (by kernel_rfl)) (by unfold Func.isWrapper; first | (rw [if_pos (by decide +kernel)]; kernel_rfl) | (rw [if_neg (by decide +kernel)]; exact ⟨rfl, rfl⟩))
    (fun os started H enc _ => lifted os started H enc)
#print axioms proved

end Go.Proofs.Ytbkfdgbchigapaa.sumXors
