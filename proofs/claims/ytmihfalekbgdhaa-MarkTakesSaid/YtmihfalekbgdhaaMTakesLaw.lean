/-
  MarkTakes: for any bytes, any name and any number of 32 bits the law's call returns true: what is taken is the document's, and what is put is taken again. No condition.
-/
import Derived.Test.YtmihfalekbgdhaaMRef
import Derived.Test.YtmihfalekbgdhaaMPut
import Derived.Deep.RegionHeld3
import Derived.ProofKit
import Derived.OpenShut
import Derived.Lib.SmallJoins
namespace Go.Proofs.Ytmihfalekbgdhaa.markTakes
open Go.ChangeShapes Go.WideShapes Go.ChangeAt Go.RowKit Go.Joins
set_option linter.unusedVariables false

def Yes (w : World) (e : Ending) (w' : World) : Prop := e = .returned (.bool true) ∧ Below w.heap.size w w'

theorem InAt.drew {w : World} {g : Nat} {l : List Nat} {e : Nat} (h : InAt w g l e) : InAt w.drew g l e := h

theorem sShort_put (v most : Nat) (r : List Nat) (hv : v < 18446744073709551616) (hm : v ≤ most) : sShort (shortN v ++ r) 0 most = (r, 0, v) := by
  unfold sShort
  rw [readN_short v r hv]
  simp only [if_true, if_neg (show ¬ most < v by omega), Prod.mk.injEq, and_true]
  simp
theorem sName_put (a b : Nat) (r : List Nat) (ha : a < 7) (hb : b < 1024) : sName ([a] ++ shortN b ++ r) 0 = (r, 0, a, b) := by
  have h1 : sByte ([a] ++ shortN b ++ r) 0 = (shortN b ++ r, 0, a) := rfl
  have h2 : midName ([a] ++ shortN b ++ r) 0 = (shortN b ++ r, 0) := by unfold midName; rw [h1, if_neg (by show ¬ 6 < a; omega)]
  have h3 : endName ([a] ++ shortN b ++ r) 0 = (r, 0, b) := by unfold endName; rw [h2]; exact sShort_put b 1023 r (by omega) (by omega)
  unfold sName
  rw [h3, h1]
  rfl
theorem sBallot_put (v : Nat) (hv : v < 4294967296) (hb : ballotB v = true) : sBallot (shortN v) 0 = ([], 0, v) := by
  have h := sShort_put v 4294967295 [] (by omega) (by omega)
  rw [List.append_nil] at h
  unfold sBallot
  rw [h, if_pos hb]

theorem reftakeid_0 (A : Option Addr) (L : List Nat) (n c : Nat) (l' : List Nat) (e' r s : Nat) (w : World) (hn : L.length = n) (hl : n ≤ 9223372036854775807) (hc : n ≤ c) (hA0 : A = none → c = 0) (hx : ∀ x ∈ L, x < 256) (hA : Sees .u8 w A L)
    (hs : sName L 0 = (l', e', r, s)) :
    Calls Try.prog 19 #[.agg #[.slice A n c, .int .i64 0, .int .i64 0]] w (RefDoes A n L c l' e' (nm r s) w) :=
  reftakeid_any A L n c 0 0 l' e' r s w hn (Nat.zero_le _) hl hc hA0 hx hA hs

/-- Two blocks that are made, one behind the other. -/
theorem two_made {w W : World} {a b : Array Value} {T U : TypeId} (hW : (w.alloc (.cells a T)).alloc (.cells b U) = W) : Blk W w.heap.size T a ∧ Blk W (w.heap.size + 1) U b ∧ Below w.heap.size w W := by
  subst hW
  have h1 := Blk.new (w.alloc (.cells a T)) U b
  rw [show (w.alloc (.cells a T)).heap.size = w.heap.size + 1 by simp] at h1
  exact ⟨(Blk.new w T a).alloc _, h1, ((Below.refl _ _).alloc (Nat.le_refl _) _).alloc (by simp) _⟩

theorem eq_refname (r s r2 s2 : Int) (b : Bool) (hb : (r == r2 && s == s2) = b) (w : World) :
    (Op.equalIn 10000 26 (.agg #[.int .i64 r, .int .i64 s]) (.agg #[.int .i64 r2, .int .i64 s2])).run Try.prog w = .ok b w := by
  have ht : Try.prog.underlying 26 = some (.struct (Try.prog.fieldsOf 26)) := by kernel_rfl
  have hp : Try.prog.stoodInHeld 26 = false := by kernel_rfl
  rw [run_equalIn_struct w 9999 _ _ _ ht hp]
  have p1 := run_part_plain (P := Try.prog) (w := w) (e := 3) (by kernel_rfl) (xs := #[.int .i64 r, .int .i64 s]) (off := 0) rfl
  have p2 := run_part_plain (P := Try.prog) (w := w) (e := 3) (by kernel_rfl) (xs := #[.int .i64 r, .int .i64 s]) (off := 1) rfl
  have p3 := run_part_plain (P := Try.prog) (w := w) (e := 3) (by kernel_rfl) (xs := #[.int .i64 r2, .int .i64 s2]) (off := 0) rfl
  have p4 := run_part_plain (P := Try.prog) (w := w) (e := 3) (by kernel_rfl) (xs := #[.int .i64 r2, .int .i64 s2]) (off := 1) rfl
  have q1 := run_equalIn_int (P := Try.prog) w 9998 3 .i64 .i64 r r2 Try.underlying3
  have q2 := run_equalIn_int (P := Try.prog) w 9998 3 .i64 .i64 s s2 Try.underlying3
  subst hb
  cases h : (r == r2) <;> simp [Program.fieldsOf, Try.underlying26, Op.eqFields, p1, p2, p3, p4, q1, q2, h, Sem.run_bind, Sem.run_ite, Result.andThen_ok]
  by_cases h2 : s = s2 <;> simp [h2]
theorem eq_refguard : Try.prog.eqGuardType Try.prog.depth 26 = false := by kernel_rfl

set_option maxRecDepth 100000 in
set_option maxHeartbeats 4000000 in
theorem walk_b (A : Option Addr) (L : List Nat) (n c : Nat) (r s : Int) (v : Nat) (w : World) (hn : L.length = n) (hl : n ≤ 140737488355328) (hc : n ≤ c) (hA0 : A = none → c = 0) (hx : ∀ x ∈ L, x < 256) (hA : Sees .u8 w A L) (hv : v < 4294967296) :
    Calls Try.prog 5 #[.slice A n c, nm r s, .int .u32 (v : Int)] w (Yes w) := by
  obtain ⟨l1, e1, x, y, h1⟩ : ∃ l1 e1 x y, sName L 0 = (l1, e1, x, y) := ⟨_, _, _, _, rfl⟩
  obtain ⟨l2, e2, z, h2⟩ : ∃ l2 e2 z, sBallot l1 e1 = (l2, e2, z) := ⟨_, _, _, rfl⟩
  have HF0 : Hid (Fine L 0) := hid (fun h => absurd rfl h)
  have hf1 := sName_fine HF0.out hx
  rw [h1] at hf1
  have HF1 := hid hf1.1
  have HX1 := hid hf1.2.1
  have hle1 : l1.length ≤ L.length := hf1.2.2
  have H1 := hid h1
  have H2 := hid h2
  have HN := hid hn
  have HA := hid hA
  have HX := hid hx
  have HNIL := hid hA0
  have hlL : L.length ≤ 9223372036854775807 := by omega
  have EG := eq_refguard
  have EQ := fun w => eq_refname x y x y true (by simp) w
  obtain ⟨k, hk⟩ : ∃ k, w.heap.size = k := ⟨_, rfl⟩
  have hl1 : l1.length ≤ 9223372036854775807 := by omega
  clear h1 h2 hn hA hA0 hx hf1 hle1
  go_enter Try.func5, Try.ntmps5
  go_wp2_with fail
  with_reducible refine (anchor_any _).mono ?_
  rintro en w0 ⟨rfl, rfl⟩
  go_wp2_with fail
  obtain ⟨W0, hW0⟩ : ∃ W0, w.alloc (.cells #[.int .i64 r, .int .i64 s] 23) = W0 := ⟨_, rfl⟩
  rw [hW0]
  have hs0 : W0.heap.size = k + 1 := by rw [← hW0, ← hk]; simp
  have K0 : Hid (Blk W0 k 23 #[.int .i64 r, .int .i64 s]) := hid (by rw [← hW0, ← hk]; exact Blk.new _ _ _)
  have HB0 : Hid (Below k w W0) := hid (by rw [← hW0, ← hk]; exact (Below.refl _ _).alloc (Nat.le_refl _) _)
  have HAF : Hid (∀ W, Below k w W → Sees .u8 W A L) := hid (fun W h => HA.out.below (by rw [hk]; exact h))
  clear hW0 HA
  with_reducible refine (newin_any A L n c _ HN.out hl HNIL.out (HAF.out _ HB0.out)).mono ?_
  rintro en w2 ⟨gi, rfl, hin, hb2, hge⟩
  have hgl := hin.lt
  have hs2 := hb2.size
  have K2 := hid (K0.out.below hb2 (by omega))
  have HB2 := hid (HB0.out.trans (hb2.mono (by omega)))
  have HI2 := hid hin
  clear hin hb2 K0 HB0
  go_wp2_with fail
  have hal : Below w2.heap.size w2 (w2.alloc (.cells #[.slice A n c, .int .i64 0, .int .i64 0] 46)) := (Below.refl _ _).alloc (Nat.le_refl _) _
  have K3 := hid (K2.out.below hal (by omega))
  have HB3 := hid (HB2.out.trans (hal.mono (by omega)))
  have HI3 := hid (HI2.out.keep (hal.mono hgl))
  have hs3 := hal.size
  clear hal K2 HB2 HI2
  with_reducible refine (reftakeid_0 A L n c l1 e1 x y _ HN.out (by omega) hc HNIL.out HX.out (HAF.out _ HB3.out) H1.out).mono ?_
  rintro en w3 ⟨p1, hp1, hr1, rfl, hb3⟩
  have HR1 := hid hr1
  have K4 := hid (K3.out.below hb3 K3.out.lt)
  have HB4 := hid (HB3.out.trans (hb3.mono (by omega)))
  have HI4 := hid (HI3.out.keep (hb3.mono (by omega)))
  have hs4 := hb3.size
  clear hb3 hr1 K3 HB3 HI3
  go_wp2_with fail
  obtain ⟨W5, hW5⟩ : ∃ W5, (w3.alloc (.cells #[.slice A n c, .int .i64 (p1 : Int), .int .i64 (e1 : Int)] 46)).alloc (.cells #[.int .i64 (x : Int), .int .i64 (y : Int)] 26) = W5 := ⟨_, rfl⟩
  rw [hW5]
  obtain ⟨B9, B10, hb5⟩ := two_made hW5
  obtain ⟨gy, hgy⟩ : ∃ gy, w3.heap.size = gy := ⟨_, rfl⟩
  have hkgi : k < gi := by omega
  have hgiy : gi < gy := by omega
  have K5 := hid (K4.out.below hb5 K4.out.lt)
  have HB5 := hid (HB4.out.trans (hb5.mono (by omega)))
  have HI5 := hid (HI4.out.keep (hb5.mono (by omega)))
  rw [hgy] at B9 B10 ⊢
  replace B9 := hid B9
  replace B10 := hid B10
  clear hb5 hW5 K4 HB4 HI4 hgy hs4 hs3
  with_reducible refine (takeid_any gi L 0 l1 e1 x y _ HI5.out HF0.out HX.out (by omega) H1.out).mono ?_
  rintro en w6 ⟨rfl, hi6, hg6⟩
  have HB6 := hid (HB5.out.trans (below_only hg6 (by omega) (by have := HB5.out.size; omega)))
  have K6 := hid (K5.out.grown hg6 (by simp; omega))
  replace B9 := hid (B9.out.grown hg6 (by simp; omega))
  replace B10 := hid (B10.out.grown hg6 (by simp; omega))
  have HI6 := hid hi6
  clear hi6 hg6 K5 HB5 HI5
  go_wp2_with fail
  obtain ⟨W7, hW7⟩ : ∃ W7, w6.alloc (.cells #[.int .i64 (x : Int), .int .i64 (y : Int)] 23) = W7 := ⟨_, rfl⟩
  rw [hW7]
  have hb7 : Below w6.heap.size w6 W7 := by rw [← hW7]; exact (Below.refl _ _).alloc (Nat.le_refl _) _
  have B11 : Hid (Blk W7 w6.heap.size 23 #[.int .i64 (x : Int), .int .i64 (y : Int)]) := hid (by rw [← hW7]; exact Blk.new _ _ _)
  obtain ⟨gt, hgt⟩ : ∃ gt, w6.heap.size = gt := ⟨_, rfl⟩
  rw [hgt] at B11 ⊢
  have h6s : gi < w6.heap.size := HI6.out.lt
  have K7 := hid (K6.out.below hb7 K6.out.lt)
  have HB7 := hid (HB6.out.trans (hb7.mono (by omega)))
  have HI7 := hid (HI6.out.keep (hb7.mono h6s))
  replace B9 := hid (B9.out.below hb7 B9.out.lt)
  replace B10 := hid (B10.out.below hb7 B10.out.lt)
  clear hb7 hW7 K6 HB6 HI6 h6s hgt
  have HE1 : Hid (endE (rem L p1 e1) e1 = endE l1 e1) := hid (by rw [HR1.out])
  obtain ⟨q1, hq1⟩ : ∃ q1 : Int, (endE l1 e1 : Int) = q1 := ⟨_, rfl⟩
  have HQ1 := hid hq1
  clear hq1
  go_region_held3 (fun w' => w'.cell? ⟨gt, 0, none⟩ = some (.int .i64 (x : Int)) ∧ w'.cell? ⟨gt, 1, none⟩ = some (.int .i64 (y : Int)) ∧ w'.cell? ⟨gy + 1, 0, none⟩ = some (.int .i64 (x : Int)) ∧ w'.cell? ⟨gy + 1, 1, none⟩ = some (.int .i64 (y : Int)) ∧ w'.cell? ⟨gy, 0, none⟩ = some (.slice A n c) ∧ w'.cell? ⟨gy, 1, none⟩ = some (.int .i64 (p1 : Int)) ∧ w'.cell? ⟨gy, 2, none⟩ = some (.int .i64 (e1 : Int)))
    (first | exact ⟨(blkn B11.out).1.1, (blkn B11.out).1.2, (blkn B10.out).1.1, (blkn B10.out).1.2, (blk3 B9.out).1.1, (blk3 B9.out).1.2.1, (blk3 B9.out).1.2.2⟩ | exact ⟨(blkn B11.out.drew).1.1, (blkn B11.out.drew).1.2, (blkn B10.out.drew).1.1, (blkn B10.out.drew).1.2, (blk3 B9.out.drew).1.1, (blk3 B9.out.drew).1.2.1, (blk3 B9.out.drew).1.2.2⟩ | exact ⟨(blkn D11.out).1.1, (blkn D11.out).1.2, (blkn D10.out).1.1, (blkn D10.out).1.2, (blk3 D9.out).1.1, (blk3 D9.out).1.2.1, (blk3 D9.out).1.2.2⟩)
    (first
      | (go_at_call 21; (with_reducible refine (end_any gi l1 e1 _ (by first | exact HI8.out | exact InAt.drew HI7.out)).mono ?_); rintro en w5 ⟨rfl, rfl⟩; rw [HQ1.out])
      | (go_at_call 22; (with_reducible refine (refend_any A L n c p1 e1 _ HN.out hp1).mono ?_); rintro en w8 ⟨rfl, hb8⟩; rw [HE1.out, HQ1.out]; have HI8 := hid (InAt.keep (w := W7.drew) HI7.out (hb8.mono HI7.out.lt)); have D9 := hid (B9.out.drew.below hb8 B9.out.drew.lt); have D10 := hid (B10.out.drew.below hb8 B10.out.drew.lt); have D11 := hid (B11.out.drew.below hb8 B11.out.drew.lt)))
  have K8 := hid (K7.out.drew.below hb8 K7.out.drew.lt)
  have HB8 := hid ((below_drew HB7.out).trans (hb8.mono (show k ≤ W7.heap.size by have := HB7.out.size; omega)))
  rename_i hHeld
  clear hHeld hb8 B9 B10 B11 D10 D11 K7 HB7 HI7 HE1 HQ1
  obtain ⟨⟨c0, c1, c2⟩, f0, f1, f2⟩ := blk3 D9.out
  have H2R : Hid (sBallot (rem L p1 e1) e1 = (l2, e2, z)) := hid (by rw [← HR1.out]; exact H2.out)
  go_wp2_with fail
  with_reducible refine (reftakeballot_any A L n c p1 e1 l2 e2 z _ HN.out hp1 (by omega) hc HNIL.out HX.out (HAF.out _ HB8.out) H2R.out).mono ?_
  rintro en w9 ⟨p2, hp2, hr2, rfl, hb9⟩
  have HR2 := hid hr2
  have K9 := hid (K8.out.below hb9 K8.out.lt)
  have HB9 := hid (HB8.out.trans (hb9.mono (by have := HB8.out.size; omega)))
  have HI9 := hid (HI8.out.keep (hb9.mono HI8.out.lt))
  have E9 := hid (D9.out.below hb9 D9.out.lt)
  clear hb9 hr2 K8 HB8 HI8 D9 c0 c1 c2 f0 f1 f2 H2R
  obtain ⟨⟨c0, c1, c2⟩, f0, f1, f2⟩ := blk3 E9.out
  go_upto_region 10 with fail
  obtain ⟨W10, hW10⟩ : ∃ W10, (((w9.setCell ⟨gy, 0, none⟩ (.slice A n c)).setCell ⟨gy, 1, none⟩ (.int .i64 (p2 : Int))).setCell ⟨gy, 2, none⟩ (.int .i64 (e2 : Int))) = W10 := ⟨_, rfl⟩
  rw [hW10]
  have E10 : Hid (Blk W10 gy 46 #[.slice A n c, .int .i64 (p2 : Int), .int .i64 (e2 : Int)]) := hid (by rw [← hW10]; exact Blk.put3 E9.out _ _ _)
  have K10 : Hid (Blk W10 k 23 #[.int .i64 r, .int .i64 s]) := hid (by rw [← hW10]; exact Blk.put3_far K9.out (by omega) _ _ _)
  have HB10 : Hid (Below k w W10) := hid (by rw [← hW10]; exact below_put3 HB9.out (by omega) _ _ _)
  have HI10 : Hid (InAt W10 gi l1 e1) := hid (by rw [← hW10]; exact HI9.out.keep (below_put3 (Below.refl _ _) (by omega) _ _ _))
  clear hW10 E9 K9 HB9 HI9 c0 c1 c2 f0 f1 f2
  go_wp2_with fail
  with_reducible refine (takeballot_any gi l1 e1 l2 e2 z _ HI10.out HF1.out HX1.out hl1 H2.out).mono ?_
  rintro en w11 ⟨rfl, hi11, hg11⟩
  have HB11 := hid (HB10.out.trans (below_only hg11 (by omega) (by have := HB10.out.size; omega)))
  have K11 := hid (K10.out.grown hg11 (by simp; omega))
  have E11 := hid (E10.out.grown hg11 (by simp; omega))
  have HI11 := hid hi11
  clear hi11 hg11 K10 HB10 HI10 E10
  have HE2 : Hid (endE (rem L p2 e2) e2 = endE l2 e2) := hid (by rw [HR2.out])
  obtain ⟨q2, hq2⟩ : ∃ q2 : Int, (endE l2 e2 : Int) = q2 := ⟨_, rfl⟩
  have HQ2 := hid hq2
  clear hq2
  go_wp2_with fail
  go_region_held3 (fun w' => w'.cell? ⟨gy, 0, none⟩ = some (.slice A n c) ∧ w'.cell? ⟨gy, 1, none⟩ = some (.int .i64 (p2 : Int)) ∧ w'.cell? ⟨gy, 2, none⟩ = some (.int .i64 (e2 : Int)))
    (first | exact (blk3 E11.out).1 | exact (blk3 E11.out.drew).1 | exact (blk3 E12.out).1)
    (first
      | (go_at_call 21; (with_reducible refine (end_any gi l2 e2 _ (by first | exact HI12.out | exact InAt.drew HI11.out)).mono ?_); rintro en w5 ⟨rfl, rfl⟩; rw [HQ2.out])
      | (go_at_call 22; (with_reducible refine (refend_any A L n c p2 e2 _ HN.out hp2).mono ?_); rintro en w12 ⟨rfl, hb12⟩; rw [HE2.out, HQ2.out]; have HI12 := hid (InAt.keep (w := w11.drew) HI11.out (hb12.mono HI11.out.lt)); have E12 := hid (E11.out.drew.below hb12 E11.out.drew.lt)))
  have K12 := hid (K11.out.drew.below hb12 K11.out.drew.lt)
  have HB12 := hid ((below_drew HB11.out).trans (hb12.mono (show k ≤ w11.heap.size by have := HB11.out.size; omega)))
  rename_i hHeld
  clear hHeld hb12 E11 E12 K11 HB11 HI11 HI12 HE2 HQ2
  obtain ⟨⟨c0, c1⟩, f0, f1⟩ := blkn K12.out
  obtain ⟨ok, hok⟩ : ∃ ok, nameB r s = ok := ⟨_, rfl⟩
  have HOK := hid hok
  obtain ⟨bk, hbk⟩ : ∃ bk, ballotB v = bk := ⟨_, rfl⟩
  have HBK := hid hbk
  clear hbk hok
  cases ok
  · go_wp2_with fail
    with_reducible refine (right_any r s _).mono ?_
    rintro en w13 ⟨rfl, hb13⟩
    rw [HOK.out]
    have HB13 := hid (HB12.out.trans (hb13.mono (by have := HB12.out.size; omega)))
    clear hb13
    go_wp2
    go_ret
    exact ⟨rfl, by rw [hk]; exact HB13.out⟩
  · go_wp2_with fail
    with_reducible refine (right_any r s _).mono ?_
    rintro en w13 ⟨rfl, hb13⟩
    rw [HOK.out]
    have HB13 := hid (HB12.out.trans (hb13.mono (by have := HB12.out.size; omega)))
    have K13 := hid (K12.out.below hb13 K12.out.lt)
    clear hb13 HB12 K12 c0 c1 f0 f1
    obtain ⟨⟨c0, c1⟩, f0, f1⟩ := blkn K13.out
    have hkl := K13.out.lt
    cases bk
    · go_wp2_with fail
      with_reducible refine (ballotright_any v _ hv).mono ?_
      rintro en w14 ⟨rfl, rfl⟩
      rw [HBK.out]
      go_wp2
      go_ret
      exact ⟨rfl, by rw [hk]; exact HB13.out⟩
    · go_wp2_with fail
      with_reducible refine (ballotright_any v _ hv).mono ?_
      rintro en w14 ⟨rfl, rfl⟩
      rw [HBK.out]
      obtain ⟨a, b, rfl, rfl, ha, hb, _⟩ := name_in HOK.out
      go_wp2_with fail
      obtain ⟨W14, hW14⟩ : ∃ W14, w13.alloc (.cells #[.slice none 0 0] 56) = W14 := ⟨_, rfl⟩
      rw [hW14]
      obtain ⟨go, hgo⟩ : ∃ go, w13.heap.size = go := ⟨_, rfl⟩
      have HO14 : Hid (OutAt W14 go go []) := hid (by rw [← hW14, ← hgo]; exact out_new w13)
      have hb14 : Below go w13 W14 := by rw [← hW14, ← hgo]; exact (Below.refl _ _).alloc (Nat.le_refl _) _
      have hkgo : k < go := by omega
      have K14 := hid (K13.out.below hb14 hkgo)
      have HB14 := hid (HB13.out.trans (hb14.mono (by omega)))
      rw [hgo]
      clear hb14 hW14 K13 HB13 c0 c1 f0 f1 hgo hkl
      obtain ⟨L3, hL3⟩ : ∃ L3, ([] ++ [a]) ++ shortN b = L3 := ⟨_, rfl⟩
      have hl3 : L3.length ≤ 11 := by rw [← hL3]; have := shortN_len10 (v := b) (by omega); simp; omega
      obtain ⟨L4, hL4⟩ : ∃ L4, L3 ++ shortN v = L4 := ⟨_, rfl⟩
      have hl4 : L4.length ≤ 21 := by rw [← hL4]; have := shortN_len10 (v := v) (by omega); simp; omega
      have HL3 := hid hL3.symm
      have HL4 := hid hL4
      have HT1 : Hid (sName L4 0 = (shortN v, 0, a, b)) := hid (by rw [← hL4, ← hL3]; exact sName_put a b (shortN v) ha hb)
      have HT2 : Hid (sBallot (shortN v) 0 = ([], 0, v)) := hid (sBallot_put v hv HBK.out)
      have H8 : Hid (∀ x ∈ L4, x < 256) := hid (by
        intro x hx
        rw [← hL4, ← hL3] at hx
        rcases List.mem_append.1 hx with h | h
        · rcases List.mem_append.1 h with h | h
          · simp at h; omega
          · exact shortN_byte _ _ h
        · exact shortN_byte _ _ h)
      have H8v : Hid (∀ x ∈ shortN v, x < 256) := hid (fun x hx => shortN_byte _ _ hx)
      have hlv : (shortN v).length ≤ 9223372036854775807 := by have := shortN_len10 (v := v) (by omega); omega
      clear hL3 hL4
      with_reducible refine (idput_any go go [] L3 a b _ HO14.out ha hb (by simp) HL3.out).mono ?_
      rintro en w15 ⟨rfl, ho15, hb15, hs15⟩
      have HO15 := hid ho15
      have K15 := hid (K14.out.below hb15 hkgo)
      have HB15 := hid (HB14.out.trans (hb15.mono (by omega)))
      clear ho15 hb15 hs15 HO14 K14 HB14
      go_wp2_with fail
      with_reducible refine (ballotput_any go go L3 v _ HO15.out hv (by omega)).mono ?_
      rw [HL4.out]
      rintro en w16 ⟨rfl, ho16, hb16, hs16⟩
      have HO16 := hid ho16
      have K16 := hid (K15.out.below hb16 hkgo)
      have HB16 := hid (HB15.out.trans (hb16.mono (by omega)))
      clear ho16 hb16 hs16 HO15 K15 HB15
      go_wp2_with fail
      with_reducible refine (outbytes_any go go L4 _ HO16.out (by omega)).mono ?_
      rintro en w17 ⟨sl, rfl, hown, hb17⟩
      have K17 := hid (K16.out.below hb17 K16.out.lt)
      have HB17 := hid (HB16.out.trans (hb17.mono (by have := HB16.out.size; omega)))
      obtain ⟨A4, c4, rfl, hn4, _, hs4⟩ := own_slice hown
      have HN4 := hid hn4
      have HS4 := hid hs4
      clear hown hb17 hn4 hs4 HO16 K16 HB16
      go_wp2_with fail
      with_reducible refine (newin_any A4 L4 L4.length c4 _ rfl (by omega) HN4.out HS4.out).mono ?_
      rintro en w18 ⟨gj, rfl, hin18, hb18, hge18⟩
      have K18 := hid (K17.out.below hb18 K17.out.lt)
      have HB18 := hid (HB17.out.trans (hb18.mono (by have := HB17.out.size; omega)))
      have HI18 := hid hin18
      have hkgj : k < gj := by have := K17.out.lt; omega
      clear hb18 hin18 K17 HB17 HS4 HN4
      have EG2 := eq_guard
      have EQ2 := fun w => eq_name a b a b true (by simp) w
      have HZ : Hid ((endE [] 0 : Int) = 0) := hid rfl
      have hF4 : Hid (Fine L4 0) := hid (fun h => absurd rfl h)
      have hFv : Hid (Fine (shortN v) 0) := hid (fun h => absurd rfl h)
      go_wp2_with fail
      go_region_held3 (fun w' => w'.cell? ⟨k, 0, none⟩ = some (.int .i64 (a : Int)) ∧ w'.cell? ⟨k, 1, none⟩ = some (.int .i64 (b : Int)))
        (first | exact (blkn K18.out).1 | exact (blkn K18.out.drew).1 | exact (blkn K19.out).1 | exact (blkn K20.out).1)
        (first
          | (go_at_call 20; (with_reducible refine (takeid_any gj L4 0 (shortN v) 0 a b _ (InAt.drew HI18.out) hF4.out H8.out (by omega) HT1.out).mono ?_); rintro en w19 ⟨rfl, hi19, hg19⟩; have K19 := hid (K18.out.drew.grown hg19 (by simp; omega)))
          | (go_at_call 24; (with_reducible refine (takeballot_any gj (shortN v) 0 [] 0 v _ hi19 hFv.out H8v.out hlv HT2.out).mono ?_); rintro en w20 ⟨rfl, hi20, hg20⟩; have K20 := hid (K19.out.grown hg20 (by simp; omega)))
          | (go_at_call 21; (with_reducible refine (end_any gj [] 0 _ hi20).mono ?_); rintro en w21 ⟨rfl, rfl⟩; rw [HZ.out]))
      have HE := hid (((below_drew HB18.out).trans (below_only hg19 (by omega) (show k ≤ w18.heap.size by have := HB18.out.size; omega))).trans (below_only hg20 (by omega) (by have := K19.out.lt; omega)))
      rename_i hHeld
      clear hHeld hg19 hg20 hi19 hi20 K19 K20
      go_wp2
      go_ret
      exact ⟨rfl, by rw [hk]; exact HE.out⟩

theorem walk (A : Option Addr) (L : List Nat) (c : Nat) (r s v : Int) (hn : A = none → c = 0) (hl : L.length ≤ c) (_hm : c ≤ maxLen) (hr : L.length * 1 ≤ 140737488351232) (h8 : ∀ x ∈ L, (Lit.int .u8 (x : Int)).wf = true) (hv : (Lit.int .u32 v).wf = true) (w : World) (hA : Sees .u8 w A L) :
    Calls Try.prog 5 #[.slice A L.length c, nm r s, .int .u32 v] w fun e w' => e = .returned (.bool true) ∧ Below w.heap.size w w' := by
  obtain ⟨k, rfl, hk⟩ := u32_in hv
  exact walk_b A L L.length c r s k w rfl (by omega) hl hn (fun x hx => by have := u8_lt _ (h8 x hx); omega) hA hk

theorem own : ownKnob Try.prog.godebug = none := by kernel_rfl
theorem laidOut : laidOutB Try.prog = true := by kernel_rfl
theorem cells_u8 : Try.prog.cellsOf 5 = 1 := by kernel_rfl
theorem bytes_u8 : Try.prog.bytesOf 5 = 1 := by kernel_rfl

set_option maxRecDepth 100000 in
theorem lifted (os : Os) (started : os.Started) (H : Type) (enc : TypeId × Value → H) :
    ReturnsInHanded {} Try.checked os 5 .any (Rows.markTakesSpec.pre6 enc Try.prog Try.f5 Rows.markTakesRow.domain false) (Rows.markTakesSpec.post enc Try.prog Try.f5 false true false false) := by
  refine returnsInHanded_of_change_sized (C := Try.checked) own started (by kernel_rfl) Try.func5
    (ChangeSpec.witness6 (enc := enc) (C := Try.checked) false ⟨#[], #[.slice none 0 0, .agg #[.int .i64 0, .int .i64 0], .int .u32 0], []⟩ 8 (by kernel_rfl) (by kernel_rfl) (by kernel_rfl) (by kernel_rfl)) ?_
  intro W base args ds gs before hval0 hW _ hsz0 _
  have hsz : (DataW.weightsEach Try.prog (Try.f5.params.toList ++ Rows.markTakesSpec.plain.varTypes Try.prog) (ds ++ gs)).all (· ≤ reachBytes) = true := hsz0
  have hval : ∀ (j : Nat) t v, Try.f5.params[j]? = some t → args[j]? = some v → Value.okWide Try.prog W .any base t v := hval0
  have hW' := hW
  obtain ⟨p, q, hA0, hV, rfl, _, _⟩ := hW
  have hA : DataW.TrodAll enc Try.prog W 0 (fun _ => true) true Try.f5.params.toList args.toList ds p := hA0
  rw [Try.params5] at hA hval hsz
  have hlt : ∀ x ∈ p, x.block < W.heap.size := fun x hx => by simpa using hW'.lt x (List.mem_append_left _ hx)
  obtain ⟨v0, vs0, d0, ds0, p0, q0, hargs, rfl, rfl, g0, r0⟩ := trodAll_cons hA
  obtain ⟨v1, vs1, d1, ds1, p1, q1, rfl, rfl, rfl, g1, r1⟩ := trodAll_cons r0
  obtain ⟨v2, vs2, d2, ds2, p2, q2, rfl, rfl, rfl, g2, r2⟩ := trodAll_cons r1
  obtain ⟨rfl, rfl, rfl⟩ := trodAll_nil r2
  obtain rfl : args = #[v0, v1, v2] := by cases args; simp_all
  obtain ⟨rfl, rfl⟩ := trodVars_none hV
  obtain ⟨A0, c0, l0, rfl, hn0, hl0, hm0, hs0, hw0, hd0⟩ := open_nums Try.underlying42 Try.underlying5 cells_u8 u8_pos (hval 0 42 v0 rfl rfl) g0 (fun x hx => hlt x <| List.mem_append_left _ hx)
  have hr0 : l0.length * 1 ≤ 140737488351232 := by
    rcases hd0 with rfl | ⟨es, sp, hd, hlen⟩
    · simp
    · have := sized_slice hsz (j := 0) (t := 42) (e := 5) rfl (by rw [hd]; rfl) Try.underlying42
      rw [bytes_u8] at this
      simp only [reachBytes] at this
      omega
  obtain ⟨x1, z1, y1, u1, m1, rfl, rfl, rfl, hy1, hu1⟩ := Go.Joins.open_agg2 Try.underlying23 (by kernel_rfl) (show Try.prog.cellsOf 23 = 2 by kernel_rfl) (hval 1 23 v1 rfl rfl) g1
  obtain ⟨a1, ha1, rfl, wa1⟩ := DataW.trod_int Try.underlying3 hy1
  obtain ⟨b1, hb1, rfl, wb1⟩ := DataW.trod_int Try.underlying3 hu1
  simp at ha1 hb1
  subst ha1 hb1
  obtain ⟨a2, rfl, rfl, rfl, w2⟩ := open_int Try.underlying34 (hval 2 34 v2 rfl rfl) g2
  refine (walk A0 l0 c0 a1 b1 a2 hn0 hl0 hm0 hr0 hw0 w2 W hs0).mono fun e W' ⟨he, hg⟩ => ?_
  subst he
  exact ⟨_, rfl, law_post laidOut hW' (by kernel_rfl) rfl rfl Try.underlying4 rfl hg⟩

theorem proved : Rows.MarkTakesSaid :=
  OpenClaim.holds_of_wide 5 Try.f5 rfl rfl rfl rfl rfl rfl rfl ⟨rfl, rfl, rfl, rfl, rfl⟩ rfl rfl rfl rfl rfl (by kernel_rfl) Try.func5 (by kernel_rfl)
    (of_decide_eq_true (by kernel_rfl)) (by unfold Func.isWrapper; first | (rw [if_pos (by decide +kernel)]; kernel_rfl) | (rw [if_neg (by decide +kernel)]; exact ⟨rfl, rfl⟩))
    (fun os started H enc _ => lifted os started H enc)
#print axioms proved

end Go.Proofs.Ytmihfalekbgdhaa.markTakes
