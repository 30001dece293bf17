/-
  Contracts of the document's own reader: Short, Text, End.
-/
import Derived.Test.YtjefhnhlkhnogaaRefI
namespace Go.Proofs.Ytjefhnhlkhnogaa
open Go.ChangeShapes Go.WideShapes Go.ChangeAt Go.RowKit

theorem refreadshort_as (A : Option Addr) (l : List Nat) (m ca : Nat) (w : World) (hm : l.length = m) (hl : m ≤ 9223372036854775807) (h8 : ∀ x ∈ l, x < 256) (hA : Sees .u8 w A l) :
    Calls Try.prog 38 #[.slice A m ca] w (Tells (readN l) w) := by
  subst hm; exact refreadshort_any A l ca w hl h8 hA

set_option maxRecDepth 100000 in
set_option maxHeartbeats 400000 in
theorem refshort_err (A : Option Addr) (n c : Nat) (p : Int) (e : Nat) (most : Int) (w : World) (he : 0 < e) :
    Calls Try.prog 27 #[reader A n c p (e : Int), .int .u64 most] w (Tells2 A n c p (e : Int) (.int .u64 0) w) := by
  have he1 : ((e : Int) != 0) = true := by rw [bne_iff_ne]; omega
  go_enter Try.func27, Try.ntmps27
  go_wp2
  refine bodyPost_ret (v := .tuple #[reader A n c p (e : Int), .int .u64 0]) (by simp [results, Try.results27, go_sem]) rfl ⟨rfl, ?_⟩
  exact ((Below.refl _ _).alloc (Nat.le_refl _) _).alloc (by simp) _

set_option maxRecDepth 100000 in
set_option maxHeartbeats 400000 in
theorem refshort_bad (A : Option Addr) (L : List Nat) (n c p z : Nat) (most : Int) (w : World) (hL : L.length = n) (hp : p ≤ n) (hn : n ≤ 9223372036854775807) (hc : n ≤ c) (hA0 : A = none → c = 0) (_hm : 0 ≤ most) (hx : ∀ x ∈ L, x < 256) (hA : Sees .u8 w A L)
    (hr : readN (L.drop p) = (0, 0, z)) (hz : 0 < z) :
    Calls Try.prog 27 #[reader A n c (p : Int) 0, .int .u64 most] w (Tells2 A n c (p : Int) (z : Int) (.int .u64 0) w) := by
  obtain ⟨i0, hi, hz0, hz1, hz2⟩ := info_parts info_u8
  obtain ⟨A1, s1, n1, l1⟩ := cut_rest (P := Try.prog) 22 5 i0 Try.underlying22 hi hz1 hL hp hc hA.held hA0
  have HA := hid l1
  have HX : Hid (∀ x ∈ L.drop p, x < 256) := hid (fun x h => hx x (List.mem_of_mem_drop h))
  have HD : Hid ((L.drop p).length = n - p) := hid (by rw [List.length_drop, hL])
  have HR := hid hr
  have he1 : ((z : Int) != 0) = true := by rw [bne_iff_ne]; omega
  clear hA hx hL hr l1 n1 hi hz0 hz1 hz2 hA0
  go_enter Try.func27, Try.ntmps27
  go_wp2_with fail
  with_reducible refine (refreadshort_as A1 (L.drop p) (n - p) _ _ HD.out (by omega) HX.out (((HA.out.sees (Nat.le_refl _)).alloc_ _).alloc_ _)).mono ?_
  rintro en w1 ⟨rfl, rfl⟩
  rw [HR.out]
  go_wp2_with fail
  with_reducible refine (bad_set A n c p (z : Int) _).mono ?_
  rintro en w1 ⟨rfl, rfl⟩
  go_wp2
  refine bodyPost_ret (v := .tuple #[reader A n c (p : Int) (z : Int), .int .u64 0]) (by simp [results, Try.results27, go_sem]) rfl ⟨rfl, ?_⟩
  exact ((((Below.refl _ _).alloc (Nat.le_refl _) _).alloc (by simp) _).alloc (by simp <;> omega) _).alloc (by simp <;> omega) _

set_option maxRecDepth 100000 in
set_option maxHeartbeats 400000 in
theorem refshort_high (A : Option Addr) (L : List Nat) (n c p v k : Nat) (most : Int) (w : World) (hL : L.length = n) (hp : p ≤ n) (hn : n ≤ 9223372036854775807) (hc : n ≤ c) (hA0 : A = none → c = 0) (hx : ∀ x ∈ L, x < 256) (hA : Sees .u8 w A L)
    (hr : readN (L.drop p) = (v, k, 0)) (hm : most < (v : Int)) :
    Calls Try.prog 27 #[reader A n c (p : Int) 0, .int .u64 most] w (Tells2 A n c (p : Int) 12 (.int .u64 0) w) := by
  obtain ⟨i0, hi, hz0, hz1, hz2⟩ := info_parts info_u8
  obtain ⟨A1, s1, n1, l1⟩ := cut_rest (P := Try.prog) 22 5 i0 Try.underlying22 hi hz1 hL hp hc hA.held hA0
  have HA := hid l1
  have HX : Hid (∀ x ∈ L.drop p, x < 256) := hid (fun x h => hx x (List.mem_of_mem_drop h))
  have HD : Hid ((L.drop p).length = n - p) := hid (by rw [List.length_drop, hL])
  have HR := hid hr
  clear hA hx hL hr l1 n1 hi hz0 hz1 hz2 hA0
  go_enter Try.func27, Try.ntmps27
  go_wp2_with fail
  with_reducible refine (refreadshort_as A1 (L.drop p) (n - p) _ _ HD.out (by omega) HX.out (((HA.out.sees (Nat.le_refl _)).alloc_ _).alloc_ _)).mono ?_
  rintro en w1 ⟨rfl, rfl⟩
  rw [HR.out]
  go_wp2_with fail
  with_reducible refine (bad_set A n c p 12 _).mono ?_
  rintro en w1 ⟨rfl, rfl⟩
  go_wp2
  refine bodyPost_ret (v := .tuple #[reader A n c (p : Int) 12, .int .u64 0]) (by simp [results, Try.results27, go_sem]) rfl ⟨rfl, ?_⟩
  exact ((((Below.refl _ _).alloc (Nat.le_refl _) _).alloc (by simp) _).alloc (by simp <;> omega) _).alloc (by simp <;> omega) _

set_option maxRecDepth 100000 in
set_option maxHeartbeats 400000 in
theorem refshort_ok (A : Option Addr) (L : List Nat) (n c p v k : Nat) (most : Int) (w : World) (hL : L.length = n) (hp : p ≤ n) (hn : n ≤ 9223372036854775807) (hc : n ≤ c) (hA0 : A = none → c = 0) (hx : ∀ x ∈ L, x < 256) (hA : Sees .u8 w A L)
    (hr : readN (L.drop p) = (v, k, 0)) (hk : p + k ≤ n) (hm : (v : Int) ≤ most) :
    Calls Try.prog 27 #[reader A n c (p : Int) 0, .int .u64 most] w (Tells2 A n c ((p : Int) + (k : Int)) 0 (.int .u64 (v : Int)) w) := by
  obtain ⟨i0, hi, hz0, hz1, hz2⟩ := info_parts info_u8
  obtain ⟨A1, s1, n1, l1⟩ := cut_rest (P := Try.prog) 22 5 i0 Try.underlying22 hi hz1 hL hp hc hA.held hA0
  have HA := hid l1
  have HX : Hid (∀ x ∈ L.drop p, x < 256) := hid (fun x h => hx x (List.mem_of_mem_drop h))
  have HD : Hid ((L.drop p).length = n - p) := hid (by rw [List.length_drop, hL])
  have HR := hid hr
  clear hA hx hL hr l1 n1 hi hz0 hz1 hz2 hA0
  go_enter Try.func27, Try.ntmps27
  go_wp2_with fail
  with_reducible refine (refreadshort_as A1 (L.drop p) (n - p) _ _ HD.out (by omega) HX.out (((HA.out.sees (Nat.le_refl _)).alloc_ _).alloc_ _)).mono ?_
  rintro en w1 ⟨rfl, rfl⟩
  rw [HR.out]
  go_wp2
  refine bodyPost_ret (v := .tuple #[reader A n c ((p : Int) + (k : Int)) 0, .int .u64 (v : Int)]) (by simp [results, Try.results27, go_sem]) rfl ⟨rfl, ?_⟩
  exact ((Below.refl _ _).alloc (Nat.le_refl _) _).alloc (by simp) _

theorem refshort_any' (A : Option Addr) (L : List Nat) (n c p e most : Nat) (a : Int) (l' : List Nat) (e' v : Nat) (w : World) (ha : a = (most : Int)) (hn : L.length = n) (hp : p ≤ n) (hl : n ≤ 9223372036854775807) (hc : n ≤ c) (hA0 : A = none → c = 0) (hx : ∀ x ∈ L, x < 256) (hA : Sees .u8 w A L) (hs : sShort (rem L p e) e most = (l', e', v)) :
    Calls Try.prog 27 #[reader A n c (p : Int) (e : Int), .int .u64 a] w (RefDoes A n L c l' e' (.int .u64 (v : Int)) w) := by
  subst ha
  unfold sShort at hs
  by_cases he : e = 0
  · subst he
    rw [rem_ok] at hs
    by_cases hz : (readN (L.drop p)).2.2 = 0
    · rw [if_pos hz] at hs
      have hr : readN (L.drop p) = ((readN (L.drop p)).1, (readN (L.drop p)).2.1, 0) := by rw [← hz]
      by_cases hm : most < (readN (L.drop p)).1
      · rw [if_pos hm] at hs
        simp only [Prod.mk.injEq] at hs
        obtain ⟨rfl, rfl, rfl⟩ := hs
        exact (refshort_high A L n c p _ _ most w hn hp hl hc hA0 hx hA hr (by omega)).mono fun en w' h => ⟨p, hp, (rem_err (by decide)).symm, h⟩
      · rw [if_neg hm] at hs
        simp only [Prod.mk.injEq] at hs
        obtain ⟨rfl, rfl, rfl⟩ := hs
        have hk : p + (readN (L.drop p)).2.1 ≤ n := by
          have := (readN_inv (fun x h => hx x (List.mem_of_mem_drop h)) hr).2.1
          rw [List.length_drop] at this
          omega
        exact (refshort_ok A L n c p _ _ most w hn hp hl hc hA0 hx hA hr hk (by omega)).mono fun en w' h => ⟨p + (readN (L.drop p)).2.1, hk, by rw [rem_ok, List.drop_drop], h⟩
    · rw [if_neg hz] at hs
      simp only [Prod.mk.injEq] at hs
      obtain ⟨rfl, rfl, rfl⟩ := hs
      rw [firstE_none]
      exact (refshort_bad A L n c p _ most w hn hp hl hc hA0 (by omega) hx hA (readN_zero hz) (by omega)).mono fun en w' h => ⟨p, hp, (rem_err hz).symm, h⟩
  · have h20 : (readN ([] : List Nat)).2.2 = 20 := rfl
    rw [rem_err he, if_neg (by rw [h20]; decide)] at hs
    simp only [Prod.mk.injEq] at hs
    obtain ⟨rfl, rfl, rfl⟩ := hs
    have e1 : firstE e (readN ([] : List Nat)).2.2 = e := by unfold firstE; rw [if_neg he]
    rw [e1]
    exact (refshort_err A n c _ e _ w (by omega)).mono fun en w' h => ⟨p, hp, (rem_err he).symm, h⟩

set_option maxRecDepth 100000 in
set_option maxHeartbeats 400000 in
theorem refend_any (A : Option Addr) (L : List Nat) (n c p e : Nat) (w : World) (hn : L.length = n) (hp : p ≤ n) :
    Calls Try.prog 10 #[reader A n c (p : Int) (e : Int)] w fun en w' => en = .returned (.int .i64 (endE (rem L p e) e : Int)) ∧ Below w.heap.size w w' := by
  by_cases he : e = 0
  · subst he
    by_cases hlt : p < n
    · have HE : Hid (endE (rem L p 0) 0 = 21) := hid (by
        rw [endE, if_neg]
        rw [rem_ok]
        intro h
        have := congrArg List.length h
        rw [List.length_drop, hn] at this
        simp at this
        omega)
      clear hn
      go_enter Try.func10, Try.ntmps10
      go_wp2
      go_ret
      exact ⟨ret_num (by rw [HE.out]; rfl), (Below.refl _ _).alloc (Nat.le_refl _) _⟩
    · have HE : Hid (endE (rem L p 0) 0 = 0) := hid (by
        rw [endE, if_pos]
        rw [rem_ok, List.drop_of_length_le (by omega)])
      have hge : n ≤ p := by omega
      clear hn hlt
      go_enter Try.func10, Try.ntmps10
      go_wp2
      go_ret
      exact ⟨ret_num (by rw [HE.out]; rfl), (Below.refl _ _).alloc (Nat.le_refl _) _⟩
  · have HE : Hid (endE (rem L p e) e = e) := hid (by rw [endE, if_pos (rem_err he)])
    have he1 : ((e : Int) == 0) = false := by rw [beq_eq_false_iff_ne]; omega
    clear hn he
    go_enter Try.func10, Try.ntmps10
    go_wp2
    go_ret
    exact ⟨ret_num (by rw [HE.out]), (Below.refl _ _).alloc (Nat.le_refl _) _⟩

set_option maxRecDepth 100000 in
set_option maxHeartbeats 400000 in
theorem reftext_err (A : Option Addr) (L l1 : List Nat) (n c p e e1 k most : Nat) (w : World) (hm : most ≤ 9223372036854775807) (hn : L.length = n) (hp : p ≤ n) (hl : n ≤ 9223372036854775807) (hc : n ≤ c) (hA0 : A = none → c = 0) (hx : ∀ x ∈ L, x < 256) (hA : Sees .u8 w A L)
    (hs : sShort (rem L p e) e most = (l1, e1, k)) (he : 0 < e1) :
    Calls Try.prog 29 #[reader A n c (p : Int) (e : Int), .int .i64 (most : Int)] w (RefDoes A n L c [] e1 (.string (strN [])) w) := by
  have HA := hid hA
  have HN := hid hn
  have HB := hid hs
  have H0 := hid hA0
  have HX := hid hx
  have he1 : ((e1 : Int) != 0) = true := by rw [bne_iff_ne]; omega
  clear hA hn hs hA0 hx
  go_enter Try.func29, Try.ntmps29
  go_wp2_with fail
  with_reducible refine (refshort_any' A L n c p e most _ l1 e1 k _ (by omega) HN.out hp hl hc H0.out HX.out ((HA.out.alloc_ _).alloc_ _) HB.out).mono ?_
  rintro en w1 ⟨p1, hp1, _, rfl, hb1⟩
  have B0 := (blk_two hb1).1
  have HB1 := hid (blk_two hb1).2
  have HW := hid (below_two hb1)
  have hsz : w.heap.size + 1 < w1.heap.size := by have := hb1.size; simp at this; omega
  obtain ⟨⟨c0, c1, c2⟩, f0, f1, f2⟩ := blk3 B0
  clear hb1 B0
  go_wp2_with fail
  with_reducible refine (bad_as A n c p1 e1 20 _ (by omega)).mono ?_
  rintro en w2 ⟨rfl, hb2⟩
  have HW2 := hid ((below_put3 HW.out (Nat.le_refl _) _ _ _).trans (hb2.mono (by simp <;> omega)))
  have D1 := (HB1.out.put3_far (g := w.heap.size) (by omega) _ _ _).below hb2 (by simp <;> omega)
  obtain ⟨⟨d0, d1, d2⟩, k0, k1, k2⟩ := blk3 D1
  clear hb2 D1 c0 c1 c2 f0 f1 f2 hsz HW HA
  go_wp2
  refine bodyPost_ret (v := .tuple #[reader A n c (p1 : Int) (e1 : Int), .string (strN [])]) (by simp [results, Try.results29, go_sem, d0, d1, d2]; rfl) rfl ?_
  exact refdoes_end hp1 (rem_err (by omega)).symm (below_put3 HW2.out (by omega) _ _ _)

set_option maxRecDepth 100000 in
set_option maxHeartbeats 400000 in
theorem reftext_few (A : Option Addr) (L l1 : List Nat) (n c p e k most : Nat) (w : World) (hm : most ≤ 9223372036854775807) (hn : L.length = n) (hp : p ≤ n) (hl : n ≤ 9223372036854775807) (hc : n ≤ c) (hA0 : A = none → c = 0) (hx : ∀ x ∈ L, x < 256) (hA : Sees .u8 w A L)
    (hs : sShort (rem L p e) e most = (l1, 0, k)) (hk : l1.length < k) :
    Calls Try.prog 29 #[reader A n c (p : Int) (e : Int), .int .i64 (most : Int)] w (RefDoes A n L c [] 20 (.string (strN [])) w) := by
  have HA := hid hA
  have HN := hid hn
  have HB := hid hs
  have H0 := hid hA0
  have HX := hid hx
  clear hA hn hs hA0 hx
  go_enter Try.func29, Try.ntmps29
  go_wp2_with fail
  with_reducible refine (refshort_any' A L n c p e most _ l1 0 k _ (by omega) HN.out hp hl hc H0.out HX.out ((HA.out.alloc_ _).alloc_ _) HB.out).mono ?_
  rintro en w1 ⟨p1, hp1, hr, rfl, hb1⟩
  have hk2 : n < p1 + k := by rw [hr, rem_ok, List.length_drop, HN.out] at hk; omega
  have B0 := (blk_two hb1).1
  have HB1 := hid (blk_two hb1).2
  have HW := hid (below_two hb1)
  have hsz : w.heap.size + 1 < w1.heap.size := by have := hb1.size; simp at this; omega
  obtain ⟨⟨c0, c1, c2⟩, f0, f1, f2⟩ := blk3 B0
  clear hb1 B0 hr hk
  go_wp2_with fail
  with_reducible refine (bad_to A n c p1 20 _).mono ?_
  rintro en w2 ⟨rfl, hb2⟩
  have HW2 := hid ((below_put3 HW.out (Nat.le_refl _) _ _ _).trans (hb2.mono (by simp <;> omega)))
  have D1 := (HB1.out.put3_far (g := w.heap.size) (by omega) _ _ _).below hb2 (by simp <;> omega)
  obtain ⟨⟨d0, d1, d2⟩, k0, k1, k2⟩ := blk3 D1
  clear hb2 D1 c0 c1 c2 f0 f1 f2 hsz HW HA
  go_wp2
  refine bodyPost_ret (v := .tuple #[reader A n c (p1 : Int) 20, .string (strN [])]) (by simp [results, Try.results29, go_sem, d0, d1, d2]; rfl) rfl ?_
  exact refdoes_end (e' := 20) hp1 (rem_err (by decide)).symm (below_put3 HW2.out (by omega) _ _ _)

set_option maxRecDepth 100000 in
set_option maxHeartbeats 400000 in
theorem reftext_ok (A : Option Addr) (L l1 : List Nat) (n c p e k most : Nat) (w : World) (hm : most ≤ 9223372036854775807) (hn : L.length = n) (hp : p ≤ n) (hl : n ≤ 9223372036854775807) (hc : n ≤ c) (hA0 : A = none → c = 0) (hx : ∀ x ∈ L, x < 256) (hA : Sees .u8 w A L)
    (hs : sShort (rem L p e) e most = (l1, 0, k)) (hk : k ≤ l1.length) :
    Calls Try.prog 29 #[reader A n c (p : Int) (e : Int), .int .i64 (most : Int)] w (RefDoes A n L c (l1.drop k) 0 (.string (strN (l1.take k))) w) := by
  obtain ⟨i0, hi, hz0, hz1, hz2⟩ := info_parts info_u8
  have HA := hid hA
  have HN := hid hn
  have HB := hid hs
  have H0 := hid hA0
  have HX := hid hx
  clear hA hn hs hA0 hx
  go_enter Try.func29, Try.ntmps29
  go_wp2_with fail
  with_reducible refine (refshort_any' A L n c p e most _ l1 0 k _ (by omega) HN.out hp hl hc H0.out HX.out ((HA.out.alloc_ _).alloc_ _) HB.out).mono ?_
  rintro en w1 ⟨p1, hp1, hr, rfl, hb1⟩
  rw [rem_ok] at hr
  have hk2 : p1 + k ≤ n := by rw [hr, List.length_drop, HN.out] at hk; omega
  have B0 := (blk_two hb1).1
  have B1 := (blk_two hb1).2
  have HW := hid (below_two hb1)
  have hsz : w.heap.size + 1 < w1.heap.size := by have := hb1.size; simp at this; omega
  obtain ⟨⟨c0, c1, c2⟩, f0, f1, f2⟩ := blk3 B0
  obtain ⟨⟨d0, d1, d2⟩, k0, k1, k2⟩ := blk3 B1
  obtain ⟨A1, s1, n1, h1⟩ := cut_mid (P := Try.prog) (k := p1) (m := p1 + k) 22 5 i0 Try.underlying22 hi hz1 HN.out (by omega) hk2 hc HA.out.held H0.out
  rw [Nat.add_sub_cancel_left, Int.natCast_add] at s1
  rw [Nat.add_sub_cancel_left, ← hr] at h1
  have hlk : (l1.take k).length = k := by rw [List.length_take]; omega
  have hW3 := below_put3 HW.out (Nat.le_refl _) (.slice A n c) (.int .i64 (p1 : Int)) (.int .i64 0)
  have hcv : (convert 22 9 (.slice A1 k (c - p1))).run Try.prog (((w1.setCell ⟨w.heap.size, 0, none⟩ (.slice A n c)).setCell ⟨w.heap.size, 1, none⟩ (.int .i64 (p1 : Int))).setCell ⟨w.heap.size, 2, none⟩ (.int .i64 0)) =
      .ok (.string (strN (l1.take k))) (((w1.setCell ⟨w.heap.size, 0, none⟩ (.slice A n c)).setCell ⟨w.heap.size, 1, none⟩ (.int .i64 (p1 : Int))).setCell ⟨w.heap.size, 2, none⟩ (.int .i64 0)) := sees_convert ((h1.below hW3).sees hW3.size) hlk (c - p1)
  have hkI : k ≤ 9223372036854775807 := by omega
  have HR := hid hr
  have HCV := hid hcv
  have HC0 : Hid (Blk (((w1.setCell ⟨w.heap.size, 0, none⟩ (.slice A n c)).setCell ⟨w.heap.size, 1, none⟩ (.int .i64 (p1 : Int))).setCell ⟨w.heap.size, 2, none⟩ (.int .i64 0)) w.heap.size 28 #[.slice A n c, .int .i64 (p1 : Int), .int .i64 0]) := hid (Blk.put3 B0 (.slice A n c) (.int .i64 (p1 : Int)) (.int .i64 0))
  have HC1 : Hid (Blk (((w1.setCell ⟨w.heap.size, 0, none⟩ (.slice A n c)).setCell ⟨w.heap.size, 1, none⟩ (.int .i64 (p1 : Int))).setCell ⟨w.heap.size, 2, none⟩ (.int .i64 0)) (w.heap.size + 1) 28 #[.slice none 0 0, .int .i64 0, .int .i64 0]) := hid (B1.put3_far (g := w.heap.size) (by omega) (.slice A n c) (.int .i64 (p1 : Int)) (.int .i64 0))
  have HW3 : Hid (Below w.heap.size w (((w1.setCell ⟨w.heap.size, 0, none⟩ (.slice A n c)).setCell ⟨w.heap.size, 1, none⟩ (.int .i64 (p1 : Int))).setCell ⟨w.heap.size, 2, none⟩ (.int .i64 0))) := hid hW3
  clear hb1 B0 B1 hr hk hlk h1 n1 hi hz0 hz1 hz2 hW3 hcv
  go_wp2
  rw [HCV.out]
  generalize ((w1.setCell ⟨w.heap.size, 0, none⟩ (.slice A n c)).setCell ⟨w.heap.size, 1, none⟩ (.int .i64 (p1 : Int))).setCell ⟨w.heap.size, 2, none⟩ (.int .i64 0) = w2 at *
  clear c0 c1 c2 f0 f1 f2 d0 d1 d2 k0 k1 k2 s1 HCV
  obtain ⟨⟨c0, c1, c2⟩, f0, f1, f2⟩ := blk3 HC0.out
  obtain ⟨⟨d0, d1, d2⟩, k0, k1, k2⟩ := blk3 HC1.out
  go_wp2
  refine bodyPost_ret (v := .tuple #[reader A n c ((p1 : Int) + (k : Int)) 0, .string (strN (l1.take k))]) (by simp [results, Try.results29, go_sem, d0, d1, d2]) rfl ?_
  have hb := below_put3 (g := w.heap.size + 1) (Below.setCell (p := ⟨w.heap.size, 1, none⟩) HW3.out (Nat.le_refl _) (.int .i64 ((p1 : Int) + (k : Int)))) (by omega) (.slice A n c) (.int .i64 ((p1 : Int) + (k : Int))) (.int .i64 0)
  exact refdoes_end (p' := p1 + k) (e' := 0) hk2 (by rw [HR.out, rem_ok, List.drop_drop]) hb

theorem reftext_any (A : Option Addr) (L : List Nat) (n c p e most : Nat) (a : Int) (l' : List Nat) (e' : Nat) (t : List Nat) (w : World) (ha : a = (most : Int)) (hm : most ≤ 9223372036854775807) (hn : L.length = n) (hp : p ≤ n) (hl : n ≤ 9223372036854775807) (hc : n ≤ c) (hA0 : A = none → c = 0) (hx : ∀ x ∈ L, x < 256) (hA : Sees .u8 w A L)
    (hs : sText (rem L p e) e most = (l', e', t)) :
    Calls Try.prog 29 #[reader A n c (p : Int) (e : Int), .int .i64 a] w (RefDoes A n L c l' e' (.string (strN t)) w) := by
  subst ha
  have e3 : sShort (rem L p e) e most = ((sShort (rem L p e) e most).1, (sShort (rem L p e) e most).2.1, (sShort (rem L p e) e most).2.2) := rfl
  unfold sText at hs
  by_cases h0 : (sShort (rem L p e) e most).2.1 = 0
  · rw [h0] at e3
    by_cases hk : (sShort (rem L p e) e most).2.2 ≤ (sShort (rem L p e) e most).1.length
    · rw [if_pos ⟨h0, hk⟩] at hs
      simp only [Prod.mk.injEq] at hs
      obtain ⟨rfl, rfl, rfl⟩ := hs
      exact reftext_ok A L _ n c p e _ most w hm hn hp hl hc hA0 hx hA e3 hk
    · rw [if_neg (fun h => hk h.2), h0] at hs
      simp only [Prod.mk.injEq] at hs
      obtain ⟨rfl, rfl, rfl⟩ := hs
      exact reftext_few A L _ n c p e _ most w hm hn hp hl hc hA0 hx hA e3 (by omega)
  · rw [if_neg (fun h => h0 h.1)] at hs
    simp only [Prod.mk.injEq] at hs
    obtain ⟨rfl, rfl, rfl⟩ := hs
    have e1 : firstE (sShort (rem L p e) e most).2.1 20 = (sShort (rem L p e) e most).2.1 := by unfold firstE; rw [if_neg h0]
    rw [e1]
    exact reftext_err A L _ n c p e _ _ most w hm hn hp hl hc hA0 hx hA e3 (by omega)

end Go.Proofs.Ytjefhnhlkhnogaa
