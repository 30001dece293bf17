/-
  Contracts of the document's own reader: Short, Text, End.
-/
import Derived.Test.YtfpmmajgnijboaaRefI
namespace Go.Proofs.Ytfpmmajgnijboaa
open Go.ChangeShapes Go.WideShapes Go.ChangeAt Go.RowKit

theorem refreadshort_as (A : Option Addr) (l : List Nat) (m ca : Nat) (w : World) (hm : l.length = m) (hl : m ≤ 9223372036854775807) (h8 : ∀ x ∈ l, x < 256) (hA : Sees .u8 w A l) :
    Calls Try.prog 34 #[.slice A m ca] w (Tells (readN l) w) := by
  subst hm; exact refreadshort_any A l ca w hl h8 hA

set_option maxRecDepth 100000 in
set_option maxHeartbeats 400000 in
theorem refshort_err (A : Option Addr) (n c : Nat) (p : Int) (e : Nat) (most : Int) (w : World) (he : 0 < e) :
    Calls Try.prog 29 #[reader A n c p (e : Int), .int .u64 most] w (Tells2 A n c p (e : Int) (.int .u64 0) w) := by
  have he1 : ((e : Int) != 0) = true := by rw [bne_iff_ne]; omega
  go_enter Try.func29, Try.ntmps29
  go_wp2
  refine bodyPost_ret (v := .tuple #[reader A n c p (e : Int), .int .u64 0]) (by simp [results, Try.results29, go_sem]) rfl ⟨rfl, ?_⟩
  exact ((Below.refl _ _).alloc (Nat.le_refl _) _).alloc (by simp) _

set_option maxRecDepth 100000 in
set_option maxHeartbeats 400000 in
theorem refshort_bad (A : Option Addr) (L : List Nat) (n c p z : Nat) (most : Int) (w : World) (hL : L.length = n) (hp : p ≤ n) (hn : n ≤ 9223372036854775807) (hc : n ≤ c) (hA0 : A = none → c = 0) (_hm : 0 ≤ most) (hx : ∀ x ∈ L, x < 256) (hA : Sees .u8 w A L)
    (hr : readN (L.drop p) = (0, 0, z)) (hz : 0 < z) :
    Calls Try.prog 29 #[reader A n c (p : Int) 0, .int .u64 most] w (Tells2 A n c (p : Int) (z : Int) (.int .u64 0) w) := by
  obtain ⟨i0, hi, hz0, hz1, hz2⟩ := info_parts info_u8
  obtain ⟨A1, s1, n1, l1⟩ := cut_rest (P := Try.prog) 39 5 i0 Try.underlying39 hi hz1 hL hp hc hA.held hA0
  have HA := hid l1
  have HX : Hid (∀ x ∈ L.drop p, x < 256) := hid (fun x h => hx x (List.mem_of_mem_drop h))
  have HD : Hid ((L.drop p).length = n - p) := hid (by rw [List.length_drop, hL])
  have HR := hid hr
  have he1 : ((z : Int) != 0) = true := by rw [bne_iff_ne]; omega
  clear hA hx hL hr l1 n1 hi hz0 hz1 hz2 hA0
  go_enter Try.func29, Try.ntmps29
  go_wp2_with fail
  with_reducible refine (refreadshort_as A1 (L.drop p) (n - p) _ _ HD.out (by omega) HX.out (((HA.out.sees (Nat.le_refl _)).alloc_ _).alloc_ _)).mono ?_
  rintro en w1 ⟨rfl, rfl⟩
  rw [HR.out]
  go_wp2_with fail
  with_reducible refine (bad_set A n c p (z : Int) _).mono ?_
  rintro en w1 ⟨rfl, rfl⟩
  go_wp2
  refine bodyPost_ret (v := .tuple #[reader A n c (p : Int) (z : Int), .int .u64 0]) (by simp [results, Try.results29, go_sem]) rfl ⟨rfl, ?_⟩
  exact ((((Below.refl _ _).alloc (Nat.le_refl _) _).alloc (by simp) _).alloc (by simp <;> omega) _).alloc (by simp <;> omega) _

set_option maxRecDepth 100000 in
set_option maxHeartbeats 400000 in
theorem refshort_high (A : Option Addr) (L : List Nat) (n c p v k : Nat) (most : Int) (w : World) (hL : L.length = n) (hp : p ≤ n) (hn : n ≤ 9223372036854775807) (hc : n ≤ c) (hA0 : A = none → c = 0) (hx : ∀ x ∈ L, x < 256) (hA : Sees .u8 w A L)
    (hr : readN (L.drop p) = (v, k, 0)) (hm : most < (v : Int)) :
    Calls Try.prog 29 #[reader A n c (p : Int) 0, .int .u64 most] w (Tells2 A n c (p : Int) 12 (.int .u64 0) w) := by
  obtain ⟨i0, hi, hz0, hz1, hz2⟩ := info_parts info_u8
  obtain ⟨A1, s1, n1, l1⟩ := cut_rest (P := Try.prog) 39 5 i0 Try.underlying39 hi hz1 hL hp hc hA.held hA0
  have HA := hid l1
  have HX : Hid (∀ x ∈ L.drop p, x < 256) := hid (fun x h => hx x (List.mem_of_mem_drop h))
  have HD : Hid ((L.drop p).length = n - p) := hid (by rw [List.length_drop, hL])
  have HR := hid hr
  clear hA hx hL hr l1 n1 hi hz0 hz1 hz2 hA0
  go_enter Try.func29, Try.ntmps29
  go_wp2_with fail
  with_reducible refine (refreadshort_as A1 (L.drop p) (n - p) _ _ HD.out (by omega) HX.out (((HA.out.sees (Nat.le_refl _)).alloc_ _).alloc_ _)).mono ?_
  rintro en w1 ⟨rfl, rfl⟩
  rw [HR.out]
  go_wp2_with fail
  with_reducible refine (bad_set A n c p 12 _).mono ?_
  rintro en w1 ⟨rfl, rfl⟩
  go_wp2
  refine bodyPost_ret (v := .tuple #[reader A n c (p : Int) 12, .int .u64 0]) (by simp [results, Try.results29, go_sem]) rfl ⟨rfl, ?_⟩
  exact ((((Below.refl _ _).alloc (Nat.le_refl _) _).alloc (by simp) _).alloc (by simp <;> omega) _).alloc (by simp <;> omega) _

set_option maxRecDepth 100000 in
set_option maxHeartbeats 400000 in
theorem refshort_ok (A : Option Addr) (L : List Nat) (n c p v k : Nat) (most : Int) (w : World) (hL : L.length = n) (hp : p ≤ n) (hn : n ≤ 9223372036854775807) (hc : n ≤ c) (hA0 : A = none → c = 0) (hx : ∀ x ∈ L, x < 256) (hA : Sees .u8 w A L)
    (hr : readN (L.drop p) = (v, k, 0)) (hk : p + k ≤ n) (hm : (v : Int) ≤ most) :
    Calls Try.prog 29 #[reader A n c (p : Int) 0, .int .u64 most] w (Tells2 A n c ((p : Int) + (k : Int)) 0 (.int .u64 (v : Int)) w) := by
  obtain ⟨i0, hi, hz0, hz1, hz2⟩ := info_parts info_u8
  obtain ⟨A1, s1, n1, l1⟩ := cut_rest (P := Try.prog) 39 5 i0 Try.underlying39 hi hz1 hL hp hc hA.held hA0
  have HA := hid l1
  have HX : Hid (∀ x ∈ L.drop p, x < 256) := hid (fun x h => hx x (List.mem_of_mem_drop h))
  have HD : Hid ((L.drop p).length = n - p) := hid (by rw [List.length_drop, hL])
  have HR := hid hr
  clear hA hx hL hr l1 n1 hi hz0 hz1 hz2 hA0
  go_enter Try.func29, Try.ntmps29
  go_wp2_with fail
  with_reducible refine (refreadshort_as A1 (L.drop p) (n - p) _ _ HD.out (by omega) HX.out (((HA.out.sees (Nat.le_refl _)).alloc_ _).alloc_ _)).mono ?_
  rintro en w1 ⟨rfl, rfl⟩
  rw [HR.out]
  go_wp2
  refine bodyPost_ret (v := .tuple #[reader A n c ((p : Int) + (k : Int)) 0, .int .u64 (v : Int)]) (by simp [results, Try.results29, go_sem]) rfl ⟨rfl, ?_⟩
  exact ((Below.refl _ _).alloc (Nat.le_refl _) _).alloc (by simp) _

theorem refshort_any' (A : Option Addr) (L : List Nat) (n c p e most : Nat) (a : Int) (l' : List Nat) (e' v : Nat) (w : World) (ha : a = (most : Int)) (hn : L.length = n) (hp : p ≤ n) (hl : n ≤ 9223372036854775807) (hc : n ≤ c) (hA0 : A = none → c = 0) (hx : ∀ x ∈ L, x < 256) (hA : Sees .u8 w A L) (hs : sShort (rem L p e) e most = (l', e', v)) :
    Calls Try.prog 29 #[reader A n c (p : Int) (e : Int), .int .u64 a] w (RefDoes A n L c l' e' (.int .u64 (v : Int)) w) := by
  subst ha
  unfold sShort at hs
  by_cases he : e = 0
  · subst he
    rw [rem_ok] at hs
    by_cases hz : (readN (L.drop p)).2.2 = 0
    · rw [if_pos hz] at hs
      have hr : readN (L.drop p) = ((readN (L.drop p)).1, (readN (L.drop p)).2.1, 0) := by rw [← hz]
      by_cases hm : most < (readN (L.drop p)).1
      · rw [if_pos hm] at hs
        simp only [Prod.mk.injEq] at hs
        obtain ⟨rfl, rfl, rfl⟩ := hs
        exact (refshort_high A L n c p _ _ most w hn hp hl hc hA0 hx hA hr (by omega)).mono fun en w' h => ⟨p, hp, (rem_err (by decide)).symm, h⟩
      · rw [if_neg hm] at hs
        simp only [Prod.mk.injEq] at hs
        obtain ⟨rfl, rfl, rfl⟩ := hs
        have hk : p + (readN (L.drop p)).2.1 ≤ n := by
          have := (readN_inv (fun x h => hx x (List.mem_of_mem_drop h)) hr).2.1
          rw [List.length_drop] at this
          omega
        exact (refshort_ok A L n c p _ _ most w hn hp hl hc hA0 hx hA hr hk (by omega)).mono fun en w' h => ⟨p + (readN (L.drop p)).2.1, hk, by rw [rem_ok, List.drop_drop], h⟩
    · rw [if_neg hz] at hs
      simp only [Prod.mk.injEq] at hs
      obtain ⟨rfl, rfl, rfl⟩ := hs
      rw [firstE_none]
      exact (refshort_bad A L n c p _ most w hn hp hl hc hA0 (by omega) hx hA (readN_zero hz) (by omega)).mono fun en w' h => ⟨p, hp, (rem_err hz).symm, h⟩
  · have h20 : (readN ([] : List Nat)).2.2 = 20 := rfl
    rw [rem_err he, if_neg (by rw [h20]; decide)] at hs
    simp only [Prod.mk.injEq] at hs
    obtain ⟨rfl, rfl, rfl⟩ := hs
    have e1 : firstE e (readN ([] : List Nat)).2.2 = e := by unfold firstE; rw [if_neg he]
    rw [e1]
    exact (refshort_err A n c _ e _ w (by omega)).mono fun en w' h => ⟨p, hp, (rem_err he).symm, h⟩

set_option maxRecDepth 100000 in
set_option maxHeartbeats 400000 in
theorem refend_any (A : Option Addr) (L : List Nat) (n c p e : Nat) (w : World) (hn : L.length = n) (hp : p ≤ n) :
    Calls Try.prog 24 #[reader A n c (p : Int) (e : Int)] w fun en w' => en = .returned (.int .i64 (endE (rem L p e) e : Int)) ∧ Below w.heap.size w w' := by
  by_cases he : e = 0
  · subst he
    by_cases hlt : p < n
    · have HE : Hid (endE (rem L p 0) 0 = 21) := hid (by
        rw [endE, if_neg]
        rw [rem_ok]
        intro h
        have := congrArg List.length h
        rw [List.length_drop, hn] at this
        simp at this
        omega)
      clear hn
      go_enter Try.func24, Try.ntmps24
      go_wp2
      go_ret
      exact ⟨ret_num (by rw [HE.out]; rfl), (Below.refl _ _).alloc (Nat.le_refl _) _⟩
    · have HE : Hid (endE (rem L p 0) 0 = 0) := hid (by
        rw [endE, if_pos]
        rw [rem_ok, List.drop_of_length_le (by omega)])
      have hge : n ≤ p := by omega
      clear hn hlt
      go_enter Try.func24, Try.ntmps24
      go_wp2
      go_ret
      exact ⟨ret_num (by rw [HE.out]; rfl), (Below.refl _ _).alloc (Nat.le_refl _) _⟩
  · have HE : Hid (endE (rem L p e) e = e) := hid (by rw [endE, if_pos (rem_err he)])
    have he1 : ((e : Int) == 0) = false := by rw [beq_eq_false_iff_ne]; omega
    clear hn he
    go_enter Try.func24, Try.ntmps24
    go_wp2
    go_ret
    exact ⟨ret_num (by rw [HE.out]), (Below.refl _ _).alloc (Nat.le_refl _) _⟩

end Go.Proofs.Ytfpmmajgnijboaa
