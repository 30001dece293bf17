/-
  The law's own step: truths, short and fixed numbers, texts.
-/
import Derived.Test.YtjefhnhlkhnogaaTakeA
import Derived.RegionTactic
import Derived.Deep.RegionHeld3
import Derived.Deep.DrawnRows
namespace Go.Proofs.Ytjefhnhlkhnogaa
open Go.ChangeShapes Go.WideShapes Go.ChangeAt Go.RowKit
attribute [local go_sem ↓] Go.wp_at_zero Go.wp_at_succ
set_option linter.unusedVariables false

theorem and4 {a b c x y z : Prop} (h : (a ∧ b ∧ c)) (k : (x ∧ y ∧ z)) : a ∧ b ∧ c ∧ y := ⟨h.1, h.2.1, h.2.2, k.2.1⟩

set_option maxRecDepth 100000 in
set_option maxHeartbeats 1000000 in
theorem take_truth (A : Option Addr) (L : List Nat) (n c p e g : Nat) (N : Nat) (s : ByteArray) (w : World) (hn : L.length = n) (hp : p ≤ n) (hl : n ≤ 9223372036854775807) (hN : (N : Int) ≤ 18446744073709551615) (hx : ∀ x ∈ L, x < 256) (hc : n ≤ c) (hA0 : A = none → c = 0) (hA : Sees .u8 w A L) (hI : InAt w g (rem L p e) e) :
    Calls Try.prog 7 #[.pointer (some ⟨g, 0, none⟩), reader A n c (p : Int) (e : Int), .agg #[.int .i64 2, .int .u64 (N : Int), .string s]] w (TakeDoes A n L c g w) := by
  obtain ⟨l', e', v, hs⟩ : ∃ l' e' v, sTruth (rem L p e) e = (l', e', v) := ⟨_, _, _, rfl⟩
  have HA := hid hA
  have HX := hid hx
  have H0 := hid hA0
  have HRX := hid (fun x (h : x ∈ rem L p e) => hx x (rem_in x h))
  have hrl := rem_len L p e
  rw [hn] at hrl
  have HN := hid hn
  have HS := hid hs
  have HI := hid hI
  have hgl := hI.lt
  clear hA hn hs hI hx hA0
  go_enter Try.func7, Try.ntmps7
  go_wp2_with fail
  with_reducible refine (reftruth_any A L n c p e l' e' v _ HN.out hp hl (((HA.out.alloc_ _).alloc_ _).alloc_ _) HS.out).mono ?_
  rintro en w1 ⟨p1, hp1, hr, rfl, hb1⟩
  obtain ⟨B0, B1, B2, hW, hsz⟩ := blk_three hb1
  have HR := hid hr
  have hWa := hW.alloc (Nat.le_trans (Nat.le_add_right _ 3) hsz) (.cells #[.slice A n c, .int .i64 (p1 : Int), .int .i64 (e' : Int)] 28)
  have HB2 : Hid (Blk (w1.alloc (.cells #[.slice A n c, .int .i64 (p1 : Int), .int .i64 (e' : Int)] 28)) (w.heap.size + 1 + 1) 28 #[.slice none 0 0, .int .i64 0, .int .i64 0]) := hid (B2.alloc _)
  have HY := hid (Blk.new w1 28 #[.slice A n c, .int .i64 (p1 : Int), .int .i64 (e' : Int)])
  have HI1 := hid (HI.out.keep (hWa.mono hgl))
  have HW := hid hWa
  have hg6 : g < w.heap.size + 1 + 1 := by omega
  have hgy : w.heap.size + 1 + 1 < w1.heap.size := by omega
  have hge : w.heap.size ≤ w.heap.size + 1 + 1 := by omega
  clear hb1 hr B0 B1 B2 hW hWa
  go_wp2
  generalize w1.alloc (.cells #[.slice A n c, .int .i64 (p1 : Int), .int .i64 (e' : Int)] 28) = W at *
  generalize w.heap.size + 1 + 1 = g6 at *
  generalize w1.heap.size = gy at *
  obtain ⟨⟨y0, y1, y2⟩, _, _, _⟩ := blk3 HY.out
  obtain ⟨⟨d0, d1, d2⟩, k0, k1, k2⟩ := blk3 HB2.out
  have HIp := hid (HI1.out.put3 hg6 (.slice A n c) (.int .i64 (p1 : Int)) (.int .i64 (e' : Int)))
  have HYp := hid (HY.out.put3_far (g := g6) (by omega) (.slice A n c) (.int .i64 (p1 : Int)) (.int .i64 (e' : Int)))
  have hyg : gy ≠ g := by omega
  have hrg : some g6 ≠ some g := by simp; omega
  have hyr : some gy ≠ some g := by simp; omega
  have hy6 : gy ≠ g6 := by omega
  have HZp := hid (HB2.out.put3 (.slice A n c) (.int .i64 (p1 : Int)) (.int .i64 (e' : Int)))
  go_region_held3 (fun w' => w'.cell? ⟨gy, 0, none⟩ = some (.slice A n c) ∧ w'.cell? ⟨gy, 1, none⟩ = some (.int .i64 (p1 : Int)) ∧ w'.cell? ⟨gy, 2, none⟩ = some (.int .i64 (e' : Int)))
    (first | exact ⟨y0, y1, y2⟩ | exact (blk3 (HY3.out.put3_far hy6 _ _ _)).1 | exact (blk3 HYp.out).1 | exact kept3 (Blk.drew HY.out) hg3 hyg | exact kept3 (Blk.drew HYp.out) hg3 hyg | go_keep)
    ((go_at_call 19; refine (truth_any g _ _ l' e' v _ (by first | exact HI1.out | exact HIp.out) (rem_fine L p e) HRX.out HS.out).mono ?_; rintro en w3 ⟨rfl, hin3, hg3⟩; first | (obtain ⟨⟨q0, q1, q2⟩, r0, r1, r2⟩ := blk3 (Blk.grown (Blk.drew HB2.out) hg3 hrg); have HY3 := hid (Blk.grown (Blk.drew HY.out) hg3 hyr)) | (obtain ⟨⟨q0, q1, q2⟩, r0, r1, r2⟩ := blk3 (Blk.grown (Blk.drew HZp.out) hg3 hrg))))
  all_goals
    go_wp2
    refine bodyPost_ret (v := .tuple #[reader A n c (p1 : Int) (e' : Int), .bool true]) (by simp [results, Try.results7, go_sem, q0, q1, q2]) rfl ?_
    first | exact take_endA HW.out hg3 hin3 HR.out hg6 hge hp1 _ _ _ | exact take_endB HW.out hg3 hin3 HR.out hge hp1

set_option maxRecDepth 100000 in
set_option maxHeartbeats 1000000 in
theorem take_fixed (A : Option Addr) (L : List Nat) (n c p e g : Nat) (N : Nat) (s : ByteArray) (w : World) (hn : L.length = n) (hp : p ≤ n) (hl : n ≤ 9223372036854775807) (hN : (N : Int) ≤ 18446744073709551615) (hx : ∀ x ∈ L, x < 256) (hc : n ≤ c) (hA0 : A = none → c = 0) (hA : Sees .u8 w A L) (hI : InAt w g (rem L p e) e) :
    Calls Try.prog 7 #[.pointer (some ⟨g, 0, none⟩), reader A n c (p : Int) (e : Int), .agg #[.int .i64 4, .int .u64 (N : Int), .string s]] w (TakeDoes A n L c g w) := by
  obtain ⟨l', e', v, hs⟩ : ∃ l' e' v, sFixed (rem L p e) e = (l', e', v) := ⟨_, _, _, rfl⟩
  have HA := hid hA
  have HX := hid hx
  have H0 := hid hA0
  have HRX := hid (fun x (h : x ∈ rem L p e) => hx x (rem_in x h))
  have hrl := rem_len L p e
  rw [hn] at hrl
  have HN := hid hn
  have HS := hid hs
  have HI := hid hI
  have hgl := hI.lt
  clear hA hn hs hI hx hA0
  go_enter Try.func7, Try.ntmps7
  go_wp2_with fail
  with_reducible refine (reffixed_any A L n c p e l' e' v _ HN.out hp hl HX.out (((HA.out.alloc_ _).alloc_ _).alloc_ _) HS.out).mono ?_
  rintro en w1 ⟨p1, hp1, hr, rfl, hb1⟩
  obtain ⟨B0, B1, B2, hW, hsz⟩ := blk_three hb1
  have HR := hid hr
  have hWa := hW.alloc (Nat.le_trans (Nat.le_add_right _ 3) hsz) (.cells #[.slice A n c, .int .i64 (p1 : Int), .int .i64 (e' : Int)] 28)
  have HB2 : Hid (Blk (w1.alloc (.cells #[.slice A n c, .int .i64 (p1 : Int), .int .i64 (e' : Int)] 28)) (w.heap.size + 1 + 1) 28 #[.slice none 0 0, .int .i64 0, .int .i64 0]) := hid (B2.alloc _)
  have HY := hid (Blk.new w1 28 #[.slice A n c, .int .i64 (p1 : Int), .int .i64 (e' : Int)])
  have HI1 := hid (HI.out.keep (hWa.mono hgl))
  have HW := hid hWa
  have hg6 : g < w.heap.size + 1 + 1 := by omega
  have hgy : w.heap.size + 1 + 1 < w1.heap.size := by omega
  have hge : w.heap.size ≤ w.heap.size + 1 + 1 := by omega
  clear hb1 hr B0 B1 B2 hW hWa
  go_wp2
  generalize w1.alloc (.cells #[.slice A n c, .int .i64 (p1 : Int), .int .i64 (e' : Int)] 28) = W at *
  generalize w.heap.size + 1 + 1 = g6 at *
  generalize w1.heap.size = gy at *
  obtain ⟨⟨y0, y1, y2⟩, _, _, _⟩ := blk3 HY.out
  obtain ⟨⟨d0, d1, d2⟩, k0, k1, k2⟩ := blk3 HB2.out
  have HIp := hid (HI1.out.put3 hg6 (.slice A n c) (.int .i64 (p1 : Int)) (.int .i64 (e' : Int)))
  have HYp := hid (HY.out.put3_far (g := g6) (by omega) (.slice A n c) (.int .i64 (p1 : Int)) (.int .i64 (e' : Int)))
  have hyg : gy ≠ g := by omega
  have hrg : some g6 ≠ some g := by simp; omega
  have hyr : some gy ≠ some g := by simp; omega
  have hy6 : gy ≠ g6 := by omega
  have HZp := hid (HB2.out.put3 (.slice A n c) (.int .i64 (p1 : Int)) (.int .i64 (e' : Int)))
  go_region_held3 (fun w' => w'.cell? ⟨gy, 0, none⟩ = some (.slice A n c) ∧ w'.cell? ⟨gy, 1, none⟩ = some (.int .i64 (p1 : Int)) ∧ w'.cell? ⟨gy, 2, none⟩ = some (.int .i64 (e' : Int)))
    (first | exact ⟨y0, y1, y2⟩ | exact (blk3 (HY3.out.put3_far hy6 _ _ _)).1 | exact (blk3 HYp.out).1 | exact kept3 (Blk.drew HY.out) hg3 hyg | exact kept3 (Blk.drew HYp.out) hg3 hyg | go_keep)
    ((go_at_call 21; refine (infixed_any g _ _ l' e' v _ (by first | exact HI1.out | exact HIp.out) (rem_fine L p e) HRX.out HS.out).mono ?_; rintro en w3 ⟨rfl, hin3, hg3⟩; first | (obtain ⟨⟨q0, q1, q2⟩, r0, r1, r2⟩ := blk3 (Blk.grown (Blk.drew HB2.out) hg3 hrg); have HY3 := hid (Blk.grown (Blk.drew HY.out) hg3 hyr)) | (obtain ⟨⟨q0, q1, q2⟩, r0, r1, r2⟩ := blk3 (Blk.grown (Blk.drew HZp.out) hg3 hrg))))
  all_goals
    go_wp2
    refine bodyPost_ret (v := .tuple #[reader A n c (p1 : Int) (e' : Int), .bool true]) (by simp [results, Try.results7, go_sem, q0, q1, q2]) rfl ?_
    first | exact take_endA HW.out hg3 hin3 HR.out hg6 hge hp1 _ _ _ | exact take_endB HW.out hg3 hin3 HR.out hge hp1

set_option maxRecDepth 100000 in
set_option maxHeartbeats 1000000 in
theorem take_short (A : Option Addr) (L : List Nat) (n c p e g : Nat) (N : Nat) (s : ByteArray) (w : World) (hn : L.length = n) (hp : p ≤ n) (hl : n ≤ 9223372036854775807) (hN : (N : Int) ≤ 18446744073709551615) (hx : ∀ x ∈ L, x < 256) (hc : n ≤ c) (hA0 : A = none → c = 0) (hA : Sees .u8 w A L) (hI : InAt w g (rem L p e) e) :
    Calls Try.prog 7 #[.pointer (some ⟨g, 0, none⟩), reader A n c (p : Int) (e : Int), .agg #[.int .i64 3, .int .u64 (N : Int), .string s]] w (TakeDoes A n L c g w) := by
  obtain ⟨l', e', v, hs⟩ : ∃ l' e' v, sShort (rem L p e) e N = (l', e', v) := ⟨_, _, _, rfl⟩
  have HA := hid hA
  have HX := hid hx
  have H0 := hid hA0
  have HRX := hid (fun x (h : x ∈ rem L p e) => hx x (rem_in x h))
  have hrl := rem_len L p e
  rw [hn] at hrl
  have HN := hid hn
  have HS := hid hs
  have HI := hid hI
  have hgl := hI.lt
  clear hA hn hs hI hx hA0
  go_enter Try.func7, Try.ntmps7
  go_wp2_with fail
  with_reducible refine (refshort_any' A L n c p e N _ l' e' v _ rfl HN.out hp hl hc H0.out HX.out (((HA.out.alloc_ _).alloc_ _).alloc_ _) HS.out).mono ?_
  rintro en w1 ⟨p1, hp1, hr, rfl, hb1⟩
  obtain ⟨B0, B1, B2, hW, hsz⟩ := blk_three hb1
  have HR := hid hr
  have hWa := hW.alloc (Nat.le_trans (Nat.le_add_right _ 3) hsz) (.cells #[.slice A n c, .int .i64 (p1 : Int), .int .i64 (e' : Int)] 28)
  have HB2 : Hid (Blk (w1.alloc (.cells #[.slice A n c, .int .i64 (p1 : Int), .int .i64 (e' : Int)] 28)) (w.heap.size + 1 + 1) 28 #[.slice none 0 0, .int .i64 0, .int .i64 0]) := hid (B2.alloc _)
  have HY := hid (Blk.new w1 28 #[.slice A n c, .int .i64 (p1 : Int), .int .i64 (e' : Int)])
  have HI1 := hid (HI.out.keep (hWa.mono hgl))
  have HW := hid hWa
  have HOp : Hid (Blk (w1.alloc (.cells #[.slice A n c, .int .i64 (p1 : Int), .int .i64 (e' : Int)] 28)) (w.heap.size + 1) 31 #[.int .i64 3, .int .u64 (N : Int), .string s]) := hid (B1.alloc _)
  have hgo : g < w.heap.size + 1 := by omega
  have hgo6 : w.heap.size + 1 ≠ w.heap.size + 1 + 1 := by omega
  have hg6 : g < w.heap.size + 1 + 1 := by omega
  have hgy : w.heap.size + 1 + 1 < w1.heap.size := by omega
  have hge : w.heap.size ≤ w.heap.size + 1 + 1 := by omega
  clear hb1 hr B0 B1 B2 hW hWa
  go_wp2
  generalize w1.alloc (.cells #[.slice A n c, .int .i64 (p1 : Int), .int .i64 (e' : Int)] 28) = W at *
  generalize w.heap.size + 1 + 1 = g6 at *
  generalize w.heap.size + 1 = go at *
  generalize w1.heap.size = gy at *
  obtain ⟨⟨y0, y1, y2⟩, _, _, _⟩ := blk3 HY.out
  obtain ⟨⟨d0, d1, d2⟩, k0, k1, k2⟩ := blk3 HB2.out
  have HIp := hid (HI1.out.put3 hg6 (.slice A n c) (.int .i64 (p1 : Int)) (.int .i64 (e' : Int)))
  have HYp := hid (HY.out.put3_far (g := g6) (by omega) (.slice A n c) (.int .i64 (p1 : Int)) (.int .i64 (e' : Int)))
  have hyg : gy ≠ g := by omega
  have hog : some go ≠ some g := by simp; omega
  have HOpp := hid (HOp.out.put3_far (g := g6) hgo6 (.slice A n c) (.int .i64 (p1 : Int)) (.int .i64 (e' : Int)))
  have o1 := (blk3 HOp.out).1.2.1
  have hrg : some g6 ≠ some g := by simp; omega
  have hyr : some gy ≠ some g := by simp; omega
  have hy6 : gy ≠ g6 := by omega
  have HZp := hid (HB2.out.put3 (.slice A n c) (.int .i64 (p1 : Int)) (.int .i64 (e' : Int)))
  go_region_held3 (fun w' => w'.cell? ⟨gy, 0, none⟩ = some (.slice A n c) ∧ w'.cell? ⟨gy, 1, none⟩ = some (.int .i64 (p1 : Int)) ∧ w'.cell? ⟨gy, 2, none⟩ = some (.int .i64 (e' : Int)) ∧ w'.cell? ⟨go, 1, none⟩ = some (.int .u64 (N : Int)))
    (first | exact ⟨y0, y1, y2, o1⟩ | exact and4 (blk3 (HY3.out.put3_far hy6 _ _ _)).1 (blk3 (HO3.out.put3_far hgo6 _ _ _)).1 | exact and4 (blk3 HYp.out).1 (blk3 HOpp.out).1 | exact and4 (blk3 (Blk.grown (Blk.drew HY.out) hg3 hyr)).1 (blk3 (Blk.grown (Blk.drew HOp.out) hg3 hog)).1 | exact and4 (blk3 (Blk.grown (Blk.drew HYp.out) hg3 hyr)).1 (blk3 (Blk.grown (Blk.drew HOpp.out) hg3 hog)).1 | go_keep)
    ((go_at_call 20; refine (inshort_any g _ _ N _ l' e' v _ (by first | exact HI1.out | exact HIp.out) (rem_fine L p e) HRX.out (by omega) rfl HS.out).mono ?_; rintro en w3 ⟨rfl, hin3, hg3⟩; first | (obtain ⟨⟨q0, q1, q2⟩, r0, r1, r2⟩ := blk3 (Blk.grown (Blk.drew HB2.out) hg3 hrg); have HY3 := hid (Blk.grown (Blk.drew HY.out) hg3 hyr); have HO3 := hid (Blk.grown (Blk.drew HOp.out) hg3 hog)) | (obtain ⟨⟨q0, q1, q2⟩, r0, r1, r2⟩ := blk3 (Blk.grown (Blk.drew HZp.out) hg3 hrg))))
  all_goals
    go_wp2
    refine bodyPost_ret (v := .tuple #[reader A n c (p1 : Int) (e' : Int), .bool true]) (by simp [results, Try.results7, go_sem, q0, q1, q2]) rfl ?_
    first | exact take_endA HW.out hg3 hin3 HR.out hg6 hge hp1 _ _ _ | exact take_endB HW.out hg3 hin3 HR.out hge hp1

set_option maxRecDepth 100000 in
set_option maxHeartbeats 1000000 in
theorem take_text (A : Option Addr) (L : List Nat) (n c p e g : Nat) (N : Nat) (s : ByteArray) (w : World) (hn : L.length = n) (hp : p ≤ n) (hl : n ≤ 9223372036854775807) (hN : (N : Int) ≤ 18446744073709551615) (hx : ∀ x ∈ L, x < 256) (hc : n ≤ c) (hA0 : A = none → c = 0) (hA : Sees .u8 w A L) (hI : InAt w g (rem L p e) e) :
    Calls Try.prog 7 #[.pointer (some ⟨g, 0, none⟩), reader A n c (p : Int) (e : Int), .agg #[.int .i64 5, .int .u64 (N : Int), .string s]] w (TakeDoes A n L c g w) := by
  obtain ⟨l', e', v, hs⟩ : ∃ l' e' v, sText (rem L p e) e (N % 1000) = (l', e', v) := ⟨_, _, _, rfl⟩
  have hmod : N % 1000 ≤ 9223372036854775807 := by omega
  have HA := hid hA
  have HX := hid hx
  have H0 := hid hA0
  have HRX := hid (fun x (h : x ∈ rem L p e) => hx x (rem_in x h))
  have hrl := rem_len L p e
  rw [hn] at hrl
  have HN := hid hn
  have HS := hid hs
  have HI := hid hI
  have hgl := hI.lt
  clear hA hn hs hI hx hA0
  go_enter Try.func7, Try.ntmps7
  go_wp2_with fail
  with_reducible refine (reftext_any A L n c p e (N % 1000) _ l' e' v _ (by omega) hmod HN.out hp hl hc H0.out HX.out (((HA.out.alloc_ _).alloc_ _).alloc_ _) HS.out).mono ?_
  rintro en w1 ⟨p1, hp1, hr, rfl, hb1⟩
  obtain ⟨B0, B1, B2, hW, hsz⟩ := blk_three hb1
  have HR := hid hr
  have hWa := hW.alloc (Nat.le_trans (Nat.le_add_right _ 3) hsz) (.cells #[.slice A n c, .int .i64 (p1 : Int), .int .i64 (e' : Int)] 28)
  have HB2 : Hid (Blk (w1.alloc (.cells #[.slice A n c, .int .i64 (p1 : Int), .int .i64 (e' : Int)] 28)) (w.heap.size + 1 + 1) 28 #[.slice none 0 0, .int .i64 0, .int .i64 0]) := hid (B2.alloc _)
  have HY := hid (Blk.new w1 28 #[.slice A n c, .int .i64 (p1 : Int), .int .i64 (e' : Int)])
  have HI1 := hid (HI.out.keep (hWa.mono hgl))
  have HW := hid hWa
  have hg6 : g < w.heap.size + 1 + 1 := by omega
  have hgy : w.heap.size + 1 + 1 < w1.heap.size := by omega
  have hge : w.heap.size ≤ w.heap.size + 1 + 1 := by omega
  clear hb1 hr B0 B1 B2 hW hWa
  go_wp2
  generalize w1.alloc (.cells #[.slice A n c, .int .i64 (p1 : Int), .int .i64 (e' : Int)] 28) = W at *
  generalize w.heap.size + 1 + 1 = g6 at *
  generalize w1.heap.size = gy at *
  obtain ⟨⟨y0, y1, y2⟩, _, _, _⟩ := blk3 HY.out
  obtain ⟨⟨d0, d1, d2⟩, k0, k1, k2⟩ := blk3 HB2.out
  have HIp := hid (HI1.out.put3 hg6 (.slice A n c) (.int .i64 (p1 : Int)) (.int .i64 (e' : Int)))
  have HYp := hid (HY.out.put3_far (g := g6) (by omega) (.slice A n c) (.int .i64 (p1 : Int)) (.int .i64 (e' : Int)))
  have hyg : gy ≠ g := by omega
  have hrg : some g6 ≠ some g := by simp; omega
  have hyr : some gy ≠ some g := by simp; omega
  have hy6 : gy ≠ g6 := by omega
  have HZp := hid (HB2.out.put3 (.slice A n c) (.int .i64 (p1 : Int)) (.int .i64 (e' : Int)))
  go_region_held3 (fun w' => w'.cell? ⟨gy, 0, none⟩ = some (.slice A n c) ∧ w'.cell? ⟨gy, 1, none⟩ = some (.int .i64 (p1 : Int)) ∧ w'.cell? ⟨gy, 2, none⟩ = some (.int .i64 (e' : Int)))
    (first | exact ⟨y0, y1, y2⟩ | exact (blk3 (HY3.out.put3_far hy6 _ _ _)).1 | exact (blk3 HYp.out).1 | exact kept3 (Blk.drew HY.out) hg3 hyg | exact kept3 (Blk.drew HYp.out) hg3 hyg | go_keep)
    ((go_at_call 22; refine (intext_any g _ _ (N % 1000) _ l' e' v _ (by first | exact HI1.out | exact HIp.out) (rem_fine L p e) HRX.out (by omega) (by omega) hmod HS.out).mono ?_; rintro en w3 ⟨rfl, hin3, hg3⟩; first | (obtain ⟨⟨q0, q1, q2⟩, r0, r1, r2⟩ := blk3 (Blk.grown (Blk.drew HB2.out) hg3 hrg); have HY3 := hid (Blk.grown (Blk.drew HY.out) hg3 hyr)) | (obtain ⟨⟨q0, q1, q2⟩, r0, r1, r2⟩ := blk3 (Blk.grown (Blk.drew HZp.out) hg3 hrg))))
  all_goals
    go_wp2
    refine bodyPost_ret (v := .tuple #[reader A n c (p1 : Int) (e' : Int), .bool true]) (by simp [results, Try.results7, go_sem, q0, q1, q2]) rfl ?_
    first | exact take_endA HW.out hg3 hin3 HR.out hg6 hge hp1 _ _ _ | exact take_endB HW.out hg3 hin3 HR.out hge hp1

end Go.Proofs.Ytjefhnhlkhnogaa
