/-
  The law's own step: a failure, and any other kind.
-/
import Derived.Test.YtjefhnhlkhnogaaTakeA
namespace Go.Proofs.Ytjefhnhlkhnogaa
open Go.ChangeShapes Go.WideShapes Go.ChangeAt Go.RowKit
set_option linter.unusedVariables false

theorem eqI {a b : Int} (h : a ≠ b) : (a == b) = false := by rw [beq_eq_false_iff_ne]; exact h

set_option maxRecDepth 100000 in
set_option maxHeartbeats 1000000 in
theorem take_other (A : Option Addr) (L : List Nat) (n c p e g : Nat) (k : Int) (N : Nat) (s : ByteArray) (w : World) (hp : p ≤ n) (hN : (N : Int) ≤ 18446744073709551615) (hI : InAt w g (rem L p e) e)
    (h1 : k ≠ 1) (h2 : k ≠ 2) (h3 : k ≠ 3) (h4 : k ≠ 4) (h5 : k ≠ 5) (h6 : k ≠ 6) :
    Calls Try.prog 7 #[.pointer (some ⟨g, 0, none⟩), reader A n c (p : Int) (e : Int), .agg #[.int .i64 k, .int .u64 (N : Int), .string s]] w (TakeDoes A n L c g w) := by
  have HI := hid hI
  have e1 := eqI h1
  have e2 := eqI h2
  have e3 := eqI h3
  have e4 := eqI h4
  have e5 := eqI h5
  have e6 := eqI h6
  clear hI h1 h2 h3 h4 h5 h6
  go_enter Try.func7, Try.ntmps7
  go_wp2
  refine bodyPost_ret (v := .tuple #[reader A n c (p : Int) (e : Int), .bool true]) (by simp [results, Try.results7, go_sem]) rfl ⟨p, e, hp, rfl, ?_, ?_⟩
  · exact HI.out.keep ((((Below.refl _ _).alloc HI.out.lt _).alloc (by have := HI.out.lt; simp; omega) _).alloc (by have := HI.out.lt; simp; omega) _)
  · exact only_alloc (only_alloc (only_alloc (World.grownBy.refl _ _) _) _) _

set_option maxRecDepth 100000 in
set_option maxHeartbeats 1000000 in
theorem take_fail (A : Option Addr) (L : List Nat) (n c p e g : Nat) (N : Nat) (s : ByteArray) (w : World) (hp : p ≤ n) (hN : (N : Int) ≤ 18446744073709551615) (hI : InAt w g (rem L p e) e) :
    Calls Try.prog 7 #[.pointer (some ⟨g, 0, none⟩), reader A n c (p : Int) (e : Int), .agg #[.int .i64 6, .int .u64 (N : Int), .string s]] w (TakeDoes A n L c g w) := by
  have HI := hid hI
  have hgl := hI.lt
  have HL : Hid (leftE e 22 (rem L p e) = []) := hid (leftE_nil (by omega) (rem_fine L p e))
  have HW : Hid (Below (g + 1) w (((w.alloc (.cells #[.slice A n c, .int .i64 (p : Int), .int .i64 (e : Int)] 28)).alloc (.cells #[.int .i64 6, .int .u64 (N : Int), .string s] 31)).alloc (.cells #[.slice none 0 0, .int .i64 0, .int .i64 0] 28))) :=
    hid ((((Below.refl _ _).alloc hgl _).alloc (by simp; omega) _).alloc (by simp; omega) _)
  have HG : Hid (w.grownBy (((w.alloc (.cells #[.slice A n c, .int .i64 (p : Int), .int .i64 (e : Int)] 28)).alloc (.cells #[.int .i64 6, .int .u64 (N : Int), .string s] 31)).alloc (.cells #[.slice none 0 0, .int .i64 0, .int .i64 0] 28)) (some g)) :=
    hid (only_alloc (only_alloc (only_alloc (World.grownBy.refl _ _) _) _) _)
  have HB0 : Hid (Blk (((w.alloc (.cells #[.slice A n c, .int .i64 (p : Int), .int .i64 (e : Int)] 28)).alloc (.cells #[.int .i64 6, .int .u64 (N : Int), .string s] 31)).alloc (.cells #[.slice none 0 0, .int .i64 0, .int .i64 0] 28)) w.heap.size 28 #[.slice A n c, .int .i64 (p : Int), .int .i64 (e : Int)]) :=
    hid (((Blk.new w 28 _).alloc _).alloc _)
  have HB2 : Hid (Blk (((w.alloc (.cells #[.slice A n c, .int .i64 (p : Int), .int .i64 (e : Int)] 28)).alloc (.cells #[.int .i64 6, .int .u64 (N : Int), .string s] 31)).alloc (.cells #[.slice none 0 0, .int .i64 0, .int .i64 0] 28)) (w.heap.size + 1 + 1) 28 #[.slice none 0 0, .int .i64 0, .int .i64 0]) := hid (by
    have h := Blk.new ((w.alloc (.cells #[.slice A n c, .int .i64 (p : Int), .int .i64 (e : Int)] 28)).alloc (.cells #[.int .i64 6, .int .u64 (N : Int), .string s] 31)) 28 #[.slice none 0 0, .int .i64 0, .int .i64 0]
    simpa using h)
  clear hI
  by_cases he : e = 0
  · have HF : Hid (firstE e 22 = 22) := hid (by rw [he]; rfl)
    have he1 : ((e : Int) == 0) = true := by rw [beq_iff_eq]; omega
    clear he
    go_enter Try.func7, Try.ntmps7
    go_wp2_with fail
    with_reducible refine (fail_any g (rem L p e) e 22 _ _ (HI.out.keep HW.out) (by omega)).mono ?_
    rintro en w1 ⟨rfl, hin, hg⟩
    rw [HL.out, HF.out] at hin
    have HT := hid hin
    have HG1 := hid (HG.out.trans hg)
    have hs6 : some (w.heap.size + 1 + 1) ≠ some g := by simp; omega
    have hs0 : some w.heap.size ≠ some g := by simp; omega
    obtain ⟨⟨c0, c1, c2⟩, f0, f1, f2⟩ := blk3 (HB0.out.grown hg hs0)
    obtain ⟨⟨d0, d1, d2⟩, k0, k1, k2⟩ := blk3 (HB2.out.grown hg hs6)
    clear hin hg HG HW HB0 HB2 HI HL
    go_wp2
    refine bodyPost_ret (v := .tuple #[reader A n c (p : Int) 22, .bool true]) (by simp [results, Try.results7, go_sem, d0, d1, d2]) rfl ⟨p, 22, hp, rfl, ?_, ?_⟩
    · rw [rem_err (by decide)]
      exact (InAt.keep HT.out (Below.setCell (p := ⟨w.heap.size, 2, none⟩) (Below.refl _ _) hgl _)).put3 (by omega) _ _ _
    · exact only_put3 (only_setCell (p := ⟨w.heap.size, 2, none⟩) HG1.out (.inr (Nat.le_refl _)) _) (by omega) _ _ _
  · have HF : Hid (firstE e 22 = e) := hid (by unfold firstE; rw [if_neg he])
    have he1 : ((e : Int) == 0) = false := eqI (by omega)
    go_enter Try.func7, Try.ntmps7
    go_wp2_with fail
    with_reducible refine (fail_any g (rem L p e) e 22 _ _ (HI.out.keep HW.out) (by omega)).mono ?_
    rintro en w1 ⟨rfl, hin, hg⟩
    rw [HL.out, HF.out] at hin
    have HT := hid hin
    have HG1 := hid (HG.out.trans hg)
    have hs6 : some (w.heap.size + 1 + 1) ≠ some g := by simp; omega
    have hs0 : some w.heap.size ≠ some g := by simp; omega
    obtain ⟨⟨c0, c1, c2⟩, f0, f1, f2⟩ := blk3 (HB0.out.grown hg hs0)
    obtain ⟨⟨d0, d1, d2⟩, k0, k1, k2⟩ := blk3 (HB2.out.grown hg hs6)
    have HE : Hid (rem L p e = []) := hid (rem_err he)
    clear hin hg HG HW HB0 HB2 HI HL he
    go_wp2
    refine bodyPost_ret (v := .tuple #[reader A n c (p : Int) (e : Int), .bool true]) (by simp [results, Try.results7, go_sem, d0, d1, d2]) rfl ⟨p, e, hp, rfl, ?_, ?_⟩
    · rw [HE.out]
      exact InAt.put3 HT.out (by omega) _ _ _
    · exact only_put3 HG1.out (by omega) _ _ _

end Go.Proofs.Ytjefhnhlkhnogaa
