/-
  Counts of open sessions; what the anchor of layer 16's laws does.
-/
import Derived.Test.YtbeeklpfbnhdnaaLsTellB
namespace Go.Proofs.Ytbeeklpfbnhdnaa
open Go.ChangeShapes Go.WideShapes Go.ChangeAt Go.RowKit Go.Maps Go.WideMaps
set_option linter.unusedVariables false
set_option linter.unusedSimpArgs false

/-- How a count goes with a session put in. -/
theorem countP_putL (p : SeL → Bool) (s : SeL) : ∀ {l : List SeL}, RiseL l →
    (findL l s.num s.foot = none → (putL s l).countP p = l.countP p + if p s = true then 1 else 0) ∧
    ∀ x, findL l s.num s.foot = some x → (putL s l).countP p + (if p x = true then 1 else 0) = l.countP p + if p s = true then 1 else 0
  | [], _ => by
    refine ⟨fun _ => by simp [putL, List.countP_cons], fun x h => by cases h⟩
  | y :: l, h => by
    obtain ⟨h1, h2⟩ := List.pairwise_cons.1 h
    have ih := countP_putL p s h2
    unfold putL
    by_cases he : y.num = s.num ∧ y.foot = s.foot
    · rw [if_pos he]
      have hf : findL (y :: l) s.num s.foot = some y := by
        unfold findL
        rw [List.find?_cons, (isKL_iff (s := y)).2 he]
      rw [hf]
      refine ⟨fun hh => (by cases hh), fun x hx => ?_⟩
      injection hx with hx
      subst hx
      rw [List.countP_cons, List.countP_cons]
      omega
    · rw [if_neg he]
      have hk : isKL s.num s.foot y = false := by simpa [isKL] using he
      have hf : findL (y :: l) s.num s.foot = findL l s.num s.foot := by
        unfold findL
        rw [List.find?_cons, hk]
      rw [hf]
      split
      · refine ⟨fun hh => ?_, fun x hx => ?_⟩
        · have := ih.1 hh
          rw [List.countP_cons, List.countP_cons, this]
          omega
        · have := ih.2 x hx
          rw [List.countP_cons, List.countP_cons]
          omega
      · next hlt =>
        have hn : findL l s.num s.foot = none := by
          cases hq : findL l s.num s.foot with
          | none => rfl
          | some x =>
            obtain ⟨a, b⟩ := findL_key hq
            have h3 := h1 x (findL_mem hq)
            rw [a, b] at h3
            exact absurd h3 hlt
        rw [hn]
        refine ⟨fun _ => ?_, fun x hx => (by cases hx)⟩
        rw [List.countP_cons]
theorem openL_new {l : List SeL} {s : SeL} (h : RiseL l) (hn : findL l s.num s.foot = none) (ho : s.opn = true) : openL (putL s l) s.foot = openL l s.foot + 1 := by
  have := (countP_putL (isOpenF s.foot) s h).1 hn
  unfold openL
  show List.countP (isOpenF s.foot) _ = List.countP (isOpenF s.foot) _ + 1
  rw [this]
  simp [isOpenF, ho]
theorem openL_same {l : List SeL} {s x : SeL} (h : RiseL l) (hx : findL l s.num s.foot = some x) (ho : x.opn = s.opn) (f : ByteArray) : openL (putL s l) f = openL l f := by
  have := (countP_putL (isOpenF f) s h).2 x hx
  obtain ⟨a, b⟩ := findL_key hx
  unfold openL
  show List.countP (isOpenF f) _ = List.countP (isOpenF f) _
  unfold isOpenF at this ⊢
  rw [ho, b] at this
  omega
theorem openL_less {l : List SeL} {s x : SeL} (h : RiseL l) (hx : findL l s.num s.foot = some x) (ho : x.opn = true) (hs : s.opn = false) : openL (putL s l) s.foot + 1 = openL l s.foot := by
  have := (countP_putL (isOpenF s.foot) s h).2 x hx
  obtain ⟨a, b⟩ := findL_key hx
  unfold openL
  show List.countP (isOpenF s.foot) _ + 1 = List.countP (isOpenF s.foot) _
  simp only [isOpenF, ho, hs, b] at this ⊢
  simpa using this
theorem getL_put_self (s : SeL) (l : List SeL) {u : Int} {f : ByteArray} (h : s.num = u ∧ s.foot = f) : getL (putL s l) u f = s := by
  unfold getL
  rw [findL_put, if_pos h]
  rfl
theorem getL_put_other (s : SeL) (l : List SeL) {u : Int} {f : ByteArray} (h : ¬ (s.num = u ∧ s.foot = f)) : getL (putL s l) u f = getL l u f := by
  unfold getL
  rw [findL_put, if_neg h]

abbrev aF : ByteArray := ⟨#[97]⟩
def anS1 : SeL := ⟨1, aF, true, false, 8, 5, [], none⟩
def anS2 : SeL := ⟨1, aF, false, true, 0, 0, [], none⟩
theorem an_open : getL [] 1 aF = zeroL 1 aF ∧ openE [] (zeroL 1 aF) = 0 ∧ openB [] (zeroL 1 aF) 5 3 = [anS1] := by
  refine ⟨rfl, rfl, rfl⟩
theorem an_exp1 : getL [anS1] 1 aF = anS1 ∧ expE [anS1] anS1 7 = 54 ∧ expB [anS1] anS1 7 = [anS1] := by
  have h : getL [anS1] 1 aF = anS1 := by unfold getL findL; rw [List.find?_cons, (isKL_iff (u := 1) (f := aF) (s := anS1)).2 ⟨rfl, rfl⟩]; rfl
  exact ⟨h, by unfold expE; rw [if_pos (by decide)], by unfold expB; rw [if_pos (by decide)]⟩
theorem an_exp2 : expE [anS1] anS1 8 = 0 ∧ expB [anS1] anS1 8 = [anS2] ∧ getL [anS2] 1 aF = anS2 := by
  have h : getL [anS2] 1 aF = anS2 := by unfold getL findL; rw [List.find?_cons, (isKL_iff (u := 1) (f := aF) (s := anS2)).2 ⟨rfl, rfl⟩]; rfl
  refine ⟨by unfold expE; rw [if_neg (by decide)]; rfl, ?_, h⟩
  unfold expB
  rw [if_neg (by decide)]
  unfold endB
  rw [if_pos (by rfl)]
  unfold putL
  rw [if_pos ⟨rfl, rfl⟩]
  rfl
theorem eq_info (w : World) : (binOp .eql 58 (.agg #[.bool false, .bool true, .int .i64 0, .int .i64 0, .int .i64 0]) (.agg #[.bool false, .bool true, .int .i64 0, .int .i64 0, .int .i64 0])).run Try.prog w = .ok (.bool true) w := by kernel_rfl

set_option maxRecDepth 100000 in
set_option maxHeartbeats 4000000 in
theorem lanchor_any (w : World) : Calls Try.prog 7 #[] w fun e w' => e = .returned (.bool true) ∧ Below w.heap.size w w' := by
  have HN := hid (fun w => lnew_any w)
  have oa : OkF aF := by unfold OkF aF; decide
  have ia : IsU 1 := by unfold IsU; decide
  have H1 := hid (fun base b d w h => lopen_any base b d 0 [] 1 aF 5 3 w h (by omega) ia oa)
  have H2 := hid (fun base b d w h => lexpire_any base b d 1 [anS1] 1 aF 7 w h (by omega) ia oa)
  have H3 := hid (fun base b d w h => lexpire_any base b d 2 [anS1] 1 aF 8 w h (by omega) ia oa)
  have H4 := hid (fun base b d w h => linfo_any base b d 3 [anS2] 1 aF w h ia oa)
  rw [an_open.1, an_open.2.1, an_open.2.2] at H1
  rw [an_exp1.1, an_exp1.2.1, an_exp1.2.2] at H2
  rw [an_exp1.1, an_exp2.1, an_exp2.2.1] at H3
  rw [an_exp2.2.2] at H4
  simp only [infoV, anS2] at H4
  have q9 := eq_info
  clear oa ia
  go_enter Try.func7, Try.ntmps7
  go_upto_region 2 with (first
    | (go_at_call 8; (with_reducible refine (HN.out _).mono ?_); rintro e w1 ⟨rfl, b1, k1⟩; have B1 := hid b1; have K1 := hid k1; clear b1 k1))
  obtain ⟨h, hh⟩ : ∃ h, w.heap.size = h := ⟨_, rfl⟩
  rw [hh] at B1 K1 ⊢
  go_upto_region 3 with fail
  obtain ⟨w2, hw2⟩ : ∃ w2, w1.alloc (.cells #[.int .u64 1, .string ⟨#[97]⟩] 25) = w2 := ⟨_, rfl⟩
  obtain ⟨E2, D2⟩ := lone_new hw2
  have K2 := hid (K1.out.on D2.out)
  have B2 : Hid (Below h w w2) := hid (B1.out.trans (D2.out.mono (by have := K1.out.lt; omega)))
  obtain ⟨k, hk⟩ : ∃ k, w1.heap.size = k := ⟨_, rfl⟩
  have hkk : h + 1 < k := by rw [← hk]; exact K1.out.lt.1
  rw [hk] at E2 ⊢
  rw [hw2]
  clear hw2 D2 K1 B1 hk
  have step : ∀ (W W' : World) (l l' : List SeL) (n n' : Nat), BkAt W h (h + 1) h n l → Below h w W → Blk W k 25 #[.int .u64 1, .string ⟨#[97]⟩] → (BkAt W' h (h + 1) h n' l' ∧ TurnsD (fun i => i = h) W W') →
      BkAt W' h (h + 1) h n' l' ∧ Below h w W' ∧ Blk W' k 25 #[.int .u64 1, .string ⟨#[97]⟩] := fun W W' l l' n n' a1 a2 a3 a4 =>
    ⟨a4.1, a2.trans (a4.2.below (by have := a1.lt; omega) (fun i hi => by omega)), a3.turns a4.2 (by omega)⟩
  obtain ⟨c0, c1⟩ := lcells2 E2.out
  go_upto_region 4 with (first
    | (go_at_call 16; (with_reducible refine (H1.out _ _ _ _ K2.out).mono ?_); rintro e w3 ⟨rfl, a1, a2⟩; have S3 := hid (step _ _ _ _ _ _ K2.out B2.out E2.out ⟨a1, a2⟩); clear a1 a2))
  clear c0 c1
  obtain ⟨c0, c1⟩ := lcells2 S3.out.2.2
  go_upto_region 5 with (first
    | (go_at_call 19; (with_reducible refine (H2.out _ _ _ _ S3.out.1).mono ?_); rintro e w4 ⟨rfl, a1, a2⟩; have S4 := hid (step _ _ _ _ _ _ S3.out.1 S3.out.2.1 S3.out.2.2 ⟨a1, a2⟩); clear a1 a2))
  clear c0 c1
  obtain ⟨c0, c1⟩ := lcells2 S4.out.2.2
  go_upto_region 6 with (first
    | (go_at_call 19; (with_reducible refine (H3.out _ _ _ _ S4.out.1).mono ?_); rintro e w5 ⟨rfl, a1, a2⟩; have S5 := hid (step _ _ _ _ _ _ S4.out.1 S4.out.2.1 S4.out.2.2 ⟨a1, a2⟩); clear a1 a2))
  clear c0 c1
  obtain ⟨c0, c1⟩ := lcells2 S5.out.2.2
  go_wp2_with (first
    | (go_at_call 18; (with_reducible refine (H4.out _ _ _ _ S5.out.1).mono ?_); rintro e w6 ⟨rfl, a1⟩; have S6 := hid (S5.out.2.1.trans (a1.mono (by have := S5.out.1.lt; omega))); clear a1))
  go_ret
  exact ⟨rfl, by rw [hh]; exact S6.out⟩
end Go.Proofs.Ytbeeklpfbnhdnaa
