/-
  The law MsgAsks: what is asked is right, and what is told to it. No program in it but a string's bytes; and its head, walked.
-/
import Derived.Test.YtohffiehmmcgbaaGreatDoorZYAnchor
import Derived.Test.YtohffiehmmcgbaaGreatDoorVYRefR
import Derived.Test.YtohffiehmmcgbaaGreatDoorZYArg
namespace Go.Proofs.YtohffiehmmcgbaaGreatDoor.msgAsks
open Go.ChangeShapes Go.WideShapes Go.ChangeAt Go.RowKit Go.Lib
set_option linter.unusedVariables false
set_option linter.unusedSimpArgs false

/-- What the law asks of the kinds and replicas. -/
def goodB (k a b : Int) : Prop := (k = 1 ∨ k = 3 ∨ k = 5 ∨ k = 6) ∧ 0 ≤ a ∧ a ≤ 6 ∧ 0 ≤ b ∧ b ≤ 6 ∧ a ≠ b

theorem right_parts {x : J} (hr : rightJ x = true) : nameB x.r x.s = true ∧ balB x.bal = true ∧ (x.st ≠ 0 → rightK x.c = true ∧ ownB x.f x.r x.s = true) := by
  unfold rightJ at hr
  simp only [Bool.and_eq_true] at hr
  obtain ⟨⟨hn, hb⟩, hv⟩ := hr
  refine ⟨hn, hb, fun h => ?_⟩
  rw [if_neg h] at hv
  unfold valB at hv
  simp only [Bool.and_eq_true] at hv
  exact ⟨hv.2.1.2, hv.2.2⟩
theorem asked_right {k bal : Int} {x : J} (hk : k = 1 ∨ k = 3 ∨ k = 5) (hr : rightJ x = true) (hs : x.st ≠ 0) (hb : balB bal = true) : rightJ (askedJ k bal x) = true := by
  obtain ⟨hn, _, hv⟩ := right_parts hr
  obtain ⟨hc, ho⟩ := hv hs
  unfold rightJ
  have h1 : (askedJ k bal x).st ≠ 0 := by show statK k ≠ 0; rcases hk with rfl | rfl | rfl <;> decide
  rw [if_neg h1]
  have h2 : statB (askedJ k bal x).st = true := by show statB (statK k) = true; rcases hk with rfl | rfl | rfl <;> decide
  have h3 : valB (askedJ k bal x) = true := by
    unfold valB askedJ
    simp only
    rw [hb, hc, ho]
    simp
  rw [h2, h3]
  show (nameB x.r x.s && balB bal && (true && true)) = true
  rw [hn, hb]; rfl
theorem two_right {k a b r s bal : Int} {ok : Bool} {x : J} (h : 0 ≤ a ∧ a ≤ 6 ∧ 0 ≤ b ∧ b ≤ 6 ∧ a ≠ b) : twoB ⟨k, a, b, r, s, bal, ok, x⟩ = true := by
  obtain ⟨h1, h2, h3, h4, h5⟩ := h
  unfold twoB repB
  simp only [Bool.and_eq_true, decide_eq_true_eq, bne_iff_ne]
  exact ⟨⟨⟨h1, h2⟩, h3, h4⟩, h5⟩
theorem ask_right {k a b bal : Int} {x : J} (hk : k = 1 ∨ k = 3 ∨ k = 5) (h : 0 ≤ a ∧ a ≤ 6 ∧ 0 ≤ b ∧ b ≤ 6 ∧ a ≠ b) (hr : rightJ x = true) (hs : x.st ≠ 0) (hb : balB bal = true) : rightM ⟨k, a, b, x.r, x.s, bal, false, askedJ k bal x⟩ = true := by
  obtain ⟨hn, _, _⟩ := right_parts hr
  unfold rightM knownB lastB
  rw [two_right h]
  simp only
  rw [asked_right hk hr hs hb, hn, hb]
  have e1 : kindB k = true := by rcases hk with rfl | rfl | rfl <;> decide
  have e2 : eqJ (askedJ k bal x) (askedJ k bal (askedJ k bal x)) = true := eqJ_self _
  rw [e1, e2, if_neg (by omega)]
  simp [askedJ]
theorem prep_right {a b bal : Int} {x : J} (h : 0 ≤ a ∧ a ≤ 6 ∧ 0 ≤ b ∧ b ≤ 6 ∧ a ≠ b) (hr : rightJ x = true) (hb : balB bal = true) : rightM ⟨6, a, b, x.r, x.s, bal, false, zeroJ⟩ = true := by
  obtain ⟨hn, _, _⟩ := right_parts hr
  unfold rightM
  rw [two_right h]
  simp only
  rw [hn, hb, if_pos trivial, eqJ_self]
  decide
theorem told_right {k a b r s bal : Int} {ok : Bool} {y : J} (hk : k = 2 ∨ k = 4 ∨ k = 7) (h : 0 ≤ a ∧ a ≤ 6 ∧ 0 ≤ b ∧ b ≤ 6 ∧ a ≠ b) (hr : rightJ y = true) (he : (y.r == r && y.s == s) = true) (hb : balB bal = true) : rightM ⟨k, b, a, r, s, bal, ok, y⟩ = true := by
  obtain ⟨hn, _, _⟩ := right_parts hr
  have h' : 0 ≤ b ∧ b ≤ 6 ∧ 0 ≤ a ∧ a ≤ 6 ∧ b ≠ a := ⟨h.2.2.1, h.2.2.2.1, h.1, h.2.1, fun e => h.2.2.2.2 e.symm⟩
  have he2 := he
  simp only [Bool.and_eq_true, beq_iff_eq] at he2
  rw [he2.1, he2.2] at hn
  unfold rightM knownB lastB
  rw [two_right h']
  simp only
  have e1 : kindB k = true := by rcases hk with rfl | rfl | rfl <;> decide
  have e2 : replyB k = true := by rcases hk with rfl | rfl | rfl <;> decide
  rw [hr, he, hn, hb, e1, e2, if_neg (by omega)]
  rfl
theorem alike_asked (k bal : Int) (x : J) : alikeJ (askedJ k bal x) x = true := by
  unfold alikeJ askedJ
  simp [eqA_self]
theorem ask_ok {k a b bal : Int} {x : J} (hb : 0 ≤ bal ∧ bal < 4294967296) (hk : okK x.c) : okM ⟨k, a, b, x.r, x.s, bal, false, askedJ k bal x⟩ := ⟨hb, ⟨hb, hb⟩, hk⟩
theorem prep_ok {a b bal : Int} {x : J} (hb : 0 ≤ bal ∧ bal < 4294967296) : okM ⟨6, a, b, x.r, x.s, bal, false, zeroJ⟩ := ⟨hb, (show okJ zeroJ from ⟨by decide, by decide⟩), zeroK_ok⟩
theorem told_ok {k a b r s bal : Int} {ok : Bool} {y : J} (hb : 0 ≤ bal ∧ bal < 4294967296) (hy : okJ y) (hk : okK y.c) : okM ⟨k, b, a, r, s, bal, ok, y⟩ := ⟨hb, hy, hk⟩

set_option maxRecDepth 100000 in
set_option maxHeartbeats 4000000 in
theorem walk_other (k a b bal : Int) (x y : J) (ok : Bool) (w : World) (hP : PartsIs w) (h1 : k ≠ 1) (h3 : k ≠ 3) (h5 : k ≠ 5) (h6 : k ≠ 6) :
    Calls Tryz.prog 8 #[.int .i64 k, .int .i64 a, .int .i64 b, .int .u32 bal, .agg (rowJ x), .agg (rowJ y), .bool ok] w fun e w' => e = .returned (.bool true) ∧ Below w.heap.size w w' := by
  have HP := hid hP
  have b1 : (k == 1) = false := beq_eq_false_iff_ne.2 h1
  have b3 : (k == 3) = false := beq_eq_false_iff_ne.2 h3
  have b5 : (k == 5) = false := beq_eq_false_iff_ne.2 h5
  have b6 : (k == 6) = false := beq_eq_false_iff_ne.2 h6
  clear hP
  go_enter Tryz.func8, Tryz.ntmps8
  go_upto_region 1 with fail
  obtain ⟨W, hW⟩ : ∃ W, (w.alloc (.cells (rowJ x) 37)).alloc (.cells (rowJ y) 37) = W := ⟨_, rfl⟩
  rw [hW]
  obtain ⟨K0, K1, KB⟩ := twoj_new hW
  have PW := hid (HP.out.below KB.out)
  clear hW HP
  go_wp2_with fail
  with_reducible refine (anchor11 _ PW.out).mono ?_
  rintro e w1 ⟨rfl, hb⟩
  have B1 := hid (below_pay KB.out KB.out.size hb)
  clear hb K0 K1 KB PW
  go_wp2
  go_ret
  exact ⟨rfl, B1.out⟩

end Go.Proofs.YtohffiehmmcgbaaGreatDoor.msgAsks
