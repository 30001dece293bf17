/-
  The document's disk (moothillref13), by value, whatever it is asked: Sync, trim, Append.
-/
import Derived.Test.YtmedfcpohmhbbaaERefC
namespace Go.Proofs.Ytmedfcpohmhbbaa
open Go.ChangeShapes Go.WideShapes Go.ChangeAt Go.RowKit
set_option linter.unusedVariables false
set_option linter.unusedSimpArgs false

theorem takes_of {d : Dk} (h : d.Ok) : TakesU (unR d) d.dn (unR (spentD d 1)) (spentD d 1).dn (shortD d 1) := unit_spent d h
theorem Apart.take {S : Nat → Prop} {w : World} {A : Option Addr} {l : List Nat} (h : Apart S w A l) (n : Nat) : Apart S w A (l.take n) := fun j x hj => by
  refine h j x ?_
  rw [List.getElem?_take] at hj
  split at hj
  · exact hj
  · cases hj
theorem hasD_at {k : Nat} (hk : k < 2) : hasD (k : Int) = true := hasD_iff.2 ⟨k, hk, rfl⟩
theorem unR_cut (d : Dk) (k n : Nat) : unR (cutD d k n) = unR d := rfl
theorem unR_keep (d : Dk) (k : Nat) : unR (keepD d k) = unR d := rfl

theorem refsync_any {S : Nat → Prop} (d : Dk) (x : Nat → Value) (f : Int) (w : World) (h : RefAt S w d x) (ho : d.Ok) :
    Calls Try.prog 27 #[rV d x, .int .i64 f, .int .i64 0, .bool false] w (RefDoesD S (syncD d f).1 (syncD d f).2 w) := by
  obtain ⟨A, c, B, e, hr⟩ := rC_raw h
  have r0 := hr d rfl
  have r1 := hr (spentD d 1) (spentD_l d 1)
  have hu := unR_in ho
  have ht := takes_of ho
  show Calls Try.prog _ #[.agg (rC d x), _, _, _] w _
  rw [r0]
  by_cases hm : mayD d f = 0
  · obtain ⟨k, hk, rfl, hd⟩ := mayD_zero hm
    have hY : syncD d (k : Int) = if shortD d 1 then (spentD d 1, 40) else (keepD (spentD d 1) k, 0) := by unfold syncD; rw [if_pos hm]; rfl
    have r2 := hr (keepD (spentD d 1) k) (spentD_l d 1)
    rw [hd] at ht ⊢
    rw [hY]
    rw [spentD_s, spentD_sz] at r1
    match k, hk with
    | 0, _ =>
      refine (refsync_at0 d.sz A _ c B _ e (d.s 0) (d.s 1) _ _ _ _ w hu.1 ht hu.2).mono fun e' w' ⟨h1, h2⟩ => ?_
      have hx := h.on h2
      cases hs : shortD d 1
      · rw [hs] at h1
        refine ⟨x, ?_, hx.of (spentD_l d 1), h2⟩
        rw [h1]
        show _ = Ending.returned (.tuple #[.agg (rC (keepD (spentD d 1) 0) x), .int .i64 0])
        rw [r2]
        show _ = Ending.returned (.tuple #[.agg (rS (spentD d 1).sz A _ c B _ e ((((spentD d 1).l 0).length : Nat) : Int) ((spentD d 1).s 1 : Int) (unR (spentD d 1)) (spentD d 1).dn), .int .i64 0])
        rw [spentD_sz, spentD_l, spentD_s]
        rfl
      · rw [hs] at h1
        refine ⟨x, ?_, hx.of (spentD_l d 1), h2⟩
        rw [h1]
        show _ = Ending.returned (.tuple #[.agg (rC (spentD d 1) x), .int .i64 40])
        rw [r1]
        rfl
    | 1, _ =>
      refine (refsync_at1 d.sz A _ c B _ e (d.s 0) (d.s 1) _ _ _ _ w hu.1 ht hu.2).mono fun e' w' ⟨h1, h2⟩ => ?_
      have hx := h.on h2
      cases hs : shortD d 1
      · rw [hs] at h1
        refine ⟨x, ?_, hx.of (spentD_l d 1), h2⟩
        rw [h1]
        show _ = Ending.returned (.tuple #[.agg (rC (keepD (spentD d 1) 1) x), .int .i64 0])
        rw [r2]
        show _ = Ending.returned (.tuple #[.agg (rS (spentD d 1).sz A _ c B _ e ((spentD d 1).s 0 : Int) ((((spentD d 1).l 1).length : Nat) : Int) (unR (spentD d 1)) (spentD d 1).dn), .int .i64 0])
        rw [spentD_sz, spentD_l, spentD_s]
        rfl
      · rw [hs] at h1
        refine ⟨x, ?_, hx.of (spentD_l d 1), h2⟩
        rw [h1]
        show _ = Ending.returned (.tuple #[.agg (rC (spentD d 1) x), .int .i64 40])
        rw [r1]
        rfl
  · have hF : syncD d f = (d, mayD d f) := by unfold syncD; rw [if_neg hm]
    rw [hF]
    refine (refsync_err _ A _ c B _ e _ _ _ _ f 0 (mayD d f) false w rfl hm).mono fun e' w' ⟨h1, h2⟩ => ?_
    refine ⟨x, ?_, h.on h2, h2⟩
    rw [h1]
    show _ = Ending.returned (.tuple #[.agg (rC d x), .int .i64 (mayD d f)])
    rw [r0]

theorem cut_raw {S : Nat → Prop} {w w' : World} {d : Dk} {x : Nat → Value} (h : RefAt S w d x) (hb : Below w.heap.size w w') {k n : Nat} (hk : k < 2) {A : Option Addr} {c : Nat} (hx : x k = .slice A (d.l k).length c) (hn : n ≤ (d.l k).length) :
    RefAt S w' (cutD (spentD d 1) k n) (updD x k (.slice A n c)) := by
  obtain ⟨A', c', e1, e2, e3, e4⟩ := h.on hb k hk
  rw [hx] at e1
  injection e1 with q1 q2 q3
  subst q1; subst q3
  have h1 := ((h.on hb).of (spentD_l d 1)).turn k e2 (l := ((spentD d 1).l k).take n) (by rw [spentD_l, List.length_take]; omega) (by rw [spentD_l]; exact e4.take n)
  have h2 : (((spentD d 1).l k).take n).length = n := by rw [spentD_l, List.length_take]; omega
  rw [h2] at h1
  exact h1.of rfl

theorem reftrim_any {S : Nat → Prop} (d : Dk) (x : Nat → Value) (f n : Int) (w : World) (h : RefAt S w d x) (ho : d.Ok) :
    Calls Try.prog 27 #[rV d x, .int .i64 f, .int .i64 n, .bool true] w (RefDoesD S (trimD d f n).1 (trimD d f n).2 w) := by
  obtain ⟨A, c, hA, hA1, hA2, hA3⟩ := h 0 (by decide)
  obtain ⟨B, e, hB, hB1, hB2, hB3⟩ := h 1 (by decide)
  have hr : ∀ d' : Dk, rC d' x = rS d'.sz A (d.l 0).length c B (d.l 1).length e (d'.s 0) (d'.s 1) (unR d') d'.dn := fun d' => by unfold rC rS; rw [hA, hB]
  have r0 := hr d
  have r1 := hr (spentD d 1)
  have hu := unR_in ho
  have ht := takes_of ho
  show Calls Try.prog _ #[.agg (rC d x), _, _, _] w _
  rw [r0]
  by_cases hm : mayD d f = 0
  · obtain ⟨k, hk, rfl, hd⟩ := mayD_zero hm
    have hY := trimD_at hk hd n
    rw [hd] at ht ⊢
    rw [hY]
    rw [spentD_s, spentD_sz] at r1
    match k, hk with
    | 0, _ =>
      by_cases hn : n < 0 ∨ ((d.l 0).length : Int) < n
      · rw [if_pos hn]
        refine (reftrim_not0 d.sz A _ c B _ e (d.s 0) (d.s 1) _ n w hn).mono fun e' w' ⟨h1, h2⟩ => ⟨x, ?_, h.on h2, h2⟩
        rw [h1]
        show _ = Ending.returned (.tuple #[.agg (rC d x), .int .i64 12])
        rw [r0, hd]
      · rw [if_neg hn]
        obtain ⟨m, rfl⟩ := Int.eq_ofNat_of_zero_le (show 0 ≤ n by omega)
        refine (reftrim_at0 d.sz A _ c B _ e (d.s 0) (d.s 1) _ _ _ _ m w hu.1 ht hu.2 (by omega) hA2).mono fun e' w' ⟨h1, h2⟩ => ?_
        cases hs : shortD d 1
        · rw [hs] at h1
          refine ⟨updD x 0 (.slice A m c), ?_, cut_raw h h2 (by decide) hA (by omega), h2⟩
          rw [h1]
          show _ = Ending.returned (.tuple #[.agg #[.int .i64 (spentD d 1).sz, .slice A m c, x 1, .int .i64 ((min ((spentD d 1).s 0) m : Nat) : Int), .int .i64 ((spentD d 1).s 1 : Int), .int .i64 (unR (spentD d 1)), .bool (spentD d 1).dn], .int .i64 0])
          rw [spentD_sz, spentD_s, hB]
          rfl
        · rw [hs] at h1
          refine ⟨x, ?_, (h.on h2).of (spentD_l d 1), h2⟩
          rw [h1]
          show _ = Ending.returned (.tuple #[.agg (rC (spentD d 1) x), .int .i64 40])
          rw [r1]
          rfl
    | 1, _ =>
      by_cases hn : n < 0 ∨ ((d.l 1).length : Int) < n
      · rw [if_pos hn]
        refine (reftrim_not1 d.sz A _ c B _ e (d.s 0) (d.s 1) _ n w hn).mono fun e' w' ⟨h1, h2⟩ => ⟨x, ?_, h.on h2, h2⟩
        rw [h1]
        show _ = Ending.returned (.tuple #[.agg (rC d x), .int .i64 12])
        rw [r0, hd]
      · rw [if_neg hn]
        obtain ⟨m, rfl⟩ := Int.eq_ofNat_of_zero_le (show 0 ≤ n by omega)
        refine (reftrim_at1 d.sz A _ c B _ e (d.s 0) (d.s 1) _ _ _ _ m w hu.1 ht hu.2 (by omega) hB2).mono fun e' w' ⟨h1, h2⟩ => ?_
        cases hs : shortD d 1
        · rw [hs] at h1
          refine ⟨updD x 1 (.slice B m e), ?_, cut_raw h h2 (by decide) hB (by omega), h2⟩
          rw [h1]
          show _ = Ending.returned (.tuple #[.agg #[.int .i64 (spentD d 1).sz, x 0, .slice B m e, .int .i64 ((spentD d 1).s 0 : Int), .int .i64 ((min ((spentD d 1).s 1) m : Nat) : Int), .int .i64 (unR (spentD d 1)), .bool (spentD d 1).dn], .int .i64 0])
          rw [spentD_sz, spentD_s, hA]
          rfl
        · rw [hs] at h1
          refine ⟨x, ?_, (h.on h2).of (spentD_l d 1), h2⟩
          rw [h1]
          show _ = Ending.returned (.tuple #[.agg (rC (spentD d 1) x), .int .i64 40])
          rw [r1]
          rfl
  · have hF : trimD d f n = (d, mayD d f) := by unfold trimD; rw [if_neg hm]
    rw [hF]
    refine (refsync_err _ A _ c B _ e _ _ _ _ f n (mayD d f) true w rfl hm).mono fun e' w' ⟨h1, h2⟩ => ?_
    refine ⟨x, ?_, h.on h2, h2⟩
    rw [h1]
    show _ = Ending.returned (.tuple #[.agg (rC d x), .int .i64 (mayD d f)])
    rw [r0]

theorem refapp_any {S : Nat → Prop} (d : Dk) (x : Nat → Value) (f : Int) (C : Option Addr) (b : List Nat) (n cb : Nat) (w : World) (h : RefAt S w d x) (hS : ∀ j, S j → j < w.heap.size) (ho : d.Ok) (hn : b.length = n) (hb : Sees .u8 w C b) :
    Calls Try.prog 26 #[rV d x, .int .i64 f, .slice C n cb] w (RefDoesD S (appD d f b).1 (appD d f b).2 w) := by
  by_cases hm : mayD d f = 0
  · obtain ⟨k, hk, rfl, hd⟩ := mayD_zero hm
    have hY := appD_at hk hd b
    rw [hn] at hY
    rw [hY]
    by_cases hl : leftD d < (n : Int)
    · rw [if_pos hl]
      obtain ⟨A, c, B, e, hr⟩ := rC_raw h
      have r0 := hr d rfl
      show Calls Try.prog _ #[.agg (rC d x), _, _] w _
      rw [r0]
      have h2 := ho.room
      refine (refapp_full _ A _ c B _ e _ _ _ _ (k : Int) C n cb w (mayD_at hk hd).symm hl (by omega) ho.sz1).mono fun e' w' ⟨h1, h2⟩ => ⟨x, ?_, h.on h2, h2⟩
      rw [h1]
      show _ = Ending.returned (.tuple #[.agg (rC d x), .int .i64 14])
      rw [r0]
    · rw [if_neg hl]
      exact refapp_ok d x k _ C b n cb w h hS ho hd hk rfl hn (by omega) hb
  · have hF : appD d f b = (d, mayD d f) := by unfold appD; rw [if_neg hm]
    rw [hF]
    obtain ⟨A, c, B, e, hr⟩ := rC_raw h
    have r0 := hr d rfl
    show Calls Try.prog _ #[.agg (rC d x), _, _] w _
    rw [r0]
    refine (refapp_err _ A _ c B _ e _ _ _ _ f (mayD d f) C n cb w rfl hm).mono fun e' w' ⟨h1, h2⟩ => ⟨x, ?_, h.on h2, h2⟩
    rw [h1]
    show _ = Ending.returned (.tuple #[.agg (rC d x), .int .i64 (mayD d f)])
    rw [r0]

end Go.Proofs.Ytmedfcpohmhbbaa
