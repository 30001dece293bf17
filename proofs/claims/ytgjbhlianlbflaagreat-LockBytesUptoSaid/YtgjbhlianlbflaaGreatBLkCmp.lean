/-
  The order of entries: package lock's compare, and what it calls; its sort.
-/
import Derived.Test.YtgjbhlianlbflaaGreatBLkMove
import Derived.Test.YtgjbhlianlbflaaGreatBPCmp
import Derived.Test.YtgjbhlianlbflaaGreatBDrawn
import Derived.Test.YtgjbhlianlbflaaGreatBSort
import Derived.Sort.Grow
import Derived.Lib.OwnBridge
namespace Go.Proofs.YtgjbhlianlbflaaGreat
open Go.ChangeShapes Go.WideShapes Go.ChangeAt Go.RowKit Go.Maps Go.WideMaps Go.Shelf Go.Sort
set_option linter.unusedVariables false
set_option linter.unusedSimpArgs false
theorem lkisnan_any (u : Int) (w : World) : Calls Tryz.prog 125 #[.int .i64 u] w fun e w' => e = .returned (.bool false) ∧ w = w' := by
  go_enter Tryz.func125, Tryz.ntmps125
  go_wp2
  go_ret
  exact ⟨rfl, rfl⟩
set_option maxRecDepth 100000 in
theorem lkcmpi_any (u v : Int) (w : World) : Calls Tryz.prog 94 #[.int .i64 u, .int .i64 v] w fun e w' => e = .returned (.int .i64 (Lib.compareInt u v)) ∧ w = w' := by
  rcases (show u < v ∨ v < u ∨ u = v by omega) with h | h | h
  · have hr : Hid (Lib.compareInt u v = -1) := hid (by unfold Lib.compareInt; rw [if_pos h])
    go_enter Tryz.func94, Tryz.ntmps94
    go_wp2_with (go_at_call 125; refine (lkisnan_any _ _).mono ?_; rintro e w' ⟨rfl, rfl⟩)
    go_ret
    exact ⟨ret_num hr.out.symm, rfl⟩
  · have hr : Hid (Lib.compareInt u v = 1) := hid (by unfold Lib.compareInt; rw [if_neg (by omega), if_pos h])
    have h2 : ¬ u < v := by omega
    go_enter Tryz.func94, Tryz.ntmps94
    go_wp2_with (go_at_call 125; refine (lkisnan_any _ _).mono ?_; rintro e w' ⟨rfl, rfl⟩)
    go_ret
    exact ⟨ret_num hr.out.symm, rfl⟩
  · subst h
    have hr : Hid (Lib.compareInt u u = 0) := hid (by unfold Lib.compareInt; rw [if_neg (by omega), if_neg (by omega)])
    go_enter Tryz.func94, Tryz.ntmps94
    go_wp2_with (go_at_call 125; refine (lkisnan_any _ _).mono ?_; rintro e w' ⟨rfl, rfl⟩)
    go_ret
    exact ⟨ret_num hr.out.symm, rfl⟩
def orE (p q : Int) : Int := if p = 0 then q else p
set_option maxRecDepth 100000 in
theorem lkor_any (b cap : Nat) (p q : Int) (w : World) (h0 : w.cell? ⟨b, 0, none⟩ = some (.int .i64 p)) (h1 : w.cell? ⟨b, 1, none⟩ = some (.int .i64 q)) :
    Calls Tryz.prog 85 #[.slice (some ⟨b, 0, none⟩) 2 cap] w fun e w' => e = .returned (.int .i64 (orE p q)) ∧ w = w' := by
  have HK : Hid (∀ x, orE p q = x ↔ (p = 0 ∧ q = x) ∨ (p ≠ 0 ∧ p = x)) := hid (fun x => by unfold orE; split <;> simp_all)
  go_enter Tryz.func85, Tryz.ntmps85
  go_wp2_with fail
  go_loop [8] (fun iv => ∃ j : Nat, j ≤ 2 ∧ iv = .int .i64 j ∧ (0 < j → p = 0) ∧ (1 < j → q = 0)) (fun iv => 2 - (intOf iv).toNat)
  case atStart => exact ⟨0, by omega, rfl, by omega, by omega⟩
  case round =>
    obtain ⟨j, hj, rfl, hp, hq⟩ := hrel
    rcases (show j = 0 ∨ j = 1 ∨ j = 2 by omega) with rfl | rfl | rfl
    · by_cases hp0 : p = 0
      · subst hp0
        go_wp2
        go_round
        case rel => exact ⟨1, by omega, rfl, by simp, by omega⟩
        case measure => simp [intOf]
      · have H : Hid (orE p q = p) := hid (by unfold orE; rw [if_neg hp0])
        go_wp2
        go_ret
        exact ⟨ret_num H.out.symm, rfl⟩
    · have hp0 := hp (by omega)
      subst hp0
      by_cases hq0 : q = 0
      · subst hq0
        go_wp2
        go_round
        case rel => exact ⟨2, by omega, rfl, by simp, by simp⟩
        case measure => simp [intOf]
      · have H : Hid (orE 0 q = q) := hid (by unfold orE; rw [if_pos rfl])
        go_wp2
        go_ret
        exact ⟨ret_num H.out.symm, rfl⟩
    · have hp0 := hp (by omega)
      have hq0 := hq (by omega)
      subst hp0 hq0
      have H : Hid (orE 0 0 = 0) := hid (by unfold orE; rw [if_pos rfl])
      go_wp2
      go_ret
      exact ⟨ret_num H.out.symm, rfl⟩
def cmpE (x y : EnL) : Int := orE (cmpOf (L x.path) (L y.path)) (Lib.compareInt x.stamp y.stamp)
theorem compareInt_lt (a b : Int) : Lib.compareInt a b < 0 ↔ a < b := by
  unfold Lib.compareInt
  split
  · next h => exact ⟨fun _ => h, fun _ => by omega⟩
  · split
    · constructor <;> intro _ <;> omega
    · constructor <;> intro _ <;> omega
theorem cmpE_lt (x y : EnL) : cmpE x y < 0 ↔ cmpOf (L x.path) (L y.path) < 0 ∨ (x.path = y.path ∧ x.stamp < y.stamp) := by
  unfold cmpE orE
  split
  · next h =>
    rw [compareInt_lt]
    have := (cmpOf_same _ _).1 h
    rw [L_inj] at this
    exact ⟨fun h2 => .inr ⟨this, h2⟩, fun h2 => by rcases h2 with h2 | h2; omega; exact h2.2⟩
  · next h =>
    constructor
    · intro h2; exact .inl h2
    · rintro (h2 | ⟨h2, _⟩)
      · exact h2
      · exact absurd ((cmpOf_same _ _).2 (by rw [h2])) h
theorem ltp_trans {a b c : List UInt8} (ha : right a = true) (hb : right b = true) (hc : right c = true) (h1 : cmpOf a b < 0) (h2 : cmpOf b c < 0) : cmpOf a c < 0 := by
  have h3 := cmpOf_trans ha hb hc (Int.le_of_lt h1) (Int.le_of_lt h2)
  have h4 : cmpOf a c ≠ 0 := fun e => by
    have := (cmpOf_same a c).1 e
    subst this
    have := cmpOf_swap a b
    omega
  omega
theorem cmpE_trans {x y z : EnL} (hx : right (L x.path) = true) (hy : right (L y.path) = true) (hz : right (L z.path) = true) (h1 : cmpE x y < 0) (h2 : cmpE y z < 0) : cmpE x z < 0 := by
  rw [cmpE_lt] at *
  rcases h1 with h1 | ⟨e1, h1⟩
  · rcases h2 with h2 | ⟨e2, h2⟩
    · exact .inl (ltp_trans hx hy hz h1 h2)
    · rw [← e2]; exact .inl h1
  · rcases h2 with h2 | ⟨e2, h2⟩
    · rw [e1]; exact .inl h2
    · exact .inr ⟨e1.trans e2, by omega⟩
theorem cmpE_irr (x : EnL) : ¬ cmpE x x < 0 := by
  rw [cmpE_lt]
  rintro (h | h)
  · rw [(cmpOf_same _ _).2 rfl] at h; omega
  · omega
theorem cmpE_tot {x y : EnL} (h : ¬ (x.path = y.path ∧ x.stamp = y.stamp)) : cmpE x y < 0 ∨ cmpE y x < 0 := by
  rw [cmpE_lt, cmpE_lt]
  rcases cmpOf_three (L x.path) (L y.path) with h1 | h1 | h1
  · exact .inl (.inl (by omega))
  · have := (cmpOf_same _ _).1 h1
    rw [L_inj] at this
    by_cases h2 : x.stamp < y.stamp
    · exact .inl (.inr ⟨this, h2⟩)
    · exact .inr (.inr ⟨this.symm, by have : x.stamp ≠ y.stamp := fun e => h ⟨this, e⟩; omega⟩)
  · exact .inr (.inl (by have := cmpOf_swap (L x.path) (L y.path); omega))
abbrev EnR : Type := { e : EnL // right (L e.path) = true }
def cmpR (x y : EnR) : Int := cmpE x.1 y.1
theorem lt_cmpR (x y : EnR) : ltOf cmpR x y = decide (cmpE x.1 y.1 < 0) := rfl
theorem swoR : SWO (ltOf cmpR) where
  irrefl x := by rw [lt_cmpR]; exact decide_eq_false (cmpE_irr _)
  trans x y z h1 h2 := by
    rw [lt_cmpR, decide_eq_true_eq] at *
    exact cmpE_trans x.2 y.2 z.2 h1 h2
  ntrans x y z h1 h2 := by
    rw [lt_cmpR, decide_eq_false_iff_not] at *
    intro h3
    by_cases e : x.1.path = y.1.path ∧ x.1.stamp = y.1.stamp
    · refine h2 ?_
      rw [cmpE_lt] at h3 ⊢
      rw [← e.1, ← e.2]
      exact h3
    · rcases cmpE_tot e with h4 | h4
      · exact h1 h4
      · exact h2 (cmpE_trans y.2 x.2 z.2 h4 h3)
def RisesE (l : List EnL) : Prop := l.Pairwise fun a b => cmpE a b < 0
theorem risesE_ext : ∀ {a b : List EnL}, (∀ e ∈ a, right (L e.path) = true) → RisesE a → RisesE b → (∀ x, x ∈ a ↔ x ∈ b) → a = b
  | [], [], _, _, _, _ => rfl
  | [], y :: b, _, _, _, h => absurd ((h y).2 (by simp)) (by simp)
  | x :: a, [], _, _, _, h => absurd ((h x).1 (by simp)) (by simp)
  | x :: a, y :: b, hr, ha, hb, h => by
    have hrb : ∀ e ∈ y :: b, right (L e.path) = true := fun e he => hr e ((h e).2 he)
    unfold RisesE at ha hb
    rw [List.pairwise_cons] at ha hb
    have e : x = y := by
      rcases List.mem_cons.1 ((h x).1 (by simp)) with h1 | h1
      · exact h1
      · rcases List.mem_cons.1 ((h y).2 (by simp)) with h2 | h2
        · exact h2.symm
        · have h3 := cmpE_trans (hr x (by simp)) (hrb y (by simp)) (hr x (by simp)) (ha.1 y h2) (hb.1 x h1)
          exact absurd h3 (cmpE_irr x)
    subst e
    congr 1
    refine risesE_ext (fun e he => hr e (by simp [he])) ha.2 hb.2 fun z => ?_
    constructor
    · intro hz
      rcases List.mem_cons.1 ((h z).1 (by simp [hz])) with h1 | h1
      · subst h1; exact absurd (ha.1 z hz) (cmpE_irr z)
      · exact h1
    · intro hz
      rcases List.mem_cons.1 ((h z).2 (by simp [hz])) with h1 | h1
      · subst h1; exact absurd (hb.1 z hz) (cmpE_irr z)
      · exact h1
set_option maxRecDepth 100000 in
set_option maxHeartbeats 4000000 in
theorem lkcompare_any (a b : EnL) (w : World) (ha : right (L a.path) = true) (hb : right (L b.path) = true) :
    Calls Tryz.prog 68 #[entV a, entV b] w (Asks (.int .i64 (cmpE a b)) w) := by
  have HC := hid (fun w => compare_any a.path b.path w (by have := size_right ha; omega) (by have := size_right hb; omega))
  have HU := hid (fun w => lkcmpi_any a.stamp b.stamp w)
  obtain ⟨p, hp⟩ : ∃ p, cmpOf (L a.path) (L b.path) = p := ⟨_, rfl⟩
  obtain ⟨q, hq⟩ : ∃ q, Lib.compareInt a.stamp b.stamp = q := ⟨_, rfl⟩
  have HR : Hid (cmpE a b = orE p q) := hid (by unfold cmpE; rw [hp, hq])
  rw [hp] at HC
  rw [hq] at HU
  clear hp hq ha hb
  go_enter Tryz.func68, Tryz.ntmps68
  go_upto_region 1 with fail
  obtain ⟨W, hW⟩ : ∃ W, (w.alloc (.cells (entC a) 44)).alloc (.cells (entC b) 44) = W := ⟨_, rfl⟩
  rw [hW]
  obtain ⟨K0, K1, KB⟩ := ltwo_new hW
  clear hW
  obtain ⟨k, hk⟩ : ∃ k, w.heap.size = k := ⟨_, rfl⟩
  rw [hk] at K0 K1 KB
  rw [hk]
  have HK := hid hk
  clear hk
  have HS := hid (fun (W1 : World) (h0 : Blk W1 k 44 (entC a)) (h1 : Blk W1 (k + 1) 44 (entC b)) => And.intro (And.intro (lcells6 h0).1 (lcells6 h0).2.2.2.2.2) (And.intro (lcells6 h1).1 (lcells6 h1).2.2.2.2.2))
  have S0 := hid (HS.out _ K0.out.drew K1.out.drew)
  go_region_held3 (fun w' => (w'.cell? ⟨k, 0, none⟩ = some (.string a.path) ∧ w'.cell? ⟨k, 5, none⟩ = some (.int .i64 a.stamp)) ∧ w'.cell? ⟨k + 1, 0, none⟩ = some (.string b.path) ∧ w'.cell? ⟨k + 1, 5, none⟩ = some (.int .i64 b.stamp))
    (first | with_reducible exact S0.out | with_reducible exact S1.out | with_reducible exact S2.out _)
    (first
      | (go_at_call 22; (with_reducible refine (HC.out _).mono ?_); rintro e1 w1 ⟨rfl, b1⟩; have J0 := hid (ent_low K0.out.drew b1); have J1 := hid (ent_low K1.out.drew b1); have S1 := hid (HS.out _ J0.out J1.out); have S2 := hid (fun o => HS.out _ (J0.out.alloc o) (J1.out.alloc o)); have B1 := hid ((below_drew KB.out).trans (b1.mono (by have := K1.out.lt; show k ≤ W.heap.size; omega))); have HZ := hid J1.out.lt; clear b1)
      | (go_at_call 94; (with_reducible refine (HU.out _).mono ?_); rintro e1 w2 ⟨rfl, rfl⟩)
      | (go_at_call 85; (with_reducible refine (lkor_any _ _ p q _ (by simp) (by simp)).mono ?_); rintro e1 w3 ⟨rfl, rfl⟩))
  rename_i hHeld
  clear hHeld
  go_wp2
  go_ret
  exact ⟨ret_num HR.out.symm, by rw [HK.out]; exact B1.out.alloc (by have := HZ.out; omega) _⟩
theorem below_grow {w w' : World} (h : Below w.heap.size w w') (hd : w.drawn ≤ w'.drawn) : ∃ q os', w' = grow (w.drewN q) os' := by
  refine ⟨w'.drawn - w.drawn, w'.heap.extract w.heap.size w'.heap.size, ?_⟩
  obtain ⟨heap, tape, drawn, os, output⟩ := w
  obtain ⟨heap', tape', drawn', os', output'⟩ := w'
  obtain ⟨h1, h2, h3, h4, h5⟩ := h
  simp only at h1 h2 h3 h4 h5 hd
  subst h1 h2 h3
  unfold grow World.drewN
  simp only
  congr 1
  · apply Array.ext_getElem?
    intro i
    by_cases hi : i < heap.size
    · rw [Array.getElem?_append_left hi]
      exact h5 i hi
    · rw [Array.getElem?_append_right (by omega), Array.getElem?_extract]
      simp only [Nat.min_self]
      split
      · rw [show heap.size + (i - heap.size) = i by omega]
      · next hc => exact Array.getElem?_eq_none (by omega)
  · omega
theorem lkcompare_lays (a b : EnL) (w : World) (ha : right (L a.path) = true) (hb : right (L b.path) = true) :
    Calls Tryz.prog 68 #[entV a, entV b] w fun e w' => e = .returned (.int .i64 (cmpE a b)) ∧ ∃ q os', w' = grow (w.drewN q) os' :=
  (Drawn.calls_up (R := fun w' => Below w.heap.size w w') (lkcompare_any a b w ha hb)).mono fun e w' ⟨he, hb, hd⟩ => ⟨he, below_grow hb hd⟩
end Go.Proofs.YtgjbhlianlbflaaGreat
