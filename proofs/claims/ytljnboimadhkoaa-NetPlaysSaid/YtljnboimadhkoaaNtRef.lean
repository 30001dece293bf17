/-
  The document's frames (moothillref19): Same; the law's of.
-/
import Derived.Test.YtljnboimadhkoaaNtPut
namespace Go.Proofs.Ytljnboimadhkoaa
open Go.ChangeShapes Go.WideShapes Go.ChangeAt Go.RowKit
set_option linter.unusedVariables false
set_option linter.unusedSimpArgs false

set_option maxRecDepth 100000 in
set_option maxHeartbeats 1000000 in
theorem ntof_any (fr to : Int) (A : Option Addr) (n c : Nat) (w : World) :
    Calls Try.prog 11 #[.agg #[.int .i64 fr, .int .i64 to, .slice A n c]] w fun e w' => e = .returned (.agg #[.int .i64 fr, .int .i64 to, .slice A n c]) ∧ Below w.heap.size w w' := by
  go_enter Try.func11, Try.ntmps11
  go_upto_region 1 with fail
  obtain ⟨W, hW⟩ : ∃ W, (w.alloc (.cells #[.int .i64 fr, .int .i64 to, .slice A n c] 32)).alloc (.cells zeroF 41) = W := ⟨_, rfl⟩
  rw [hW]
  obtain ⟨K0, K1, KB⟩ := ltwo_new hW
  clear hW
  obtain ⟨k, hk⟩ : ∃ k, w.heap.size = k := ⟨_, rfl⟩
  rw [hk] at K0 K1 KB ⊢
  have HK := hid hk
  clear hk
  obtain ⟨c0, c1, c2⟩ := lcells3N K0.out
  obtain ⟨d0, d1, d2⟩ := lcells3N K1.out
  obtain ⟨f0, f1, f2⟩ := lfrozen3N K1.out
  go_wp2
  have Q := put3N_blk K1.out (.int .i64 fr) (.int .i64 to) (.slice A n c)
  have QB := put3N_below KB.out (Nat.le_succ k) (.int .i64 fr) (.int .i64 to) (.slice A n c)
  unfold put3N at Q QB
  obtain ⟨w3, hw3⟩ : ∃ w3, ((W.setCell ⟨k + 1, 0, none⟩ (.int .i64 fr)).setCell ⟨k + 1, 1, none⟩ (.int .i64 to)).setCell ⟨k + 1, 2, none⟩ (.slice A n c) = w3 := ⟨_, rfl⟩
  rw [hw3] at Q QB ⊢
  clear hw3 c0 c1 c2 d0 d1 d2 f0 f1 f2
  obtain ⟨y0, y1, y2⟩ := lcells3N Q
  refine bodyPost_ret (v := .agg #[.int .i64 fr, .int .i64 to, .slice A n c]) (by simp [results, Try.results11, go_sem, y0, y1, y2]) rfl ⟨rfl, by rw [HK.out]; exact QB⟩

/-- The same frame? -/
def sameB (a b : FrL) : Bool := decide (a.fr = b.fr) && decide (a.to = b.to) && decide (a.d = b.d)
theorem sameB_iff {a b : FrL} : sameB a b = true ↔ a = b := by
  unfold sameB
  obtain ⟨a1, a2, a3⟩ := a
  obtain ⟨b1, b2, b3⟩ := b
  simp [and_assoc]
theorem sameB_no {a b : FrL} (h : ¬ (a.fr = b.fr ∧ a.to = b.to ∧ a.d = b.d)) : sameB a b = false := by
  unfold sameB
  simp
  intro h1 h2 h3
  exact h ⟨h1, h2, h3⟩
theorem sameB_self (a : FrL) : sameB a a = true := sameB_iff.2 rfl
set_option maxRecDepth 100000 in
set_option maxHeartbeats 2000000 in
theorem ntsame_any (a b : FrL) (A B : Option Addr) (n m ca cb : Nat) (w : World) (hn : a.d.length = n) (hm : b.d.length = m) (hn9 : n ≤ 9223372036854775807) (hm9 : m ≤ 9223372036854775807) (hA : Sees .u8 w A a.d) (hB : Sees .u8 w B b.d) :
    Calls Try.prog 10 #[.agg #[.int .i64 a.fr, .int .i64 a.to, .slice A n ca], .agg #[.int .i64 b.fr, .int .i64 b.to, .slice B m cb]] w fun e w' => e = .returned (.bool (sameB a b)) ∧ Below w.heap.size w w' := by
  have HA := hid hA
  have HB := hid hB
  have HN := hid hn
  have HM := hid hm
  obtain ⟨fr, to, x⟩ := a
  obtain ⟨fr', to', y⟩ := b
  clear hA hB hn hm
  have HNo := hid (sameB_no (a := ⟨fr, to, x⟩) (b := ⟨fr', to', y⟩))
  go_enter Try.func10, Try.ntmps10
  go_upto_region 1 with fail
  obtain ⟨W, hW⟩ : ∃ W, (w.alloc (.cells #[.int .i64 fr, .int .i64 to, .slice A n ca] 41)).alloc (.cells #[.int .i64 fr', .int .i64 to', .slice B m cb] 41) = W := ⟨_, rfl⟩
  rw [hW]
  obtain ⟨K0, K1, KB⟩ := ltwo_new hW
  clear hW
  have HA1 := hid (HA.out.below KB.out)
  have HB1 := hid (HB.out.below KB.out)
  obtain ⟨k, hk⟩ : ∃ k, w.heap.size = k := ⟨_, rfl⟩
  rw [hk] at K0 K1 KB ⊢
  have HK := hid hk
  have KW : Hid (Below w.heap.size w W) := hid (by rw [HK.out]; exact KB.out)
  clear hk HA HB
  obtain ⟨c0, c1, c2⟩ := lcells3N K0.out
  obtain ⟨d0, d1, d2⟩ := lcells3N K1.out
  by_cases h1 : fr = fr'
  · by_cases h2 : to = to'
    · by_cases h3 : n = m
      · subst h1 h2 h3
        go_wp2
        go_loopw [5] (fun i wr => ∃ j : Nat, j ≤ n ∧ i = .int .i64 j ∧ Hid (Below W.heap.size W wr) ∧ Hid (∀ i, i < j → x[i]? = y[i]?)) (fun i _ => n - (intOf i).toNat)
        case atStart => exact ⟨0, Nat.zero_le _, rfl, hid (Below.refl _ _), hid (fun i hi => absurd hi (Nat.not_lt_zero i))⟩
        case round =>
          obtain ⟨j, hj, rfl, HBe, HJ⟩ := hrel
          obtain ⟨c0, c1, c2⟩ := lcells3N (K0.out.below HBe.out K0.out.lt)
          obtain ⟨d0, d1, d2⟩ := lcells3N (K1.out.below HBe.out K1.out.lt)
          by_cases hlt : j < n
          · have hx := List.getElem?_eq_getElem (l := x) (i := j) (by have : x.length = n := HN.out; omega)
            have hy := List.getElem?_eq_getElem (l := y) (i := j) (by have : y.length = n := HM.out; omega)
            obtain ⟨p, hp⟩ : ∃ p, x[j]? = some p := ⟨_, hx⟩
            obtain ⟨q, hq⟩ : ∃ q, y[j]? = some q := ⟨_, hy⟩
            have HP := hid hp
            have HQ := hid hq
            obtain ⟨b1, o1, hAe, _, z1⟩ := (HA1.out.below HBe.out) j p hp
            obtain ⟨b2, o2, hBe, _, z2⟩ := (HB1.out.below HBe.out) j q hq
            subst hAe hBe
            clear hx hy hp hq
            by_cases hpq : p = q
            · subst hpq
              have HJ2 : Hid (∀ i, i < j + 1 → x[i]? = y[i]?) := hid (fun i hi => by
                rcases (show i < j ∨ i = j by omega) with h | h
                · exact HJ.out i h
                · subst h; rw [HP.out, HQ.out])
              clear HJ
              go_wp2
              go_quiet (fail)
              go_wp2
              go_roundw
              case rel => exact ⟨j + 1, by omega, by go_num, hid (below_drewN HBe.out _), HJ2⟩
              case measure => simp [intOf]; omega
            · have hpi : ¬ ((p : Int) = (q : Int)) := by omega
              have HR := hid (HNo.out (fun h => hpq (by have e : x = y := h.2.2; have h5 := HP.out; rw [e, HQ.out] at h5; injection h5 with h5; exact h5.symm)))
              clear HJ HNo
              go_wp2
              go_quiet (fail)
              go_wp2
              go_ret
              exact ⟨ret_bool HR.out.symm, below_drewN (below_on KW.out HBe.out) _⟩
          · have hxy : x = y := by
              apply List.ext_getElem?
              intro i
              by_cases hi : i < j
              · exact HJ.out i hi
              · have h1 : x.length = n := HN.out
                have h2 : y.length = n := HM.out
                rw [List.getElem?_eq_none (by omega), List.getElem?_eq_none (by omega)]
            have HR : Hid (sameB ⟨fr, to, x⟩ ⟨fr, to, y⟩ = true) := hid (by rw [hxy]; exact sameB_self _)
            clear hxy HJ HNo
            go_wp2
            go_ret
            exact ⟨ret_bool HR.out.symm, below_on KW.out HBe.out⟩
      · have h4 : ¬ ((n : Int) = (m : Int)) := by omega
        have HR := hid (HNo.out (fun h => h3 (by have e : x = y := h.2.2; have h5 : x.length = n := HN.out; have h6 : y.length = m := HM.out; rw [e] at h5; omega)))
        subst h1 h2
        clear HNo h3
        go_wp2
        go_ret
        exact ⟨ret_bool HR.out.symm, KW.out⟩
    · have HR := hid (HNo.out (fun h => h2 h.2.1))
      subst h1
      clear HNo
      go_wp2
      go_ret
      exact ⟨ret_bool HR.out.symm, KW.out⟩
  · have HR := hid (HNo.out (fun h => h1 h.1))
    clear HNo
    go_wp2
    go_ret
    exact ⟨ret_bool HR.out.symm, KW.out⟩
end Go.Proofs.Ytljnboimadhkoaa
