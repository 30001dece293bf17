/-
  Contracts of the document's own taking of a name, and of a ballot (moothillref06).
-/
import Derived.Test.YtmihfalekbgdhaaMTake
import Derived.Test.YtmihfalekbgdhaaRefT
import Derived.Deep.Cut
namespace Go.Proofs.Ytmihfalekbgdhaa
open Go.ChangeShapes Go.WideShapes Go.ChangeAt Go.RowKit
set_option linter.unusedVariables false

theorem blk_3of {w w1 : World} {a b d : Array Value} {T U V : TypeId} (h : Below (((w.alloc (.cells a T)).alloc (.cells b U)).alloc (.cells d V)).heap.size (((w.alloc (.cells a T)).alloc (.cells b U)).alloc (.cells d V)) w1) :
    Blk w1 w.heap.size T a ∧ Blk w1 (w.heap.size + 1) U b ∧ Blk w1 (w.heap.size + 2) V d ∧ Below w.heap.size w w1 ∧ w.heap.size + 3 ≤ w1.heap.size := by
  have h0 := Blk.new w T a
  have h1 := Blk.new (w.alloc (.cells a T)) U b
  have h2 := Blk.new ((w.alloc (.cells a T)).alloc (.cells b U)) V d
  have e1 : (w.alloc (.cells a T)).heap.size = w.heap.size + 1 := by simp
  have e2 : ((w.alloc (.cells a T)).alloc (.cells b U)).heap.size = w.heap.size + 2 := by simp
  have e3 : (((w.alloc (.cells a T)).alloc (.cells b U)).alloc (.cells d V)).heap.size = w.heap.size + 3 := by simp
  rw [e1] at h1
  rw [e2] at h2
  have hs := h.size
  rw [e3] at hs h
  exact ⟨((h0.alloc _).alloc _).below h (by omega), (h1.alloc _).below h (by omega), h2.below h (by omega),
    ((((Below.refl _ _).alloc (Nat.le_refl _) _).alloc (by rw [e1]; omega) _).alloc (by rw [e2]; omega) _).trans (h.mono (by omega)), hs⟩

theorem refshort_12 (A : Option Addr) (L : List Nat) (n c p : Nat) (l' : List Nat) (e' v : Nat) (w : World) (hn : L.length = n) (hp : p ≤ n) (hl : n ≤ 9223372036854775807) (hc : n ≤ c) (hA0 : A = none → c = 0) (hx : ∀ x ∈ L, x < 256) (hA : Sees .u8 w A L) (hs : sShort (rem L p 12) 12 1023 = (l', e', v)) :
    Calls Try.prog 35 #[reader A n c (p : Int) 12, .int .u64 1023] w (RefDoes A n L c l' e' (.int .u64 (v : Int)) w) :=
  refshort_any' A L n c p 12 1023 1023 l' e' v w rfl hn hp hl hc hA0 hx hA hs

theorem rem_left {L : List Nat} {p e x : Nat} (hx : 0 < x) : rem L p (firstE e x) = leftE e x (rem L p e) := by
  rw [rem_err (by have := firstE_pos (e := e) (x := x) hx; omega)]
  unfold leftE
  by_cases h : e = 0
  · rw [if_pos ⟨h, hx⟩]
  · rw [if_neg (fun hh => h hh.1), rem_err h]

set_option maxRecDepth 100000 in
set_option maxHeartbeats 2000000 in
theorem reftakeid_as (A : Option Addr) (L : List Nat) (n c p e : Nat) (l1 l2 l3 : List Nat) (e1 e2 e3 r s : Nat) (w : World) (hn : L.length = n) (hp : p ≤ n) (hl : n ≤ 9223372036854775807) (hc : n ≤ c) (hA0 : A = none → c = 0) (hx : ∀ x ∈ L, x < 256) (hA : Sees .u8 w A L)
    (hb : sByte (rem L p e) e = (l1, e1, r)) (hr : r < 256) (h60 : 6 < r → e1 = 0) (hm : (if 6 < r then (leftE e1 12 l1, firstE e1 12) else (l1, e1)) = (l2, e2)) (hs : sShort l2 e2 1023 = (l3, e3, s)) :
    Calls Try.prog 19 #[reader A n c (p : Int) (e : Int)] w (RefDoes A n L c l3 e3 (if e3 = 0 then nm r s else nm 0 0) w) := by
  have hs1 : s ≤ 1023 := by have := sShort_most (l := l2) (e := e2) (most := 1023); rw [hs] at this; exact this
  have HA := hid hA
  have HN := hid hn
  have HX := hid hx
  have HB := hid hb
  have HM := hid hm
  have HS := hid hs
  have HA0 := hid hA0
  have H60 := hid h60
  obtain ⟨V, hV⟩ : ∃ V, (if e3 = 0 then nm r s else nm 0 0) = V := ⟨_, rfl⟩
  have HV := hid hV
  rw [hV]
  clear hV
  clear hA hn hx hb hm hs hA0 h60
  go_enter Try.func19, Try.ntmps19
  go_wp2_with fail
  with_reducible refine (refbyte_any A L n c p e l1 e1 r _ HN.out hp hl (((HA.out.alloc_ _).alloc_ _).alloc_ _) HB.out).mono ?_
  rintro en w1 ⟨p1, hp1, hr1, rfl, hb1⟩
  have HR1 := hid hr1
  obtain ⟨B0, B1, B2, HW, hsz⟩ := blk_3of hb1
  have HS0 := hsz
  obtain ⟨⟨c0, c1, c2⟩, f0, f1, f2⟩ := blk3 B0
  go_upto_region 2 with fail
  obtain ⟨W1, hW1⟩ : ∃ W1, (((w1.setCell ⟨w.heap.size, 0, none⟩ (.slice A n c)).setCell ⟨w.heap.size, 1, none⟩ (.int .i64 (p1 : Int))).setCell ⟨w.heap.size, 2, none⟩ (.int .i64 (e1 : Int))) = W1 := ⟨_, rfl⟩
  rw [hW1]
  have K0 : Hid (Blk W1 w.heap.size 46 #[.slice A n c, .int .i64 (p1 : Int), .int .i64 (e1 : Int)]) := hid (by rw [← hW1]; exact Blk.put3 B0 _ _ _)
  have K1 : Hid (Blk W1 (w.heap.size + 1) 46 #[.slice none 0 0, .int .i64 0, .int .i64 0]) := hid (by rw [← hW1]; exact Blk.put3_far B1 (by omega) _ _ _)
  have K2 : Hid (Blk W1 (w.heap.size + 1 + 1) 26 #[.int .i64 0, .int .i64 0]) := hid (by rw [← hW1]; exact Blk.put3_far B2 (by omega) _ _ _)
  have KW : Hid (Below w.heap.size w W1) := hid (by rw [← hW1]; exact below_put3 HW (Nat.le_refl _) _ _ _)
  clear hW1
  clear hb1 hr1 B0 B1 B2 HW c0 c1 c2 f0 f1 f2
  have hs2 := KW.out.size
  obtain ⟨⟨c0, c1, c2⟩, f0, f1, f2⟩ := blk3 K0.out
  by_cases h6 : 6 < r
  · obtain rfl := H60.out h6
    have hm1 : [] = l2 ∧ 12 = e2 := by have := HM.out; rw [if_pos h6] at this; simpa [leftE, firstE] using this
    obtain ⟨rfl, rfl⟩ := hm1
    have h6' : (6 : Int) < (r : Int) := by omega
    have HT : Hid (sShort (rem L p1 12) 12 1023 = (l3, e3, s)) := hid (by rw [rem_err (by decide)]; exact HS.out)
    clear HM
    go_upto_region 4 with fail
    obtain ⟨W2, hW2⟩ : ∃ W2, W1.setCell ⟨w.heap.size, 2, none⟩ (.int .i64 12) = W2 := ⟨_, rfl⟩
    rw [hW2]
    have M0 : Hid (Blk W2 w.heap.size 46 #[.slice A n c, .int .i64 (p1 : Int), .int .i64 12]) := hid (by rw [← hW2]; exact K0.out.set_ 2 (.int .i64 12))
    have M1 : Hid (Blk W2 (w.heap.size + 1) 46 #[.slice none 0 0, .int .i64 0, .int .i64 0]) := hid (by rw [← hW2]; exact K1.out.far (p := ⟨w.heap.size, 2, none⟩) (by simp <;> omega) (.int .i64 12))
    have M2 : Hid (Blk W2 (w.heap.size + 1 + 1) 26 #[.int .i64 0, .int .i64 0]) := hid (by rw [← hW2]; exact K2.out.far (p := ⟨w.heap.size, 2, none⟩) (by simp <;> omega) (.int .i64 12))
    have MW : Hid (Below w.heap.size w W2) := hid (by rw [← hW2]; exact Below.setCell (p := ⟨w.heap.size, 2, none⟩) KW.out (Nat.le_refl _) (.int .i64 12))
    clear hW2 K0 K1 K2 KW c0 c1 c2 f0 f1 f2
    obtain ⟨⟨c0, c1, c2⟩, f0, f1, f2⟩ := blk3 M0.out
    go_wp2_with fail
    clear c0 c1 c2 f0 f1 f2
    with_reducible refine (refshort_12 A L n c p1 l3 e3 s _ HN.out hp1 hl hc HA0.out HX.out (HA.out.below MW.out) HT.out).mono ?_
    rintro en w3 ⟨p2, hp2, hr2, rfl, hb3⟩
    have HR2 := hid hr2
    have N0 := M0.out.below hb3 M0.out.lt
    have N1 := M1.out.below hb3 M1.out.lt
    have N2 := M2.out.below hb3 M2.out.lt
    have NW := below_on MW.out hb3
    clear hb3 hr2 M0 M1 M2 MW
    obtain ⟨⟨c0, c1, c2⟩, f0, f1, f2⟩ := blk3 N0
    go_upto_region 5 with fail
    obtain ⟨W4, hW4⟩ : ∃ W4, (((w3.setCell ⟨w.heap.size, 0, none⟩ (.slice A n c)).setCell ⟨w.heap.size, 1, none⟩ (.int .i64 (p2 : Int))).setCell ⟨w.heap.size, 2, none⟩ (.int .i64 (e3 : Int))) = W4 := ⟨_, rfl⟩
    rw [hW4]
    have K0 : Hid (Blk W4 w.heap.size 46 #[.slice A n c, .int .i64 (p2 : Int), .int .i64 (e3 : Int)]) := hid (by rw [← hW4]; exact Blk.put3 N0 _ _ _)
    have K1 : Hid (Blk W4 (w.heap.size + 1) 46 #[.slice none 0 0, .int .i64 0, .int .i64 0]) := hid (by rw [← hW4]; exact Blk.put3_far N1 (by omega) _ _ _)
    have K2 : Hid (Blk W4 (w.heap.size + 1 + 1) 26 #[.int .i64 0, .int .i64 0]) := hid (by rw [← hW4]; exact Blk.put3_far N2 (by omega) _ _ _)
    have KW : Hid (Below w.heap.size w W4) := hid (by rw [← hW4]; exact below_put3 NW (Nat.le_refl _) _ _ _)
    clear hW4
    clear N0 N1 N2 NW c0 c1 c2 f0 f1 f2
    obtain ⟨⟨c0, c1, c2⟩, f0, f1, f2⟩ := blk3 K0.out
    obtain ⟨⟨d0, d1, d2⟩, k0, k1, k2⟩ := blk3 K1.out
    obtain ⟨⟨b0, b1⟩, j0, j1⟩ := blkn K2.out
    have hlt4 := K2.out.lt
    by_cases h0 : e3 = 0
    · have HV2 : Hid (V = nm r s) := hid (by rw [← HV.out, if_pos h0])
      have hz : ((e3 : Int) != 0) = false := by rw [bne_eq_false_iff_eq]; omega
      clear h0
      go_wp2
      refine bodyPost_ret (v := .tuple #[reader A n c (p2 : Int) (e3 : Int), nm r s]) (by simp [results, Try.results19, go_sem, d0, d1, d2, b0, b1]) rfl ?_
      rw [HV2.out]
      refine refdoes_end hp2 HR2.out ?_
      exact Below.setCell (p := ⟨w.heap.size + 1 + 1, 1, none⟩) (Below.setCell (p := ⟨w.heap.size + 1 + 1, 0, none⟩) (below_put3 KW.out (by omega) _ _ _) (by simp <;> omega) _) (by simp <;> omega) _
    · have HV2 : Hid (V = nm 0 0) := hid (by rw [← HV.out, if_neg h0])
      have hz : ((e3 : Int) != 0) = true := by rw [bne_iff_ne]; omega
      clear h0
      go_wp2
      refine bodyPost_ret (v := .tuple #[reader A n c (p2 : Int) (e3 : Int), nm 0 0]) (by simp [results, Try.results19, go_sem, d0, d1, d2, b0, b1]) rfl ?_
      rw [HV2.out]
      refine refdoes_end hp2 HR2.out ?_
      exact Below.setCell (p := ⟨w.heap.size + 1 + 1, 1, none⟩) (Below.setCell (p := ⟨w.heap.size + 1 + 1, 0, none⟩) (below_put3 KW.out (by omega) _ _ _) (by simp <;> omega) _) (by simp <;> omega) _
  · have hm1 : l1 = l2 ∧ e1 = e2 := by have := HM.out; rw [if_neg h6] at this; simpa using this
    obtain ⟨rfl, rfl⟩ := hm1
    have h6' : (r : Int) ≤ 6 := by omega
    have HT : Hid (sShort (rem L p1 e1) e1 1023 = (l3, e3, s)) := hid (by rw [← HR1.out]; exact HS.out)
    clear HM
    have M0 := K0
    have M1 := K1
    have M2 := K2
    have MW := KW
    clear K0 K1 K2 KW
    go_wp2_with fail
    clear c0 c1 c2 f0 f1 f2
    with_reducible refine (refshort_any' A L n c p1 e1 1023 1023 l3 e3 s _ rfl HN.out hp1 hl hc HA0.out HX.out (HA.out.below MW.out) HT.out).mono ?_
    rintro en w3 ⟨p2, hp2, hr2, rfl, hb3⟩
    have HR2 := hid hr2
    have N0 := M0.out.below hb3 M0.out.lt
    have N1 := M1.out.below hb3 M1.out.lt
    have N2 := M2.out.below hb3 M2.out.lt
    have NW := below_on MW.out hb3
    clear hb3 hr2 M0 M1 M2 MW
    obtain ⟨⟨c0, c1, c2⟩, f0, f1, f2⟩ := blk3 N0
    go_upto_region 5 with fail
    obtain ⟨W4, hW4⟩ : ∃ W4, (((w3.setCell ⟨w.heap.size, 0, none⟩ (.slice A n c)).setCell ⟨w.heap.size, 1, none⟩ (.int .i64 (p2 : Int))).setCell ⟨w.heap.size, 2, none⟩ (.int .i64 (e3 : Int))) = W4 := ⟨_, rfl⟩
    rw [hW4]
    have K0 : Hid (Blk W4 w.heap.size 46 #[.slice A n c, .int .i64 (p2 : Int), .int .i64 (e3 : Int)]) := hid (by rw [← hW4]; exact Blk.put3 N0 _ _ _)
    have K1 : Hid (Blk W4 (w.heap.size + 1) 46 #[.slice none 0 0, .int .i64 0, .int .i64 0]) := hid (by rw [← hW4]; exact Blk.put3_far N1 (by omega) _ _ _)
    have K2 : Hid (Blk W4 (w.heap.size + 1 + 1) 26 #[.int .i64 0, .int .i64 0]) := hid (by rw [← hW4]; exact Blk.put3_far N2 (by omega) _ _ _)
    have KW : Hid (Below w.heap.size w W4) := hid (by rw [← hW4]; exact below_put3 NW (Nat.le_refl _) _ _ _)
    clear hW4
    clear N0 N1 N2 NW c0 c1 c2 f0 f1 f2
    obtain ⟨⟨c0, c1, c2⟩, f0, f1, f2⟩ := blk3 K0.out
    obtain ⟨⟨d0, d1, d2⟩, k0, k1, k2⟩ := blk3 K1.out
    obtain ⟨⟨b0, b1⟩, j0, j1⟩ := blkn K2.out
    have hlt4 := K2.out.lt
    by_cases h0 : e3 = 0
    · have HV2 : Hid (V = nm r s) := hid (by rw [← HV.out, if_pos h0])
      have hz : ((e3 : Int) != 0) = false := by rw [bne_eq_false_iff_eq]; omega
      clear h0
      go_wp2
      refine bodyPost_ret (v := .tuple #[reader A n c (p2 : Int) (e3 : Int), nm r s]) (by simp [results, Try.results19, go_sem, d0, d1, d2, b0, b1]) rfl ?_
      rw [HV2.out]
      refine refdoes_end hp2 HR2.out ?_
      exact Below.setCell (p := ⟨w.heap.size + 1 + 1, 1, none⟩) (Below.setCell (p := ⟨w.heap.size + 1 + 1, 0, none⟩) (below_put3 KW.out (by omega) _ _ _) (by simp <;> omega) _) (by simp <;> omega) _
    · have HV2 : Hid (V = nm 0 0) := hid (by rw [← HV.out, if_neg h0])
      have hz : ((e3 : Int) != 0) = true := by rw [bne_iff_ne]; omega
      clear h0
      go_wp2
      refine bodyPost_ret (v := .tuple #[reader A n c (p2 : Int) (e3 : Int), nm 0 0]) (by simp [results, Try.results19, go_sem, d0, d1, d2, b0, b1]) rfl ?_
      rw [HV2.out]
      refine refdoes_end hp2 HR2.out ?_
      exact Below.setCell (p := ⟨w.heap.size + 1 + 1, 1, none⟩) (Below.setCell (p := ⟨w.heap.size + 1 + 1, 0, none⟩) (below_put3 KW.out (by omega) _ _ _) (by simp <;> omega) _) (by simp <;> omega) _

theorem reftakeid_any (A : Option Addr) (L : List Nat) (n c p e : Nat) (l' : List Nat) (e' r s : Nat) (w : World) (hn : L.length = n) (hp : p ≤ n) (hl : n ≤ 9223372036854775807) (hc : n ≤ c) (hA0 : A = none → c = 0) (hx : ∀ x ∈ L, x < 256) (hA : Sees .u8 w A L)
    (hs : sName (rem L p e) e = (l', e', r, s)) :
    Calls Try.prog 19 #[reader A n c (p : Int) (e : Int)] w (RefDoes A n L c l' e' (nm r s) w) := by
  obtain ⟨h1, h2, h3, h4, h5⟩ := sByte_fine (rem_fine L p e) (fun x hh => hx x (rem_in x hh))
  have hh := reftakeid_as A L n c p e (sByte (rem L p e) e).1 (midName (rem L p e) e).1 (endName (rem L p e) e).1 (sByte (rem L p e) e).2.1 (midName (rem L p e) e).2 (endName (rem L p e) e).2.1 (sByte (rem L p e) e).2.2 (endName (rem L p e) e).2.2 w hn hp hl hc hA0 hx hA rfl h4 h5 rfl rfl
  unfold sName at hs
  simp only [Prod.mk.injEq] at hs
  obtain ⟨rfl, rfl, hv⟩ := hs
  refine hh.mono fun en w' hq => ?_
  split at hv <;> rename_i c
  · rw [if_pos c] at hq; simp only [Prod.mk.injEq] at hv; obtain ⟨rfl, rfl⟩ := hv; exact hq
  · rw [if_neg c] at hq; simp only [Prod.mk.injEq] at hv; obtain ⟨rfl, rfl⟩ := hv; exact hq

set_option maxRecDepth 100000 in
set_option maxHeartbeats 2000000 in
theorem reftakeballot_any (A : Option Addr) (L : List Nat) (n c p e : Nat) (l' : List Nat) (e' v' : Nat) (w : World) (hn : L.length = n) (hp : p ≤ n) (hl : n ≤ 9223372036854775807) (hc : n ≤ c) (hA0 : A = none → c = 0) (hx : ∀ x ∈ L, x < 256) (hA : Sees .u8 w A L)
    (hs : sBallot (rem L p e) e = (l', e', v')) :
    Calls Try.prog 23 #[reader A n c (p : Int) (e : Int)] w (RefDoes A n L c l' e' (.int .u32 (v' : Int)) w) := by
  obtain ⟨l1, e1, v, hv⟩ : ∃ l1 e1 v, sShort (rem L p e) e 4294967295 = (l1, e1, v) := ⟨_, _, _, rfl⟩
  have hm : v ≤ 4294967295 := by have := sShort_most (l := rem L p e) (e := e) (most := 4294967295); rw [hv] at this; exact this
  have hbad : e1 ≠ 0 → l1 = [] ∧ v = 0 := by intro h0; have := sShort_bad (l := rem L p e) (e := e) (most := 4294967295) (by rw [hv]; exact h0) (rem_fine L p e); rw [hv] at this; exact this
  have HA := hid hA
  have HN := hid hn
  have HX := hid hx
  have HV := hid hv
  have HBAD := hid hbad
  have HS := hid hs
  have HA0 := hid hA0
  obtain ⟨x, hxb⟩ : ∃ x, ballotB v = x := ⟨_, rfl⟩
  have HB := hid hxb
  clear hA hn hx hv hbad hs hA0 hxb
  go_enter Try.func23, Try.ntmps23
  go_wp2_with fail
  with_reducible refine (refshort_any' A L n c p e 4294967295 4294967295 l1 e1 v _ rfl HN.out hp hl hc HA0.out HX.out ((HA.out.alloc_ _).alloc_ _) HV.out).mono ?_
  rintro en w1 ⟨p1, hp1, hr1, rfl, hb1⟩
  have HR1 := hid hr1
  obtain ⟨B0, B1⟩ := blk_two hb1
  have HW := below_two hb1
  have hsz : w.heap.size + 1 < w1.heap.size := by have := hb1.size; simp at this; omega
  obtain ⟨⟨c0, c1, c2⟩, f0, f1, f2⟩ := blk3 B0
  go_upto_region 2 with fail
  obtain ⟨W1, hW1⟩ : ∃ W1, (((w1.setCell ⟨w.heap.size, 0, none⟩ (.slice A n c)).setCell ⟨w.heap.size, 1, none⟩ (.int .i64 (p1 : Int))).setCell ⟨w.heap.size, 2, none⟩ (.int .i64 (e1 : Int))) = W1 := ⟨_, rfl⟩
  rw [hW1]
  have K0 : Hid (Blk W1 w.heap.size 46 #[.slice A n c, .int .i64 (p1 : Int), .int .i64 (e1 : Int)]) := hid (by rw [← hW1]; exact Blk.put3 B0 _ _ _)
  have K1 : Hid (Blk W1 (w.heap.size + 1) 46 #[.slice none 0 0, .int .i64 0, .int .i64 0]) := hid (by rw [← hW1]; exact Blk.put3_far B1 (by omega) _ _ _)
  have KW : Hid (Below w.heap.size w W1) := hid (by rw [← hW1]; exact below_put3 HW (Nat.le_refl _) _ _ _)
  clear hW1 hb1 hr1 B0 B1 HW c0 c1 c2 f0 f1 f2 hsz
  obtain ⟨⟨c0, c1, c2⟩, f0, f1, f2⟩ := blk3 K0.out
  cases x
  · have he1 : e1 = 0 := by
      rcases Decidable.em (e1 = 0) with h0 | h0
      · exact h0
      · have := (HBAD.out h0).2; subst this; have := HB.out; rw [ballot0] at this; cases this
    subst he1
    have hs2 : [] = l' ∧ 60 = e' ∧ v' = 0 := by
      have := HS.out
      unfold sBallot at this
      rw [HV.out] at this
      simp only [HB.out, Bool.false_eq_true, if_false, Prod.mk.injEq] at this
      exact ⟨by simpa [leftE] using this.1, by simpa [firstE] using this.2.1, this.2.2.symm⟩
    obtain ⟨rfl, rfl, rfl⟩ := hs2
    clear HS HBAD
    go_upto_region 4 with (go_at_call 13; refine (refballot_any v _ (by omega)).mono ?_; rintro e w' ⟨rfl, rfl⟩; rw [HB.out])
    obtain ⟨W2, hW2⟩ : ∃ W2, W1.setCell ⟨w.heap.size, 2, none⟩ (.int .i64 60) = W2 := ⟨_, rfl⟩
    rw [hW2]
    have M0 : Hid (Blk W2 w.heap.size 46 #[.slice A n c, .int .i64 (p1 : Int), .int .i64 60]) := hid (by rw [← hW2]; exact K0.out.set_ 2 (.int .i64 60))
    have M1 : Hid (Blk W2 (w.heap.size + 1) 46 #[.slice none 0 0, .int .i64 0, .int .i64 0]) := hid (by rw [← hW2]; exact K1.out.far (p := ⟨w.heap.size, 2, none⟩) (by simp <;> omega) (.int .i64 60))
    have MW : Hid (Below w.heap.size w W2) := hid (by rw [← hW2]; exact Below.setCell (p := ⟨w.heap.size, 2, none⟩) KW.out (Nat.le_refl _) (.int .i64 60))
    clear hW2 K0 K1 KW c0 c1 c2 f0 f1 f2
    have KW := MW
    obtain ⟨⟨c0, c1, c2⟩, f0, f1, f2⟩ := blk3 M0.out
    obtain ⟨⟨d0, d1, d2⟩, k0, k1, k2⟩ := blk3 M1.out
    have hlt4 := M1.out.lt
    go_wp2
    refine bodyPost_ret (v := .tuple #[reader A n c (p1 : Int) 60, .int .u32 0]) (by simp [results, Try.results23, go_sem, d0, d1, d2]) rfl ?_
    exact refdoes_end (e' := 60) hp1 (rem_err (by decide)).symm (below_put3 KW.out (by omega) _ _ _)
  · have hs2 : l1 = l' ∧ e1 = e' ∧ v = v' := by
      have := HS.out
      unfold sBallot at this
      rw [HV.out] at this
      simp only [HB.out, if_true, Prod.mk.injEq] at this
      exact this
    obtain ⟨rfl, rfl, rfl⟩ := hs2
    clear HS
    obtain ⟨⟨d0, d1, d2⟩, k0, k1, k2⟩ := blk3 K1.out
    have hlt4 := K1.out.lt
    by_cases h0 : e1 = 0
    · subst h0
      go_upto_region 4 with (go_at_call 13; refine (refballot_any v _ (by omega)).mono ?_; rintro e w' ⟨rfl, rfl⟩; rw [HB.out])
      go_wp2
      refine bodyPost_ret (v := .tuple #[reader A n c (p1 : Int) 0, .int .u32 (v : Int)]) (by simp [results, Try.results23, go_sem, d0, d1, d2]) rfl ?_
      exact refdoes_end (e' := 0) hp1 HR1.out (below_put3 KW.out (by omega) _ _ _)
    · have hz : ((e1 : Int) != 0) = true := by rw [bne_iff_ne]; omega
      have hz2 : ((e1 : Int) == 0) = false := by rw [beq_eq_false_iff_ne]; omega
      obtain rfl := (HBAD.out h0).2
      go_wp2
      refine bodyPost_ret (v := .tuple #[reader A n c (p1 : Int) (e1 : Int), .int .u32 0]) (by simp [results, Try.results23, go_sem, d0, d1, d2]) rfl ?_
      exact refdoes_end (e' := e1) hp1 HR1.out (below_put3 KW.out (by omega) _ _ _)

end Go.Proofs.Ytmihfalekbgdhaa
