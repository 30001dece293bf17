/-
  The contract of the document's own Scan.
-/
import Derived.Test.YtilocedppkmikaaGRef
namespace Go.Proofs.Ytilocedppkmikaa
open Go.ChangeShapes Go.WideShapes Go.ChangeAt Go.RowKit

/-- From a place on, so many bytes, the places by whatever words. -/
theorem cut_as {w0 : World} {A : Option Addr} {l : List Nat} {n c k q : Nat} {x y : Int} (hx : x = (k : Int)) (hy : y = ((k + q : Nat) : Int)) (hn : l.length = n) (hm : k + q ≤ n) (hc : n ≤ c) (h : Sees .u8 w0 A l) (hA : A = none → c = 0) :
    ∃ A1, (∀ w, (Instr.slice 22 (.slice A n c) (some (.int .i64 x)) (some (.int .i64 y)) none).run Try.prog w = .ok (.slice A1 q (c - k)) w) ∧ (A1 = none → c - k = 0) ∧ Sees .u8 w0 A1 ((l.drop k).take q) := by
  subst hx; subst hy
  obtain ⟨i0, hi, hz0, hz1, hz2⟩ := info_parts info_u8
  obtain ⟨A1, h1, h2, h3⟩ := cut_mid 22 5 i0 Try.underlying22 hi hz1 hn (show k ≤ k + q by omega) hm hc h.held hA
  simp only [Nat.add_sub_cancel_left] at h1 h3
  exact ⟨A1, h1, h2, h3.sees (Nat.le_refl _)⟩

theorem refreadshort_as (A : Option Addr) (l : List Nat) (n ca : Nat) (w : World) (hl : n ≤ 9223372036854775807) (hn : l.length = n) (h8 : ∀ x ∈ l, x < 256) (hA : Sees .u8 w A l) :
    Calls Try.prog 22 #[.slice A n ca] w (Tells (readN l) w) := by
  subst hn; exact refreadshort_any A l ca w hl h8 hA

theorem refframe_hands (A : Option Addr) (r : List Nat) (n c N : Nat) (w : World) (hr : r.length = n) (hn : n ≤ 16384) (hA0 : A = none → c = 0) (h8 : ∀ x ∈ r, x < 256) (hA : Sees .u8 w A r) (hN : (frameN r).length = N) :
    Calls Try.prog 11 #[.slice A n c] w (fun e w' => ∃ A1 c1, e = .returned (.slice A1 N c1) ∧ Sees .u8 w' A1 (frameN r) ∧ Below w.heap.size w w') := by
  subst hN
  refine (refframe_any A r n c w hr hn hA0 h8 hA).mono ?_
  intro e w' hm
  obtain ⟨A2, c2, rfl, _, _, hs2, hb1⟩ := hm.hands
  exact ⟨A2, c2, rfl, hs2, hb1⟩

set_option maxRecDepth 100000 in
set_option maxHeartbeats 400000 in
theorem refscan_any (A : Option Addr) (l m : List Nat) (rs : List (List Nat)) (n c : Nat) (w : World) (hln : l.length = n) (hl : n ≤ 1000000) (hc : n ≤ c) (hA0 : A = none → c = 0) (h8 : ∀ x ∈ l, x < 256) (hA : Sees .u8 w A l)
    (hrs : ∀ r ∈ rs, r.length ≤ 16384) (ht : Torn m) (e : l = framesN rs ++ m) :
    Calls Try.prog 13 #[.slice A n c] w (ScansTo rs w) := by
  obtain ⟨ir, hir, hr0, hr1, hr2⟩ := info_parts info_row
  have hcount := framesN_count rs
  have hle : (framesN rs).length ≤ n := by rw [← hln, e, List.length_append]; omega
  have x8 : ∀ r ∈ rs, ∀ x ∈ r, x < 256 := by
    intro r hr x hx
    refine h8 x ?_
    rw [e]
    refine List.mem_append_left _ (List.mem_flatten.2 ⟨frameN r, List.mem_map.2 ⟨r, hr, rfl⟩, ?_⟩)
    unfold frameN sealed
    simp [hx]
  have HA := hid hA
  have H8 := hid h8
  have HLN := hid hln
  have H0 := hid hA0
  have HRS := hid hrs
  have HT := hid ht
  have HE := hid e
  have X8 := hid x8
  clear hA h8 hln hA0 hrs ht e x8
  go_enter Try.func13, Try.ntmps13
  go_wp2
  go_loopw [4, 5] (fun v g wr => ScanRel rs w.heap.size w v g wr) (fun _ g _ => n - (intOf g).toNat)
  case atStart => exact ⟨0, [], Nat.zero_le _, by simp [framesN], World.ownsRow_nil _ _ _ _, Recs.nil _ _, Below.refl _ _⟩
  case round =>
    obtain ⟨k, xs, hk, rfl, hown, hrec, hbel⟩ := hrel
    obtain ⟨G, hG⟩ : ∃ G, (framesN (rs.take k)).length = G := ⟨_, rfl⟩
    have hGn : G ≤ n := by have := framesN_take_le rs k; omega
    have hdrop : l.drop G = framesN (rs.drop k) ++ m := by rw [HE.out, framesN_split rs k, List.append_assoc, List.drop_left' hG]
    obtain ⟨A1, hrun, hnil, hs1⟩ := cut_behind HLN.out hGn hc HA.out H0.out
    have HS1 := hid (hs1.below hbel)
    have HN1 := hid hnil
    have HL1 : Hid ((l.drop G).length = n - G) := hid (by rw [List.length_drop, HLN.out])
    have x1 : ∀ x ∈ l.drop G, x < 256 := fun x hx => H8.out x (List.mem_of_mem_drop hx)
    have X1 := hid x1
    have HBE := hid hbel
    have hsz := hbel.size
    by_cases hlt : k < rs.length
    · obtain ⟨r, hr⟩ : ∃ r, r = rs[k] := ⟨_, rfl⟩
      have hrl : r.length ≤ 16384 := by rw [hr]; exact HRS.out _ (List.getElem_mem hlt)
      have hd : l.drop G = frameN r ++ (framesN (rs.drop (k + 1)) ++ m) := by rw [hdrop, framesN_drop hlt, ← hr, List.append_assoc]
      obtain ⟨q, hq⟩ : ∃ q, r.length = q := ⟨_, rfl⟩
      obtain ⟨v, hv⟩ : ∃ v, v = q + 4 := ⟨_, rfl⟩
      obtain ⟨a, ha⟩ : ∃ a, a = (shortN v).length := ⟨_, rfl⟩
      have hfl : (frameN r).length = a + v := by rw [frameN_len, hq, ← hv, ← ha]
      have hread : readN (l.drop G) = (v, a, 0) := by rw [hd, frame_read r _ hrl, hq, ← hv, ← ha]
      have ha3 : a ≤ 3 := by rw [ha]; exact shortN_len3 (by omega)
      have hfit : G + (a + v) ≤ n := by
        have h1 := framesN_take_len hlt
        have h2 := framesN_take_le rs (k + 1)
        rw [← hr, hG, hfl] at h1
        omega
      have e1 : (l.drop (G + a)).take q = r := by
        rw [← List.drop_drop, hd, ha]
        unfold frameN sealed
        rw [hq, ← hv, List.append_assoc, List.drop_left' rfl, List.append_assoc, List.take_left' hq]
      have e2 : (l.drop G).take (a + v) = frameN r := by rw [hd, List.take_left' hfl]
      obtain ⟨A2, hrun2, hnil2, hs2⟩ := cut_as (w0 := w) (k := G + a) (q := q) (x := (G : Int) + (a : Int)) (y := (G : Int) + (a : Int) + (v : Int) - 4) (by omega) (by omega) HLN.out (by omega) hc HA.out H0.out
      obtain ⟨A3, hrun3, hnil3, hs3⟩ := cut_as (w0 := w) (k := G) (q := a + v) (x := (G : Int)) (y := (G : Int) + (a : Int) + (v : Int)) (by omega) (by omega) HLN.out (by omega) hc HA.out H0.out
      rw [e1] at hs2
      rw [e2] at hs3
      have HST := hid (fun (w2 w3 : World) (v' : Value) (c2 : Nat) (g : Int) (o : Obj) (hb2 : Below wr.heap.size wr w2) (hcz : A2 = none → c2 = 0) => scan_step2 (w2 := w2) (w3 := w3) (v' := v') (B := A2) (c := c2) (g := g) (o := o) hlt hr hown hrec hbel hsz hb2 hcz ((hs2.below hbel).below hb2) (fun b o hb h0 => .inl (by obtain ⟨b', o', e1, e2, _⟩ := hs2 0 _ (List.getElem?_eq_getElem h0); rw [hb] at e1; injection e1 with e1; injection e1 with e1 e3; rw [e1]; exact e2)))
      have HOW := hid hown
      have HR := hid hread
      have HS2 := hid (hs2.below hbel)
      have HS3 := hid (hs3.below hbel)
      have HN2 := hid hnil2
      have XR : Hid (∀ x ∈ r, x < 256) := hid (by rw [hr]; exact X8.out _ (List.getElem_mem hlt))
      have HQ := hid hq
      have HF := hid hfl
      have HG := hid hG
      rw [hG]
      have hv4 : 4 ≤ v := by omega
      have hvb : v ≤ 16388 := by omega
      have hq9 : q ≤ 16384 := by omega
      have hvi : (v : Int) ≤ (n : Int) - (G : Int) - (a : Int) := by omega
      have HV := hid hv
      clear hown hrec hbel hs1 hnil hdrop hr hrl hd hq hv ha hfl hread e1 e2 hs2 hs3 hnil2 hnil3 hG x1
      go_wp2_with (first
        | (go_at_call 22; ((with_reducible refine (refreadshort_as A1 (l.drop G) (n - G) (c - G) _ (by omega) HL1.out X1.out HS1.out).mono ?_); rintro e w' ⟨rfl, rfl⟩; rw [HR.out]))
        | (go_at_call 11; ((with_reducible refine (refframe_hands A2 r q (c - (G + a)) (a + v) _ HQ.out hq9 HN2.out XR.out HS2.out HF.out).mono ?_); rintro e w2 ⟨A4, c4, rfl, hs4, hb4⟩; have HS4 := hid hs4; have HB4 := hid hb4; clear hs4 hb4))
        | (go_at_call 10; ((with_reducible refine (same_as A4 A3 (frameN r) (a + v) c4 (c - G) _ (by omega) HF.out HS4.out (HS3.out.below HB4.out)).mono ?_); rintro e w3 ⟨rfl, hb5⟩; have HB5 := hid (below_on HB4.out hb5); have HO5 := hid (row_below HOW.out HB5.out); have hsz5 : w.heap.size ≤ w3.heap.size := Nat.le_trans hsz HB5.out.size; clear hb5))
        | (at_builtin; refine wpList_append_own _ rfl (.tmp 68) (.tmp 70) 31 rfl w.heap.size 22 ir (.slice none 0 0) 1 24 Try.underlying31 hir hr0 hr1 hr2 rfl (by decide) _ _ _ rfl (HO5.out.alloc _) ⟨w3.heap.size, 0, none⟩ 1 1 [.slice A2 q (c - (G + a))] rfl rfl (one_at _) one_slice (by unfold maxLen; omega) (by omega) (by simp; omega) ?_; intro v' w4 hown4 hg4 _; have R := hid (HST.out w3 w4 v' (c - (G + a)) ((G : Int) + (a : Int) + (v : Int)) _ HB5.out HN2.out (by rw [HQ.out]; exact hown4) hg4 (by rw [HG.out, HF.out]; omega)); clear hown4 hg4))
      go_roundw
      case rel => exact R.out
      case measure => simp only [intOf]; omega
    · have hkl : k = rs.length := by omega
      have htd : Torn (l.drop G) := by rw [hdrop, hkl, List.drop_length, framesN_nil, List.nil_append]; exact HT.out
      have HG := hid hG
      have HD := hid (fun (w2 : World) (x : Int) (hb2 : Below wr.heap.size wr w2) => scan_done (rs := rs) (w := w) (wr := w2) (x := x) hkl X8.out HRS.out (row_below hown hb2) (hrec.below hb2) (hbel.trans (hb2.mono hsz)))
      rw [hG]
      obtain ⟨v, a, e, hread⟩ : ∃ v a e, readN (l.drop G) = (v, a, e) := ⟨_, _, _, rfl⟩
      have HR := hid hread
      have HBL := hid hbel
      clear hown hrec hbel hs1 hnil hdrop hG
      by_cases he : e = 0
      · obtain rfl := he
        have hinv := readN_inv x1 hread
        have hv64 : v < 18446744073709551616 := hinv.2.2.2
        have han : G + a ≤ n := by have := hinv.2.1; rw [HL1.out] at this; omega
        by_cases h4 : v < 4
        · clear htd hinv hread x1
          have h4i : (v : Int) < 4 := by omega
          go_wp2_with (first
            | (go_at_call 22; ((with_reducible refine (refreadshort_as A1 (l.drop G) (n - G) (c - G) _ (by omega) HL1.out X1.out HS1.out).mono ?_); rintro e w' ⟨rfl, rfl⟩; rw [HR.out])))
          go_ret2
          exact HD.out _ _ (Below.refl _ _) (by rw [HG.out])
        · have h4i : ¬ (v : Int) < 4 := by omega
          by_cases hbig : 16388 < v
          · clear htd hinv hread x1
            have hbi : ¬ (v : Int) ≤ 16388 := by omega
            go_wp2_with (first
              | (go_at_call 22; ((with_reducible refine (refreadshort_as A1 (l.drop G) (n - G) (c - G) _ (by omega) HL1.out X1.out HS1.out).mono ?_); rintro e w' ⟨rfl, rfl⟩; rw [HR.out])))
            go_ret2
            exact HD.out _ _ (Below.refl _ _) (by rw [HG.out])
          · have hbi : (v : Int) ≤ 16388 := by omega
            have ha3 : a ≤ 3 := by rw [hinv.1]; exact shortN_len3 (by omega)
            by_cases hlong : n < G + a + v
            · clear htd hinv hread x1
              have hlo : ¬ (v : Int) ≤ (n : Int) - (G : Int) - (a : Int) := by omega
              go_wp2_with (first
                | (go_at_call 22; ((with_reducible refine (refreadshort_as A1 (l.drop G) (n - G) (c - G) _ (by omega) HL1.out X1.out HS1.out).mono ?_); rintro e w' ⟨rfl, rfl⟩; rw [HR.out])))
              go_ret2
              exact HD.out _ _ (Below.refl _ _) (by rw [HG.out])
            · have hvi : (v : Int) ≤ (n : Int) - (G : Int) - (a : Int) := by omega
              obtain ⟨q, hq⟩ : ∃ q, v = q + 4 := ⟨v - 4, by omega⟩
              obtain ⟨A2, hrun2, hnil2, hs2⟩ := cut_as (w0 := w) (k := G + a) (q := q) (x := (G : Int) + (a : Int)) (y := (G : Int) + (a : Int) + (v : Int) - 4) (by omega) (by omega) HLN.out (by omega) hc HA.out H0.out
              obtain ⟨A3, hrun3, hnil3, hs3⟩ := cut_as (w0 := w) (k := G) (q := a + v) (x := (G : Int)) (y := (G : Int) + (a : Int) + (v : Int)) (by omega) (by omega) HLN.out (by omega) hc HA.out H0.out
              obtain ⟨p, hp⟩ : ∃ p, (l.drop (G + a)).take q = p := ⟨_, rfl⟩
              obtain ⟨z, hz⟩ : ∃ z, (l.drop G).take (a + v) = z := ⟨_, rfl⟩
              rw [hp] at hs2
              rw [hz] at hs3
              have hpl : p.length = q := by rw [← hp, List.length_take, List.length_drop, HLN.out]; omega
              have HZL : Hid (z.length = a + v) := hid (by rw [← hz, List.length_take, HL1.out]; omega)
              have HFL : Hid ((frameN p).length = a + v) := hid (by rw [frameN_len, hpl, ← hq, ← hinv.1])
              have HNE : Hid (frameN p ≠ z) := hid (fun h => htd p ((l.drop G).drop (a + v)) (by omega) (by rw [h, ← hz, List.take_append_drop]))
              have XP : Hid (∀ x ∈ p, x < 256) := hid (fun x hx => H8.out x (List.mem_of_mem_drop (List.mem_of_mem_take (hp ▸ hx))))
              have HPL := hid hpl
              have HS2 := hid (hs2.below HBL.out)
              have HS3 := hid (hs3.below HBL.out)
              have HN2 := hid hnil2
              have hq9 : q ≤ 16384 := by omega
              clear htd hinv hread x1 hs2 hs3 hp hz hpl hnil2 hnil3 hq
              go_wp2_with (first
                | (go_at_call 22; ((with_reducible refine (refreadshort_as A1 (l.drop G) (n - G) (c - G) _ (by omega) HL1.out X1.out HS1.out).mono ?_); rintro e w' ⟨rfl, rfl⟩; rw [HR.out]))
                | (go_at_call 11; ((with_reducible refine (refframe_hands A2 p q (c - (G + a)) (a + v) _ HPL.out hq9 HN2.out XP.out HS2.out HFL.out).mono ?_); rintro e w2 ⟨A4, c4, rfl, hs4, hb4⟩; have HS4 := hid hs4; have HB4 := hid hb4; clear hs4 hb4))
                | (go_at_call 10; ((with_reducible refine (same_false A4 A3 (frameN p) z (a + v) c4 (c - G) _ (by omega) HFL.out HZL.out HNE.out HS4.out (HS3.out.below HB4.out)).mono ?_); rintro e w3 ⟨rfl, hb5⟩; have HB5 := hid (below_on HB4.out hb5); clear hb5)))
              go_ret2
              exact HD.out _ _ HB5.out (by rw [HG.out])
      · have he2 : ¬ (e : Int) = 0 := by omega
        clear htd hread x1
        go_wp2_with (first
          | (go_at_call 22; ((with_reducible refine (refreadshort_as A1 (l.drop G) (n - G) (c - G) _ (by omega) HL1.out X1.out HS1.out).mono ?_); rintro e w' ⟨rfl, rfl⟩; rw [HR.out])))
        go_ret2
        exact HD.out _ _ (Below.refl _ _) (by rw [HG.out])

end Go.Proofs.Ytilocedppkmikaa
