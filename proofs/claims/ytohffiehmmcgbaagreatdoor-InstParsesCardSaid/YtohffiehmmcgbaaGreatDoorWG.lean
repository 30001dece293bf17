/-
  The contract of the document's Take of a state (moothillref10) that holds a value, off any bytes.
-/
import Derived.Test.YtohffiehmmcgbaaGreatDoorWJRtZ
import Derived.Test.YtohffiehmmcgbaaGreatDoorWJRtS
import Derived.Test.YtohffiehmmcgbaaGreatDoorWJRtG
import Derived.Test.YtohffiehmmcgbaaGreatDoorWA
import Derived.WalkKit
import Derived.WalkSpells
import Derived.WalkLawsBesides
import Derived.Deep.QuietTactic
import Derived.BigQuiet
import Derived.Test.YtohffiehmmcgbaaGreatDoorWJPut
namespace Go.Proofs.YtohffiehmmcgbaaGreatDoor
open Go.ChangeShapes Go.WideShapes Go.ChangeAt Go.RowKit Go.Lib
set_option linter.unusedVariables false
set_option linter.unusedSimpArgs false
theorem reftakex_any (A : Option Addr) (L : List Nat) (n c p e : Nat) (l' : List Nat) (e' : Nat) (x : J) (w : World) (hn : L.length = n) (hp : p ≤ n) (hl : n ≤ 9223372036854775807) (hc : n ≤ c) (hA0 : A = none → c = 0) (hx : ∀ x ∈ L, x < 256) (hA : Sees .u8 w A L)
    (hs : sInst (rem L p e) e = (l', e', x)) :
    Calls Tryz.prog 13 #[reader A n c (p : Int) (e : Int)] w (RefDoes A n L c l' e' (.agg (rowJ x)) w) := by
  have hS : Sound (rem L p e) e := ⟨rem_fine L p e, fun x hh => hx x (rem_in x hh), by have := rem_len L p e; omega⟩
  obtain ⟨l1, e1, r, s, h1⟩ : ∃ a b c d, sName (rem L p e) e = (a, b, c, d) := ⟨_, _, _, _, rfl⟩
  obtain ⟨s1, _⟩ := sName_sound hS h1
  obtain ⟨l2, e2, v, h2⟩ : ∃ a b c, sBallot l1 e1 = (a, b, c) := ⟨_, _, _, rfl⟩
  obtain ⟨s2, hv, _⟩ := sBallot_sound s1 h2
  obtain ⟨l3, e3, b, h3⟩ : ∃ a b c, sByte l2 e2 = (a, b, c) := ⟨_, _, _, rfl⟩
  obtain ⟨s3, hb⟩ := sByte_sound s2 h3
  obtain ⟨l4, e4, h4⟩ : ∃ a b', statE b l3 e3 = (a, b') := ⟨_, _, rfl⟩
  obtain ⟨s4, _⟩ := statE_sound s3 h4
  obtain ⟨l8, e8, vt, sm, d, V, h5⟩ : ∃ a b' c d f g, valE b l4 e4 = (a, b', c, d, f, g) := ⟨_, _, _, _, _, _, rfl⟩
  rw [sInst_eq h1 h2 h3 h4 h5] at hs
  obtain ⟨s8, b8, ok8, f8, p8, _⟩ := valE_sound s4 h5
  have hok : okJ ⟨((r : Nat) : Int), ((s : Nat) : Int), ((b : Nat) : Int), ((v : Nat) : Int), ((vt : Nat) : Int), sm, d, V⟩ := ⟨by simp only; omega, by simp only; omega⟩
  have hh : Calls Tryz.prog 13 #[reader A n c (p : Int) (e : Int)] w (RefDoes A n L c (lastJ (l8, e8, ⟨((r : Nat) : Int), ((s : Nat) : Int), ((b : Nat) : Int), ((v : Nat) : Int), ((vt : Nat) : Int), sm, d, V⟩)).1 (lastJ (l8, e8, ⟨((r : Nat) : Int), ((s : Nat) : Int), ((b : Nat) : Int), ((v : Nat) : Int), ((vt : Nat) : Int), sm, d, V⟩)).2.1 (.agg (rowJ (lastJ (l8, e8, ⟨((r : Nat) : Int), ((s : Nat) : Int), ((b : Nat) : Int), ((v : Nat) : Int), ((vt : Nat) : Int), sm, d, V⟩)).2.2)) w) := by
    by_cases hbz : b = 0
    · exact reftakex_z A L n c p e l1 l2 l3 l4 l8 e1 e2 e3 e4 e8 r s v b vt sm d V w hn hp hl hc hA0 hx hA h1 h2 h3 h4 h5 hb hok ok8 (by omega) (by omega) hbz
    · by_cases hb3 : 3 < b
      · exact reftakex_g A L n c p e l1 l2 l3 l4 l8 e1 e2 e3 e4 e8 r s v b vt sm d V w hn hp hl hc hA0 hx hA h1 h2 h3 h4 h5 hb hok ok8 (by omega) (by omega) hbz hb3
      · exact reftakex_s A L n c p e l1 l2 l3 l4 l8 e1 e2 e3 e4 e8 r s v b vt sm d V w hn hp hl hc hA0 hx hA h1 h2 h3 h4 h5 hb hok ok8 (by omega) (by omega) hbz hb3
  rw [hs] at hh
  exact hh
end Go.Proofs.YtohffiehmmcgbaaGreatDoor
namespace Go.Proofs.YtohffiehmmcgbaaGreatDoor
open Go.RowKit
set_option maxRecDepth 100000 in
set_option maxHeartbeats 400000 in
theorem same_true (A B : Option Addr) (l : List Nat) (ca cb : Nat) (w : World) (hl : l.length ≤ 9223372036854775807) (hA : Sees .u8 w A l) (hB : Sees .u8 w B l) :
    Calls Tryz.prog 16 #[.slice A l.length ca, .slice B l.length cb] w fun e w' => e = .returned (.bool true) ∧ Below w.heap.size w w' := by
  have HA := hid hA
  have HB := hid hB
  clear hA hB
  go_enter Tryz.func16, Tryz.ntmps16
  go_wp2
  go_loopw [5] (fun i wr => ∃ k : Nat, k ≤ l.length ∧ i = .int .i64 k ∧ Below w.heap.size w wr) (fun i _ => l.length - (intOf i).toNat)
  case atStart => exact ⟨0, Nat.zero_le _, rfl, Below.refl _ _⟩
  case round =>
    obtain ⟨k, hk, rfl, hb⟩ := hrel
    by_cases hlt : k < l.length
    · obtain ⟨b, o, rfl, _, hc⟩ := (HA.out.below hb) k l[k] (List.getElem?_eq_getElem hlt)
      obtain ⟨b', o', rfl, _, hc'⟩ := (HB.out.below hb) k l[k] (List.getElem?_eq_getElem hlt)
      go_wp2
      go_quiet (fail)
      go_wp2
      go_roundw
      case rel => exact ⟨k + 1, by omega, by go_num, below_drewN hb _⟩
      case measure => simp [intOf]; omega
    · go_wp2
      go_ret
      exact ⟨rfl, hb⟩
theorem same_as (A B : Option Addr) (l : List Nat) (n ca cb : Nat) (w : World) (hl : n ≤ 9223372036854775807) (hn : l.length = n) (hA : Sees .u8 w A l) (hB : Sees .u8 w B l) :
    Calls Tryz.prog 16 #[.slice A n ca, .slice B n cb] w fun e w' => e = .returned (.bool true) ∧ Below w.heap.size w w' := by
  subst hn; exact same_true A B l ca cb w hl hA hB
end Go.Proofs.YtohffiehmmcgbaaGreatDoor
namespace Go.Proofs.YtohffiehmmcgbaaGreatDoor
open Go.ChangeShapes Go.WideShapes Go.ChangeAt Go.RowKit Go.Lib
set_option linter.unusedVariables false
set_option linter.unusedSimpArgs false
theorem cells_u8 : Tryz.prog.cellsOf 5 = 1 := by kernel_rfl
theorem bytes_u8 : Tryz.prog.bytesOf 5 = 1 := by kernel_rfl
theorem refxtake_0 (A : Option Addr) (L : List Nat) (n c : Nat) (l' : List Nat) (e' : Nat) (x : J) (w : World) (hn : L.length = n) (hl : n ≤ 9223372036854775807) (hc : n ≤ c) (hA0 : A = none → c = 0) (hx : ∀ x ∈ L, x < 256) (hA : Sees .u8 w A L) (hs : sInst L 0 = (l', e', x)) :
    Calls Tryz.prog 13 #[.agg #[.slice A n c, .int .i64 0, .int .i64 0]] w (RefDoes A n L c l' e' (.agg (rowJ x)) w) :=
  reftakex_any A L n c 0 0 l' e' x w hn (Nat.zero_le _) hl hc hA0 hx hA hs
theorem endE_zero {l : List Nat} {e : Nat} (h : endE l e = 0) : e = 0 ∧ l = [] := by
  unfold endE at h
  split at h
  · rename_i hl; exact ⟨h, hl⟩
  · omega
end Go.Proofs.YtohffiehmmcgbaaGreatDoor
namespace Go.Proofs.YtohffiehmmcgbaaGreatDoor.instParses
open Go.ChangeShapes Go.WideShapes Go.ChangeAt Go.RowKit Go.Lib
set_option linter.unusedVariables false
set_option linter.unusedSimpArgs false
set_option maxRecDepth 100000 in
set_option maxHeartbeats 8000000 in
theorem walk_b (A : Option Addr) (L : List Nat) (n ca : Nat) (w : World) (hn : L.length = n) (hl : n ≤ 140737488355328) (hc : n ≤ ca) (hA0 : A = none → ca = 0) (h8 : ∀ x ∈ L, x < 256) (hA : Sees .u8 w A L) (hP : PartsIs w) :
    Calls Tryz.prog 3 #[.slice A n ca] w fun e w' => e = .returned (.bool true) ∧ Below w.heap.size w w' := by
  obtain ⟨l', e', x, hs⟩ : ∃ a b c, sInst L 0 = (a, b, c) := ⟨_, _, _, rfl⟩
  have hS : Sound L 0 := ⟨fun h => absurd rfl h, h8, by omega⟩
  obtain ⟨s1, ok1, okk, hf, hp, hz, hgood⟩ := sInst_sound hS hs
  have HS := hid hs
  have HN := hid hn
  have HA0 := hid hA0
  have H8 := hid h8
  have HO := hid ok1
  have HKK := hid okk
  have HG := hid hgood
  have HA := hid hA
  have HP := hid hP
  obtain ⟨E, hE⟩ : ∃ E, endE l' e' = E := ⟨_, rfl⟩
  have HE := hid hE
  obtain ⟨y, hy⟩ : ∃ y, (if E = 0 then x else zeroJ) = y := ⟨_, rfl⟩
  have HY := hid hy
  clear hs hn hA0 h8 ok1 okk hgood hA hP hE hy hS s1 hz
  go_enter Tryz.func3, Tryz.ntmps3
  go_wp2_with fail
  with_reducible refine (anchor10 _).mono ?_
  rintro en w1 ⟨rfl, hb⟩
  have B1 := hid hb
  have P1 := hid (HP.out.below hb)
  have Q1 := hid (HA.out.below hb)
  clear hb
  by_cases h4 : 400 < n
  · have hbg : (400 : Int) < (n : Int) := by omega
    go_wp2
    go_ret
    exact ⟨rfl, B1.out⟩
  have hbg : ¬ ((400 : Int) < (n : Int)) := by omega
  have FP := hid (fun W hP hA => jparse_as A L n ca l' e' x W hP HN.out hl HA0.out hA H8.out HS.out)
  go_wp2_with fail
  have FQ := FP.out _ P1.out Q1.out
  rw [HE.out, HY.out] at FQ
  with_reducible refine FQ.mono ?_
  clear FQ FP
  rintro en w2 ⟨rfl, hb⟩
  have B2 := hid (B1.out.trans (hb.mono B1.out.size))
  have P2 := hid (P1.out.below hb)
  have Q2 := hid (Q1.out.below hb)
  clear hb B1 P1 Q1
  obtain ⟨gx, hgx⟩ : ∃ gx, w2.heap.size = gx := ⟨_, rfl⟩
  have E0 : Hid (Blk (w2.alloc (.cells zrow 37)) gx 37 zrow) := hid (by rw [← hgx]; exact Blk.new w2 37 zrow)
  have LY := hid (len_inst y)
  have OY := hid (rowJ_one y)
  go_upto_region 6 with (refine wpList_store_row (o := ⟨none, _, _, _, _, _⟩) rfl 37 (.tmp 3) (.tmp 16) rfl gx (rowJ y) rfl ?hy 37 zrow E0.out.heap LY.out rfl OY.out ?_; (case hy => rfl))
  obtain ⟨W3, hW3⟩ : ∃ W3, (w2.alloc (.cells zrow 37)).setRow gx (rowJ y) = W3 := ⟨_, rfl⟩
  have hB3 : Below gx w2 W3 := by rw [← hW3]; exact below_setRow_ ((Below.refl gx w2).alloc (by omega) _) (Nat.le_refl _)
  have hws : w.heap.size ≤ gx := by have := B2.out.size; omega
  have A3 : Hid (Blk W3 gx 37 (rowJ y)) := hid (by rw [← hW3]; exact E0.out.row _)
  have B3 := hid (B2.out.trans (hB3.mono hws))
  have P3 : Hid (PartsIs W3) := hid (P2.out.below (by rw [hgx]; exact hB3))
  have Q3 : Hid (Sees .u8 W3 A L) := hid (Q2.out.below (by rw [hgx]; exact hB3))
  rw [hW3]
  clear hW3 hB3 hgx E0 OY B2 P2 Q2
  go_wp2_with fail
  with_reducible refine (refxtake_0 A L n ca l' e' x _ HN.out (by omega) hc HA0.out H8.out Q3.out HS.out).mono ?_
  rintro en w4 ⟨p1, hp1, hr1, rfl, hb⟩
  have hgs : gx < W3.heap.size := A3.out.lt
  have A4 := hid (A3.out.below hb hgs)
  have B4 := hid (B3.out.trans (hb.mono (by omega)))
  have P4 := hid (P3.out.below hb)
  have Q4 := hid (Q3.out.below hb)
  clear hb hgs A3 B3 P3 Q3
  have HR := hid hr1
  clear hr1
  obtain ⟨gr, hgr⟩ : ∃ gr, w4.heap.size = gr := ⟨_, rfl⟩
  have hxr : gx < gr := by have := A4.out.lt; omega
  obtain ⟨WV, hWV⟩ : ∃ WV, (w4.alloc (.cells rdZ 42)).alloc (.cells zrow 48) = WV := ⟨_, rfl⟩
  obtain ⟨N1, N2, hBV⟩ : Blk WV gr 42 rdZ ∧ Blk WV (gr + 1) 48 zrow ∧ Below gr w4 WV := by
    obtain ⟨n1, n2, n3⟩ := two_new hWV
    rw [hgr] at n1 n2 n3
    exact ⟨n1.out, n2.out, n3.out⟩
  have M1 := hid N1
  have M2 := hid (N2.rowFar (k := gr) (by omega) (rd3 A n ca (p1 : Int) (e' : Int)))
  have RL := hid (len_rd A n ca (p1 : Int) (e' : Int))
  have RO := hid (one_rd A n ca (p1 : Int) (e' : Int))
  have XL := hid (len_x x)
  have XO := hid (rowJ_one x)
  subst hWV
  go_upto_region 7 with (first
    | (refine wpList_store_row (o := ⟨none, _, _, _, _, _⟩) rfl 42 (.tmp 5) (.tmp 22) rfl gr (rd3 A n ca (p1 : Int) (e' : Int)) rfl ?hy 42 rdZ M1.out.heap RL.out rfl RO.out ?_; (case hy => rfl))
    | (refine wpList_store_row (o := ⟨none, _, _, _, _, _⟩) rfl 48 (.tmp 6) (.tmp 23) rfl (gr + 1) (rowJ x) rfl ?hy 48 zrow M2.out.heap XL.out rfl XO.out ?_; (case hy => rfl)))
  obtain ⟨W5, hW5⟩ : ∃ W5, (((w4.alloc (.cells rdZ 42)).alloc (.cells zrow 48)).setRow gr (rd3 A n ca (p1 : Int) (e' : Int))).setRow (gr + 1) (rowJ x) = W5 := ⟨_, rfl⟩
  have hB5 : Below gr w4 W5 := by rw [← hW5]; exact below_setRow_ (below_setRow_ hBV (Nat.le_refl _)) (by omega)
  have R5 : Hid (Blk W5 gr 42 (rd3 A n ca (p1 : Int) (e' : Int))) := hid (by rw [← hW5]; exact (N1.row _).rowFar (by omega) _)
  have X5 : Hid (Blk W5 (gr + 1) 48 (rowJ x)) := hid (by rw [← hW5]; exact M2.out.row _)
  have A5 := hid (A4.out.below hB5 hxr)
  have B5 := hid (B4.out.trans (hB5.mono (by omega)))
  have P5 : Hid (PartsIs W5) := hid (P4.out.below (by rw [hgr]; exact hB5))
  have Q5 : Hid (Sees .u8 W5 A L) := hid (Q4.out.below (by rw [hgr]; exact hB5))
  rw [hW5]
  clear hW5 hB5 hBV hgr N1 N2 M1 M2 RO XO A4 B4 P4 Q4
  go_wp2_with (with_reducible refine wpList_load_row (o := ⟨some 24, _, _, _, _, _⟩) rfl 42 (.tmp 5) rfl gr rfl 42 (rd3 A n ca (p1 : Int) (e' : Int)) (0, 0) _ R5.out.heap Tryz.underlying42 rfl RL.out ?_)
  have FQ := refend_any A L n ca p1 e' W5 HN.out hp1
  rw [← HR.out, HE.out] at FQ
  with_reducible refine FQ.mono ?_
  clear FQ
  rintro en w6 ⟨rfl, hb⟩
  have X6 := hid (X5.out.below hb X5.out.lt)
  have A6 := hid (A5.out.below hb A5.out.lt)
  have B6 := hid (B5.out.trans (hb.mono B5.out.size))
  have P6 := hid (P5.out.below hb)
  have Q6 := hid (Q5.out.below hb)
  clear hb R5 RL X5 A5 B5 P5 Q5
  by_cases h0 : E = 0
  · have hz : ((E : Int) != 0) = false := by rw [h0]; rfl
    have HZ := hid h0
    obtain rfl : x = y := by rw [← HY.out, if_pos h0]
    obtain ⟨he', hl'⟩ := endE_zero (HE.out.trans h0)
    obtain ⟨_, hrr, hLL⟩ := HG.out he'
    have hLX : encJ x = L := by rw [hLL, hl', List.append_nil]
    have HLX := hid hLX
    have HRR := hid hrr
    clear h0 he' hl' hrr hLL hLX HG HY HE
    go_upto_region 10 with fail
    have EG := refx_guard
    have EQ := fun w => eq_refx x x true (eqJ_self x) w
    refine wp_region_held_drew (S := (fun w' => Blk w' gx 37 (rowJ x) ∧ Blk w' (gr + 1) 48 (rowJ x))) (by kernel_rfl) (by exact ⟨A6.out.drew, X6.out.drew⟩) (fun hHeld => ?_)
    refine wpAnyH_take (i := 0) (oi := _) (v := .agg (rowJ x)) rfl (by kernel_rfl) (by kernel_rfl) (by kernel_rfl) (fun _ _ _ h => h) (yields_row (by kernel_rfl) 37 (.tmp 3) rfl gx rfl 37 (rowJ x) (0, 0) _ (fun _ h => Blk.heap (And.left h)) Tryz.underlying37 rfl LY.out) hHeld ?_
    try simp only [Act.put, List.getElem_toArray, List.getElem_cons_zero, List.getElem_cons_succ, List.setIfInBounds_toArray, List.set_cons_zero, List.set_cons_succ]
    refine wpAnyH_take (i := 2) (oi := _) (v := .agg (rowJ x)) rfl (by kernel_rfl) (by kernel_rfl) (by kernel_rfl) (fun _ _ _ h => h) (yields_row (by kernel_rfl) 48 (.tmp 6) rfl (gr + 1) rfl 48 (rowJ x) (0, 0) _ (fun _ h => Blk.heap (And.right h)) Tryz.underlying48 rfl XL.out) hHeld ?_
    try simp only [Act.put, List.getElem_toArray, List.getElem_cons_zero, List.getElem_cons_succ, List.setIfInBounds_toArray, List.set_cons_zero, List.set_cons_succ]
    refine wpAnyH_ready (rs := [1]) (by kernel_rfl) (by simp) ?_
    refine AllReadyH.cons (o := _) rfl (fun K hK => ?_) AllReadyH.nil
    go_simp
    go_at_call 15
    with_reducible refine (of10 x _).mono ?_
    rintro en w7 ⟨rfl, hb⟩
    have A7 := hid (A6.out.drew.below hb A6.out.drew.lt)
    have X7 := hid (X6.out.drew.below hb X6.out.drew.lt)
    have B7 := hid ((below_drew B6.out).trans (hb.mono B6.out.size))
    have P7 := hid (PartsIs.below (PartsIs.drew P6.out) hb)
    have Q7 := hid (Sees.below (w := w6.drew) (show Sees .u8 w6.drew A L from Q6.out) hb)
    clear hb
    refine hK.out _ _ (by exact ⟨A7.out, X7.out⟩) (fun hHeld => ?_)
    clear hK K
    try simp only [Act.put, List.getElem_toArray, List.getElem_cons_zero, List.getElem_cons_succ, List.setIfInBounds_toArray, List.set_cons_zero, List.set_cons_succ]
    refine wpAnyH_take (i := 3) (oi := _) (v := ?_) rfl (by kernel_rfl) (by kernel_rfl) (by kernel_rfl) (fun _ _ _ h => h) (Or.inl ⟨by kernel_rfl, ?_⟩) hHeld ?_
    rotate_left 1
    focus (intro w' hSw; (try dsimp only at hSw); go_simp; try with_reducible rfl)
    try simp only [Act.put, List.getElem_toArray, List.getElem_cons_zero, List.getElem_cons_succ, List.setIfInBounds_toArray, List.set_cons_zero, List.set_cons_succ]
    refine wpAnyH_take (i := 4) (oi := _) (v := ?_) rfl (by kernel_rfl) (by kernel_rfl) (by kernel_rfl) (fun _ _ _ h => h) (Or.inl ⟨by kernel_rfl, ?_⟩) hHeld ?_
    rotate_left 1
    focus (intro w' hSw; (try dsimp only at hSw); go_simp; try with_reducible rfl)
    try simp only [Act.put, List.getElem_toArray, List.getElem_cons_zero, List.getElem_cons_succ, List.setIfInBounds_toArray, List.set_cons_zero, List.set_cons_succ]
    refine wpAnyH_take (i := 7) (oi := _) (v := ?_) rfl (by kernel_rfl) (by kernel_rfl) (by kernel_rfl) (fun _ _ _ h => h) (Or.inl ⟨by kernel_rfl, ?_⟩) hHeld ?_
    rotate_left 1
    focus (intro w' hSw; (try dsimp only at hSw); go_simp; try with_reducible rfl)
    try simp only [Act.put, List.getElem_toArray, List.getElem_cons_zero, List.getElem_cons_succ, List.setIfInBounds_toArray, List.set_cons_zero, List.set_cons_succ]
    refine wpAnyH_take (i := 5) (oi := _) (v := .agg (rowJ x)) rfl (by kernel_rfl) (by kernel_rfl) (by kernel_rfl) (fun _ _ _ h => h) (yields_row (by kernel_rfl) 37 (.tmp 3) rfl gx rfl 37 (rowJ x) (0, 0) _ (fun _ h => Blk.heap (And.left h)) Tryz.underlying37 rfl LY.out) hHeld ?_
    try simp only [Act.put, List.getElem_toArray, List.getElem_cons_zero, List.getElem_cons_succ, List.setIfInBounds_toArray, List.set_cons_zero, List.set_cons_succ]
    refine wpAnyH_ready (rs := [6]) (by kernel_rfl) (by simp) ?_
    refine AllReadyH.cons (o := _) rfl (fun K hK => ?_) AllReadyH.nil
    go_simp
    go_at_call 17
    with_reducible refine (jbytes_any x _ P7.out HO.out HKK.out HRR.out).mono ?_
    rintro en w8 ⟨C, cb, rfl, h1, h2, h3, hb⟩
    rw [HLX.out, HN.out] at h2 ⊢
    rw [HLX.out] at h3
    have A8 := hid (A7.out.below hb A7.out.lt)
    have X8 := hid (X7.out.below hb X7.out.lt)
    have B8 := hid (B7.out.trans (hb.mono B7.out.size))
    have Q8 := hid (Q7.out.below hb)
    have C8 := hid h3
    clear hb h1 h2 h3
    refine hK.out _ _ (by exact ⟨A8.out, X8.out⟩) (fun hHeld => ?_)
    clear hK K
    try simp only [Act.put, List.getElem_toArray, List.getElem_cons_zero, List.getElem_cons_succ, List.setIfInBounds_toArray, List.set_cons_zero, List.set_cons_succ]
    refine wpAnyH_ready (rs := [8]) (by kernel_rfl) (by simp) ?_
    refine AllReadyH.cons (o := _) rfl (fun K hK => ?_) AllReadyH.nil
    go_simp
    go_at_call 16
    with_reducible refine (same_as C A L n cb ca _ (by omega) HN.out C8.out Q8.out).mono ?_
    rintro en w9 ⟨rfl, hb⟩
    have A9 := hid (A8.out.below hb A8.out.lt)
    have X9 := hid (X8.out.below hb X8.out.lt)
    have B9 := hid (B8.out.trans (hb.mono B8.out.size))
    clear hb
    refine hK.out _ _ (by exact ⟨A9.out, X9.out⟩) (fun hHeld => ?_)
    clear hK K
    try simp only [Act.put, List.getElem_toArray, List.getElem_cons_zero, List.getElem_cons_succ, List.setIfInBounds_toArray, List.set_cons_zero, List.set_cons_succ]
    refine wpAnyH_take (i := 9) (oi := _) (v := ?_) rfl (by kernel_rfl) (by kernel_rfl) (by kernel_rfl) (fun _ _ _ h => h) (Or.inl ⟨by kernel_rfl, ?_⟩) hHeld ?_
    rotate_left 1
    focus (intro w' hSw; (try dsimp only at hSw); go_simp; try with_reducible rfl)
    try simp only [Act.put, List.getElem_toArray, List.getElem_cons_zero, List.getElem_cons_succ, List.setIfInBounds_toArray, List.set_cons_zero, List.set_cons_succ]
    refine wpAnyH_take (i := 10) (oi := _) (v := ?_) rfl (by kernel_rfl) (by kernel_rfl) (by kernel_rfl) (fun _ _ _ h => h) (Or.inl ⟨by kernel_rfl, ?_⟩) hHeld ?_
    rotate_left 1
    focus (intro w' hSw; (try dsimp only at hSw); go_simp; try with_reducible rfl)
    try simp only [Act.put, List.getElem_toArray, List.getElem_cons_zero, List.getElem_cons_succ, List.setIfInBounds_toArray, List.set_cons_zero, List.set_cons_succ]
    refine wpAnyH_done (by kernel_rfl) ?_ _
    clear hHeld EG EQ
    go_wp2
    go_ret
    exact ⟨rfl, B9.out⟩
  · have hz : ((E : Int) != 0) = true := by rw [bne_iff_ne]; omega
    obtain rfl : zeroJ = y := by rw [← HY.out, if_neg h0]
    clear h0 HY
    have EG := inst_guard
    have EQ : ∀ w, (Op.equalIn 10000 37 (.agg (rowJ zeroJ)) (.agg zrow)).run Tryz.prog w = .ok true w := fun w => eq_inst zeroJ zeroJ true rfl w
    go_wp2_with (with_reducible refine wpList_load_rowg (o := ⟨some 37, _, _, _, _, _⟩) (by kernel_rfl) 37 (.tmp 3) rfl gx rfl 37 (rowJ zeroJ) (0, 0) _ A6.out.heap Tryz.underlying37 rfl LY.out ?_)
    go_ret
    exact ⟨rfl, B6.out⟩
theorem walk (A : Option Addr) (L : List Nat) (c : Nat) (hn : A = none → c = 0) (hl : L.length ≤ c) (_hm : c ≤ maxLen) (hr : L.length * 1 ≤ 140737488351232) (h8 : ∀ x ∈ L, (Lit.int .u8 (x : Int)).wf = true) (w : World) (hA : Sees .u8 w A L) (hP : PartsIs w) :
    Calls Tryz.prog 3 #[.slice A L.length c] w fun e w' => e = .returned (.bool true) ∧ Below w.heap.size w w' :=
  walk_b A L L.length c w rfl (by omega) hl hn (fun x hx => by have := u8_lt _ (h8 x hx); omega) hA hP
end Go.Proofs.YtohffiehmmcgbaaGreatDoor.instParses
