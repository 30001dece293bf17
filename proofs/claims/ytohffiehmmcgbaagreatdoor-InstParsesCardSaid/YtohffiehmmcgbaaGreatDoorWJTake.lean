/-
  The contract of Take (package inst) off any bytes.
-/
import Derived.Test.YtohffiehmmcgbaaGreatDoorWD
import Derived.Test.YtohffiehmmcgbaaGreatDoorWC
import Derived.Test.YtohffiehmmcgbaaGreatDoorWKTakeE
namespace Go.Proofs.YtohffiehmmcgbaaGreatDoor
open Go.ChangeShapes Go.WideShapes Go.ChangeAt Go.RowKit Go.Lib
set_option linter.unusedVariables false
set_option linter.unusedSimpArgs false
def TwoA (w0 w : World) (g k n : Nat) (cs : Array Value) (l : List Nat) (e : Nat) : Prop :=
  InAt w g l e ∧ Blk w k 37 (rowJ zeroJ) ∧ Blk w n 37 cs ∧ w0.grownBy w (some g) ∧ PartsIs w ∧ 3 < g ∧ g < k ∧ k < n ∧ w0.heap.size ≤ k
section
variable {w0 w w' : World} {g k n : Nat} {cs : Array Value} {l l' : List Nat} {e e' : Nat}
theorem TwoA.iat (h : TwoA w0 w g k n cs l e) : InAt w g l e := h.1
theorem TwoA.res (h : TwoA w0 w g k n cs l e) : Blk w k 37 (rowJ zeroJ) := h.2.1
theorem TwoA.box (h : TwoA w0 w g k n cs l e) : Blk w n 37 cs := h.2.2.1
theorem TwoA.grown (h : TwoA w0 w g k n cs l e) : w0.grownBy w (some g) := h.2.2.2.1
theorem TwoA.parts (h : TwoA w0 w g k n cs l e) : PartsIs w := h.2.2.2.2.1
theorem TwoA.on (h : TwoA w0 w g k n cs l e) (hb : Below w.heap.size w w') : TwoA w0 w' g k n cs l e :=
  ⟨h.1.keep (hb.mono h.1.lt), h.res.below hb h.res.lt, h.box.below hb h.box.lt, only_below h.grown hb, h.parts.below hb, h.2.2.2.2.2⟩
theorem TwoA.turn (h : TwoA w0 w g k n cs l e) (hi : InAt w' g l' e') (hb : w.grownBy w' (some g)) : TwoA w0 w' g k n cs l' e' := by
  obtain ⟨h1, h2, h3, h4, h5, h6, h7, h8, h9⟩ := h
  exact ⟨hi, h2.grown hb (by intro e; injection e with e; omega), h3.grown hb (by intro e; injection e with e; omega), h4.trans hb, var_grown gParts h5 h5.lt (by intro e; injection e with e; omega) hb, h6, h7, h8, h9⟩
theorem TwoA.set_ (h : TwoA w0 w g k n cs l e) (i : Nat) (u : Value) {ds : Array Value} (hd : cs.setIfInBounds i u = ds) : TwoA w0 (w.setCell ⟨n, i, none⟩ u) g k n ds l e := by
  obtain ⟨h1, h2, h3, h4, h5, h6, h7, h8, h9⟩ := h
  exact ⟨h1.setCell (by omega), h2.far (by show k ≠ n; omega) u, hd ▸ h3.set_ i u, only_setCell (p := ⟨n, i, none⟩) h4 (.inr (by show w0.heap.size ≤ n; omega)) u, var_under gParts h5 (base := n) (by omega) (Below.setCell (p := ⟨n, i, none⟩) (Below.refl _ _) (Nat.le_refl _) u), h6, h7, h8, h9⟩
theorem TwoA.last (h : TwoA w0 w g k n cs l e) (d : Array Value) : InAt (w.setRow k d) g l e ∧ w0.grownBy (w.setRow k d) (some g) := by
  obtain ⟨h1, h2, h3, h4, h5, h6, h7, h8, h9⟩ := h
  exact ⟨h1.setRow h7, only_setRow h4 h9⟩
theorem TwoA.there (h : TwoA w0 w g k n cs l e) {o m : Nat} (hs : o + m ≤ cs.size) : w.there n o m := fun j hj => by
  refine ⟨?_, h.box.frozen _⟩
  rw [h.box.cell, Array.getElem?_eq_getElem (by omega)]
  rfl
end
theorem TwoA.cmd {w0 w : World} {g k n : Nat} {x : J} {l : List Nat} {e : Nat} (h : TwoA w0 w g k n (rowJ x) l e) (c : K) : TwoA w0 (w.setCells n 6 (lsK c)) g k n (rowJ ⟨x.r, x.s, x.st, x.bal, x.vote, x.same, c, x.f⟩) l e := by
  obtain ⟨r, s, st, bal, vote, same, ⟨k, u, f0, q, p, m, nn, t⟩, f⟩ := x
  obtain ⟨k', u', f', q', s', m', n', t'⟩ := c
  have b0 := h.set_ 6 (.int .i64 k') (ds := rowJ ⟨r, s, st, bal, vote, same, ⟨k', u, f0, q, p, m, nn, t⟩, f⟩) rfl
  have b1 := b0.set_ 7 (.int .u64 u') (ds := rowJ ⟨r, s, st, bal, vote, same, ⟨k', u', f0, q, p, m, nn, t⟩, f⟩) rfl
  have b2 := b1.set_ 8 (.string f') (ds := rowJ ⟨r, s, st, bal, vote, same, ⟨k', u', f', q, p, m, nn, t⟩, f⟩) rfl
  have b3 := b2.set_ 9 (.int .u64 q') (ds := rowJ ⟨r, s, st, bal, vote, same, ⟨k', u', f', q', p, m, nn, t⟩, f⟩) rfl
  have b4 := b3.set_ 10 (.string s') (ds := rowJ ⟨r, s, st, bal, vote, same, ⟨k', u', f', q', s', m, nn, t⟩, f⟩) rfl
  have b5 := b4.set_ 11 (.int .i64 m') (ds := rowJ ⟨r, s, st, bal, vote, same, ⟨k', u', f', q', s', m', nn, t⟩, f⟩) rfl
  have b6 := b5.set_ 12 (.int .u64 n') (ds := rowJ ⟨r, s, st, bal, vote, same, ⟨k', u', f', q', s', m', n', t⟩, f⟩) rfl
  have b7 := b6.set_ 13 (.int .i64 t') (ds := rowJ ⟨r, s, st, bal, vote, same, ⟨k', u', f', q', s', m', n', t'⟩, f⟩) rfl
  exact b7
theorem TwoA.att {w0 w : World} {g k n : Nat} {x : J} {l : List Nat} {e : Nat} (h : TwoA w0 w g k n (rowJ x) l e) (V : Nat → Int) : TwoA w0 (w.setCells n 14 (ls8 V)) g k n (rowJ ⟨x.r, x.s, x.st, x.bal, x.vote, x.same, x.c, V⟩) l e := by
  obtain ⟨r, s, st, bal, vote, same, c, f⟩ := x
  have b0 := h.set_ 14 (.int .i64 (V 0)) (ds := rowJ ⟨r, s, st, bal, vote, same, c, (fun i => if i < 1 then V i else f i)⟩) rfl
  have b1 := b0.set_ 15 (.int .i64 (V 1)) (ds := rowJ ⟨r, s, st, bal, vote, same, c, (fun i => if i < 2 then V i else f i)⟩) rfl
  have b2 := b1.set_ 16 (.int .i64 (V 2)) (ds := rowJ ⟨r, s, st, bal, vote, same, c, (fun i => if i < 3 then V i else f i)⟩) rfl
  have b3 := b2.set_ 17 (.int .i64 (V 3)) (ds := rowJ ⟨r, s, st, bal, vote, same, c, (fun i => if i < 4 then V i else f i)⟩) rfl
  have b4 := b3.set_ 18 (.int .i64 (V 4)) (ds := rowJ ⟨r, s, st, bal, vote, same, c, (fun i => if i < 5 then V i else f i)⟩) rfl
  have b5 := b4.set_ 19 (.int .i64 (V 5)) (ds := rowJ ⟨r, s, st, bal, vote, same, c, (fun i => if i < 6 then V i else f i)⟩) rfl
  have b6 := b5.set_ 20 (.int .i64 (V 6)) (ds := rowJ ⟨r, s, st, bal, vote, same, c, (fun i => if i < 7 then V i else f i)⟩) rfl
  have b7 := b6.set_ 21 (.int .i64 (V 7)) (ds := rowJ ⟨r, s, st, bal, vote, same, c, (fun i => if i < 8 then V i else f i)⟩) rfl
  exact b7
theorem TwoA.bal {w0 w : World} {g k n : Nat} {x : J} {l : List Nat} {e : Nat} (h : TwoA w0 w g k n (rowJ x) l e) (v : Int) : TwoA w0 (w.setCell ⟨n, 3, none⟩ (.int .u32 v)) g k n (rowJ ⟨x.r, x.s, x.st, v, x.vote, x.same, x.c, x.f⟩) l e := h.set_ 3 (.int .u32 v) rfl
theorem TwoA.st {w0 w : World} {g k n : Nat} {x : J} {l : List Nat} {e : Nat} (h : TwoA w0 w g k n (rowJ x) l e) (v : Int) : TwoA w0 (w.setCell ⟨n, 2, none⟩ (.int .i64 v)) g k n (rowJ ⟨x.r, x.s, v, x.bal, x.vote, x.same, x.c, x.f⟩) l e := h.set_ 2 (.int .i64 v) rfl
theorem TwoA.vote {w0 w : World} {g k n : Nat} {x : J} {l : List Nat} {e : Nat} (h : TwoA w0 w g k n (rowJ x) l e) (v : Int) : TwoA w0 (w.setCell ⟨n, 4, none⟩ (.int .u32 v)) g k n (rowJ ⟨x.r, x.s, x.st, x.bal, v, x.same, x.c, x.f⟩) l e := h.set_ 4 (.int .u32 v) rfl
theorem TwoA.same {w0 w : World} {g k n : Nat} {x : J} {l : List Nat} {e : Nat} (h : TwoA w0 w g k n (rowJ x) l e) (v : Bool) : TwoA w0 (w.setCell ⟨n, 5, none⟩ (.bool v)) g k n (rowJ ⟨x.r, x.s, x.st, x.bal, x.vote, v, x.c, x.f⟩) l e := h.set_ 5 (.bool v) rfl
theorem attake8 (g : Nat) (l : List Nat) (e : Nat) (l' : List Nat) (e' : Nat) (V : Nat → Int) (w : World) (h : InAt w g l e) (hS : Sound l e) (hs : sAttr l e = (l', e', V)) :
    Calls Tryz.prog 96 #[.pointer (some ⟨g, 0, none⟩)] w (Turns (fun en => en = .returned (.agg (ls8 V).toArray)) g l' e' w) :=
  attake_any g l e l' e' V w h hS.fine hS.bytes hS.len hs
set_option maxRecDepth 100000 in
set_option maxHeartbeats 8000000 in
theorem insttake_none (g : Nat) (l : List Nat) (e : Nat) (l1 l2 l3 l4 l8 : List Nat) (e1 e2 e3 e4 e8 r s v b vt : Nat) (sm : Bool) (c : K) (V : Nat → Int) (w : World) (h : InAt w g l e) (hS : Sound l e) (hP : PartsIs w) (hg : 3 < g)
    (h1 : sName l e = (l1, e1, r, s)) (h2 : sBallot l1 e1 = (l2, e2, v)) (h3 : sByte l2 e2 = (l3, e3, b)) (h4 : statE b l3 e3 = (l4, e4)) (h5 : valE b l4 e4 = (l8, e8, vt, sm, c, V)) (hb8 : b < 256) (hok : okJ ⟨((r : Nat) : Int), ((s : Nat) : Int), ((b : Nat) : Int), ((v : Nat) : Int), ((vt : Nat) : Int), sm, c, V⟩) (hf : c.foot.size ≤ 4611686018427387903) (hp : c.path.size ≤ 4611686018427387903)
    (hS1 : Sound l1 e1) (hS2 : Sound l2 e2) (hS3 : Sound l3 e3) (hS4 : Sound l4 e4) (hbz : b = 0) :
    Calls Tryz.prog 41 #[.pointer (some ⟨g, 0, none⟩)] w (Turns (fun en => en = .returned (.agg (rowJ (lastJ (l8, e8, ⟨((r : Nat) : Int), ((s : Nat) : Int), ((b : Nat) : Int), ((v : Nat) : Int), ((vt : Nat) : Int), sm, c, V⟩)).2.2))) g (lastJ (l8, e8, ⟨((r : Nat) : Int), ((s : Nat) : Int), ((b : Nat) : Int), ((v : Nat) : Int), ((vt : Nat) : Int), sm, c, V⟩)).1 (lastJ (l8, e8, ⟨((r : Nat) : Int), ((s : Nat) : Int), ((b : Nat) : Int), ((v : Nat) : Int), ((vt : Nat) : Int), sm, c, V⟩)).2.1 w) := by
  have HBZ := hid hbz
  clear hbz
  obtain ⟨rr, hr⟩ : ∃ x, rightJ ⟨((r : Nat) : Int), ((s : Nat) : Int), ((b : Nat) : Int), ((v : Nat) : Int), ((vt : Nat) : Int), sm, c, V⟩ = x := ⟨_, rfl⟩
  have HRR := hid hr
  have HL : Hid (lastJ (l8, e8, ⟨((r : Nat) : Int), ((s : Nat) : Int), ((b : Nat) : Int), ((v : Nat) : Int), ((vt : Nat) : Int), sm, c, V⟩) = if rr then (l8, e8, if e8 = 0 then ⟨((r : Nat) : Int), ((s : Nat) : Int), ((b : Nat) : Int), ((v : Nat) : Int), ((vt : Nat) : Int), sm, c, V⟩ else zeroJ) else (leftE e8 10 l8, firstE e8 10, zeroJ)) := hid (by unfold lastJ; simp only; rw [hr])
  have HOK := hid hok
  have HI := hid h
  have HS := hid hS
  have HS1 := hid hS1
  have HS2 := hid hS2
  have HS3 := hid hS3
  have HS4 := hid hS4
  have HP := hid hP
  have H1 := hid h1
  have H2 := hid h2
  have H3 := hid h3
  have H4 := hid h4
  have H5 := hid h5
  have hgl := h.lt
  have W1 : IntKind.i64.wrap (b : Int) = b := by rw [IntKind.wrap_i64]; omega
  have Z1 := hid (len_inst zeroJ)
  have Z3 := hid (rowJ_one zeroJ)
  clear hr hok h hS hS1 hS2 hS3 hS4 hP h1 h2 h3 h4 h5
  go_enter Tryz.func41, Tryz.ntmps41
  go_upto_region 1 with fail
  obtain ⟨W, hW⟩ : ∃ W, w.alloc (.cells zrow 37) = W := ⟨_, rfl⟩
  rw [hW]
  obtain ⟨K0, KB⟩ := one_new hW
  rw [zrow_is] at K0
  have HI0 := hid (HI.out.keep (KB.out.mono (by omega)))
  have P0 := hid (HP.out.below KB.out)
  have G0 := hid (only_of_below KB.out (some g))
  clear hW KB HI HP
  obtain ⟨k, hk⟩ : ∃ k, w.heap.size = k := ⟨_, rfl⟩
  have HK := hid hk
  rw [hk] at K0 hgl
  rw [hk]
  clear hk
  go_wp2_with fail
  with_reducible refine (takeid_any g l e l1 e1 r s _ HI0.out HS.out.fine HS.out.bytes HS.out.len H1.out).mono ?_
  rintro en w1 ⟨rfl, hin, hgr⟩
  have I1 := hid hin
  have R1 := hid (K0.out.grown hgr (by intro e; injection e with e; omega))
  have P1 : Hid (PartsIs w1) := hid (var_grown gParts P0.out P0.out.lt (by intro e; injection e with e; omega) hgr)
  have G1 := hid (G0.out.trans hgr)
  clear hin hgr HI0 K0 P0 G0
  go_wp2_with fail
  with_reducible refine (new_any (r : Int) (s : Int) _).mono ?_
  rintro en w2 ⟨rfl, hb⟩
  have I2 := hid (I1.out.keep (hb.mono I1.out.lt))
  have R2 := hid (R1.out.below hb R1.out.lt)
  have P2 := hid (P1.out.below hb)
  have G2 := hid (only_below G1.out hb)
  clear hb I1 R1 P1 G1
  obtain ⟨n, hn⟩ : ∃ n, w2.heap.size = n := ⟨_, rfl⟩
  have E0 : Hid (Blk (w2.alloc (.cells zrow 37)) n 37 zrow) := hid (by rw [← hn]; exact Blk.new w2 37 zrow)
  have A0 : Hid (TwoA w ((w2.alloc (.cells zrow 37)).setRow n (rowJ (newJ r s))) g k n (rowJ (newJ r s)) l1 e1) := hid (by
    have hlt := R2.out.lt
    have hI := (I2.out.keep ((Below.refl _ _).alloc (by have := I2.out.lt; omega) (.cells zrow 37))).setRow (r := n) (cs := rowJ (newJ r s)) (by omega)
    have hG := only_setRow (r := n) (cs := rowJ (newJ r s)) (only_below G2.out ((Below.refl _ _).alloc (Nat.le_refl _) (.cells zrow 37))) (by rw [HK.out]; omega)
    exact ⟨hI, (R2.out.alloc _).rowFar (by omega) _, E0.out.row _, hG, var_under gParts (P2.out.alloc (.cells zrow 37)) (base := n) (by omega) (below_setRow_ (Below.refl _ _) (Nat.le_refl _)), hg, by omega, by omega, by rw [HK.out]; exact Nat.le_refl _⟩)
  have N1 := hid (len_inst (newJ r s))
  have N2 := hid (size_inst zeroJ (newJ r s))
  have N3 := hid (rowJ_one (newJ r s))
  go_upto_region 2 with (refine wpList_store_row (o := ⟨none, _, _, _, _, _⟩) rfl 37 (.tmp 3) (.tmp 6) rfl n (rowJ (newJ r s)) rfl rfl 37 zrow E0.out.heap N1.out N2.out N3.out ?_)
  obtain ⟨W2, hW2⟩ : ∃ W2, (w2.alloc (.cells zrow 37)).setRow n (rowJ (newJ r s)) = W2 := ⟨_, rfl⟩
  rw [hW2] at A0
  rw [hW2]
  clear hW2 hn E0 I2 R2 P2 G2 N1 N2 N3
  go_wp2_with fail
  with_reducible refine (takeballot_any g l1 e1 l2 e2 v _ A0.out.iat HS1.out.fine HS1.out.bytes HS1.out.len H2.out).mono ?_
  rintro en w3 ⟨rfl, hin, hgr⟩
  have A1 := hid (A0.out.turn hin hgr)
  clear hin hgr A0
  have c3 := A1.out.box.j3
  have f3 := A1.out.box.frozen 3
  have A2 := hid (A1.out.bal (v : Int))
  clear A1
  go_wp2_with fail
  clear c3 f3
  with_reducible refine (byte_any g l2 e2 l3 e3 b _ A2.out.iat HS2.out.fine H3.out).mono ?_
  rintro en w4 ⟨rfl, hin, hgr⟩
  have A3 := hid (A2.out.turn hin hgr)
  clear hin hgr A2
  have c2 := A3.out.box.j2
  have f2 := A3.out.box.frozen 2
  have A4 := hid (A3.out.st (b : Int))
  clear A3
  go_upto_region 4 with fail
  obtain ⟨W4, hW4⟩ : ∃ W4, w4.setCell ⟨n, 2, none⟩ (.int .i64 (b : Int)) = W4 := ⟨_, rfl⟩
  rw [hW4] at A4
  rw [hW4]
  clear hW4 c2 f2 W1
  have c2 := A4.out.box.j2
  have hstat : statB (b : Int) = decide (b ≤ 3) := by unfold statB; rw [decide_eq_decide]; omega
  have HST := hid hstat
  clear hstat
  have H4' : Hid ((if 3 < b then (leftE e3 22 l3, firstE e3 22) else (l3, e3)) = (l4, e4)) := hid (by rw [← H4.out]; rfl)
  go_wp2_with fail
  with_reducible refine (isstatus_any (b : Int) _).mono ?_
  rw [HST.out]
  rintro en w5 ⟨rfl, rfl⟩
  have hbz := HBZ.out
  subst hbz
  have hd : decide ((0 : Nat) ≤ 3) = true := by decide
  rw [hd]
  obtain ⟨rfl, rfl⟩ : l3 = l4 ∧ e3 = e4 := by have := H4'.out; rw [if_neg (by omega)] at this; simpa using this
  obtain ⟨rfl, rfl, rfl, rfl, rfl, rfl⟩ : l3 = l8 ∧ e3 = e8 ∧ 0 = vt ∧ false = sm ∧ zeroK = c ∧ (fun _ => 0) = V := by have := H5.out; unfold valE at this; simpa using this
  clear H4' H5 hd
  have HL : Hid (lastJ (l3, e3, ⟨((r : Nat) : Int), ((s : Nat) : Int), ((0 : Nat) : Int), ((v : Nat) : Int), ((0 : Nat) : Int), false, zeroK, fun _ => 0⟩) = if rr then (l3, e3, if e3 = 0 then ⟨((r : Nat) : Int), ((s : Nat) : Int), 0, ((v : Nat) : Int), 0, false, zeroK, fun _ => 0⟩ else zeroJ) else (leftE e3 10 l3, firstE e3 10, zeroJ)) := HL
  have HRR : Hid (rightJ ⟨((r : Nat) : Int), ((s : Nat) : Int), 0, ((v : Nat) : Int), 0, false, zeroK, fun _ => 0⟩ = rr) := HRR
  have HOK : Hid (okJ ⟨((r : Nat) : Int), ((s : Nat) : Int), 0, ((v : Nat) : Int), 0, false, zeroK, fun _ => 0⟩) := HOK
  simp only [Int.natCast_zero] at A4 c2
  have AX : Hid (TwoA w W4 g k n (rowJ ⟨((r : Nat) : Int), ((s : Nat) : Int), 0, ((v : Nat) : Int), 0, false, zeroK, fun _ => 0⟩) l3 e3) := A4
  clear A4
  have L1 := hid (len_inst ⟨((r : Nat) : Int), ((s : Nat) : Int), 0, ((v : Nat) : Int), 0, false, zeroK, fun _ => 0⟩)
  have L3 := hid (rowJ_one ⟨((r : Nat) : Int), ((s : Nat) : Int), 0, ((v : Nat) : Int), 0, false, zeroK, fun _ => 0⟩)
  go_wp2_with (with_reducible refine wpList_load_row (o := ⟨some 35, _, _, _, _, _⟩) rfl 37 (.tmp 3) rfl n rfl 37 (rowJ ⟨((r : Nat) : Int), ((s : Nat) : Int), 0, ((v : Nat) : Int), 0, false, zeroK, fun _ => 0⟩) (0, 0) _ AX.out.box.heap Tryz.underlying37 rfl L1.out ?_)
  with_reducible refine (jright_any ⟨((r : Nat) : Int), ((s : Nat) : Int), 0, ((v : Nat) : Int), 0, false, zeroK, fun _ => 0⟩ HOK.out _ AX.out.parts hf hp).mono ?_
  rw [HRR.out]
  rintro en wr ⟨rfl, hb⟩
  have T1 := hid (AX.out.on hb)
  clear hb AX
  cases rr
  · have hpos : 0 < firstE e3 10 := firstE_pos (by omega)
    go_wp2_with fail
    with_reducible refine (fail_any g l3 e3 10 10 _ T1.out.iat rfl).mono ?_
    rintro en ws ⟨rfl, hin, hgr⟩
    have T2 := hid (T1.out.turn hin hgr)
    clear hin hgr T1
    go_wp2_with fail
    with_reducible refine (failed_yes g (leftE e3 10 l3) (firstE e3 10) _ T2.out.iat hpos).mono ?_
    rintro en wt ⟨rfl, rfl⟩
    have T3 := hid (T2.out.last (rowJ zeroJ))
    go_wp2_with (refine wpList_store_row (o := ⟨none, _, _, _, _, _⟩) rfl 37 (.tmp 2) (.tmp 42) rfl k (rowJ zeroJ) (by rfl) ?hy 37 (rowJ zeroJ) T2.out.res.heap Z1.out (size_inst _ _) Z3.out ?_; (case hy => rfl))
    exact bodyPost_ret (v := .agg (rowJ zeroJ)) (results_cell_row (p := 2) (ty := 37) (by kernel_rfl) _ _ k 37 (rowJ zeroJ) (0, 0) _ rfl (setRow_heap _ k _ (rowJ zeroJ) _ _ T2.out.res.heap) Tryz.underlying37 rfl Z1.out) rfl ⟨by rw [HL.out]; rfl, by rw [HL.out]; exact T3.out.1, T3.out.2⟩
  · by_cases h0 : e3 = 0
    · have H0 := hid h0
      clear h0
      go_wp2_with fail
      with_reducible refine (failed_as false g l3 e3 _ T1.out.iat (by rw [H0.out]; simp)).mono ?_
      rintro en wt ⟨rfl, rfl⟩
      have T3 := hid (T1.out.last (rowJ ⟨((r : Nat) : Int), ((s : Nat) : Int), 0, ((v : Nat) : Int), 0, false, zeroK, fun _ => 0⟩))
      go_wp2_with (first
        | (with_reducible refine wpList_load_row (o := ⟨some 43, _, _, _, _, _⟩) rfl 37 (.tmp 3) rfl n rfl 37 (rowJ ⟨((r : Nat) : Int), ((s : Nat) : Int), 0, ((v : Nat) : Int), 0, false, zeroK, fun _ => 0⟩) (0, 0) _ T1.out.box.heap Tryz.underlying37 rfl L1.out ?_)
        | (with_reducible refine wpList_store_row (o := ⟨none, _, _, _, _, _⟩) rfl 37 (.tmp 2) (.tmp 43) rfl k (rowJ ⟨((r : Nat) : Int), ((s : Nat) : Int), 0, ((v : Nat) : Int), 0, false, zeroK, fun _ => 0⟩) rfl rfl 37 (rowJ zeroJ) T1.out.res.heap L1.out (size_inst _ _) L3.out ?_))
      exact bodyPost_ret (v := .agg (rowJ ⟨((r : Nat) : Int), ((s : Nat) : Int), 0, ((v : Nat) : Int), 0, false, zeroK, fun _ => 0⟩)) (results_cell_row (p := 2) (ty := 37) (by kernel_rfl) _ _ k 37 (rowJ ⟨((r : Nat) : Int), ((s : Nat) : Int), 0, ((v : Nat) : Int), 0, false, zeroK, fun _ => 0⟩) (0, 0) _ rfl (setRow_heap _ k _ (rowJ ⟨((r : Nat) : Int), ((s : Nat) : Int), 0, ((v : Nat) : Int), 0, false, zeroK, fun _ => 0⟩) _ _ T1.out.res.heap) Tryz.underlying37 rfl L1.out) rfl ⟨by rw [HL.out]; (first | rw [if_pos rfl, if_pos H0.out] | rw [if_pos rfl, if_neg H0.out] | rw [if_pos True.intro, if_pos H0.out] | rw [if_pos True.intro, if_neg H0.out]), by rw [HL.out]; exact T3.out.1, T3.out.2⟩
    · have hpos : 0 < e3 := by omega
      have H0 := hid h0
      clear h0
      go_wp2_with fail
      with_reducible refine (failed_yes g l3 e3 _ T1.out.iat hpos).mono ?_
      rintro en wt ⟨rfl, rfl⟩
      have T3 := hid (T1.out.last (rowJ zeroJ))
      go_wp2_with (refine wpList_store_row (o := ⟨none, _, _, _, _, _⟩) rfl 37 (.tmp 2) (.tmp 42) rfl k (rowJ zeroJ) (by rfl) ?hy 37 (rowJ zeroJ) T1.out.res.heap Z1.out (size_inst _ _) Z3.out ?_; (case hy => rfl))
      exact bodyPost_ret (v := .agg (rowJ zeroJ)) (results_cell_row (p := 2) (ty := 37) (by kernel_rfl) _ _ k 37 (rowJ zeroJ) (0, 0) _ rfl (setRow_heap _ k _ (rowJ zeroJ) _ _ T1.out.res.heap) Tryz.underlying37 rfl Z1.out) rfl ⟨by rw [HL.out]; (first | rw [if_pos rfl, if_pos H0.out] | rw [if_pos rfl, if_neg H0.out] | rw [if_pos True.intro, if_pos H0.out] | rw [if_pos True.intro, if_neg H0.out]), by rw [HL.out]; exact T3.out.1, T3.out.2⟩
set_option maxRecDepth 100000 in
set_option maxHeartbeats 8000000 in
theorem insttake_some (g : Nat) (l : List Nat) (e : Nat) (l1 l2 l3 l4 l8 : List Nat) (e1 e2 e3 e4 e8 r s v b vt : Nat) (sm : Bool) (c : K) (V : Nat → Int) (w : World) (h : InAt w g l e) (hS : Sound l e) (hP : PartsIs w) (hg : 3 < g)
    (h1 : sName l e = (l1, e1, r, s)) (h2 : sBallot l1 e1 = (l2, e2, v)) (h3 : sByte l2 e2 = (l3, e3, b)) (h4 : statE b l3 e3 = (l4, e4)) (h5 : valE b l4 e4 = (l8, e8, vt, sm, c, V)) (hb8 : b < 256) (hok : okJ ⟨((r : Nat) : Int), ((s : Nat) : Int), ((b : Nat) : Int), ((v : Nat) : Int), ((vt : Nat) : Int), sm, c, V⟩) (hf : c.foot.size ≤ 4611686018427387903) (hp : c.path.size ≤ 4611686018427387903)
    (hS1 : Sound l1 e1) (hS2 : Sound l2 e2) (hS3 : Sound l3 e3) (hS4 : Sound l4 e4) (hbz : b ≠ 0) :
    Calls Tryz.prog 41 #[.pointer (some ⟨g, 0, none⟩)] w (Turns (fun en => en = .returned (.agg (rowJ (lastJ (l8, e8, ⟨((r : Nat) : Int), ((s : Nat) : Int), ((b : Nat) : Int), ((v : Nat) : Int), ((vt : Nat) : Int), sm, c, V⟩)).2.2))) g (lastJ (l8, e8, ⟨((r : Nat) : Int), ((s : Nat) : Int), ((b : Nat) : Int), ((v : Nat) : Int), ((vt : Nat) : Int), sm, c, V⟩)).1 (lastJ (l8, e8, ⟨((r : Nat) : Int), ((s : Nat) : Int), ((b : Nat) : Int), ((v : Nat) : Int), ((vt : Nat) : Int), sm, c, V⟩)).2.1 w) := by
  obtain ⟨rr, hr⟩ : ∃ x, rightJ ⟨((r : Nat) : Int), ((s : Nat) : Int), ((b : Nat) : Int), ((v : Nat) : Int), ((vt : Nat) : Int), sm, c, V⟩ = x := ⟨_, rfl⟩
  have HRR := hid hr
  have HL : Hid (lastJ (l8, e8, ⟨((r : Nat) : Int), ((s : Nat) : Int), ((b : Nat) : Int), ((v : Nat) : Int), ((vt : Nat) : Int), sm, c, V⟩) = if rr then (l8, e8, if e8 = 0 then ⟨((r : Nat) : Int), ((s : Nat) : Int), ((b : Nat) : Int), ((v : Nat) : Int), ((vt : Nat) : Int), sm, c, V⟩ else zeroJ) else (leftE e8 10 l8, firstE e8 10, zeroJ)) := hid (by unfold lastJ; simp only; rw [hr])
  have HOK := hid hok
  have HI := hid h
  have HS := hid hS
  have HS1 := hid hS1
  have HS2 := hid hS2
  have HS3 := hid hS3
  have HS4 := hid hS4
  have HP := hid hP
  have H1 := hid h1
  have H2 := hid h2
  have H3 := hid h3
  have H4 := hid h4
  have H5 := hid h5
  have hgl := h.lt
  have W1 : IntKind.i64.wrap (b : Int) = b := by rw [IntKind.wrap_i64]; omega
  have Z1 := hid (len_inst zeroJ)
  have Z3 := hid (rowJ_one zeroJ)
  clear hr hok h hS hS1 hS2 hS3 hS4 hP h1 h2 h3 h4 h5
  go_enter Tryz.func41, Tryz.ntmps41
  go_upto_region 1 with fail
  obtain ⟨W, hW⟩ : ∃ W, w.alloc (.cells zrow 37) = W := ⟨_, rfl⟩
  rw [hW]
  obtain ⟨K0, KB⟩ := one_new hW
  rw [zrow_is] at K0
  have HI0 := hid (HI.out.keep (KB.out.mono (by omega)))
  have P0 := hid (HP.out.below KB.out)
  have G0 := hid (only_of_below KB.out (some g))
  clear hW KB HI HP
  obtain ⟨k, hk⟩ : ∃ k, w.heap.size = k := ⟨_, rfl⟩
  have HK := hid hk
  rw [hk] at K0 hgl
  rw [hk]
  clear hk
  go_wp2_with fail
  with_reducible refine (takeid_any g l e l1 e1 r s _ HI0.out HS.out.fine HS.out.bytes HS.out.len H1.out).mono ?_
  rintro en w1 ⟨rfl, hin, hgr⟩
  have I1 := hid hin
  have R1 := hid (K0.out.grown hgr (by intro e; injection e with e; omega))
  have P1 : Hid (PartsIs w1) := hid (var_grown gParts P0.out P0.out.lt (by intro e; injection e with e; omega) hgr)
  have G1 := hid (G0.out.trans hgr)
  clear hin hgr HI0 K0 P0 G0
  go_wp2_with fail
  with_reducible refine (new_any (r : Int) (s : Int) _).mono ?_
  rintro en w2 ⟨rfl, hb⟩
  have I2 := hid (I1.out.keep (hb.mono I1.out.lt))
  have R2 := hid (R1.out.below hb R1.out.lt)
  have P2 := hid (P1.out.below hb)
  have G2 := hid (only_below G1.out hb)
  clear hb I1 R1 P1 G1
  obtain ⟨n, hn⟩ : ∃ n, w2.heap.size = n := ⟨_, rfl⟩
  have E0 : Hid (Blk (w2.alloc (.cells zrow 37)) n 37 zrow) := hid (by rw [← hn]; exact Blk.new w2 37 zrow)
  have A0 : Hid (TwoA w ((w2.alloc (.cells zrow 37)).setRow n (rowJ (newJ r s))) g k n (rowJ (newJ r s)) l1 e1) := hid (by
    have hlt := R2.out.lt
    have hI := (I2.out.keep ((Below.refl _ _).alloc (by have := I2.out.lt; omega) (.cells zrow 37))).setRow (r := n) (cs := rowJ (newJ r s)) (by omega)
    have hG := only_setRow (r := n) (cs := rowJ (newJ r s)) (only_below G2.out ((Below.refl _ _).alloc (Nat.le_refl _) (.cells zrow 37))) (by rw [HK.out]; omega)
    exact ⟨hI, (R2.out.alloc _).rowFar (by omega) _, E0.out.row _, hG, var_under gParts (P2.out.alloc (.cells zrow 37)) (base := n) (by omega) (below_setRow_ (Below.refl _ _) (Nat.le_refl _)), hg, by omega, by omega, by rw [HK.out]; exact Nat.le_refl _⟩)
  have N1 := hid (len_inst (newJ r s))
  have N2 := hid (size_inst zeroJ (newJ r s))
  have N3 := hid (rowJ_one (newJ r s))
  go_upto_region 2 with (refine wpList_store_row (o := ⟨none, _, _, _, _, _⟩) rfl 37 (.tmp 3) (.tmp 6) rfl n (rowJ (newJ r s)) rfl rfl 37 zrow E0.out.heap N1.out N2.out N3.out ?_)
  obtain ⟨W2, hW2⟩ : ∃ W2, (w2.alloc (.cells zrow 37)).setRow n (rowJ (newJ r s)) = W2 := ⟨_, rfl⟩
  rw [hW2] at A0
  rw [hW2]
  clear hW2 hn E0 I2 R2 P2 G2 N1 N2 N3
  go_wp2_with fail
  with_reducible refine (takeballot_any g l1 e1 l2 e2 v _ A0.out.iat HS1.out.fine HS1.out.bytes HS1.out.len H2.out).mono ?_
  rintro en w3 ⟨rfl, hin, hgr⟩
  have A1 := hid (A0.out.turn hin hgr)
  clear hin hgr A0
  have c3 := A1.out.box.j3
  have f3 := A1.out.box.frozen 3
  have A2 := hid (A1.out.bal (v : Int))
  clear A1
  go_wp2_with fail
  clear c3 f3
  with_reducible refine (byte_any g l2 e2 l3 e3 b _ A2.out.iat HS2.out.fine H3.out).mono ?_
  rintro en w4 ⟨rfl, hin, hgr⟩
  have A3 := hid (A2.out.turn hin hgr)
  clear hin hgr A2
  have c2 := A3.out.box.j2
  have f2 := A3.out.box.frozen 2
  have A4 := hid (A3.out.st (b : Int))
  clear A3
  go_upto_region 4 with fail
  obtain ⟨W4, hW4⟩ : ∃ W4, w4.setCell ⟨n, 2, none⟩ (.int .i64 (b : Int)) = W4 := ⟨_, rfl⟩
  rw [hW4] at A4
  rw [hW4]
  clear hW4 c2 f2 W1
  have c2 := A4.out.box.j2
  have hstat : statB (b : Int) = decide (b ≤ 3) := by unfold statB; rw [decide_eq_decide]; omega
  have HST := hid hstat
  clear hstat
  have H4' : Hid ((if 3 < b then (leftE e3 22 l3, firstE e3 22) else (l3, e3)) = (l4, e4)) := hid (by rw [← H4.out]; rfl)
  go_wp2_with fail
  with_reducible refine (isstatus_any (b : Int) _).mono ?_
  rw [HST.out]
  rintro en w5 ⟨rfl, rfl⟩
  have hb0 : ((b : Int) != 0) = true := by rw [bne_iff_ne]; omega
  obtain ⟨l5, e5, l6, e6, l7, e7, g5, g6, g7, g8⟩ := valE_some hbz H5.out
  obtain ⟨s5, _, _⟩ := sBallot_sound HS4.out g5
  have s6 := sTruth_sound s5 g6
  obtain ⟨s7, _⟩ := sCmd_sound s6 g7
  have S5 := hid s5
  have S6 := hid s6
  have S7 := hid s7
  have G5 := hid g5
  have G6 := hid g6
  have G7 := hid g7
  have G8 := hid g8
  clear s5 s6 s7 g5 g6 g7 g8 H5
  have key : ∃ W5 : World, True := ⟨w, trivial⟩
  clear key
  by_cases hb3 : 3 < b
  · have hd : decide (b ≤ 3) = false := decide_eq_false (by omega)
    rw [hd]
    have hm : leftE e3 22 l3 = l4 ∧ firstE e3 22 = e4 := by have := H4'.out; rw [if_pos hb3] at this; simpa using this
    have HM := hid hm
    clear hm hd H4'
    go_wp2_with fail
    with_reducible refine (fail_any g l3 e3 22 22 _ A4.out.iat rfl).mono ?_
    rw [HM.out.1, HM.out.2]
    rintro en w5 ⟨rfl, hin, hgr⟩
    have A5 := hid (A4.out.turn hin hgr)
    clear hin hgr A4 c2
    have c2 := A5.out.box.j2
    go_wp2_with fail
    clear c2
    with_reducible refine (takeballot_any g l4 e4 l5 e5 vt _ A5.out.iat HS4.out.fine HS4.out.bytes HS4.out.len G5.out).mono ?_
    rintro en w6 ⟨rfl, hin, hgr⟩
    have A6 := hid (A5.out.turn hin hgr)
    clear hin hgr A5
    have c4 := A6.out.box.j4
    have f4 := A6.out.box.frozen 4
    have A7 := hid (A6.out.vote (vt : Int))
    clear A6
    go_wp2_with fail
    clear c4 f4
    with_reducible refine (truth_any g l5 e5 l6 e6 sm _ A7.out.iat S5.out.fine S5.out.bytes G6.out).mono ?_
    rintro en w7 ⟨rfl, hin, hgr⟩
    have A8 := hid (A7.out.turn hin hgr)
    clear hin hgr A7
    have c5 := A8.out.box.j5
    have f5 := A8.out.box.frozen 5
    have A9 := hid (A8.out.same sm)
    clear A8
    go_wp2_with fail
    clear c5 f5
    with_reducible refine (cmdtakeE_any g l6 e6 l7 e7 c _ A9.out.iat S6.out A9.out.parts hg G7.out).mono ?_
    rintro en w8 ⟨rfl, hin, hgr⟩
    have B1 := hid (A9.out.turn hin hgr)
    clear hin hgr A9
    have B2 := hid (B1.out.cmd c)
    have T6 := hid (B1.out.there (o := 6) (m := 8) (by rw [rowJ_size]; decide))
    have I6 := hid (info_cmd8 c)
    have O6 := hid (one_cmdK c)
    clear B1
    go_wp2_with (refine wpList_store_mid (op := ⟨none, _, _, _, _, _⟩) rfl 32 (.tmp 31) (.tmp 30) rfl n 6 (cellsOf c) rfl rfl T6.out I6.out O6.out ?_)
    with_reducible refine (attake8 g l7 e7 l8 e8 V _ B2.out.iat S7.out G8.out).mono ?_
    rintro en w9 ⟨rfl, hin, hgr⟩
    have B3 := hid (B2.out.turn hin hgr)
    clear hin hgr B2 T6 I6 O6
    have B4 := hid (B3.out.att V)
    have T14 := hid (B3.out.there (o := 14) (m := 8) (by rw [rowJ_size]; decide))
    have I14 := hid (info_att8 V)
    have O14 := hid (rowA_one V)
    clear B3
    go_upto_region 11 with (refine wpList_store_mid (op := ⟨none, _, _, _, _, _⟩) rfl 35 (.tmp 34) (.tmp 33) rfl n 14 (ls8 V).toArray rfl rfl T14.out I14.out O14.out ?_)
    obtain ⟨W9, hW9⟩ : ∃ W9, w9.setCells n 14 (ls8 V).toArray.toList = W9 := ⟨_, rfl⟩
    rw [hW9]
    have AX : Hid (TwoA w W9 g k n (rowJ ⟨((r : Nat) : Int), ((s : Nat) : Int), ((b : Nat) : Int), ((v : Nat) : Int), ((vt : Nat) : Int), sm, c, V⟩) l8 e8) := hid (by rw [← hW9]; exact B4.out)
    clear hW9 B4 T14 I14 O14
    have L1 := hid (len_inst ⟨((r : Nat) : Int), ((s : Nat) : Int), ((b : Nat) : Int), ((v : Nat) : Int), ((vt : Nat) : Int), sm, c, V⟩)
    have L3 := hid (rowJ_one ⟨((r : Nat) : Int), ((s : Nat) : Int), ((b : Nat) : Int), ((v : Nat) : Int), ((vt : Nat) : Int), sm, c, V⟩)
    go_wp2_with (with_reducible refine wpList_load_row (o := ⟨some 35, _, _, _, _, _⟩) rfl 37 (.tmp 3) rfl n rfl 37 (rowJ ⟨((r : Nat) : Int), ((s : Nat) : Int), ((b : Nat) : Int), ((v : Nat) : Int), ((vt : Nat) : Int), sm, c, V⟩) (0, 0) _ AX.out.box.heap Tryz.underlying37 rfl L1.out ?_)
    with_reducible refine (jright_any ⟨((r : Nat) : Int), ((s : Nat) : Int), ((b : Nat) : Int), ((v : Nat) : Int), ((vt : Nat) : Int), sm, c, V⟩ HOK.out _ AX.out.parts hf hp).mono ?_
    rw [HRR.out]
    rintro en wr ⟨rfl, hb⟩
    have T1 := hid (AX.out.on hb)
    clear hb AX
    cases rr
    · have hpos : 0 < firstE e8 10 := firstE_pos (by omega)
      go_wp2_with fail
      with_reducible refine (fail_any g l8 e8 10 10 _ T1.out.iat rfl).mono ?_
      rintro en ws ⟨rfl, hin, hgr⟩
      have T2 := hid (T1.out.turn hin hgr)
      clear hin hgr T1
      go_wp2_with fail
      with_reducible refine (failed_yes g (leftE e8 10 l8) (firstE e8 10) _ T2.out.iat hpos).mono ?_
      rintro en wt ⟨rfl, rfl⟩
      have T3 := hid (T2.out.last (rowJ zeroJ))
      go_wp2_with (refine wpList_store_row (o := ⟨none, _, _, _, _, _⟩) rfl 37 (.tmp 2) (.tmp 42) rfl k (rowJ zeroJ) (by rfl) ?hy 37 (rowJ zeroJ) T2.out.res.heap Z1.out (size_inst _ _) Z3.out ?_; (case hy => rfl))
      exact bodyPost_ret (v := .agg (rowJ zeroJ)) (results_cell_row (p := 2) (ty := 37) (by kernel_rfl) _ _ k 37 (rowJ zeroJ) (0, 0) _ rfl (setRow_heap _ k _ (rowJ zeroJ) _ _ T2.out.res.heap) Tryz.underlying37 rfl Z1.out) rfl ⟨by rw [HL.out]; rfl, by rw [HL.out]; exact T3.out.1, T3.out.2⟩
    · by_cases h0 : e8 = 0
      · have H0 := hid h0
        clear h0
        go_wp2_with fail
        with_reducible refine (failed_as false g l8 e8 _ T1.out.iat (by rw [H0.out]; simp)).mono ?_
        rintro en wt ⟨rfl, rfl⟩
        have T3 := hid (T1.out.last (rowJ ⟨((r : Nat) : Int), ((s : Nat) : Int), ((b : Nat) : Int), ((v : Nat) : Int), ((vt : Nat) : Int), sm, c, V⟩))
        go_wp2_with (first
          | (with_reducible refine wpList_load_row (o := ⟨some 43, _, _, _, _, _⟩) rfl 37 (.tmp 3) rfl n rfl 37 (rowJ ⟨((r : Nat) : Int), ((s : Nat) : Int), ((b : Nat) : Int), ((v : Nat) : Int), ((vt : Nat) : Int), sm, c, V⟩) (0, 0) _ T1.out.box.heap Tryz.underlying37 rfl L1.out ?_)
          | (with_reducible refine wpList_store_row (o := ⟨none, _, _, _, _, _⟩) rfl 37 (.tmp 2) (.tmp 43) rfl k (rowJ ⟨((r : Nat) : Int), ((s : Nat) : Int), ((b : Nat) : Int), ((v : Nat) : Int), ((vt : Nat) : Int), sm, c, V⟩) rfl rfl 37 (rowJ zeroJ) T1.out.res.heap L1.out (size_inst _ _) L3.out ?_))
        exact bodyPost_ret (v := .agg (rowJ ⟨((r : Nat) : Int), ((s : Nat) : Int), ((b : Nat) : Int), ((v : Nat) : Int), ((vt : Nat) : Int), sm, c, V⟩)) (results_cell_row (p := 2) (ty := 37) (by kernel_rfl) _ _ k 37 (rowJ ⟨((r : Nat) : Int), ((s : Nat) : Int), ((b : Nat) : Int), ((v : Nat) : Int), ((vt : Nat) : Int), sm, c, V⟩) (0, 0) _ rfl (setRow_heap _ k _ (rowJ ⟨((r : Nat) : Int), ((s : Nat) : Int), ((b : Nat) : Int), ((v : Nat) : Int), ((vt : Nat) : Int), sm, c, V⟩) _ _ T1.out.res.heap) Tryz.underlying37 rfl L1.out) rfl ⟨by rw [HL.out]; (first | rw [if_pos rfl, if_pos H0.out] | rw [if_pos rfl, if_neg H0.out] | rw [if_pos True.intro, if_pos H0.out] | rw [if_pos True.intro, if_neg H0.out]), by rw [HL.out]; exact T3.out.1, T3.out.2⟩
      · have hpos : 0 < e8 := by omega
        have H0 := hid h0
        clear h0
        go_wp2_with fail
        with_reducible refine (failed_yes g l8 e8 _ T1.out.iat hpos).mono ?_
        rintro en wt ⟨rfl, rfl⟩
        have T3 := hid (T1.out.last (rowJ zeroJ))
        go_wp2_with (refine wpList_store_row (o := ⟨none, _, _, _, _, _⟩) rfl 37 (.tmp 2) (.tmp 42) rfl k (rowJ zeroJ) (by rfl) ?hy 37 (rowJ zeroJ) T1.out.res.heap Z1.out (size_inst _ _) Z3.out ?_; (case hy => rfl))
        exact bodyPost_ret (v := .agg (rowJ zeroJ)) (results_cell_row (p := 2) (ty := 37) (by kernel_rfl) _ _ k 37 (rowJ zeroJ) (0, 0) _ rfl (setRow_heap _ k _ (rowJ zeroJ) _ _ T1.out.res.heap) Tryz.underlying37 rfl Z1.out) rfl ⟨by rw [HL.out]; (first | rw [if_pos rfl, if_pos H0.out] | rw [if_pos rfl, if_neg H0.out] | rw [if_pos True.intro, if_pos H0.out] | rw [if_pos True.intro, if_neg H0.out]), by rw [HL.out]; exact T3.out.1, T3.out.2⟩
  · have hd : decide (b ≤ 3) = true := decide_eq_true (by omega)
    rw [hd]
    obtain ⟨rfl, rfl⟩ : l4 = l3 ∧ e4 = e3 := by have := H4'.out; rw [if_neg hb3] at this; simp at this; exact ⟨this.1.symm, this.2.symm⟩
    clear hd H4'
    have A5 := A4
    clear A4
    go_wp2_with fail
    clear c2
    with_reducible refine (takeballot_any g l4 e4 l5 e5 vt _ A5.out.iat HS4.out.fine HS4.out.bytes HS4.out.len G5.out).mono ?_
    rintro en w6 ⟨rfl, hin, hgr⟩
    have A6 := hid (A5.out.turn hin hgr)
    clear hin hgr A5
    have c4 := A6.out.box.j4
    have f4 := A6.out.box.frozen 4
    have A7 := hid (A6.out.vote (vt : Int))
    clear A6
    go_wp2_with fail
    clear c4 f4
    with_reducible refine (truth_any g l5 e5 l6 e6 sm _ A7.out.iat S5.out.fine S5.out.bytes G6.out).mono ?_
    rintro en w7 ⟨rfl, hin, hgr⟩
    have A8 := hid (A7.out.turn hin hgr)
    clear hin hgr A7
    have c5 := A8.out.box.j5
    have f5 := A8.out.box.frozen 5
    have A9 := hid (A8.out.same sm)
    clear A8
    go_wp2_with fail
    clear c5 f5
    with_reducible refine (cmdtakeE_any g l6 e6 l7 e7 c _ A9.out.iat S6.out A9.out.parts hg G7.out).mono ?_
    rintro en w8 ⟨rfl, hin, hgr⟩
    have B1 := hid (A9.out.turn hin hgr)
    clear hin hgr A9
    have B2 := hid (B1.out.cmd c)
    have T6 := hid (B1.out.there (o := 6) (m := 8) (by rw [rowJ_size]; decide))
    have I6 := hid (info_cmd8 c)
    have O6 := hid (one_cmdK c)
    clear B1
    go_wp2_with (refine wpList_store_mid (op := ⟨none, _, _, _, _, _⟩) rfl 32 (.tmp 31) (.tmp 30) rfl n 6 (cellsOf c) rfl rfl T6.out I6.out O6.out ?_)
    with_reducible refine (attake8 g l7 e7 l8 e8 V _ B2.out.iat S7.out G8.out).mono ?_
    rintro en w9 ⟨rfl, hin, hgr⟩
    have B3 := hid (B2.out.turn hin hgr)
    clear hin hgr B2 T6 I6 O6
    have B4 := hid (B3.out.att V)
    have T14 := hid (B3.out.there (o := 14) (m := 8) (by rw [rowJ_size]; decide))
    have I14 := hid (info_att8 V)
    have O14 := hid (rowA_one V)
    clear B3
    go_upto_region 11 with (refine wpList_store_mid (op := ⟨none, _, _, _, _, _⟩) rfl 35 (.tmp 34) (.tmp 33) rfl n 14 (ls8 V).toArray rfl rfl T14.out I14.out O14.out ?_)
    obtain ⟨W9, hW9⟩ : ∃ W9, w9.setCells n 14 (ls8 V).toArray.toList = W9 := ⟨_, rfl⟩
    rw [hW9]
    have AX : Hid (TwoA w W9 g k n (rowJ ⟨((r : Nat) : Int), ((s : Nat) : Int), ((b : Nat) : Int), ((v : Nat) : Int), ((vt : Nat) : Int), sm, c, V⟩) l8 e8) := hid (by rw [← hW9]; exact B4.out)
    clear hW9 B4 T14 I14 O14
    have L1 := hid (len_inst ⟨((r : Nat) : Int), ((s : Nat) : Int), ((b : Nat) : Int), ((v : Nat) : Int), ((vt : Nat) : Int), sm, c, V⟩)
    have L3 := hid (rowJ_one ⟨((r : Nat) : Int), ((s : Nat) : Int), ((b : Nat) : Int), ((v : Nat) : Int), ((vt : Nat) : Int), sm, c, V⟩)
    go_wp2_with (with_reducible refine wpList_load_row (o := ⟨some 35, _, _, _, _, _⟩) rfl 37 (.tmp 3) rfl n rfl 37 (rowJ ⟨((r : Nat) : Int), ((s : Nat) : Int), ((b : Nat) : Int), ((v : Nat) : Int), ((vt : Nat) : Int), sm, c, V⟩) (0, 0) _ AX.out.box.heap Tryz.underlying37 rfl L1.out ?_)
    with_reducible refine (jright_any ⟨((r : Nat) : Int), ((s : Nat) : Int), ((b : Nat) : Int), ((v : Nat) : Int), ((vt : Nat) : Int), sm, c, V⟩ HOK.out _ AX.out.parts hf hp).mono ?_
    rw [HRR.out]
    rintro en wr ⟨rfl, hb⟩
    have T1 := hid (AX.out.on hb)
    clear hb AX
    cases rr
    · have hpos : 0 < firstE e8 10 := firstE_pos (by omega)
      go_wp2_with fail
      with_reducible refine (fail_any g l8 e8 10 10 _ T1.out.iat rfl).mono ?_
      rintro en ws ⟨rfl, hin, hgr⟩
      have T2 := hid (T1.out.turn hin hgr)
      clear hin hgr T1
      go_wp2_with fail
      with_reducible refine (failed_yes g (leftE e8 10 l8) (firstE e8 10) _ T2.out.iat hpos).mono ?_
      rintro en wt ⟨rfl, rfl⟩
      have T3 := hid (T2.out.last (rowJ zeroJ))
      go_wp2_with (refine wpList_store_row (o := ⟨none, _, _, _, _, _⟩) rfl 37 (.tmp 2) (.tmp 42) rfl k (rowJ zeroJ) (by rfl) ?hy 37 (rowJ zeroJ) T2.out.res.heap Z1.out (size_inst _ _) Z3.out ?_; (case hy => rfl))
      exact bodyPost_ret (v := .agg (rowJ zeroJ)) (results_cell_row (p := 2) (ty := 37) (by kernel_rfl) _ _ k 37 (rowJ zeroJ) (0, 0) _ rfl (setRow_heap _ k _ (rowJ zeroJ) _ _ T2.out.res.heap) Tryz.underlying37 rfl Z1.out) rfl ⟨by rw [HL.out]; rfl, by rw [HL.out]; exact T3.out.1, T3.out.2⟩
    · by_cases h0 : e8 = 0
      · have H0 := hid h0
        clear h0
        go_wp2_with fail
        with_reducible refine (failed_as false g l8 e8 _ T1.out.iat (by rw [H0.out]; simp)).mono ?_
        rintro en wt ⟨rfl, rfl⟩
        have T3 := hid (T1.out.last (rowJ ⟨((r : Nat) : Int), ((s : Nat) : Int), ((b : Nat) : Int), ((v : Nat) : Int), ((vt : Nat) : Int), sm, c, V⟩))
        go_wp2_with (first
          | (with_reducible refine wpList_load_row (o := ⟨some 43, _, _, _, _, _⟩) rfl 37 (.tmp 3) rfl n rfl 37 (rowJ ⟨((r : Nat) : Int), ((s : Nat) : Int), ((b : Nat) : Int), ((v : Nat) : Int), ((vt : Nat) : Int), sm, c, V⟩) (0, 0) _ T1.out.box.heap Tryz.underlying37 rfl L1.out ?_)
          | (with_reducible refine wpList_store_row (o := ⟨none, _, _, _, _, _⟩) rfl 37 (.tmp 2) (.tmp 43) rfl k (rowJ ⟨((r : Nat) : Int), ((s : Nat) : Int), ((b : Nat) : Int), ((v : Nat) : Int), ((vt : Nat) : Int), sm, c, V⟩) rfl rfl 37 (rowJ zeroJ) T1.out.res.heap L1.out (size_inst _ _) L3.out ?_))
        exact bodyPost_ret (v := .agg (rowJ ⟨((r : Nat) : Int), ((s : Nat) : Int), ((b : Nat) : Int), ((v : Nat) : Int), ((vt : Nat) : Int), sm, c, V⟩)) (results_cell_row (p := 2) (ty := 37) (by kernel_rfl) _ _ k 37 (rowJ ⟨((r : Nat) : Int), ((s : Nat) : Int), ((b : Nat) : Int), ((v : Nat) : Int), ((vt : Nat) : Int), sm, c, V⟩) (0, 0) _ rfl (setRow_heap _ k _ (rowJ ⟨((r : Nat) : Int), ((s : Nat) : Int), ((b : Nat) : Int), ((v : Nat) : Int), ((vt : Nat) : Int), sm, c, V⟩) _ _ T1.out.res.heap) Tryz.underlying37 rfl L1.out) rfl ⟨by rw [HL.out]; (first | rw [if_pos rfl, if_pos H0.out] | rw [if_pos rfl, if_neg H0.out] | rw [if_pos True.intro, if_pos H0.out] | rw [if_pos True.intro, if_neg H0.out]), by rw [HL.out]; exact T3.out.1, T3.out.2⟩
      · have hpos : 0 < e8 := by omega
        have H0 := hid h0
        clear h0
        go_wp2_with fail
        with_reducible refine (failed_yes g l8 e8 _ T1.out.iat hpos).mono ?_
        rintro en wt ⟨rfl, rfl⟩
        have T3 := hid (T1.out.last (rowJ zeroJ))
        go_wp2_with (refine wpList_store_row (o := ⟨none, _, _, _, _, _⟩) rfl 37 (.tmp 2) (.tmp 42) rfl k (rowJ zeroJ) (by rfl) ?hy 37 (rowJ zeroJ) T1.out.res.heap Z1.out (size_inst _ _) Z3.out ?_; (case hy => rfl))
        exact bodyPost_ret (v := .agg (rowJ zeroJ)) (results_cell_row (p := 2) (ty := 37) (by kernel_rfl) _ _ k 37 (rowJ zeroJ) (0, 0) _ rfl (setRow_heap _ k _ (rowJ zeroJ) _ _ T1.out.res.heap) Tryz.underlying37 rfl Z1.out) rfl ⟨by rw [HL.out]; (first | rw [if_pos rfl, if_pos H0.out] | rw [if_pos rfl, if_neg H0.out] | rw [if_pos True.intro, if_pos H0.out] | rw [if_pos True.intro, if_neg H0.out]), by rw [HL.out]; exact T3.out.1, T3.out.2⟩
theorem insttake_any (g : Nat) (l : List Nat) (e : Nat) (l' : List Nat) (e' : Nat) (x : J) (w : World) (h : InAt w g l e) (hS : Sound l e) (hP : PartsIs w) (hg : 3 < g) (hs : sInst l e = (l', e', x)) :
    Calls Tryz.prog 41 #[.pointer (some ⟨g, 0, none⟩)] w (Turns (fun en => en = .returned (.agg (rowJ x))) g l' e' w) := by
  obtain ⟨l1, e1, r, s, h1⟩ : ∃ x y z w, sName l e = (x, y, z, w) := ⟨_, _, _, _, rfl⟩
  obtain ⟨l2, e2, v, h2⟩ : ∃ x y z, sBallot l1 e1 = (x, y, z) := ⟨_, _, _, rfl⟩
  obtain ⟨l3, e3, b, h3⟩ : ∃ x y z, sByte l2 e2 = (x, y, z) := ⟨_, _, _, rfl⟩
  obtain ⟨l4, e4, h4⟩ : ∃ x y, statE b l3 e3 = (x, y) := ⟨_, _, rfl⟩
  obtain ⟨l8, e8, vt, sm, c, V, h8⟩ : ∃ a b' c d f g, valE b l4 e4 = (a, b', c, d, f, g) := ⟨_, _, _, _, _, _, rfl⟩
  obtain ⟨s1, _⟩ := sName_sound hS h1
  obtain ⟨s2, b2, _⟩ := sBallot_sound s1 h2
  obtain ⟨s3, b3⟩ := sByte_sound s2 h3
  obtain ⟨s4, _⟩ := statE_sound s3 h4
  obtain ⟨s8, b8, ok8, f8, p8, _⟩ := valE_sound s4 h8
  have hok : okJ ⟨((r : Nat) : Int), ((s : Nat) : Int), ((b : Nat) : Int), ((v : Nat) : Int), ((vt : Nat) : Int), sm, c, V⟩ := ⟨by simp only; omega, by simp only; omega⟩
  rw [sInst_eq h1 h2 h3 h4 h8] at hs
  have hc : Calls Tryz.prog 41 #[.pointer (some ⟨g, 0, none⟩)] w (Turns (fun en => en = .returned (.agg (rowJ (lastJ (l8, e8, ⟨((r : Nat) : Int), ((s : Nat) : Int), ((b : Nat) : Int), ((v : Nat) : Int), ((vt : Nat) : Int), sm, c, V⟩)).2.2))) g (lastJ (l8, e8, ⟨((r : Nat) : Int), ((s : Nat) : Int), ((b : Nat) : Int), ((v : Nat) : Int), ((vt : Nat) : Int), sm, c, V⟩)).1 (lastJ (l8, e8, ⟨((r : Nat) : Int), ((s : Nat) : Int), ((b : Nat) : Int), ((v : Nat) : Int), ((vt : Nat) : Int), sm, c, V⟩)).2.1 w) := by
    by_cases hb : b = 0
    · exact insttake_none g l e l1 l2 l3 l4 l8 e1 e2 e3 e4 e8 r s v b vt sm c V w h hS hP hg h1 h2 h3 h4 h8 b3 hok (by omega) (by omega) s1 s2 s3 s4 hb
    · exact insttake_some g l e l1 l2 l3 l4 l8 e1 e2 e3 e4 e8 r s v b vt sm c V w h hS hP hg h1 h2 h3 h4 h8 b3 hok (by omega) (by omega) s1 s2 s3 s4 hb
  rw [hs] at hc
  exact hc
end Go.Proofs.YtohffiehmmcgbaaGreatDoor
