/-
  Take, Drop, Spoil of a net.
-/
import Derived.Test.YtljnboimadhkoaaNtPut
import Derived.Test.YtljnboimadhkoaaNtDel
namespace Go.Proofs.Ytljnboimadhkoaa
open Go.ChangeShapes Go.WideShapes Go.ChangeAt Go.RowKit
set_option linter.unusedVariables false
set_option linter.unusedSimpArgs false

theorem flatN_take : ∀ (l : List FrV) (j : Nat), flatN (l.take j) = (flatN l).take (j * 3)
  | [], j => by simp [flatN]
  | p :: l, 0 => by simp [flatN]
  | p :: l, j + 1 => by
    have ih := flatN_take l j
    unfold flatN at *
    rw [List.take_succ_cons, List.flatMap_cons, List.flatMap_cons, ih, List.take_append, show (frC p).length = 3 from rfl, show (j + 1) * 3 - 3 = j * 3 by omega, List.take_of_length_le (show (frC p).length ≤ (j + 1) * 3 from by show 3 ≤ _; omega)]
theorem flatN_drop : ∀ (l : List FrV) (j : Nat), flatN (l.drop j) = (flatN l).drop (j * 3)
  | [], j => by simp [flatN]
  | p :: l, 0 => by simp [flatN]
  | p :: l, j + 1 => by
    have ih := flatN_drop l j
    unfold flatN at *
    rw [List.drop_succ_cons, List.flatMap_cons, ih, List.drop_append, show (frC p).length = 3 from rfl, show (j + 1) * 3 - 3 = j * 3 by omega, List.drop_of_length_le (show (frC p).length ≤ (j + 1) * 3 from by show 3 ≤ _; omega), List.nil_append]
theorem flatN_erase (l : List FrV) (j : Nat) : flatN (l.eraseIdx j) = (flatN l).take (j * 3) ++ (flatN l).drop ((j + 1) * 3) := by
  rw [List.eraseIdx_eq_take_drop_succ, flatN_app, flatN_take, flatN_drop]
theorem erase_apart {l : List FrV} (h : l.Pairwise fun p q => ∀ b, p.2.ownBlock = some b → q.2.ownBlock ≠ some b) : ∀ {j : Nat} {p : FrV}, l[j]? = some p → ∀ q ∈ l.eraseIdx j, ∀ b, p.2.ownBlock = some b → q.2.ownBlock ≠ some b := by
  induction l with
  | nil => intro j p hj; simp at hj
  | cons x l ih =>
    intro j p hj q hq b hb
    obtain ⟨h1, h2⟩ := List.pairwise_cons.1 h
    cases j with
    | zero =>
      simp at hj hq
      subst hj
      exact h1 q hq b hb
    | succ j =>
      simp at hj hq
      rcases hq with rfl | hq
      · intro hx
        exact h1 p (List.mem_of_getElem? hj) b hx hb
      · exact ih h2 hj q hq b hb
/-- What Take leaves. -/
structure TakenN (base g : Nat) (lim : Int) (v : Value) (l : List FrV) (j : Nat) (p : FrV) (v' : Value) (w w' : World) : Prop where
  net : NetAt w' base g lim v' (l.eraseIdx j)
  row : w'.ownsRow base 5 1 p.2 p.1.d.length (numsN p.1.d)
  far : ∀ b, p.2.ownBlock = some b → ¬ OwnN g v' (l.eraseIdx j) b
  turns : TurnsD (RowN g v) w w'
  same : v'.ownBlock = v.ownBlock
theorem NetAt.taken {w w1 : World} {base g : Nat} {lim : Int} {v v' : Value} {l : List FrV} {j : Nat} {p : FrV} (h : NetAt w base g lim v l) (hj : l[j]? = some p) {w0 : World} (hb : Below w.heap.size w w0)
    (h1 : w1.ownsRow base 32 3 v' (l.length - 1) ((flatN l).take (j * 3) ++ (flatN l).drop ((j + 1) * 3))) (hg : w0.grownBy w1 v.ownBlock) (hv : v'.ownBlock = v.ownBlock) :
    TakenN base g lim v l j p v' w (w1.setCell ⟨g, 1, none⟩ v') := by
  have n0 := h.on hb
  have hp := List.mem_of_getElem? hj
  have hjl := (List.getElem?_eq_some_iff.1 hj).1
  have a1 : TurnsD (fun b => v.ownBlock = some b) w0 w1 := TurnsD.of_grown hg (fun b hb => hb)
  have a2 : TurnsD (RowN g v) w w1 := (TurnsD.of_below (S := RowN g v) hb).trans a1 (fun i _ hi => .inr hi)
  have hgv : v.ownBlock ≠ some g := own_neB n0.row n0.blk (by decide)
  have b1 : Blk w1 g 53 #[.int .i64 lim, v] := n0.blk.turns a1 hgv
  have g2 : w1.grownBy (w1.setCell ⟨g, 1, none⟩ v') (some g) := only_setCell (World.grownBy.refl _ _) (.inl rfl) _
  have hd1 : ∀ q ∈ l, (w1.setCell ⟨g, 1, none⟩ v').ownsRow base 5 1 q.2 q.1.d.length (numsN q.1.d) := fun q hq => by
    have x1 : w1.ownsRow base 5 1 q.2 q.1.d.length (numsN q.1.d) := row_turnsN (n0.dat q hq) a1 (fun b hb hv => own_ne (n0.dat q hq) n0.row (by decide) hb hv)
    exact x1.kept g2 (.inr (own_neB x1 b1 (by decide)))
  have hsub : ∀ q ∈ l.eraseIdx j, q ∈ l := fun q hq => (List.eraseIdx_sublist l j).subset hq
  have hb2 : Blk (w1.setCell ⟨g, 1, none⟩ v') g 53 #[.int .i64 lim, v'] := by
    have := b1.set_ 1 v'
    simpa only [List.setIfInBounds_toArray, List.set_cons_succ, List.set_cons_zero] using this
  have hlen : (l.eraseIdx j).length = l.length - 1 := by rw [List.length_eraseIdx, if_pos hjl]
  have hn : NetAt (w1.setCell ⟨g, 1, none⟩ v') base g lim v' (l.eraseIdx j) := by
    refine ⟨hb2, h.low, ?_, fun q hq => hd1 q (hsub q hq), h.apart.sublist (List.eraseIdx_sublist l j), ?_, fun q hq => h.small q (hsub q hq)⟩
    · rw [hlen, flatN_erase]
      exact h1.kept g2 (.inr (own_neB h1 b1 (by decide)))
    · have := h.few; rw [hlen]; omega
  refine ⟨hn, hd1 p hp, fun b hb ho => ?_, a2.set (p := ⟨g, 1, none⟩) (.inl (.inl rfl)) _, hv⟩
  rcases ho with ho | ⟨q, hq, ho⟩
  · exact h.rowNe hp hb (ho.imp id (fun e => by rw [← hv]; exact e))
  · exact erase_apart h.apart hj q hq b hb ho

theorem turns_high {B : Nat} {a b : World} (h : Below B a b) (hs : a.heap.size ≤ b.heap.size) : TurnsD (fun i => B ≤ i) a b := ⟨h.os, h.tape, h.output, hs, fun i hi hS => h.block i (by omega)⟩
/-- What is written above stays above. -/
theorem TakenN.box {w w4 w5 : World} {base g : Nat} {lim : Int} {v v' : Value} {l : List FrV} {j : Nat} {p : FrV} (h : NetAt w base g lim v l) (hj : l[j]? = some p) (t : TakenN base g lim v l j p v' w w4) (hb : Below w.heap.size w4 w5) : TakenN base g lim v l j p v' w w5 := by
  have hsub : ∀ q ∈ l.eraseIdx j, q ∈ l := fun q hq => (List.eraseIdx_sublist l j).subset hq
  have t5 := turns_high hb hb.size
  refine ⟨t.net.stay t5 (fun b ho => ?_), row_turnsN t.row t5 (fun b ho => ?_), t.far, t.turns.trans t5 (fun i hi hi2 => absurd hi2 (by omega)), t.same⟩
  · have : OwnN g v l b := by
      rcases ho with (rfl | ho) | ⟨q, hq, ho⟩
      · exact .inl (.inl rfl)
      · exact .inl (.inr (by rw [← t.same]; exact ho))
      · exact .inr ⟨q, hsub q hq, ho⟩
    have := (h.own this).2
    omega
  · have := (h.own (.inr ⟨p, List.mem_of_getElem? hj, ho⟩)).2
    omega

set_option maxRecDepth 100000 in
set_option maxHeartbeats 1000000 in
theorem nttake_ok (base g : Nat) (lim : Int) (v : Value) (l : List FrV) (j : Nat) (p : FrV) (i : Int) (hi : i = j) (w : World) (h : NetAt w base g lim v l) (hj : l[j]? = some p) :
    Calls Try.prog 15 #[.pointer (some ⟨g, 0, none⟩), .int .i64 i] w fun e w' => ∃ v', e = .returned (.tuple #[frV p, .int .i64 0]) ∧ TakenN base g lim v l j p v' w w' := by
  subst hi
  have HD := hid h
  have HJ := hid hj
  have hp := List.mem_of_getElem? hj
  have HH := hid (fun w1 (hb : Below w.heap.size w w1) => nthas_any base g lim v l (j : Int) w1 (h.on hb))
  have hjl := (List.getElem?_eq_some_iff.1 hj).1
  rw [show hasN l.length (j : Int) = true from hasN_iff.2 ⟨j, hjl, rfl⟩] at HH
  have HDel := hid (fun w1 (hb : Below w.heap.size w w1) => ntdel_any base v l.length (flatN l) j (j : Int) ((j : Int) + 1) rfl (by push_cast; rfl) w1 (h.on hb).row hjl (flatN_one (fun q hq => own_one (h.dat q hq))))
  obtain ⟨b, cv, hv, _, _, _, _⟩ := rowN_at h.row hj
  have HL := h.len
  obtain ⟨A, c, e0⟩ := own_shapeN (h.dat p hp)
  obtain ⟨m, hm⟩ : ∃ m, l.length = m := ⟨_, rfl⟩
  have HM := hid hm
  rw [hm] at hv hjl HL HDel
  subst hv
  obtain ⟨⟨fr, to, d⟩, s⟩ := p
  simp only at e0
  subst e0
  have hj3 : (j : Int) < (m : Int) := by omega
  have qi : IntKind.i64.wrap ((j : Int) + 1) = (j : Int) + 1 := IntWalk.i64_in _ (by omega)
  clear h hj hp hm
  go_enter Try.func15, Try.ntmps15
  go_upto_region 1 with fail
  obtain ⟨W, hW⟩ : ∃ W, w.alloc (.cells zeroF 32) = W := ⟨_, rfl⟩
  rw [hW]
  obtain ⟨K0, KB⟩ := lone_new hW
  clear hW
  have HHs := hid (HH.out W KB.out)
  have HX := hid (HD.out.on KB.out)
  obtain ⟨y0, y1, y2⟩ := rowN_cells HX.out.row HJ.out
  obtain ⟨_, c1⟩ := HX.out.cells
  go_upto_region 4 with (go_at_call 24; (with_reducible refine HHs.out.mono ?_); rintro e w' ⟨rfl, rfl⟩)
  obtain ⟨W2, hW2⟩ : ∃ W2, W.alloc (.cells #[.int .i64 fr, .int .i64 to, .slice A d.length c] 32) = W2 := ⟨_, rfl⟩
  rw [hW2]
  obtain ⟨K1, KB1⟩ := lone_new hW2
  have K02 := hid (K0.out.below KB1.out K0.out.lt)
  have B2 := hid (below_on KB.out KB1.out)
  have HX2 := hid (HD.out.on B2.out)
  have HSz : Hid (w.heap.size < W.heap.size) := hid K0.out.lt
  have HDels := hid (HDel.out W2 B2.out)
  obtain ⟨k, hk⟩ : ∃ k, w.heap.size = k := ⟨_, rfl⟩
  obtain ⟨k2, hk2⟩ : ∃ k, W.heap.size = k := ⟨_, rfl⟩
  rw [hk] at K0 K02 HSz ⊢
  rw [hk2] at K1 HSz ⊢
  have HK := hid hk
  clear hW2 hk hk2 HX HH HDel KB y0 y1 y2 c1 HHs
  have c1 : W2.cell? ⟨g, 1, none⟩ = some (.slice (some ⟨b, 0, none⟩) m cv) := HX2.out.cells.2
  have HRw : Hid (∀ bb, (Value.slice (some ⟨b, 0, none⟩) m cv).ownBlock = some bb → bb < k) := hid (fun bb e => by rw [← HK.out]; exact (HD.out.row.lt bb e).2)
  go_upto_region 5 with (go_at_call 25; (with_reducible refine HDels.out.mono ?_); rintro e w3 ⟨v', rfl, ho, hgr, hvb⟩; obtain ⟨A', c', rfl⟩ := own_shapeN ho; have HT := hid (HD.out.taken HJ.out B2.out (by rw [HM.out]; exact ho) hgr hvb); have t3 : TurnsD (fun bb => (Value.slice (some ⟨b, 0, none⟩) m cv).ownBlock = some bb) W2 w3 := TurnsD.of_grown hgr (fun b hb => hb); have hgv : (Value.slice (some ⟨b, 0, none⟩) m cv).ownBlock ≠ some g := own_neB HX2.out.row HX2.out.blk (by decide); have N3 := hid (HX2.out.blk.turns t3 hgv); have K03 := hid (K02.out.turns t3 (fun e => by have := HRw.out _ e; omega)); have K13 := hid (K1.out.turns t3 (fun e => by have := HRw.out _ e; have := HSz.out; omega)); have z1 := (N3.out.cell 1).trans rfl; have z2 := N3.out.frozen 1; clear ho hgr hvb t3)
  obtain ⟨w4, hw4⟩ : ∃ w4, w3.setCell ⟨g, 1, none⟩ (.slice A' (m - 1) c') = w4 := ⟨_, rfl⟩
  have hgk : g < k := by have := HD.out.lt; have := HK.out; omega
  have K04 := hid (K03.out.far (p := ⟨g, 1, none⟩) (by simp; omega) (.slice A' (m - 1) c'))
  have K14 := hid (K13.out.far (p := ⟨g, 1, none⟩) (by have := HSz.out; simp; omega) (.slice A' (m - 1) c'))
  rw [hw4] at HT K04 K14 ⊢
  clear hw4 z1 z2 N3 K03 K13 c1
  obtain ⟨x0, x1, x2⟩ := lcells3N K14.out
  obtain ⟨y0, y1, y2⟩ := lcells3N K04.out
  obtain ⟨f0, f1, f2⟩ := lfrozen3N K04.out
  go_wp2
  have Q := put3N_blk K04.out (.int .i64 fr) (.int .i64 to) (.slice A d.length c)
  have QT := HT.out.box HD.out HJ.out (w5 := put3N w4 k (.int .i64 fr) (.int .i64 to) (.slice A d.length c)) (by rw [HK.out]; exact put3N_below (Below.refl k w4) (Nat.le_refl k) _ _ _)
  unfold put3N at Q QT
  obtain ⟨w5, hw5⟩ : ∃ w5, ((w4.setCell ⟨k, 0, none⟩ (.int .i64 fr)).setCell ⟨k, 1, none⟩ (.int .i64 to)).setCell ⟨k, 2, none⟩ (.slice A d.length c) = w5 := ⟨_, rfl⟩
  rw [hw5] at Q QT ⊢
  clear hw5 x0 x1 x2 y0 y1 y2 f0 f1 f2
  obtain ⟨y0, y1, y2⟩ := lcells3N Q
  refine bodyPost_ret (v := .tuple #[.agg #[.int .i64 fr, .int .i64 to, .slice A d.length c], .int .i64 0]) (by simp [results, Try.results15, go_sem, y0, y1, y2]) rfl ⟨_, rfl, QT⟩
set_option maxRecDepth 100000 in
set_option maxHeartbeats 1000000 in
theorem nttake_no (base g : Nat) (lim : Int) (v : Value) (l : List FrV) (i : Int) (w : World) (h : NetAt w base g lim v l) (hi : hasN l.length i = false) :
    Calls Try.prog 15 #[.pointer (some ⟨g, 0, none⟩), .int .i64 i] w fun e w' => e = .returned (.tuple #[.agg zeroF, .int .i64 13]) ∧ Below w.heap.size w w' := by
  have HH := hid (fun w1 (hb : Below w.heap.size w w1) => nthas_any base g lim v l i w1 (h.on hb))
  rw [hi] at HH
  clear h hi
  go_enter Try.func15, Try.ntmps15
  go_upto_region 1 with fail
  obtain ⟨W, hW⟩ : ∃ W, w.alloc (.cells zeroF 32) = W := ⟨_, rfl⟩
  rw [hW]
  obtain ⟨K0, KB⟩ := lone_new hW
  clear hW
  have HHs := hid (HH.out W KB.out)
  obtain ⟨k, hk⟩ : ∃ k, w.heap.size = k := ⟨_, rfl⟩
  rw [hk] at K0 ⊢
  have HK := hid hk
  clear hk HH
  obtain ⟨y0, y1, y2⟩ := lcells3N K0.out
  obtain ⟨f0, f1, f2⟩ := lfrozen3N K0.out
  go_wp2_with (go_at_call 24; (with_reducible refine HHs.out.mono ?_); rintro e w' ⟨rfl, rfl⟩)
  have Q := put3N_blk K0.out (.int .i64 0) (.int .i64 0) (.slice none 0 0)
  have QB := put3N_below KB.out (Nat.le_of_eq HK.out) (.int .i64 0) (.int .i64 0) (.slice none 0 0)
  unfold put3N at Q QB
  obtain ⟨w5, hw5⟩ : ∃ w5, ((W.setCell ⟨k, 0, none⟩ (.int .i64 0)).setCell ⟨k, 1, none⟩ (.int .i64 0)).setCell ⟨k, 2, none⟩ (.slice none 0 0) = w5 := ⟨_, rfl⟩
  rw [hw5] at Q QB ⊢
  clear hw5 y0 y1 y2 f0 f1 f2
  obtain ⟨y0, y1, y2⟩ := lcells3N Q
  refine bodyPost_ret (v := .tuple #[.agg zeroF, .int .i64 13]) (by simp [results, Try.results15, go_sem, y0, y1, y2]) rfl ⟨rfl, QB⟩
set_option maxRecDepth 100000 in
set_option maxHeartbeats 1000000 in
theorem ntdrop_ok (base g : Nat) (lim : Int) (v : Value) (l : List FrV) (j : Nat) (p : FrV) (i : Int) (hi : i = j) (w : World) (h : NetAt w base g lim v l) (hj : l[j]? = some p) :
    Calls Try.prog 16 #[.pointer (some ⟨g, 0, none⟩), .int .i64 i] w fun e w' => ∃ v', e = .returned (.int .i64 0) ∧ TakenN base g lim v l j p v' w w' := by
  have HT := hid (nttake_ok base g lim v l j p i hi w h hj)
  have HBox := hid (fun v' w4 w5 (t : TakenN base g lim v l j p v' w w4) hb => TakenN.box h hj t (w5 := w5) hb)
  obtain ⟨⟨fr, to, d⟩, s⟩ := p
  obtain ⟨A, c, e0⟩ := own_shapeN (h.dat _ (List.mem_of_getElem? hj))
  simp only at e0
  subst e0
  clear h hj hi
  go_enter Try.func16, Try.ntmps16
  go_wp2_with (go_at_call 15; (with_reducible refine HT.out.mono ?_); rintro e w' ⟨v', rfl, hT⟩; have HTk := hid hT; clear hT)
  go_ret
  exact ⟨v', rfl, HBox.out _ _ _ HTk.out ((Below.refl _ _).alloc HTk.out.turns.size _)⟩
set_option maxRecDepth 100000 in
set_option maxHeartbeats 1000000 in
theorem ntdrop_no (base g : Nat) (lim : Int) (v : Value) (l : List FrV) (i : Int) (w : World) (h : NetAt w base g lim v l) (hi : hasN l.length i = false) :
    Calls Try.prog 16 #[.pointer (some ⟨g, 0, none⟩), .int .i64 i] w fun e w' => e = .returned (.int .i64 13) ∧ Below w.heap.size w w' := by
  have HT := hid (nttake_no base g lim v l i w h hi)
  clear h hi
  go_enter Try.func16, Try.ntmps16
  go_wp2_with (go_at_call 15; (with_reducible refine HT.out.mono ?_); rintro e w' ⟨rfl, hT⟩; have HTk := hid hT; clear hT)
  go_ret
  exact ⟨rfl, HTk.out.alloc HTk.out.size _⟩
end Go.Proofs.Ytljnboimadhkoaa
