/-
  The law's step: Take, Drop, Spoil.
-/
import Derived.Test.YtljnboimadhkoaaNtStepK
namespace Go.Proofs.Ytljnboimadhkoaa
open Go.ChangeShapes Go.WideShapes Go.ChangeAt Go.RowKit
set_option linter.unusedVariables false
set_option linter.unusedSimpArgs false

/-- Both nets, one frame shorter. -/
theorem RefAt.lowB {w : World} {N B B' : Nat} {rv : Value} {l : List FrV} (h : RefAt w N B' rv l) (hb : B ≤ B') : RefAt w N B rv l := ⟨own_lowN h.row hb, h.arg⟩
theorem BothN.less {w W5 w9 : World} {N B B' g j : Nat} {lim : Int} {v v' rv rv' : Value} {lp lr : List FrV} (h : BothN w N B g lim v lp rv lr) (hs : Below B w W5) (hn : NetAt W5 B g lim v' (lp.eraseIdx j)) (b : Below W5.heap.size W5 w9) (hr : RefAt w9 N B' rv' (lr.eraseIdx j)) (hB : B ≤ B') :
    StepN N B g lim w (.returned (.tuple #[rv', .bool true])) w9 := by
  have hsub : ∀ p ∈ lr.eraseIdx j, p ∈ lr := fun p hp => (List.eraseIdx_sublist lr j).subset hp
  refine ⟨rv', v', lp.eraseIdx j, lr.eraseIdx j, rfl, ⟨hn.on b, hr.lowB hB, h.low, ?_, fun p hp => h.byte p (hsub p hp), fun p hp => h.known p (hsub p hp)⟩, hs.trans (b.mono hn.base_le)⟩
  rw [List.eraseIdx_eq_take_drop_succ, List.eraseIdx_eq_take_drop_succ, List.map_append, List.map_append, List.map_take, List.map_take, List.map_drop, List.map_drop, h.same]
/-- What stands behind the net's move. -/
structure AftN (W : World) (N B g : Nat) (lim : Int) (v : Value) (lp : List FrV) (rv : Value) (lr : List FrV) (k : Nat) (oc : Array Value) (k15 : Nat) (f : FrV) (n : Nat) : Prop where
  net : NetAt W B g lim v lp
  ref : RefAt W N B rv lr
  op : Blk W k 34 oc
  box : Blk W k15 32 #[.int .i64 f.1.fr, .int .i64 f.1.to, f.2]
  row : W.ownsRow B 5 1 f.2 n (numsN f.1.d)
theorem AftN.turns {S : Nat → Prop} {W W' : World} {N B g : Nat} {lim : Int} {v rv : Value} {lp lr : List FrV} {k k15 n : Nat} {oc : Array Value} {f : FrV} (h : AftN W N B g lim v lp rv lr k oc k15 f n) (t : TurnsD S W W') (hN : N ≤ W.heap.size)
    (h0 : ∀ i, i < N → ¬ S i) (h1 : ∀ b, OwnN g v lp b → ¬ S b) (h2 : ∀ b, rv.ownBlock = some b → ¬ S b) (h3 : ¬ S k) (h4 : ¬ S k15) (h5 : ∀ b, f.2.ownBlock = some b → ¬ S b) : AftN W' N B g lim v lp rv lr k oc k15 f n :=
  ⟨h.net.stay t h1, h.ref.turns t hN h0 h2, h.op.turns t h3, h.box.turns t h4, row_turnsN h.row t h5⟩
theorem AftN.on {W W' : World} {N B g : Nat} {lim : Int} {v rv : Value} {lp lr : List FrV} {k k15 n : Nat} {oc : Array Value} {f : FrV} (h : AftN W N B g lim v lp rv lr k oc k15 f n) (hN : N ≤ W.heap.size) (b : Below W.heap.size W W') : AftN W' N B g lim v lp rv lr k oc k15 f n :=
  h.turns (S := fun _ => False) (TurnsD.of_below b) hN (fun _ _ h => h) (fun _ _ h => h) (fun _ _ h => h) (fun h => h) (fun h => h) (fun _ _ h => h)
theorem turns_put3 (w : World) (g : Nat) (a b c : Value) : TurnsD (fun x => x = g) w (put3N w g a b c) := TurnsD.of_grown (put3N_grown w g a b c) (fun b hb => by injection hb with hb; exact hb.symm)
/-- A store into the box of the frame that is wanted. -/
theorem AftN.put17 {W : World} {N B g : Nat} {lim : Int} {v rv : Value} {lp lr : List FrV} {k k15 k17 n Z : Nat} {oc cs : Array Value} {f : FrV} (h : AftN W N B g lim v lp rv lr k oc k15 f n) (hk : Blk W k17 41 cs) (hN : N ≤ Z) (hZ : Z ≤ k17) (hr : ∀ b, rv.ownBlock = some b → b < Z) (x y z : Value) : AftN (put3N W k17 x y z) N B g lim v lp rv lr k oc k15 f n := by
  refine h.turns (turns_put3 W k17 x y z) (by have := hk.lt; omega) (fun i hi e => by omega) (fun b ho e => ?_) (fun b hb e => by have := hr b hb; omega) (fun e => blk_ne h.op hk (by decide) e) (fun e => blk_ne h.box hk (by decide) e) (fun b hb e => own_neB h.row hk (by decide) (by rw [← e]; exact hb))
  subst e
  rcases ho with (rfl | ho) | ⟨p, hp, ho⟩
  · exact blk_ne h.net.blk hk (by decide) rfl
  · exact own_neB h.net.row hk (by decide) ho
  · exact own_neB (h.net.dat p hp) hk (by decide) ho
theorem Sees.put3 {w : World} {A : Option Addr} {l : List Nat} {g : Nat} {T : TypeId} {p q : Int} {r : Option Addr} {s t : Nat} (h : Sees .u8 w A l) (hk : Blk w g T #[.int .i64 p, .int .i64 q, .slice r s t]) (x y z : Value) : Sees .u8 (put3N w g x y z) A l := by
  intro j u hj
  obtain ⟨b, o, h1, h2, h3⟩ := h j u hj
  have hne : b ≠ g := by
    rintro rfl
    rw [hk.cell] at h3
    match ho : o + j, h3 with
    | 0, h3 => simp at h3
    | 1, h3 => simp at h3
    | 2, h3 => simp at h3
    | n + 3, h3 => simp at h3
  have hg := put3N_grown w g x y z
  exact ⟨b, o, h1, Nat.lt_of_lt_of_le h2 hg.size, (World.cell?_of_block (w := w) (a := ⟨b, o + j, none⟩) (hg.block b h2 (by simp; exact hne))).trans h3⟩
/-- The frame that was taken, put into its box. -/
theorem AftN.make {w4 : World} {N B g : Nat} {lim : Int} {v' rv : Value} {lp' lr : List FrV} {k k15 n Z : Nat} {oc : Array Value} {f : FrV} (hn : NetAt w4 B g lim v' lp') (hr : RefAt w4 N B rv lr) (ho : Blk w4 k 34 oc) (hk : Blk w4 k15 32 #[.int .i64 0, .int .i64 0, .slice none 0 0]) (hw : w4.ownsRow B 5 1 f.2 n (numsN f.1.d))
    (hN : N ≤ Z) (hZ : Z ≤ k15) (hl : ∀ b, OwnN g v' lp' b → b < Z) : AftN (put3N w4 k15 (.int .i64 f.1.fr) (.int .i64 f.1.to) f.2) N B g lim v' lp' rv lr k oc k15 f n := by
  have t := turns_put3 w4 k15 (.int .i64 f.1.fr) (.int .i64 f.1.to) f.2
  exact ⟨hn.stay t (fun b ho e => by have := hl b ho; omega), hr.turns t (by have := hk.lt; omega) (fun i hi e => by omega) (fun b hb e => own_neB hr.row hk (by decide) (by rw [← e]; exact hb)), ho.turns t (fun e => blk_ne ho hk (by decide) e), put3N_blk hk _ _ _, row_turnsN hw t (fun b hb e => own_neB hw hk (by decide) (by rw [← e]; exact hb))⟩

set_option maxRecDepth 100000 in
set_option maxHeartbeats 4000000 in
theorem ntstep_ok2 (N B g : Nat) (lim : Int) (v : Value) (lp : List FrV) (rv : Value) (lr : List FrV) (o : OpN) (w : World) (h : BothN w N B g lim v lp rv lr) (h1 : o.kind = 2) (hbit : o.bit ≤ 9223372036854775807) (j : Nat) (hi : o.i = j) (hj : j < lr.length) :
    Calls Try.prog 7 #[.pointer (some ⟨g, 0, none⟩), rv, .int .i64 lim, .agg (opNC o)] w (StepN N B g lim w) := by
  obtain ⟨p, hp⟩ : ∃ p, lr[j]? = some p := ⟨_, List.getElem?_eq_getElem hj⟩
  obtain ⟨u, hu⟩ := h.at_ hp
  have hpm := List.mem_of_getElem? hp
  have hum := List.mem_of_getElem? hu
  have HB := hid h
  have HT := hid (fun w1 (hb : Below w.heap.size w w1) => nttake_ok B g lim v lp j _ o.i hi w1 (h.net.on hb) hu)
  obtain ⟨R, rc, hrv⟩ := own_shapeN h.ref.row
  have hm9 : lr.length ≤ 4096 := by rw [← h.len]; exact h.net.len
  obtain ⟨m, hmm⟩ : ∃ m, lr.length = m := ⟨_, rfl⟩
  have HM := hid hmm
  have HLp : Hid (lp.length = m) := hid (by rw [h.len, hmm])
  rw [hmm] at hrv hm9
  subst hrv
  obtain ⟨kd, i, bit, ⟨fr, to, d⟩, A, c⟩ := o
  simp only at h1 HT hi hbit
  subst h1 hi
  rw [HM.out] at hj
  have h0 : (0 : Int) ≤ (j : Int) := by omega
  have h2 : (j : Int) < (m : Int) := by omega
  have HP := hid hp
  obtain ⟨As, cs, hs1, hs2, hs3⟩ := h.ref.arg p hpm
  have HAr := hid (And.intro hs2 hs3)
  have H8 := hid (h.byte p hpm)
  have HSmall := h.net.small _ hum
  obtain ⟨Au, cu, hu1⟩ := own_shapeN (h.net.dat _ hum)
  simp only at hu1
  subst hu1
  have HUm := hid hum
  obtain ⟨⟨f1, t1, d1⟩, s1⟩ := p
  simp only at hs1 HSmall
  subst hs1
  have HRl : Hid (∀ b, (Value.slice R m rc).ownBlock = some b → b < w.heap.size) := hid (fun b hb => (h.ref.row.lt b hb).2)
  have HOl : Hid (∀ b, OwnN g v lp b → b < w.heap.size) := hid (fun b hb => (h.net.own hb).2)
  have HSub : Hid (∀ q ∈ lp.eraseIdx j, q ∈ lp) := hid (fun q hq => (List.eraseIdx_sublist lp j).subset hq)
  have HNz := hid h.size
  have HBz := hid h.net.base_le
  have HOf := hid (fun a b A n c w => ntof_any a b A n c w)
  clear h hmm hp hu hpm hum hs2 hs3
  simp only [opNC]
  obtain ⟨n, hn⟩ : ∃ n, d.length = n := ⟨_, rfl⟩
  rw [hn]
  clear hn
  go_enter Try.func7, Try.ntmps7
  go_upto_region 1 with fail
  obtain ⟨W, hW⟩ : ∃ W, w.alloc (.cells #[.int .i64 2, .int .i64 (j : Int), .int .i64 bit, .int .i64 fr, .int .i64 to, .slice A n c] 34) = W := ⟨_, rfl⟩
  rw [hW]
  obtain ⟨K0, KB⟩ := lone_new hW
  obtain ⟨k, hk⟩ : ∃ k, w.heap.size = k := ⟨_, rfl⟩
  have HK := hid hk
  rw [hk] at K0 ⊢
  clear hW hk
  obtain ⟨c0, c1, c2, c3, c4, c5⟩ := lcells6N K0.out
  go_upto_region 26 with fail
  obtain ⟨W3, hW3⟩ : ∃ W3, (W.alloc (.cells zeroF 32)).alloc (.cells zeroF 41) = W3 := ⟨_, rfl⟩
  rw [hW3]
  obtain ⟨K15, K17, KB3⟩ := ltwo_new hW3
  have B3 := hid (below_on KB.out KB3.out)
  have KO := hid (K0.out.below KB3.out K0.out.lt)
  have HTs := hid (HT.out W3 B3.out)
  have X3 := hid (HB.out.on B3.out)
  obtain ⟨k15, hk15⟩ : ∃ k, W.heap.size = k := ⟨_, rfl⟩
  have HKK : Hid (k < k15) := hid (by rw [← hk15]; exact K0.out.lt)
  rw [hk15] at K15 K17 ⊢
  clear hW3 hk15 c0 c1 c2 c3 c4 c5 HT KB3 KB K0
  obtain ⟨c0, c1, c2, c3, c4, c5⟩ := lcells6N KO.out
  go_upto_region 32 with (go_at_call 15; (with_reducible refine HTs.out.mono ?_); rintro e w4 ⟨v', rfl, t⟩; have NN := hid t.net; have RW := hid t.row; have HS := hid t.same; have ht : TurnsD (OwnN g v lp) W3 w4 := t.turns.more (fun i _ hi => .inl hi); obtain ⟨hr5, hb5⟩ := X3.out.keeps ht (fun i hi => hi); have RR := hid hr5; have BB := hid ((B3.out.mono HBz.out).trans hb5); have K4 := hid (K15.out.turns ht (fun e => by have := HOl.out _ e; have := HKK.out; have := HK.out; omega)); have K5 := hid (K17.out.turns ht (fun e => by have := HOl.out _ e; have := HKK.out; have := HK.out; omega)); have K6 := hid (KO.out.turns ht (fun e => by have := HOl.out _ e; have := HK.out; omega)); clear ht c0 c1 c2 c3 c4 c5 hr5 hb5; obtain ⟨c0, c1, c2, c3, c4, c5⟩ := lcells6N K6.out; obtain ⟨e0, e1, e2⟩ := lcells3N K4.out; obtain ⟨g0, g1, g2⟩ := lfrozen3N K4.out)
  have HLow : Hid (∀ b, OwnN g v' (lp.eraseIdx j) b → b < w.heap.size) := hid (fun b ho => HOl.out b (by
    rcases ho with (rfl | ho) | ⟨q, hq, ho⟩
    · exact .inl (.inl rfl)
    · exact .inl (.inr (by rw [← HS.out]; exact ho))
    · exact .inr ⟨q, HSub.out q hq, ho⟩))
  have G5 := hid (AftN.make (k15 := k15) (Z := w.heap.size) (f := (⟨f1, t1, d1⟩, .slice Au d1.length cu)) NN.out RR.out K6.out K4.out RW.out HNz.out (by have := HKK.out; have := HK.out; omega) HLow.out)
  have K5b := hid (K5.out.grown (put3N_grown w4 k15 (.int .i64 f1) (.int .i64 t1) (.slice Au d1.length cu)) (by simp))
  have B5 := hid (put3N_below (k := B) (g := k15) BB.out (by have := HKK.out; have := HK.out; have := HBz.out; omega) (.int .i64 f1) (.int .i64 t1) (.slice Au d1.length cu))
  unfold put3N at G5 K5b B5
  obtain ⟨w5, hw5⟩ : ∃ w5, ((w4.setCell ⟨k15, 0, none⟩ (.int .i64 f1)).setCell ⟨k15, 1, none⟩ (.int .i64 t1)).setCell ⟨k15, 2, none⟩ (.slice Au d1.length cu) = w5 := ⟨_, rfl⟩
  rw [hw5] at G5 K5b B5 ⊢
  clear hw5 c0 c1 c2 c3 c4 c5 e0 e1 e2 g0 g1 g2
  obtain ⟨c0, c1, c2, c3, c4, c5⟩ := lcells6N G5.out.op
  obtain ⟨b, hRb⟩ : ∃ b, R = some ⟨b, 0, none⟩ := by
    obtain ⟨b, cv', hvv, _⟩ := rowN_at G5.out.ref.row HP.out
    injection hvv with e1
    exact ⟨b, e1⟩
  subst hRb
  obtain ⟨y0, y1, y2⟩ := rowN_cells G5.out.ref.row HP.out
  obtain ⟨g0, g1, g2⟩ := lfrozen3N K5b.out
  obtain ⟨e0, e1, e2⟩ := lcells3N K5b.out
  go_upto_region 36 with fail
  have G6 := hid (G5.out.put17 (Z := w.heap.size) K5b.out HNz.out (by have := HKK.out; have := HK.out; omega) HRl.out (.int .i64 f1) (.int .i64 t1) (.slice As d1.length cs))
  have K66 := hid (put3N_blk K5b.out (.int .i64 f1) (.int .i64 t1) (.slice As d1.length cs))
  have B6 := hid (put3N_below (k := B) (g := k15 + 1) B5.out (by have := HKK.out; have := HK.out; have := HBz.out; omega) (.int .i64 f1) (.int .i64 t1) (.slice As d1.length cs))
  unfold put3N at G6 K66 B6
  obtain ⟨w6, hw6⟩ : ∃ w6, ((w5.setCell ⟨k15 + 1, 0, none⟩ (.int .i64 f1)).setCell ⟨k15 + 1, 1, none⟩ (.int .i64 t1)).setCell ⟨k15 + 1, 2, none⟩ (.slice As d1.length cs) = w6 := ⟨_, rfl⟩
  rw [hw6] at G6 K66 B6 ⊢
  clear hw6 c0 c1 c2 c3 c4 c5 e0 e1 e2 g0 g1 g2 y0 y1 y2
  obtain ⟨c0, c1, c2, c3, c4, c5⟩ := lcells6N G6.out.op
  have G8 := hid G6.out
  have K8 := hid K66.out
  have B8 := hid B6.out
  obtain ⟨w8, hw8⟩ : ∃ w8, w6 = w8 := ⟨_, rfl⟩
  rw [hw8] at G8 K8 B8 ⊢
  clear c0 c1 c2 c3 c4 c5
  obtain ⟨c0, c1, c2, c3, c4, c5⟩ := lcells6N G8.out.op
  have HSw8 : Hid (Sees .u8 w8 As d1) := hid ((HAr.out.2.below (B8.out.mono HB.out.low)).sees (Nat.le_trans HB.out.low G8.out.net.base_le))
  go_wp2_with fail
  clear c0 c1 c2 c3 c4 c5 hw8
  have HN8 : Hid (N ≤ w8.heap.size) := hid (Nat.le_trans HB.out.low G8.out.net.base_le)
  have HSm := hid (fun W' (x1 : Sees .u8 W' Au d1) (x2 : Sees .u8 W' As d1) => ntsame_any ⟨f1, t1, d1⟩ ⟨f1, t1, d1⟩ Au As d1.length d1.length cu cs W' rfl rfl (by omega) (by omega) x1 x2)
  rw [sameB_self] at HSm
  have HWo := hid (fun W' (bl : Below w8.heap.size w8 W') => refwithout_any N B (.slice (some ⟨b, 0, none⟩) m rc) lr j (j : Int) rfl W' (G8.out.on HN8.out bl).ref (Nat.le_trans HN8.out bl.size) (by rw [HM.out]; exact hj) (by rw [HM.out]; exact hm9))
  have S0 : Hid (∀ W', Below w8.heap.size w8 W' → ((W'.cell? ⟨k, 1, none⟩ = some (.int .i64 (j : Int))) ∧ (W'.cell? ⟨k15, 0, none⟩ = some (.int .i64 f1) ∧ W'.cell? ⟨k15, 1, none⟩ = some (.int .i64 t1) ∧ W'.cell? ⟨k15, 2, none⟩ = some (.slice Au d1.length cu)) ∧ (W'.cell? ⟨k15 + 1, 0, none⟩ = some (.int .i64 f1) ∧ W'.cell? ⟨k15 + 1, 1, none⟩ = some (.int .i64 t1) ∧ W'.cell? ⟨k15 + 1, 2, none⟩ = some (.slice As d1.length cs))) ∧ Sees .u8 W' Au d1 ∧ Sees .u8 W' As d1) := hid (fun W' b => ⟨⟨(lcells6N (G8.out.on HN8.out b).op).2.1, lcells3N (G8.out.on HN8.out b).box, lcells3N (K8.out.below b K8.out.lt)⟩, Sees.of_own (G8.out.on HN8.out b).row, HSw8.out.below b⟩)
  have D0 := hid (below_drew (Below.refl w8.heap.size w8))
  go_region_held3 (fun W' => (W'.cell? ⟨k, 1, none⟩ = some (.int .i64 (j : Int))) ∧ (W'.cell? ⟨k15, 0, none⟩ = some (.int .i64 f1) ∧ W'.cell? ⟨k15, 1, none⟩ = some (.int .i64 t1) ∧ W'.cell? ⟨k15, 2, none⟩ = some (.slice Au d1.length cu)) ∧ (W'.cell? ⟨k15 + 1, 0, none⟩ = some (.int .i64 f1) ∧ W'.cell? ⟨k15 + 1, 1, none⟩ = some (.int .i64 t1) ∧ W'.cell? ⟨k15 + 1, 2, none⟩ = some (.slice As d1.length cs)))
    (with_reducible exact (S0.out _ D0.out).1)
    (first
      | (go_at_call 19; (with_reducible refine (HWo.out _ D0.out).mono ?_); rintro e w9 ⟨rv9, rfl, hr9, b9⟩; obtain ⟨X9, x9, rfl⟩ := own_shapeN hr9.row; have RF := hid hr9; have HB9 := hid D0.out.size; have D0 := hid (below_on D0.out b9); clear hr9 b9)
      | (go_at_call 11; (with_reducible refine (HOf.out _ _ _ _ _ _).mono ?_); rintro e w9 ⟨rfl, b9⟩; have RF := hid (RF.out.on (Nat.le_trans HN8.out D0.out.size) b9); have D0 := hid (below_on D0.out b9); clear b9)
      | (go_at_call 10; (with_reducible refine (HSm.out _ (S0.out _ D0.out).2.1 (S0.out _ D0.out).2.2).mono ?_); rintro e w9 ⟨rfl, b9⟩; have RF := hid (RF.out.on (Nat.le_trans HN8.out D0.out.size) b9); have D0 := hid (below_on D0.out b9); clear b9))
  all_goals (
    rename_i hHeld
    clear hHeld
    have HFin := hid (HB.out.less (j := j) B8.out G8.out.net D0.out RF.out (Nat.le_trans G8.out.net.base_le HB9.out))
    go_wp2
    refine bodyPost_ret (by simp [results, Try.results7, go_sem]) rfl HFin.out)
set_option maxRecDepth 100000 in
set_option maxHeartbeats 4000000 in
theorem ntstep_ok3 (N B g : Nat) (lim : Int) (v : Value) (lp : List FrV) (rv : Value) (lr : List FrV) (o : OpN) (w : World) (h : BothN w N B g lim v lp rv lr) (h1 : o.kind = 3) (hbit : o.bit ≤ 9223372036854775807) (j : Nat) (hi : o.i = j) (hj : j < lr.length) :
    Calls Try.prog 7 #[.pointer (some ⟨g, 0, none⟩), rv, .int .i64 lim, .agg (opNC o)] w (StepN N B g lim w) := by
  obtain ⟨p, hp⟩ : ∃ p, lr[j]? = some p := ⟨_, List.getElem?_eq_getElem hj⟩
  obtain ⟨u, hu⟩ := h.at_ hp
  have hpm := List.mem_of_getElem? hp
  have hum := List.mem_of_getElem? hu
  have HB := hid h
  have HT := hid (fun w1 (hb : Below w.heap.size w w1) => ntdrop_ok B g lim v lp j _ o.i hi w1 (h.net.on hb) hu)
  obtain ⟨R, rc, hrv⟩ := own_shapeN h.ref.row
  have hm9 : lr.length ≤ 4096 := by rw [← h.len]; exact h.net.len
  obtain ⟨m, hmm⟩ : ∃ m, lr.length = m := ⟨_, rfl⟩
  have HM := hid hmm
  have HLp : Hid (lp.length = m) := hid (by rw [h.len, hmm])
  rw [hmm] at hrv hm9
  subst hrv
  obtain ⟨kd, i, bit, ⟨fr, to, d⟩, A, c⟩ := o
  simp only at h1 HT hi hbit
  subst h1 hi
  rw [HM.out] at hj
  have h0 : (0 : Int) ≤ (j : Int) := by omega
  have h2 : (j : Int) < (m : Int) := by omega
  have HP := hid hp
  obtain ⟨As, cs, hs1, hs2, hs3⟩ := h.ref.arg p hpm
  have HAr := hid (And.intro hs2 hs3)
  have H8 := hid (h.byte p hpm)
  have HSmall := h.net.small _ hum
  obtain ⟨Au, cu, hu1⟩ := own_shapeN (h.net.dat _ hum)
  simp only at hu1
  subst hu1
  have HUm := hid hum
  obtain ⟨⟨f1, t1, d1⟩, s1⟩ := p
  simp only at hs1 HSmall
  subst hs1
  have HRl : Hid (∀ b, (Value.slice R m rc).ownBlock = some b → b < w.heap.size) := hid (fun b hb => (h.ref.row.lt b hb).2)
  have HOl : Hid (∀ b, OwnN g v lp b → b < w.heap.size) := hid (fun b hb => (h.net.own hb).2)
  have HSub : Hid (∀ q ∈ lp.eraseIdx j, q ∈ lp) := hid (fun q hq => (List.eraseIdx_sublist lp j).subset hq)
  have HNz := hid h.size
  have HBz := hid h.net.base_le
  have HOf := hid (fun a b A n c w => ntof_any a b A n c w)
  clear h hmm hp hu hpm hum hs2 hs3
  simp only [opNC]
  obtain ⟨n, hn⟩ : ∃ n, d.length = n := ⟨_, rfl⟩
  rw [hn]
  clear hn
  go_enter Try.func7, Try.ntmps7
  go_upto_region 1 with fail
  obtain ⟨W, hW⟩ : ∃ W, w.alloc (.cells #[.int .i64 3, .int .i64 (j : Int), .int .i64 bit, .int .i64 fr, .int .i64 to, .slice A n c] 34) = W := ⟨_, rfl⟩
  rw [hW]
  obtain ⟨K0, KB⟩ := lone_new hW
  obtain ⟨k, hk⟩ : ∃ k, w.heap.size = k := ⟨_, rfl⟩
  have HK := hid hk
  rw [hk] at K0 ⊢
  clear hW hk
  obtain ⟨c0, c1, c2, c3, c4, c5⟩ := lcells6N K0.out
  go_upto_region 26 with fail
  obtain ⟨W3, hW3⟩ : ∃ W3, (W.alloc (.cells zeroF 32)).alloc (.cells zeroF 41) = W3 := ⟨_, rfl⟩
  rw [hW3]
  obtain ⟨K15, K17, KB3⟩ := ltwo_new hW3
  have B3 := hid (below_on KB.out KB3.out)
  have KO := hid (K0.out.below KB3.out K0.out.lt)
  have HTs := hid (HT.out W3 B3.out)
  have X3 := hid (HB.out.on B3.out)
  obtain ⟨k15, hk15⟩ : ∃ k, W.heap.size = k := ⟨_, rfl⟩
  have HKK : Hid (k < k15) := hid (by rw [← hk15]; exact K0.out.lt)
  rw [hk15] at K15 K17 ⊢
  clear hW3 hk15 c0 c1 c2 c3 c4 c5 HT KB3 KB K0
  obtain ⟨c0, c1, c2, c3, c4, c5⟩ := lcells6N KO.out
  go_upto_region 32 with (go_at_call 16; (with_reducible refine HTs.out.mono ?_); rintro e w4 ⟨v', rfl, t⟩; have NN := hid t.net; have RW := hid t.row; have HS := hid t.same; have ht : TurnsD (OwnN g v lp) W3 w4 := t.turns.more (fun i _ hi => .inl hi); obtain ⟨hr5, hb5⟩ := X3.out.keeps ht (fun i hi => hi); have RR := hid hr5; have BB := hid ((B3.out.mono HBz.out).trans hb5); have K4 := hid (K15.out.turns ht (fun e => by have := HOl.out _ e; have := HKK.out; have := HK.out; omega)); have K5 := hid (K17.out.turns ht (fun e => by have := HOl.out _ e; have := HKK.out; have := HK.out; omega)); have K6 := hid (KO.out.turns ht (fun e => by have := HOl.out _ e; have := HK.out; omega)); clear ht c0 c1 c2 c3 c4 c5 hr5 hb5; obtain ⟨c0, c1, c2, c3, c4, c5⟩ := lcells6N K6.out; obtain ⟨e0, e1, e2⟩ := lcells3N K4.out; obtain ⟨g0, g1, g2⟩ := lfrozen3N K4.out)
  have HLow : Hid (∀ b, OwnN g v' (lp.eraseIdx j) b → b < w.heap.size) := hid (fun b ho => HOl.out b (by
    rcases ho with (rfl | ho) | ⟨q, hq, ho⟩
    · exact .inl (.inl rfl)
    · exact .inl (.inr (by rw [← HS.out]; exact ho))
    · exact .inr ⟨q, HSub.out q hq, ho⟩))
  have G6 : Hid (AftN w4 N B g lim v' (lp.eraseIdx j) (.slice R m rc) lr k _ k15 (⟨0, 0, []⟩, .slice none 0 0) 0) := hid ⟨NN.out, RR.out, K6.out, K4.out, World.ownsRow_nil _ _ _ _⟩
  have K66 := hid K5.out
  have B6 := hid BB.out
  obtain ⟨w6, hw6⟩ : ∃ w6, w4 = w6 := ⟨_, rfl⟩
  rw [hw6] at G6 K66 B6 ⊢
  clear hw6 c0 c1 c2 c3 c4 c5 e0 e1 e2 g0 g1 g2
  obtain ⟨c0, c1, c2, c3, c4, c5⟩ := lcells6N G6.out.op
  have G8 := hid G6.out
  have K8 := hid K66.out
  have B8 := hid B6.out
  obtain ⟨w8, hw8⟩ : ∃ w8, w6 = w8 := ⟨_, rfl⟩
  rw [hw8] at G8 K8 B8 ⊢
  clear c0 c1 c2 c3 c4 c5
  obtain ⟨c0, c1, c2, c3, c4, c5⟩ := lcells6N G8.out.op
  go_wp2_with fail
  clear c0 c1 c2 c3 c4 c5 hw8
  have HN8 : Hid (N ≤ w8.heap.size) := hid (Nat.le_trans HB.out.low G8.out.net.base_le)
  have HSm := hid (fun W' (x1 : Sees .u8 W' none ([] : List Nat)) (x2 : Sees .u8 W' none ([] : List Nat)) => ntsame_any ⟨0, 0, ([] : List Nat)⟩ ⟨0, 0, ([] : List Nat)⟩ none none 0 0 0 0 W' rfl rfl (by omega) (by omega) x1 x2)
  rw [sameB_self] at HSm
  have HWo := hid (fun W' (bl : Below w8.heap.size w8 W') => refwithout_any N B (.slice R m rc) lr j (j : Int) rfl W' (G8.out.on HN8.out bl).ref (Nat.le_trans HN8.out bl.size) (by rw [HM.out]; exact hj) (by rw [HM.out]; exact hm9))
  have S0 : Hid (∀ W', Below w8.heap.size w8 W' → ((W'.cell? ⟨k, 1, none⟩ = some (.int .i64 (j : Int))) ∧ (W'.cell? ⟨k15, 0, none⟩ = some (.int .i64 0) ∧ W'.cell? ⟨k15, 1, none⟩ = some (.int .i64 0) ∧ W'.cell? ⟨k15, 2, none⟩ = some (.slice none 0 0)) ∧ (W'.cell? ⟨k15 + 1, 0, none⟩ = some (.int .i64 0) ∧ W'.cell? ⟨k15 + 1, 1, none⟩ = some (.int .i64 0) ∧ W'.cell? ⟨k15 + 1, 2, none⟩ = some (.slice none 0 0))) ∧ Sees .u8 W' none ([] : List Nat) ∧ Sees .u8 W' none ([] : List Nat)) := hid (fun W' b => ⟨⟨(lcells6N (G8.out.on HN8.out b).op).2.1, lcells3N (G8.out.on HN8.out b).box, lcells3N (K8.out.below b K8.out.lt)⟩, Sees.nil _ _ _, Sees.nil _ _ _⟩)
  have D0 := hid (below_drew (Below.refl w8.heap.size w8))
  go_region_held3 (fun W' => (W'.cell? ⟨k, 1, none⟩ = some (.int .i64 (j : Int))) ∧ (W'.cell? ⟨k15, 0, none⟩ = some (.int .i64 0) ∧ W'.cell? ⟨k15, 1, none⟩ = some (.int .i64 0) ∧ W'.cell? ⟨k15, 2, none⟩ = some (.slice none 0 0)) ∧ (W'.cell? ⟨k15 + 1, 0, none⟩ = some (.int .i64 0) ∧ W'.cell? ⟨k15 + 1, 1, none⟩ = some (.int .i64 0) ∧ W'.cell? ⟨k15 + 1, 2, none⟩ = some (.slice none 0 0)))
    (with_reducible exact (S0.out _ D0.out).1)
    (first
      | (go_at_call 19; (with_reducible refine (HWo.out _ D0.out).mono ?_); rintro e w9 ⟨rv9, rfl, hr9, b9⟩; obtain ⟨X9, x9, rfl⟩ := own_shapeN hr9.row; have RF := hid hr9; have HB9 := hid D0.out.size; have D0 := hid (below_on D0.out b9); clear hr9 b9)
      | (go_at_call 11; (with_reducible refine (HOf.out _ _ _ _ _ _).mono ?_); rintro e w9 ⟨rfl, b9⟩; have RF := hid (RF.out.on (Nat.le_trans HN8.out D0.out.size) b9); have D0 := hid (below_on D0.out b9); clear b9)
      | (go_at_call 10; (with_reducible refine (HSm.out _ (S0.out _ D0.out).2.1 (S0.out _ D0.out).2.2).mono ?_); rintro e w9 ⟨rfl, b9⟩; have RF := hid (RF.out.on (Nat.le_trans HN8.out D0.out.size) b9); have D0 := hid (below_on D0.out b9); clear b9))
  all_goals (
    rename_i hHeld
    clear hHeld
    have HFin := hid (HB.out.less (j := j) B8.out G8.out.net D0.out RF.out (Nat.le_trans G8.out.net.base_le HB9.out))
    go_wp2
    refine bodyPost_ret (by simp [results, Try.results7, go_sem]) rfl HFin.out)
set_option maxRecDepth 100000 in
set_option maxHeartbeats 4000000 in
theorem ntstep_ok5 (N B g : Nat) (lim : Int) (v : Value) (lp : List FrV) (rv : Value) (lr : List FrV) (o : OpN) (w : World) (h : BothN w N B g lim v lp rv lr) (h1 : o.kind = 5) (hbit : o.bit ≤ 9223372036854775807) (j : Nat) (hi : o.i = j) (hj : j < lr.length) :
    Calls Try.prog 7 #[.pointer (some ⟨g, 0, none⟩), rv, .int .i64 lim, .agg (opNC o)] w (StepN N B g lim w) := by
  obtain ⟨p, hp⟩ : ∃ p, lr[j]? = some p := ⟨_, List.getElem?_eq_getElem hj⟩
  obtain ⟨u, hu⟩ := h.at_ hp
  have hpm := List.mem_of_getElem? hp
  have hum := List.mem_of_getElem? hu
  have HB := hid h
  have HT := hid (fun w1 (hb : Below w.heap.size w w1) => ntspoil_ok B g lim v lp j _ o.i o.bit hi w1 (h.net.on hb) hu (h.byte p hpm))
  obtain ⟨R, rc, hrv⟩ := own_shapeN h.ref.row
  have hm9 : lr.length ≤ 4096 := by rw [← h.len]; exact h.net.len
  obtain ⟨m, hmm⟩ : ∃ m, lr.length = m := ⟨_, rfl⟩
  have HM := hid hmm
  have HLp : Hid (lp.length = m) := hid (by rw [h.len, hmm])
  rw [hmm] at hrv hm9
  subst hrv
  obtain ⟨kd, i, bit, ⟨fr, to, d⟩, A, c⟩ := o
  simp only at h1 HT hi hbit
  subst h1 hi
  rw [HM.out] at hj
  have h0 : (0 : Int) ≤ (j : Int) := by omega
  have h2 : (j : Int) < (m : Int) := by omega
  have HP := hid hp
  obtain ⟨As, cs, hs1, hs2, hs3⟩ := h.ref.arg p hpm
  have HAr := hid (And.intro hs2 hs3)
  have H8 := hid (h.byte p hpm)
  have HSmall := h.net.small _ hum
  obtain ⟨Au, cu, hu1⟩ := own_shapeN (h.net.dat _ hum)
  simp only at hu1
  subst hu1
  have HUm := hid hum
  obtain ⟨⟨f1, t1, d1⟩, s1⟩ := p
  simp only at hs1 HSmall
  subst hs1
  have HRl : Hid (∀ b, (Value.slice R m rc).ownBlock = some b → b < w.heap.size) := hid (fun b hb => (h.ref.row.lt b hb).2)
  have HOl : Hid (∀ b, OwnN g v lp b → b < w.heap.size) := hid (fun b hb => (h.net.own hb).2)
  have HSub : Hid (∀ q ∈ lp.eraseIdx j, q ∈ lp) := hid (fun q hq => (List.eraseIdx_sublist lp j).subset hq)
  have HNz := hid h.size
  have HBz := hid h.net.base_le
  have HOf := hid (fun a b A n c w => ntof_any a b A n c w)
  clear h hmm hp hu hpm hum hs2 hs3
  simp only [opNC]
  obtain ⟨n, hn⟩ : ∃ n, d.length = n := ⟨_, rfl⟩
  rw [hn]
  clear hn
  go_enter Try.func7, Try.ntmps7
  go_upto_region 1 with fail
  obtain ⟨W, hW⟩ : ∃ W, w.alloc (.cells #[.int .i64 5, .int .i64 (j : Int), .int .i64 bit, .int .i64 fr, .int .i64 to, .slice A n c] 34) = W := ⟨_, rfl⟩
  rw [hW]
  obtain ⟨K0, KB⟩ := lone_new hW
  obtain ⟨k, hk⟩ : ∃ k, w.heap.size = k := ⟨_, rfl⟩
  have HK := hid hk
  rw [hk] at K0 ⊢
  clear hW hk
  obtain ⟨c0, c1, c2, c3, c4, c5⟩ := lcells6N K0.out
  go_upto_region 26 with fail
  obtain ⟨W3, hW3⟩ : ∃ W3, (W.alloc (.cells zeroF 32)).alloc (.cells zeroF 41) = W3 := ⟨_, rfl⟩
  rw [hW3]
  obtain ⟨K15, K17, KB3⟩ := ltwo_new hW3
  have B3 := hid (below_on KB.out KB3.out)
  have KO := hid (K0.out.below KB3.out K0.out.lt)
  have HTs := hid (HT.out W3 B3.out)
  have X3 := hid (HB.out.on B3.out)
  obtain ⟨k15, hk15⟩ : ∃ k, W.heap.size = k := ⟨_, rfl⟩
  have HKK : Hid (k < k15) := hid (by rw [← hk15]; exact K0.out.lt)
  rw [hk15] at K15 K17 ⊢
  clear hW3 hk15 c0 c1 c2 c3 c4 c5 HT KB3 KB K0
  obtain ⟨c0, c1, c2, c3, c4, c5⟩ := lcells6N KO.out
  go_upto_region 32 with (go_at_call 17; (with_reducible refine HTs.out.mono ?_); rintro e w4 ⟨v', rfl, hn4, hr4, ht4, hs4⟩; have NN := hid hn4; have RW := hid hr4; have HS := hid hs4; have ht : TurnsD (OwnN g v lp) W3 w4 := ht4.more (fun i _ hi => hi.elim .inl (fun e => .inr ⟨_, HUm.out, e⟩)); obtain ⟨hr5, hb5⟩ := X3.out.keeps ht (fun i hi => hi); have RR := hid hr5; have BB := hid ((B3.out.mono HBz.out).trans hb5); have K4 := hid (K15.out.turns ht (fun e => by have := HOl.out _ e; have := HKK.out; have := HK.out; omega)); have K5 := hid (K17.out.turns ht (fun e => by have := HOl.out _ e; have := HKK.out; have := HK.out; omega)); have K6 := hid (KO.out.turns ht (fun e => by have := HOl.out _ e; have := HK.out; omega)); clear ht c0 c1 c2 c3 c4 c5 hr5 hb5; obtain ⟨c0, c1, c2, c3, c4, c5⟩ := lcells6N K6.out; obtain ⟨e0, e1, e2⟩ := lcells3N K4.out; obtain ⟨g0, g1, g2⟩ := lfrozen3N K4.out)
  have HLow : Hid (∀ b, OwnN g v' (lp.eraseIdx j) b → b < w.heap.size) := hid (fun b ho => HOl.out b (by
    rcases ho with (rfl | ho) | ⟨q, hq, ho⟩
    · exact .inl (.inl rfl)
    · exact .inl (.inr (by rw [← HS.out]; exact ho))
    · exact .inr ⟨q, HSub.out q hq, ho⟩))
  have G5 := hid (AftN.make (k15 := k15) (Z := w.heap.size) (f := (⟨f1, t1, turnL d1 bit⟩, .slice Au d1.length cu)) NN.out RR.out K6.out K4.out RW.out HNz.out (by have := HKK.out; have := HK.out; omega) HLow.out)
  have K5b := hid (K5.out.grown (put3N_grown w4 k15 (.int .i64 f1) (.int .i64 t1) (.slice Au d1.length cu)) (by simp))
  have B5 := hid (put3N_below (k := B) (g := k15) BB.out (by have := HKK.out; have := HK.out; have := HBz.out; omega) (.int .i64 f1) (.int .i64 t1) (.slice Au d1.length cu))
  unfold put3N at G5 K5b B5
  obtain ⟨w5, hw5⟩ : ∃ w5, ((w4.setCell ⟨k15, 0, none⟩ (.int .i64 f1)).setCell ⟨k15, 1, none⟩ (.int .i64 t1)).setCell ⟨k15, 2, none⟩ (.slice Au d1.length cu) = w5 := ⟨_, rfl⟩
  rw [hw5] at G5 K5b B5 ⊢
  clear hw5 c0 c1 c2 c3 c4 c5 e0 e1 e2 g0 g1 g2
  obtain ⟨c0, c1, c2, c3, c4, c5⟩ := lcells6N G5.out.op
  obtain ⟨b, hRb⟩ : ∃ b, R = some ⟨b, 0, none⟩ := by
    obtain ⟨b, cv', hvv, _⟩ := rowN_at G5.out.ref.row HP.out
    injection hvv with e1
    exact ⟨b, e1⟩
  subst hRb
  obtain ⟨y0, y1, y2⟩ := rowN_cells G5.out.ref.row HP.out
  obtain ⟨g0, g1, g2⟩ := lfrozen3N K5b.out
  obtain ⟨e0, e1, e2⟩ := lcells3N K5b.out
  go_upto_region 36 with fail
  have G6 := hid (G5.out.put17 (Z := w.heap.size) K5b.out HNz.out (by have := HKK.out; have := HK.out; omega) HRl.out (.int .i64 f1) (.int .i64 t1) (.slice As d1.length cs))
  have K66 := hid (put3N_blk K5b.out (.int .i64 f1) (.int .i64 t1) (.slice As d1.length cs))
  have B6 := hid (put3N_below (k := B) (g := k15 + 1) B5.out (by have := HKK.out; have := HK.out; have := HBz.out; omega) (.int .i64 f1) (.int .i64 t1) (.slice As d1.length cs))
  unfold put3N at G6 K66 B6
  obtain ⟨w6, hw6⟩ : ∃ w6, ((w5.setCell ⟨k15 + 1, 0, none⟩ (.int .i64 f1)).setCell ⟨k15 + 1, 1, none⟩ (.int .i64 t1)).setCell ⟨k15 + 1, 2, none⟩ (.slice As d1.length cs) = w6 := ⟨_, rfl⟩
  rw [hw6] at G6 K66 B6 ⊢
  clear hw6 c0 c1 c2 c3 c4 c5 e0 e1 e2 g0 g1 g2 y0 y1 y2
  obtain ⟨c0, c1, c2, c3, c4, c5⟩ := lcells6N G6.out.op
  have HTn := hid (refturned_any ⟨f1, t1, d1⟩ As d1.length cs bit w6 rfl HSmall HAr.out.1 hbit H8.out (HAr.out.2.below (B6.out.mono HB.out.low) |>.sees (Nat.le_trans HB.out.low G6.out.net.base_le)))
  obtain ⟨e0, e1, e2⟩ := lcells3N K66.out
  go_upto_region 38 with (go_at_call 18; (with_reducible refine HTn.out.mono ?_); rintro e w7 ⟨Aw, cw, rfl, hsw, hb7⟩; have HSw := hid hsw; have G7 := hid (G6.out.on (Nat.le_trans HB.out.low G6.out.net.base_le) hb7); have K7 := hid (K66.out.below hb7 K66.out.lt); have B7 := hid (B6.out.trans (hb7.mono G6.out.net.base_le)); clear hb7 hsw c0 c1 c2 c3 c4 c5 e0 e1 e2; obtain ⟨e0, e1, e2⟩ := lcells3N K7.out; obtain ⟨g0, g1, g2⟩ := lfrozen3N K7.out)
  have G8 := hid (G7.out.put17 (Z := w.heap.size) K7.out HNz.out (by have := HKK.out; have := HK.out; omega) HRl.out (.int .i64 f1) (.int .i64 t1) (.slice Aw d1.length cw))
  have K8 := hid (put3N_blk K7.out (.int .i64 f1) (.int .i64 t1) (.slice Aw d1.length cw))
  have B8 := hid (put3N_below (k := B) (g := k15 + 1) B7.out (by have := HKK.out; have := HK.out; have := HBz.out; omega) (.int .i64 f1) (.int .i64 t1) (.slice Aw d1.length cw))
  have HSw8 : Hid (Sees .u8 (put3N w7 (k15 + 1) (.int .i64 f1) (.int .i64 t1) (.slice Aw d1.length cw)) Aw (turnL d1 bit)) := hid (HSw.out.put3 K7.out _ _ _)
  unfold put3N at G8 K8 B8 HSw8
  obtain ⟨w8, hw8⟩ : ∃ w8, ((w7.setCell ⟨k15 + 1, 0, none⟩ (.int .i64 f1)).setCell ⟨k15 + 1, 1, none⟩ (.int .i64 t1)).setCell ⟨k15 + 1, 2, none⟩ (.slice Aw d1.length cw) = w8 := ⟨_, rfl⟩
  rw [hw8] at G8 K8 B8 HSw8 ⊢
  clear hw8 e0 e1 e2 g0 g1 g2
  have HN8 : Hid (N ≤ w8.heap.size) := hid (Nat.le_trans HB.out.low G8.out.net.base_le)
  have HSm := hid (fun W' (x1 : Sees .u8 W' Au (turnL d1 bit)) (x2 : Sees .u8 W' Aw (turnL d1 bit)) => ntsame_any ⟨f1, t1, (turnL d1 bit)⟩ ⟨f1, t1, (turnL d1 bit)⟩ Au Aw d1.length d1.length cu cw W' (turnL_len _ _) (turnL_len _ _) (by omega) (by omega) x1 x2)
  rw [sameB_self] at HSm
  have HWo := hid (fun W' (bl : Below w8.heap.size w8 W') => refwithout_any N B (.slice (some ⟨b, 0, none⟩) m rc) lr j (j : Int) rfl W' (G8.out.on HN8.out bl).ref (Nat.le_trans HN8.out bl.size) (by rw [HM.out]; exact hj) (by rw [HM.out]; exact hm9))
  have S0 : Hid (∀ W', Below w8.heap.size w8 W' → ((W'.cell? ⟨k, 1, none⟩ = some (.int .i64 (j : Int))) ∧ (W'.cell? ⟨k15, 0, none⟩ = some (.int .i64 f1) ∧ W'.cell? ⟨k15, 1, none⟩ = some (.int .i64 t1) ∧ W'.cell? ⟨k15, 2, none⟩ = some (.slice Au d1.length cu)) ∧ (W'.cell? ⟨k15 + 1, 0, none⟩ = some (.int .i64 f1) ∧ W'.cell? ⟨k15 + 1, 1, none⟩ = some (.int .i64 t1) ∧ W'.cell? ⟨k15 + 1, 2, none⟩ = some (.slice Aw d1.length cw))) ∧ Sees .u8 W' Au (turnL d1 bit) ∧ Sees .u8 W' Aw (turnL d1 bit)) := hid (fun W' b => ⟨⟨(lcells6N (G8.out.on HN8.out b).op).2.1, lcells3N (G8.out.on HN8.out b).box, lcells3N (K8.out.below b K8.out.lt)⟩, Sees.of_own (G8.out.on HN8.out b).row, HSw8.out.below b⟩)
  have D0 := hid (below_drew (Below.refl w8.heap.size w8))
  go_region_held3 (fun W' => (W'.cell? ⟨k, 1, none⟩ = some (.int .i64 (j : Int))) ∧ (W'.cell? ⟨k15, 0, none⟩ = some (.int .i64 f1) ∧ W'.cell? ⟨k15, 1, none⟩ = some (.int .i64 t1) ∧ W'.cell? ⟨k15, 2, none⟩ = some (.slice Au d1.length cu)) ∧ (W'.cell? ⟨k15 + 1, 0, none⟩ = some (.int .i64 f1) ∧ W'.cell? ⟨k15 + 1, 1, none⟩ = some (.int .i64 t1) ∧ W'.cell? ⟨k15 + 1, 2, none⟩ = some (.slice Aw d1.length cw)))
    (with_reducible exact (S0.out _ D0.out).1)
    (first
      | (go_at_call 19; (with_reducible refine (HWo.out _ D0.out).mono ?_); rintro e w9 ⟨rv9, rfl, hr9, b9⟩; obtain ⟨X9, x9, rfl⟩ := own_shapeN hr9.row; have RF := hid hr9; have HB9 := hid D0.out.size; have D0 := hid (below_on D0.out b9); clear hr9 b9)
      | (go_at_call 11; (with_reducible refine (HOf.out _ _ _ _ _ _).mono ?_); rintro e w9 ⟨rfl, b9⟩; have RF := hid (RF.out.on (Nat.le_trans HN8.out D0.out.size) b9); have D0 := hid (below_on D0.out b9); clear b9)
      | (go_at_call 10; (with_reducible refine (HSm.out _ (S0.out _ D0.out).2.1 (S0.out _ D0.out).2.2).mono ?_); rintro e w9 ⟨rfl, b9⟩; have RF := hid (RF.out.on (Nat.le_trans HN8.out D0.out.size) b9); have D0 := hid (below_on D0.out b9); clear b9))
  all_goals (
    rename_i hHeld
    clear hHeld
    have HFin := hid (HB.out.less (j := j) B8.out G8.out.net D0.out RF.out (Nat.le_trans G8.out.net.base_le HB9.out))
    go_wp2
    refine bodyPost_ret (by simp [results, Try.results7, go_sem]) rfl HFin.out)
end Go.Proofs.Ytljnboimadhkoaa
