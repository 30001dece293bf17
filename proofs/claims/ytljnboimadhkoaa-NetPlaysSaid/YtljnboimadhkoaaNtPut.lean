/-
  A frame copied; a frame put behind all others (package net: copied, put, Send, Twice).
-/
import Derived.Test.YtljnboimadhkoaaNtBase
import Derived.Deep.RegionLaw
namespace Go.Proofs.Ytljnboimadhkoaa
open Go.ChangeShapes Go.WideShapes Go.ChangeAt Go.RowKit
set_option linter.unusedVariables false
set_option linter.unusedSimpArgs false

/-- What a frame's copy is. -/
def CopyN (f : FrL) (w : World) (e : Ending) (w' : World) : Prop := ∃ u, e = .returned (frV (f, u)) ∧ w'.ownsRow w.heap.size 5 1 u f.d.length (numsN f.d) ∧ Below w.heap.size w w'
set_option maxRecDepth 100000 in
set_option maxHeartbeats 1000000 in
theorem copied_any (f : FrL) (A : Option Addr) (n c : Nat) (w : World) (hn : f.d.length = n) (hl : n ≤ 140737488355328) (hc : A = none → c = 0) (hS : Sees .u8 w A f.d) :
    Calls Try.prog 20 #[frV (f, .slice A n c)] w (CopyN f w) := by
  have HN := hid hn
  have HCl := hid (fun w1 (hb : Below w.heap.size w w1) => clone_any A f.d n c w1 hn hl hc (hS.below hb))
  obtain ⟨fr, to, d⟩ := f
  clear hn hl hc hS
  go_enter Try.func20, Try.ntmps20
  go_upto_region 1 with fail
  obtain ⟨W, hW⟩ : ∃ W, (w.alloc (.cells #[.int .i64 fr, .int .i64 to, .slice A n c] 32)).alloc (.cells zeroF 32) = W := ⟨_, rfl⟩
  rw [hW]
  obtain ⟨K0, K1, KB⟩ := ltwo_new hW
  clear hW
  have HCs := hid (HCl.out W KB.out)
  obtain ⟨k, hk⟩ : ∃ k, w.heap.size = k := ⟨_, rfl⟩
  rw [hk] at K0 K1 KB ⊢
  have HK := hid hk
  clear hk HCl
  obtain ⟨c0, c1, c2⟩ := lcells3N K0.out
  obtain ⟨f0, f1, f2⟩ := lfrozen3N K0.out
  go_upto_region 2 with (go_at_call 26; (with_reducible refine HCs.out.mono ?_); rintro e w1 ⟨s, rfl, hown, hb⟩; obtain ⟨As, cs, rfl⟩ := own_shapeN hown; have HO := hid hown; have HB := hid hb; have L0 := hid (K0.out.below hb K0.out.lt); have L1 := hid (K1.out.below hb K1.out.lt); clear hown hb c0 c1 c2 f0 f1 f2; obtain ⟨c0, c1, c2⟩ := lcells3N L0.out; obtain ⟨f0, f1, f2⟩ := lfrozen3N L0.out)
  have M0 : Hid (Blk (w1.setCell ⟨k, 2, none⟩ (.slice As d.length cs)) k 32 #[.int .i64 fr, .int .i64 to, .slice As d.length cs]) := hid (by
    have h := L0.out.set_ 2 (.slice As d.length cs)
    simp only [List.setIfInBounds_toArray, List.set_cons_succ, List.set_cons_zero] at h
    exact h)
  have M1 : Hid (Blk (w1.setCell ⟨k, 2, none⟩ (.slice As d.length cs)) (k + 1) 32 zeroF) := hid (L1.out.far (p := ⟨k, 2, none⟩) (by simp) (.slice As d.length cs))
  have MB : Hid (Below k w (w1.setCell ⟨k, 2, none⟩ (.slice As d.length cs))) := hid ((KB.out.trans (HB.out.mono (by have := K0.out.lt; omega))).setCell (p := ⟨k, 2, none⟩) (Nat.le_refl _) _)
  have MO : Hid ((w1.setCell ⟨k, 2, none⟩ (.slice As d.length cs)).ownsRow k 5 1 (.slice As d.length cs) d.length (numsN d)) := hid ((own_lowN HO.out (by have := K0.out.lt; omega)).kept (row := some k) (only_setCell (World.grownBy.refl _ _) (.inl rfl) _) (.inr (own_neB HO.out L0.out (by decide))))
  obtain ⟨w2, hw2⟩ : ∃ w2, w1.setCell ⟨k, 2, none⟩ (.slice As d.length cs) = w2 := ⟨_, rfl⟩
  rw [hw2] at M0 M1 MB MO ⊢
  clear hw2 c0 c1 c2 f0 f1 f2 L0 L1 K0 K1 KB HB HCs
  obtain ⟨c0, c1, c2⟩ := lcells3N M0.out
  obtain ⟨d0, d1, d2⟩ := lcells3N M1.out
  obtain ⟨f0, f1, f2⟩ := lfrozen3N M1.out
  go_wp2
  have Q := put3N_blk M1.out (.int .i64 fr) (.int .i64 to) (.slice As d.length cs)
  have QB := put3N_below MB.out (Nat.le_succ k) (.int .i64 fr) (.int .i64 to) (.slice As d.length cs)
  have QO : (put3N w2 (k + 1) (.int .i64 fr) (.int .i64 to) (.slice As d.length cs)).ownsRow k 5 1 (.slice As d.length cs) d.length (numsN d) := by
    exact MO.out.kept (put3N_grown w2 (k + 1) (.int .i64 fr) (.int .i64 to) (.slice As d.length cs)) (.inr (own_neB MO.out M1.out (by decide)))
  unfold put3N at Q QB QO
  obtain ⟨w3, hw3⟩ : ∃ w3, ((w2.setCell ⟨k + 1, 0, none⟩ (.int .i64 fr)).setCell ⟨k + 1, 1, none⟩ (.int .i64 to)).setCell ⟨k + 1, 2, none⟩ (.slice As d.length cs) = w3 := ⟨_, rfl⟩
  rw [hw3] at Q QB QO ⊢
  clear hw3
  obtain ⟨y0, y1, y2⟩ := lcells3N Q
  refine bodyPost_ret (v := .agg #[.int .i64 fr, .int .i64 to, .slice As d.length cs]) (by simp [results, Try.results20, go_sem, y0, y1, y2]) rfl ⟨_, rfl, by rw [HK.out]; exact QO, by rw [HK.out]; exact QB⟩
/-- One owned row of several cells behind another, as a step of a region that draws its order. -/
theorem step_append_ownN {P : Program} {w : World} {ops : Array Oper} {o : Oper} {a : Act} {K : Act → World → Prop} {Q : Exit → Act → World → Prop} {E : Prop} (hgd : o.guard = none) (s x : Operand) (t : TypeId) (ho : o.op = Op.call { callee := Callee.builtin Builtin.append, args := #[s, x], argTypes := #[t, t] })
    (base : Nat) (e : TypeId) (i : TypeInfo) (z : Value) (size bytes : Nat) (ht : P.underlying t = some (.slice e)) (hi : P.info? e = some i) (hz : i.zero = some z)
    (hsize : i.size = size) (hby : i.bytes = bytes) (hzs : z.cells.size = size) (hsz : 0 < size) (v : Value) (n : Nat) (xs : List Value) (hs : a.eval s = v) (hown : w.ownsRow base e size v n xs)
    (ad : Addr) (m c : Nat) (news : List Value) (hx : a.eval x = .slice (some ad) m c) (hl : news.length = m * size) (hnews : ∀ j u, news[j]? = some u → w.cell? (ad.add j) = some u) (h1 : ∀ u ∈ news, u.oneCell' = true)
    (h63 : n + m ≤ maxLen) (hbytes : (n + m) * bytes ≤ 140737488355328) (hbase : base ≤ w.heap.size)
    (h : ∀ v' w', w'.ownsRow base e size v' (n + m) (xs ++ news) → w.grownBy w' v.ownBlock → (v'.ownBlock = v.ownBlock ∨ v'.ownBlock = some w.heap.size) → K (a.put o.dst v') w') : if Region.wanted o (yielded ops a.tmps) = true then Oper.wp P o a w K Q else E := by
  have hw : Region.wanted o (yielded ops a.tmps) = true := by simp [Region.wanted, hgd]
  rw [if_pos hw]
  obtain ⟨v', w', hr, h2, h3, _, h5⟩ := run_append_own_at (P := P) w base t o.type e i z size bytes ht hi hz hsize hby hzs hsz v n xs hown ad m c news hl hnews h1 h63 hbytes hbase
  unfold Oper.wp execOp
  simp only [ho, resolve, invoke, builtin, Sem.run_bind, Sem.run_pure, Result.andThen_ok, List.map_toArray, List.map_cons, List.map_nil, hs, hx, hr]
  exact h v' w' h2 h3 h5
theorem cells_new3 (w : World) (a b c : Value) (t : TypeId) : ∀ j u, [a, b, c][j]? = some u → (w.alloc (.cells #[a, b, c] t)).cell? ((⟨w.heap.size, 0, none⟩ : Addr).add j) = some u := by
  intro j u hj
  have h := Blk.new w t #[a, b, c]
  rw [add_plain, Nat.zero_add, h.cell j]
  simpa using hj

/-- What Send, Twice and put leave. -/
def PutsN (base g : Nat) (lim : Int) (v : Value) (l : List FrV) (f : FrL) (w : World) (e : Ending) (w' : World) : Prop :=
  ∃ v' u, e = .returned (.int .i64 0) ∧ NetAt w' base g lim v' (l ++ [(f, u)]) ∧ TurnsD (RowN g v) w w' ∧ (∀ b, u.ownBlock = some b → w.heap.size ≤ b) ∧ ∀ b, v'.ownBlock = some b → v.ownBlock = some b ∨ w.heap.size ≤ b
theorem NetAt.pushed {w w1 w5 : World} {base g : Nat} {lim : Int} {v v' u : Value} {l : List FrV} {f : FrL} {o : Obj} (h : NetAt w base g lim v l) (hb : Below w.heap.size w w1) (hu : w1.ownsRow w.heap.size 5 1 u f.d.length (numsN f.d))
    (h5 : w5.ownsRow base 32 3 v' (l.length + 1) (flatN l ++ frC (f, u))) (hg : (w1.alloc o).grownBy w5 v.ownBlock) (hat : v'.ownBlock = v.ownBlock ∨ v'.ownBlock = some (w1.alloc o).heap.size) (hlim : (l.length : Int) < lim) (hd : f.d.length ≤ 512) :
    NetAt (w5.setCell ⟨g, 1, none⟩ v') base g lim v' (l ++ [(f, u)]) ∧ TurnsD (RowN g v) w (w5.setCell ⟨g, 1, none⟩ v') ∧ (∀ b, u.ownBlock = some b → w.heap.size ≤ b) ∧ ∀ b, v'.ownBlock = some b → v.ownBlock = some b ∨ w.heap.size ≤ b := by
  have hfresh : ∀ b, u.ownBlock = some b → w.heap.size ≤ b := fun b hb => (hu.lt b hb).1
  have a1 : TurnsD (RowN g v) w (w1.alloc o) := (TurnsD.of_below hb).alloc o
  have a2 : TurnsD (fun b => v.ownBlock = some b) (w1.alloc o) w5 := TurnsD.of_grown hg (fun b hb => hb)
  have a3 : TurnsD (RowN g v) w w5 := a1.trans a2 (fun i _ hi => .inr hi)
  have n1 := h.on hb
  have n2 := n1.alloc o
  have hgv : v.ownBlock ≠ some g := own_neB n2.row n2.blk (by decide)
  have b5 : Blk w5 g 53 #[.int .i64 lim, v] := n2.blk.turns a2 hgv
  have hgv' : v'.ownBlock ≠ some g := own_neB h5 b5 (by decide)
  have hu2 : w5.ownsRow w.heap.size 5 1 u f.d.length (numsN f.d) := row_turnsN (hu.alloc o) a2 (fun b hb hv => own_ne (hu.alloc o) n2.row (by decide) hb hv)
  have hd5 : ∀ p ∈ l, w5.ownsRow base 5 1 p.2 p.1.d.length (numsN p.1.d) := fun p hp => row_turnsN (n2.dat p hp) a2 (fun b hb hv => own_ne (n2.dat p hp) n2.row (by decide) hb hv)
  have g2 : w5.grownBy (w5.setCell ⟨g, 1, none⟩ v') (some g) := only_setCell (World.grownBy.refl _ _) (.inl rfl) _
  have hb6 : Blk (w5.setCell ⟨g, 1, none⟩ v') g 53 #[.int .i64 lim, v'] := by
    have := b5.set_ 1 v'
    simpa only [List.setIfInBounds_toArray, List.set_cons_succ, List.set_cons_zero] using this
  refine ⟨⟨hb6, h.low, ?_, fun p hp => ?_, ?_, ?_, fun p hp => ?_⟩, a3.set (p := ⟨g, 1, none⟩) (.inl (.inl rfl)) _, hfresh, fun b hb' => hat.elim (fun e => .inl (e ▸ hb')) (fun e => .inr (by rw [hb'] at e; injection e with e; rw [e]; exact Nat.le_trans hb.size (by simp)))⟩
  · have h6 := h5.kept g2 (.inr hgv')
    rw [List.length_append, List.length_singleton, flatN_app]
    exact h6
  · rcases List.mem_append.1 hp with hp | hp
    · exact (hd5 p hp).kept g2 (.inr (own_neB (hd5 p hp) b5 (by decide)))
    · simp at hp
      subst hp
      exact (own_lowN hu2 h.base_le).kept g2 (.inr (own_neB hu2 b5 (by decide)))
  · refine List.pairwise_append.2 ⟨h.apart, List.pairwise_singleton _ _, fun p hp q hq b hb1 hb2 => ?_⟩
    simp at hq
    subst hq
    have x1 := ((h.dat p hp).lt b hb1).2
    have x2 := hfresh b hb2
    omega
  · have := h.few
    rw [List.length_append, List.length_singleton]
    push_cast
    omega
  · rcases List.mem_append.1 hp with hp | hp
    · exact h.small p hp
    · simp at hp
      subst hp
      exact hd

set_option maxRecDepth 100000 in
set_option maxHeartbeats 1000000 in
theorem ntput_ok (base g : Nat) (lim : Int) (v : Value) (l : List FrV) (f : FrL) (A : Option Addr) (n c : Nat) (w : World) (h : NetAt w base g lim v l) (hlt : (l.length : Int) < lim) (hn : f.d.length = n) (hl : n ≤ 512) (hc : A = none → c = 0) (hS : Sees .u8 w A f.d) :
    Calls Try.prog 23 #[.pointer (some ⟨g, 0, none⟩), frV (f, .slice A n c)] w (PutsN base g lim v l f w) := by
  have HN := hid hn
  have HD := hid h
  have HCl := hid (fun w1 (hb : Below w.heap.size w w1) => copied_any f A n c w1 hn (by omega) hc (hS.below hb))
  have HLim := hid hlt
  obtain ⟨i0, hi, hz0, hz1, hz2⟩ := info_parts info_fr
  have HI := hid (And.intro hi (And.intro hz0 (And.intro hz1 hz2)))
  obtain ⟨Av, cv, hv⟩ := own_shapeN h.row
  have HL := hid h.len
  have HL2 := hid hl
  obtain ⟨m, hm⟩ : ∃ m, l.length = m := ⟨_, rfl⟩
  have HM := hid hm
  rw [hm] at hv hlt HL
  subst hv
  obtain ⟨fr, to, d⟩ := f
  clear hn hl hc hS h hi hz0 hz1 hz2 hm
  go_enter Try.func23, Try.ntmps23
  go_upto_region 1 with fail
  obtain ⟨W, hW⟩ : ∃ W, w.alloc (.cells #[.int .i64 fr, .int .i64 to, .slice A n c] 32) = W := ⟨_, rfl⟩
  rw [hW]
  obtain ⟨K0, KB⟩ := lone_new hW
  clear hW
  have HX := hid (HD.out.on KB.out)
  obtain ⟨b0, b1⟩ := HX.out.cells
  have hlt2 : ¬ (lim ≤ (m : Int)) := by omega
  go_quiet (fail)
  go_upto_region 3 with fail
  have K2 := hid (K0.out.drewN nq)
  have X2 := hid (HX.out.drewN nq)
  have B2 := hid (below_drewN KB.out nq)
  obtain ⟨W2, hW2⟩ : ∃ W2, W.drewN nq = W2 := ⟨_, rfl⟩
  rw [hW2] at K2 X2 B2 ⊢
  obtain ⟨k, hk⟩ : ∃ k, w.heap.size = k := ⟨_, rfl⟩
  rw [hk] at K2 ⊢
  have HK := hid hk
  clear hW2 K0 HX KB b0 b1 hk
  have S2 : Hid ((W2.drew.cell? ⟨k, 0, none⟩ = some (.int .i64 fr) ∧ W2.drew.cell? ⟨k, 1, none⟩ = some (.int .i64 to) ∧ W2.drew.cell? ⟨k, 2, none⟩ = some (.slice A n c))) := hid (lcells3N K2.out)
  have n2 : W2.drew.cell? ⟨g, 1, none⟩ = some (.slice Av m cv) := X2.out.cells.2
  have HC2 := hid (HCl.out W2.drew (below_drew B2.out))
  clear HCl
  obtain ⟨q0, q1, q2⟩ := S2.out
  go_region_law (first
      | (go_simp; (with_reducible refine HC2.out.mono ?_); rintro e w3 ⟨u, rfl, hu, b3⟩
         obtain ⟨Au, cu, rfl⟩ := own_shapeN hu
         have HU := hid (own_lowN (base' := k) hu (by have := K2.out.lt; simp; omega))
         have B3 := hid (Below.trans (below_drew B2.out) (b3.mono (by have := B2.out.size; simpa using this)))
         have X3 := hid (HD.out.on B3.out)
         have K3 := hid (K2.out.drew.below b3 K2.out.drew.lt)
         have S3 : Hid ((w3.cell? ⟨k, 0, none⟩ = some (.int .i64 fr) ∧ w3.cell? ⟨k, 1, none⟩ = some (.int .i64 to) ∧ w3.cell? ⟨k, 2, none⟩ = some (.slice A n c))) := hid (lcells3N K3.out)
         have n3 : w3.cell? ⟨g, 1, none⟩ = some (.slice Av m cv) := X3.out.cells.2
         have n4 : (w3.alloc (.cells #[.int .i64 fr, .int .i64 to, .slice Au d.length cu] 32)).cell? ⟨g, 1, none⟩ = some (.slice Av m cv) := (X3.out.alloc _).cells.2
         have R3 : Hid (∀ o, (w3.alloc o).ownsRow base 32 3 (.slice Av m cv) m (flatN l)) := hid (fun o => by have h := (X3.out.alloc o).row; rw [HM.out] at h; exact h)
         have S4 : Hid (∀ o, ((w3.alloc o).cell? ⟨k, 0, none⟩ = some (.int .i64 fr) ∧ (w3.alloc o).cell? ⟨k, 1, none⟩ = some (.int .i64 to) ∧ (w3.alloc o).cell? ⟨k, 2, none⟩ = some (.slice A n c))) := hid (fun o => lcells3N (K3.out.alloc o))
         obtain ⟨r0, r1, r2⟩ := S3.out
         clear hu b3)
      | (refine step_append_ownN rfl (.tmp 19) (.tmp 22) 37 rfl base 32 i0 _ 3 40 Try.underlying37 HI.out.1 HI.out.2.1 HI.out.2.2.1 HI.out.2.2.2 rfl (by decide) (.slice Av m cv) m (flatN l) rfl (R3.out _) ⟨w3.heap.size, 0, none⟩ 1 1 [.int .i64 fr, .int .i64 to, .slice Au d.length cu] rfl rfl (cells_new3 _ _ _ _ _) (by intro y hy; simp at hy; rcases hy with rfl | rfl | rfl <;> rfl) (by unfold maxLen; have := HL.out; omega) (by have := HL.out; omega) (by have := X3.out.base_le; simp; omega) ?_
         intro v5 w5 hown hg hat
         obtain ⟨A5, c5, rfl⟩ := own_shapeN hown
         have hown2 := hown
         rw [← HM.out] at hown2
         have P5 := hid (HD.out.pushed (f := ⟨fr, to, d⟩) B3.out (by rw [HK.out]; exact HU.out) hown2 hg (by rw [HM.out]; exact hat) HLim.out (by rw [HN.out]; exact HL2.out))
         have t5 : TurnsD (fun b => (Value.slice Av m cv).ownBlock = some b) (w3.alloc _) w5 := TurnsD.of_grown hg (fun b hb => hb)
         have K5 := hid ((K3.out.alloc _).turns t5 (fun e => by have := (HD.out.row.lt k e).2; have := HK.out; omega))
         have hgv : (Value.slice Av m cv).ownBlock ≠ some g := own_neB X3.out.row X3.out.blk (by decide)
         have N5 := hid ((X3.out.alloc _).blk.turns t5 hgv)
         have S5 : Hid ((w5.cell? ⟨k, 0, none⟩ = some (.int .i64 fr) ∧ w5.cell? ⟨k, 1, none⟩ = some (.int .i64 to) ∧ w5.cell? ⟨k, 2, none⟩ = some (.slice A n c))) := hid (lcells3N K5.out)
         have S6 : Hid (∀ u, ((w5.setCell ⟨g, 1, none⟩ u).cell? ⟨k, 0, none⟩ = some (.int .i64 fr) ∧ (w5.setCell ⟨g, 1, none⟩ u).cell? ⟨k, 1, none⟩ = some (.int .i64 to) ∧ (w5.setCell ⟨g, 1, none⟩ u).cell? ⟨k, 2, none⟩ = some (.slice A n c))) := hid (fun u => lcells3N (K5.out.far (p := ⟨g, 1, none⟩) (fun e => by have := HD.out.lt; have := HK.out; simp at e; omega) u))
         have z5 := N5.out.frozen 1
         have z6 : w5.cell? ⟨g, 1, none⟩ = some (.slice Av m cv) := (N5.out.cell 1).trans rfl
         clear hown hown2 hg t5 hat))
  all_goals (
    go_wp2
    go_ret
    have P6 := P5.out
    rw [HM.out] at P6
    exact ⟨_, _, rfl, P6⟩)
set_option maxRecDepth 100000 in
set_option maxHeartbeats 1000000 in
theorem ntput_full (base g : Nat) (lim : Int) (v : Value) (l : List FrV) (f : FrV) (w : World) (h : NetAt w base g lim v l) (hlt : lim ≤ (l.length : Int)) (hf : f.2.oneCell' = true) :
    Calls Try.prog 23 #[.pointer (some ⟨g, 0, none⟩), frV f] w fun e w' => e = .returned (.int .i64 14) ∧ Below w.heap.size w w' := by
  have HD := hid h
  obtain ⟨Av, cv, hv⟩ := own_shapeN h.row
  have HL := hid h.len
  obtain ⟨m, hm⟩ : ∃ m, l.length = m := ⟨_, rfl⟩
  rw [hm] at hv hlt HL
  subst hv
  obtain ⟨⟨fr, to, d⟩, s⟩ := f
  clear h hm
  go_enter Try.func23, Try.ntmps23
  go_upto_region 1 with fail
  obtain ⟨W, hW⟩ : ∃ W, w.alloc (.cells #[.int .i64 fr, .int .i64 to, s] 32) = W := ⟨_, rfl⟩
  rw [hW]
  obtain ⟨K0, KB⟩ := lone_new hW
  clear hW
  have HX := hid (HD.out.on KB.out)
  obtain ⟨b0, b1⟩ := HX.out.cells
  go_quiet (fail)
  go_wp2
  go_ret
  exact ⟨rfl, below_drewN KB.out _⟩
set_option maxRecDepth 100000 in
set_option maxHeartbeats 1000000 in
/-- Send of a frame that nothing keeps away. -/
theorem ntsend_ok (base g : Nat) (lim : Int) (v : Value) (l : List FrV) (f : FrL) (A : Option Addr) (n c : Nat) (w : World) (h : NetAt w base g lim v l) (hlt : (l.length : Int) < lim) (hn : f.d.length = n) (hl : n ≤ 512) (hc : A = none → c = 0) (hS : Sees .u8 w A f.d) (hf : knownB f.fr = true) (ht : knownB f.to = true) :
    Calls Try.prog 13 #[.pointer (some ⟨g, 0, none⟩), frV (f, .slice A n c)] w (PutsN base g lim v l f w) := by
  have HP := hid (fun w1 (hb : Below w.heap.size w w1) => ntput_ok base g lim v l f A n c w1 (h.on hb) hlt hn hl hc (hS.below hb))
  have HK := hid (fun r w => known_any r w)
  have HF := hid hf
  have HT := hid ht
  obtain ⟨fr, to, d⟩ := f
  have hl2 : ¬ (512 : Int) < (n : Int) := by omega
  clear h hlt hn hc hS hf ht
  go_enter Try.func13, Try.ntmps13
  go_upto_region 1 with fail
  obtain ⟨W, hW⟩ : ∃ W, w.alloc (.cells #[.int .i64 fr, .int .i64 to, .slice A n c] 32) = W := ⟨_, rfl⟩
  rw [hW]
  obtain ⟨K0, KB⟩ := lone_new hW
  clear hW
  have HPs := hid (HP.out W KB.out)
  clear HP
  obtain ⟨c0, c1, c2⟩ := lcells3N K0.out
  have HK1 := hid (HK.out fr W)
  have HK2 := hid (HK.out to W)
  rw [show knownB fr = true from HF.out] at HK1
  rw [show knownB to = true from HT.out] at HK2
  go_wp2_with (first
    | (go_at_call 22; (with_reducible first | refine HK1.out.mono ?_ | refine HK2.out.mono ?_); rintro e w' ⟨rfl, rfl⟩)
    | (go_at_call 23; (with_reducible refine HPs.out.mono ?_); rintro e w' ⟨v', u, rfl, hN, hT, hF, hF2⟩; have HF2 := hid hF2; have HN := hid hN; have HTn := hid hT; have HFr := hid hF; clear hN hT hF hF2 c0 c1 c2))
  go_ret
  exact ⟨v', u, rfl, HN.out, (TurnsD.of_below KB.out).trans HTn.out (fun _ _ h => h), fun b hb => Nat.le_trans KB.out.size (HFr.out b hb), fun b hb => (HF2.out b hb).imp id (fun h => Nat.le_trans KB.out.size h)⟩
/-- What Send answers. -/
def sendE (lim : Int) (n : Nat) (f : FrL) (k : Nat) : Int := if ¬ (knownB f.fr = true ∧ knownB f.to = true) then 12 else if 512 < k then 11 else if lim ≤ (n : Int) then 14 else 0
set_option maxRecDepth 100000 in
set_option maxHeartbeats 1000000 in
theorem ntsend_no (base g : Nat) (lim : Int) (v : Value) (l : List FrV) (f : FrL) (A : Option Addr) (n c : Nat) (w : World) (h : NetAt w base g lim v l) (hn9 : n ≤ 9223372036854775807) (hno : sendE lim l.length f n ≠ 0) :
    Calls Try.prog 13 #[.pointer (some ⟨g, 0, none⟩), frV (f, .slice A n c)] w fun e w' => e = .returned (.int .i64 (sendE lim l.length f n)) ∧ Below w.heap.size w w' := by
  have HP := hid (fun w1 (hb : Below w.heap.size w w1) (hlt : lim ≤ (l.length : Int)) => ntput_full base g lim v l (f, .slice A n c) w1 (h.on hb) hlt rfl)
  have HK := hid (fun r w => known_any r w)
  have HE : Hid (sendE lim l.length f n = if ¬ (knownB f.fr = true ∧ knownB f.to = true) then 12 else if 512 < n then 11 else if lim ≤ (l.length : Int) then 14 else 0) := hid rfl
  have HNo := hid hno
  obtain ⟨r, hr⟩ : ∃ r, sendE lim l.length f n = r := ⟨_, rfl⟩
  rw [hr] at HE HNo ⊢
  obtain ⟨m, hm⟩ : ∃ m, l.length = m := ⟨_, rfl⟩
  rw [hm] at HE HP
  obtain ⟨fr, to, d⟩ := f
  clear h hno hr hm
  go_enter Try.func13, Try.ntmps13
  go_upto_region 1 with fail
  obtain ⟨W, hW⟩ : ∃ W, w.alloc (.cells #[.int .i64 fr, .int .i64 to, .slice A n c] 32) = W := ⟨_, rfl⟩
  rw [hW]
  obtain ⟨K0, KB⟩ := lone_new hW
  clear hW
  obtain ⟨c0, c1, c2⟩ := lcells3N K0.out
  have HK1 := hid (HK.out fr W)
  have HK2 := hid (HK.out to W)
  have HE2 : Hid (r = if ¬ (knownB fr = true ∧ knownB to = true) then 12 else if 512 < n then 11 else if lim ≤ (m : Int) then 14 else 0) := HE
  obtain ⟨p, hp⟩ : ∃ p, knownB fr = p := ⟨_, rfl⟩
  obtain ⟨q, hq⟩ : ∃ q, knownB to = q := ⟨_, rfl⟩
  rw [hp] at HK1 HE2
  rw [hq] at HK2 HE2
  clear hp hq HE
  have key : ∀ s t : Bool, p = s → q = t → True := fun _ _ _ _ => trivial
  cases p
  · have hr2 : r = 12 := by rw [HE2.out]; simp
    subst hr2
    go_wp2_with (go_at_call 22; (with_reducible first | refine HK1.out.mono ?_ | refine HK2.out.mono ?_); rintro e w' ⟨rfl, rfl⟩)
    go_ret
    exact ⟨rfl, KB.out⟩
  · cases q
    · have hr2 : r = 12 := by rw [HE2.out]; simp
      subst hr2
      go_wp2_with (go_at_call 22; (with_reducible first | refine HK1.out.mono ?_ | refine HK2.out.mono ?_); rintro e w' ⟨rfl, rfl⟩)
      go_ret
      exact ⟨rfl, KB.out⟩
    · by_cases h5 : 512 < n
      · have hr2 : r = 11 := by rw [HE2.out]; simp [h5]
        subst hr2
        have h6 : (512 : Int) < (n : Int) := by omega
        go_wp2_with (go_at_call 22; (with_reducible first | refine HK1.out.mono ?_ | refine HK2.out.mono ?_); rintro e w' ⟨rfl, rfl⟩)
        go_ret
        exact ⟨rfl, KB.out⟩
      · have h6 : ¬ (512 : Int) < (n : Int) := by omega
        by_cases h7 : lim ≤ (m : Int)
        · have hr2 : r = 14 := by rw [HE2.out]; simp [h5, h7]
          subst hr2
          have HPs := hid (HP.out W KB.out h7)
          go_wp2_with (first
            | (go_at_call 22; (with_reducible first | refine HK1.out.mono ?_ | refine HK2.out.mono ?_); rintro e w' ⟨rfl, rfl⟩)
            | (go_at_call 23; (with_reducible refine HPs.out.mono ?_); rintro e w' ⟨rfl, hB⟩; have HB := hid hB; clear hB c0 c1 c2))
          go_ret
          exact ⟨rfl, below_on KB.out HB.out⟩
        · exact absurd (by rw [HE2.out]; simp [h5, h7]) HNo.out
set_option maxRecDepth 100000 in
set_option maxHeartbeats 1000000 in
theorem nttwice_ok (base g : Nat) (lim : Int) (v : Value) (l : List FrV) (j : Nat) (p : FrV) (i : Int) (hi : i = j) (w : World) (h : NetAt w base g lim v l) (hlt : (l.length : Int) < lim) (hj : l[j]? = some p) :
    Calls Try.prog 14 #[.pointer (some ⟨g, 0, none⟩), .int .i64 i] w (PutsN base g lim v l p.1 w) := by
  subst hi
  have hp := List.mem_of_getElem? hj
  obtain ⟨A, c, e0, hA, hc, hS⟩ := own_slice (h.dat p hp)
  have HP := hid (fun w1 (hb : Below w.heap.size w w1) => ntput_ok base g lim v l p.1 A p.1.d.length c w1 (h.on hb) hlt rfl (h.small p hp) hA (hS.below hb))
  have HH := hid (fun w1 (hb : Below w.heap.size w w1) => nthas_any base g lim v l (j : Int) w1 (h.on hb))
  have hjl := (List.getElem?_eq_some_iff.1 hj).1
  rw [show hasN l.length (j : Int) = true from hasN_iff.2 ⟨j, hjl, rfl⟩] at HH
  obtain ⟨b, cv, hv, _, _, _, y0, y1, y2⟩ := rowN_at h.row hj
  obtain ⟨_, c1⟩ := h.cells
  have HL := h.len
  obtain ⟨m, hm⟩ : ∃ m, l.length = m := ⟨_, rfl⟩
  rw [hm] at hv hjl HL
  subst hv
  rw [e0] at y2
  have HHs := hid (HH.out w (Below.refl _ _))
  have HPs := hid (HP.out w (Below.refl _ _))
  obtain ⟨⟨fr, to, d⟩, s⟩ := p
  have hj3 : (j : Int) < (m : Int) := by omega
  clear h hlt hj hp e0 hA hc hS hm HH HP
  go_enter Try.func14, Try.ntmps14
  go_wp2_with (first
    | (go_at_call 24; (with_reducible refine HHs.out.mono ?_); rintro e w' ⟨rfl, rfl⟩)
    | (go_at_call 23; (with_reducible refine HPs.out.mono ?_); rintro e w' ⟨v', u, rfl, hN, hT, hF, hF2⟩; have HF2 := hid hF2; have HN := hid hN; have HTn := hid hT; have HFr := hid hF; clear hN hT hF hF2 c1 y0 y1 y2))
  go_ret
  exact ⟨v', u, rfl, HN.out, HTn.out, HFr.out, HF2.out⟩
set_option maxRecDepth 100000 in
set_option maxHeartbeats 1000000 in
theorem nttwice_none (base g : Nat) (lim : Int) (v : Value) (l : List FrV) (i : Int) (w : World) (h : NetAt w base g lim v l) (hi : hasN l.length i = false) :
    Calls Try.prog 14 #[.pointer (some ⟨g, 0, none⟩), .int .i64 i] w fun e w' => e = .returned (.int .i64 13) ∧ w = w' := by
  have HH := hid (nthas_any base g lim v l i w h)
  rw [hi] at HH
  clear h hi
  go_enter Try.func14, Try.ntmps14
  go_wp2_with (go_at_call 24; (with_reducible refine HH.out.mono ?_); rintro e w' ⟨rfl, rfl⟩)
  go_ret
  exact ⟨rfl, rfl⟩
set_option maxRecDepth 100000 in
set_option maxHeartbeats 1000000 in
theorem nttwice_full (base g : Nat) (lim : Int) (v : Value) (l : List FrV) (j : Nat) (p : FrV) (i : Int) (hi : i = j) (w : World) (h : NetAt w base g lim v l) (hlt : lim ≤ (l.length : Int)) (hj : l[j]? = some p) :
    Calls Try.prog 14 #[.pointer (some ⟨g, 0, none⟩), .int .i64 i] w fun e w' => e = .returned (.int .i64 14) ∧ Below w.heap.size w w' := by
  subst hi
  have hp := List.mem_of_getElem? hj
  have h1 := own_one (h.dat p hp)
  have HPs := hid (ntput_full base g lim v l p w h hlt h1)
  have HHs := hid (nthas_any base g lim v l (j : Int) w h)
  have hjl := (List.getElem?_eq_some_iff.1 hj).1
  rw [show hasN l.length (j : Int) = true from hasN_iff.2 ⟨j, hjl, rfl⟩] at HHs
  obtain ⟨b, cv, hv, _, _, _, y0, y1, y2⟩ := rowN_at h.row hj
  obtain ⟨_, c1⟩ := h.cells
  have HL := h.len
  obtain ⟨A, c, e0⟩ := own_shapeN (h.dat p hp)
  obtain ⟨m, hm⟩ : ∃ m, l.length = m := ⟨_, rfl⟩
  rw [hm] at hv hjl HL
  subst hv
  obtain ⟨⟨fr, to, d⟩, s⟩ := p
  simp only at e0
  subst e0
  have hj3 : (j : Int) < (m : Int) := by omega
  clear h hlt hj hp hm
  go_enter Try.func14, Try.ntmps14
  go_wp2_with (first
    | (go_at_call 24; (with_reducible refine HHs.out.mono ?_); rintro e w' ⟨rfl, rfl⟩)
    | (go_at_call 23; (with_reducible refine HPs.out.mono ?_); rintro e w' ⟨rfl, hB⟩; have HB := hid hB; clear hB c1 y0 y1 y2))
  go_ret
  exact ⟨rfl, HB.out⟩
end Go.Proofs.Ytljnboimadhkoaa
