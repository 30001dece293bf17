/-
  The law's step.
-/
import Derived.Test.YtgjbhlianlbflaaGreatBLkStepA
namespace Go.Proofs.YtgjbhlianlbflaaGreat
open Go.ChangeShapes Go.WideShapes Go.ChangeAt Go.RowKit Go.Maps Go.WideMaps
set_option linter.unusedVariables false
set_option linter.unusedSimpArgs false
theorem eqE_self (e : EnL) : eqE e e = true := by unfold eqE; simp
theorem seesE_ne {w : World} {A : Option Addr} {l : List EnL} (h : SeesE w A l) {g : Nat} {T : TypeId} {x : Int} {S1 S2 : Option Addr} {n1 c1 n2 c2 : Nat} (hk : Blk w g T #[.int .u64 x, .slice S1 n1 c1, .slice S2 n2 c2]) (hl : l ≠ []) : ∀ b o, A = some ⟨b, o, none⟩ → b ≠ g := by
  intro b o e hb
  subst hb
  obtain ⟨y, hy⟩ : ∃ y, l[0]? = some y := by cases l with | nil => exact absurd rfl hl | cons a t => exact ⟨a, rfl⟩
  obtain ⟨b', o', h1, _, h3⟩ := h 0 y hy
  rw [e] at h1
  injection h1 with h1
  injection h1 with h1 h2
  subst h1 h2
  have h5 := h3 5 _ rfl
  have h6 := hk.cell (o + 0 * 6 + 5)
  rw [h5] at h6
  simp at h6
theorem seesC_ne {w : World} {A : Option Addr} {l : CnL} (h : SeesC w A l) {g : Nat} {T : TypeId} {x : Int} {S1 S2 : Option Addr} {n1 c1 n2 c2 : Nat} (hk : Blk w g T #[.int .u64 x, .slice S1 n1 c1, .slice S2 n2 c2]) (hl : l ≠ []) : ∀ b o, A = some ⟨b, o, none⟩ → b ≠ g := by
  intro b o e hb
  subst hb
  obtain ⟨y, hy⟩ : ∃ y, l[0]? = some y := by cases l with | nil => exact absurd rfl hl | cons a t => exact ⟨a, rfl⟩
  obtain ⟨b', o', h1, _, h3⟩ := h 0 y hy
  rw [e] at h1
  injection h1 with h1
  injection h1 with h1 h2
  subst h1 h2
  have h5 := h3 0 _ rfl
  have h6 := hk.cell (o + 0 * 2 + 0)
  rw [h5] at h6
  rcases (show o = 0 ∨ o = 1 ∨ o = 2 ∨ 3 ≤ o by omega) with rfl | rfl | rfl | ho
  · simp at h6
  · simp at h6
  · simp at h6
  · rw [Array.getElem?_eq_none (by simp; omega)] at h6
    simp at h6
theorem DocK.put {w : World} {v : Value} {first : Int} {l : List EnL} {cs : CnL} (h : DocK w v first l cs) {g : Nat} {T : TypeId} {x : Int} {S1 S2 : Option Addr} {n1 c1 n2 c2 : Nat} (hk : Blk w g T #[.int .u64 x, .slice S1 n1 c1, .slice S2 n2 c2]) (a b d : Value) : DocK (put3K w g a b d) v first l cs := by
  obtain ⟨A, c, A', c', h1, h2, h3, h4, h5⟩ := h
  refine ⟨A, c, A', c', h1, h2, h3, ?_, ?_⟩
  · by_cases hl : l = []
    · subst hl; exact SeesE.nil _ _
    · have hf := seesE_ne h4 hk hl
      unfold put3K
      exact ((h4.setK (p := ⟨g, 0, none⟩) hf a).setK (p := ⟨g, 1, none⟩) hf b).setK (p := ⟨g, 2, none⟩) hf d
  · by_cases hl : cs = []
    · subst hl; exact SeesC.nil _ _
    · exact h5.put3K (seesC_ne h5 hk hl) a b d
theorem DocK.form {w : World} {v : Value} {first : Int} {l : List EnL} {cs : CnL} (h : DocK w v first l cs) : ∃ A n c A' n' c', v = .agg #[.int .u64 first, .slice A n c, .slice A' n' c'] := by
  obtain ⟨A, c, A', c', h1, _⟩ := h
  exact ⟨_, _, _, _, _, _, h1⟩
theorem DocK.lens {w : World} {v : Value} {first : Int} {l : List EnL} {cs : CnL} (h : DocK w v first l cs) : ∀ A n c A' n' c', v = .agg #[.int .u64 first, .slice A n c, .slice A' n' c'] → l.length = n := fun A n c A' n' c' e => by
  subst e
  exact h.at_.1
theorem turn3K (W : World) (g : Nat) (a b c : Value) : TurnsD (fun i => i = g) W (put3K W g a b c) :=
  (((TurnsD.refl (fun i => i = g) W).set (p := ⟨g, 0, none⟩) (.inl rfl) a).set (p := ⟨g, 1, none⟩) (.inl rfl) b).set (p := ⟨g, 2, none⟩) (.inl rfl) c
structure StD (w W : World) (k b de dc : Nat) (x : Int) (S1 S2 : Option Addr) (n1 c1 n2 c2 : Nat) (o : OpK) : Prop where
  bk : Blk W k 31 #[.int .u64 x, .slice S1 n1 c1, .slice S2 n2 c2]
  op : Blk W (k + 1) 35 #[.int .i64 o.kd, .int .i64 o.mo, .string o.path, .int .u64 o.u, .string o.foot]
  rs : Blk W (k + 2) 31 #[.int .u64 0, .slice none 0 0, .slice none 0 0]
  ss : Blk W (k + 3) 33 #[.int .u64 o.u, .string o.foot]
  tn : TurnsD (OwnK de dc) w W
  lt : b < k ∧ de < k ∧ dc < k
  hk : w.heap.size = k
section
variable {w W W2 : World} {k b de dc : Nat} {x : Int} {S1 S2 : Option Addr} {n1 c1 n2 c2 : Nat} {o : OpK}
theorem StD.turn (h : StD w W k b de dc x S1 S2 n1 c1 n2 c2 o) {S : Nat → Prop} (t : TurnsD S W W2) (hS : ∀ i, S i → i = de ∨ i = dc) : StD w W2 k b de dc x S1 S2 n1 c1 n2 c2 o :=
  have f : ∀ g, k ≤ g → ¬ S g := fun g hg e => by have := hS g e; have := h.lt; omega
  ⟨h.bk.turns t (f _ (Nat.le_refl _)), h.op.turns t (f _ (by omega)), h.rs.turns t (f _ (by omega)), h.ss.turns t (f _ (by omega)), h.tn.trans t (fun i _ e => hS i e), h.lt, h.hk⟩
theorem StD.on (h : StD w W k b de dc x S1 S2 n1 c1 n2 c2 o) (t : Below W.heap.size W W2) : StD w W2 k b de dc x S1 S2 n1 c1 n2 c2 o := h.turn (S := fun _ => False) (TurnsD.of_below t) (fun _ e => e.elim)
theorem StD.fin (h : StD w W k b de dc x S1 S2 n1 c1 n2 c2 o) (p q r : Value) : Blk (put3K W (k + 2) p q r) (k + 2) 31 #[p, q, r] ∧ TurnsD (OwnK de dc) w (put3K W (k + 2) p q r) ∧ TurnsD (fun i => i = k + 2) W (put3K W (k + 2) p q r) := by
  refine ⟨put3K_blk h.rs p q r, ?_, turn3K _ _ _ _ _⟩
  have hk := h.hk
  exact ((h.tn.set (p := ⟨k + 2, 0, none⟩) (.inr (by show w.heap.size ≤ k + 2; omega)) p).set (p := ⟨k + 2, 1, none⟩) (.inr (by show w.heap.size ≤ k + 2; omega)) q).set (p := ⟨k + 2, 2, none⟩) (.inr (by show w.heap.size ≤ k + 2; omega)) r
theorem StD.put (h : StD w W k b de dc x S1 S2 n1 c1 n2 c2 o) (y : Int) (R1 R2 : Option Addr) (m1 d1 m2 d2 : Nat) : StD w (put3K W k (.int .u64 y) (.slice R1 m1 d1) (.slice R2 m2 d2)) k b de dc y R1 R2 m1 d1 m2 d2 o := by
  have t := turn3K W k (.int .u64 y) (.slice R1 m1 d1) (.slice R2 m2 d2)
  have hk := h.hk
  refine ⟨put3K_blk h.bk _ _ _, h.op.turns t (by omega), h.rs.turns t (by omega), h.ss.turns t (by omega), ?_, h.lt, hk⟩
  exact ((h.tn.set (p := ⟨k, 0, none⟩) (.inr (by show w.heap.size ≤ k; omega)) _).set (p := ⟨k, 1, none⟩) (.inr (by show w.heap.size ≤ k; omega)) _).set (p := ⟨k, 2, none⟩) (.inr (by show w.heap.size ≤ k; omega)) _
theorem StD.far3 (h : StD w W k b de dc x S1 S2 n1 c1 n2 c2 o) (p q r : Value) : let W' := ((W.setCell ⟨k + 1 + 1, 0, none⟩ p).setCell ⟨k + 1 + 1, 1, none⟩ q).setCell ⟨k + 1 + 1, 2, none⟩ r
    (W'.cell? ⟨k, 0, none⟩ = some (.int .u64 x) ∧ W'.cell? ⟨k, 1, none⟩ = some (.slice S1 n1 c1) ∧ W'.cell? ⟨k, 2, none⟩ = some (.slice S2 n2 c2)) ∧ W'.cell? ⟨k + 3, 0, none⟩ = some (.int .u64 o.u) ∧ W'.cell? ⟨k + 3, 1, none⟩ = some (.string o.foot) := by
  have h1 := ((h.bk.far (p := ⟨k + 1 + 1, 0, none⟩) (by simp; omega) p).far (p := ⟨k + 1 + 1, 1, none⟩) (by simp; omega) q).far (p := ⟨k + 1 + 1, 2, none⟩) (by simp; omega) r
  have h2 := ((h.ss.far (p := ⟨k + 1 + 1, 0, none⟩) (by simp) p).far (p := ⟨k + 1 + 1, 1, none⟩) (by simp) q).far (p := ⟨k + 1 + 1, 2, none⟩) (by simp) r
  exact ⟨lcells3K h1, lcells2 h2⟩
theorem StD.b0 (h : StD w W k b de dc x S1 S2 n1 c1 n2 c2 o) : W.cell? ⟨k, 0, none⟩ = some (.int .u64 x) ∧ W.cell? ⟨k, 1, none⟩ = some (.slice S1 n1 c1) ∧ W.cell? ⟨k, 2, none⟩ = some (.slice S2 n2 c2) := lcells3K h.bk
theorem StD.o0 (h : StD w W k b de dc x S1 S2 n1 c1 n2 c2 o) : W.cell? ⟨k + 1, 0, none⟩ = some (.int .i64 o.kd) ∧ W.cell? ⟨k + 1, 1, none⟩ = some (.int .i64 o.mo) ∧ W.cell? ⟨k + 1, 2, none⟩ = some (.string o.path) ∧ W.cell? ⟨k + 1, 3, none⟩ = some (.int .u64 o.u) ∧ W.cell? ⟨k + 1, 4, none⟩ = some (.string o.foot) :=
  ⟨(h.op.cell 0).trans rfl, (h.op.cell 1).trans rfl, (h.op.cell 2).trans rfl, (h.op.cell 3).trans rfl, (h.op.cell 4).trans rfl⟩
theorem StD.r0 (h : StD w W k b de dc x S1 S2 n1 c1 n2 c2 o) : (W.cell? ⟨k + 2, 0, none⟩ = some (.int .u64 0) ∧ W.cell? ⟨k + 2, 1, none⟩ = some (.slice none 0 0) ∧ W.cell? ⟨k + 2, 2, none⟩ = some (.slice none 0 0)) ∧ W.frozen? ⟨k + 2, 0, none⟩ = false ∧ W.frozen? ⟨k + 2, 1, none⟩ = false ∧ W.frozen? ⟨k + 2, 2, none⟩ = false :=
  ⟨lcells3K h.rs, h.rs.frozen 0, h.rs.frozen 1, h.rs.frozen 2⟩
theorem StD.s0 (h : StD w W k b de dc x S1 S2 n1 c1 n2 c2 o) : W.cell? ⟨k + 3, 0, none⟩ = some (.int .u64 o.u) ∧ W.cell? ⟨k + 3, 1, none⟩ = some (.string o.foot) := lcells2 h.ss
end
theorem lkseven {W : World} {g rr : Nat} {x1 x2 x3 y1 y2 y3 y4 y5 y6 z1 z2 z3 z4 z5 z6 : Value} {T U V : TypeId} (h1 : Blk W g T #[x1, x2, x3]) (h2 : Blk W rr U #[y1, y2, y3, y4, y5, y6]) (h3 : Blk W (g + 1) V #[z1, z2, z3, z4, z5, z6]) :
    (W.cell? ⟨g, 0, none⟩ = some x1 ∧ W.cell? ⟨g, 1, none⟩ = some x2 ∧ W.cell? ⟨g, 2, none⟩ = some x3) ∧ (W.cell? ⟨rr, 0, none⟩ = some y1 ∧ W.cell? ⟨rr, 1, none⟩ = some y2 ∧ W.cell? ⟨rr, 2, none⟩ = some y3 ∧ W.cell? ⟨rr, 3, none⟩ = some y4 ∧ W.cell? ⟨rr, 4, none⟩ = some y5 ∧ W.cell? ⟨rr, 5, none⟩ = some y6) ∧
      (W.cell? ⟨g + 1, 0, none⟩ = some z1 ∧ W.cell? ⟨g + 1, 1, none⟩ = some z2 ∧ W.cell? ⟨g + 1, 2, none⟩ = some z3 ∧ W.cell? ⟨g + 1, 3, none⟩ = some z4 ∧ W.cell? ⟨g + 1, 4, none⟩ = some z5 ∧ W.cell? ⟨g + 1, 5, none⟩ = some z6) := ⟨lcells3K h1, lcells6 h2, lcells6 h3⟩
theorem blk_far3 {W : World} {g k : Nat} {T : TypeId} {cs : Array Value} (h : Blk W g T cs) (hg : g ≠ k + 2) (p q r : Value) : Blk (((W.setCell ⟨k + 1 + 1, 0, none⟩ p).setCell ⟨k + 1 + 1, 1, none⟩ q).setCell ⟨k + 1 + 1, 2, none⟩ r) g T cs :=
  ((h.far (p := ⟨k + 1 + 1, 0, none⟩) (by simpa using hg) p).far (p := ⟨k + 1 + 1, 1, none⟩) (by simpa using hg) q).far (p := ⟨k + 1 + 1, 2, none⟩) (by simpa using hg) r
theorem tlu {P : Program} {ops : Array Oper} {Q : Exit → Act → World → Prop} {md : Region.Mode} {S : World → Prop} (i : Nat) {oi : Oper} {fuel : Nat} {listed : Array Bool} {a : Act} {w : World} (hi : ops[i]? = some oi) (hS : S w)
    (h : wpAnyH P md ops Q S fuel (listed.setIfInBounds i true) (a.put oi.dst undef) w) (hw : Region.wanted oi (yielded ops a.tmps) = false := by kernel_rfl) (hQ : ∀ c a w, Q (.panic c) (a.put oi.dst undef) w → Q (.panic c) a w := by exact fun _ _ _ h => h) (hs : Region.noSelect ops = true := by kernel_rfl) (hf : Region.free md ops listed i = true := by kernel_rfl) (hr : (Region.ready md ops listed).contains i = true := by kernel_rfl) : wpAnyH P md ops Q S (fuel + 1) listed a w :=
  wpAnyH_take hi hs hf hr hQ (Or.inr ⟨hw, rfl⟩) hS h
def StepOut (base b de dc n : Nat) (first : Int) (l : List EnL) (cs : CnL) (first2 : Int) (l2 : List EnL) (cs2 : CnL) (o : OpK) (w : World) (r : Ending) (w' : World) : Prop :=
  ∃ v' t, r = .returned (.tuple #[v', .bool t]) ∧ BkK w' base b de dc (n + 1) first (stpL first l cs o) (stpC first l cs o) ∧ DocK w' v' first2 (stpL first2 l2 cs2 o) (stpC first2 l2 cs2 o) ∧ TurnsD (OwnK de dc) w w' ∧ (first = first2 → l = l2 → cs = cs2 → t = true)
set_option maxRecDepth 100000 in
set_option maxHeartbeats 8000000 in
theorem lkstep_any (base b de dc n : Nat) (first : Int) (l : List EnL) (cs : CnL) (v : Value) (first2 : Int) (l2 : List EnL) (cs2 : CnL) (n2 : Nat) (o : OpK) (w : World) (h : BkK w base b de dc n first l cs) (hn : n < 900000)
    (hd : DocK w v first2 l2 cs2) (hg : GoodD n2 first2 l2 cs2) (hn2 : n2 < 900000) (ho : MadeK o) (hp : o.path.size ≤ 100):
    Calls Tryz.prog 9 #[.pointer (some ⟨b, 0, none⟩), v, .agg #[.int .i64 o.kd, .int .i64 o.mo, .string o.path, .int .u64 o.u, .string o.foot]] w (StepOut base b de dc n first l cs first2 l2 cs2 o w) := by
  have hpk : OkK o.path := by unfold OkK; omega
  have HBk := hid h
  have HDo := hid hd
  have HGd := hid hg
  have HMd := hid ho
  have HLt := hid h.lt
  have HMay := hid (fun w' (k : BkK w' base b de dc n first l cs) => lkmay_any base b de dc n first l cs o.path o.u o.foot o.mo w' k (by omega) hpk ho.1 ho.2)
  have HAdd := hid (fun w' (k : BkK w' base b de dc n first l cs) => lkadd_to base b de dc n first l cs o.path o.u o.foot o.mo w' k (by omega) hpk ho.1 ho.2)
  have HRem := hid (fun w' (k : BkK w' base b de dc n first l cs) => lkremove_any base b de dc n first l cs o.path o.u o.foot w' k hpk ho.1 ho.2)
  have HDrp := hid (fun w' (k : BkK w' base b de dc n first l cs) => lkdrop_any base b de dc n first l cs o.u o.foot w' k (by omega))
  have HDA := hid (fun w' (k : DocK w' v first2 l2 cs2) => dladd_any v first2 l2 cs2 o.path o.u o.foot o.mo w' k (by have := hg.2.1; omega) (by have := hg.2.2.2; omega) (by omega) (fun e he => by have := size_right (hg.1.ok e he).1; omega) (fun e he => by have := hg.2.2.1 e he; omega) (hg.1.cnt_u _))
  have HDF := hid (fun w' (k : DocK w' v first2 l2 cs2) => dlfind_any v first2 l2 cs2 o.path o.u o.foot w' k (by have := hg.2.1; omega))
  have HDD := hid (fun w' (k : DocK w' v first2 l2 cs2) => dldrop_any v first2 l2 cs2 o.path o.u o.foot false w' k (by have := hg.2.1; omega))
  have HDE := hid (fun w' (k : DocK w' v first2 l2 cs2) => dldrop_any v first2 l2 cs2 ⟨#[]⟩ o.u o.foot true w' k (by have := hg.2.1; omega))
  have HLn : Hid (l2.length ≤ 900000 ∧ cs2.length ≤ 900000) := hid (by have := hg.2.1; have := hg.2.2.2; omega)
  obtain ⟨A, c, A', c', rfl, -, -, -, -⟩ := hd
  have HDo2 := hid HDo.out
  obtain ⟨ln, hln⟩ : ∃ x, l2.length = x := ⟨_, rfl⟩
  obtain ⟨nc, hnc⟩ : ∃ x, cs2.length = x := ⟨_, rfl⟩
  have HLN := hid hln
  rw [hln, hnc] at HDo HDo2 HDA HDF HDD HDE HLn ⊢
  clear hln hnc h hg ho hpk
  obtain ⟨kd, hkd⟩ : ∃ x, o.kd = x := ⟨_, rfl⟩
  have HKd := hid hkd
  clear hkd
  go_enter Tryz.func9, Tryz.ntmps9
  go_upto_region 2 with fail
  obtain ⟨W, hW⟩ : ∃ W, (((w.alloc (.cells #[.int .u64 first2, .slice A ln c, .slice A' nc c'] 31)).alloc (.cells #[.int .i64 o.kd, .int .i64 o.mo, .string o.path, .int .u64 o.u, .string o.foot] 35)).alloc (.cells #[.int .u64 0, .slice none 0 0, .slice none 0 0] 31)).alloc (.cells #[.int .u64 o.u, .string o.foot] 33) = W := ⟨_, rfl⟩
  have KB : Hid (Below w.heap.size w W) := hid (by
    rw [← hW]
    exact ((((Below.refl _ w).alloc (Nat.le_refl _) _).alloc (by simp) _).alloc (by simp; omega) _).alloc (by simp; omega) _)
  have S0 : Hid (StD w W w.heap.size b de dc first2 A A' ln c nc c' o) := hid (by
    have h1 := Blk.new w 31 #[.int .u64 first2, .slice A ln c, .slice A' nc c']
    have h2 := Blk.new (w.alloc (.cells #[.int .u64 first2, .slice A ln c, .slice A' nc c'] 31)) 35 #[.int .i64 o.kd, .int .i64 o.mo, .string o.path, .int .u64 o.u, .string o.foot]
    have h3 := Blk.new ((w.alloc (.cells #[.int .u64 first2, .slice A ln c, .slice A' nc c'] 31)).alloc (.cells #[.int .i64 o.kd, .int .i64 o.mo, .string o.path, .int .u64 o.u, .string o.foot] 35)) 31 #[.int .u64 0, .slice none 0 0, .slice none 0 0]
    have h4 := Blk.new (((w.alloc (.cells #[.int .u64 first2, .slice A ln c, .slice A' nc c'] 31)).alloc (.cells #[.int .i64 o.kd, .int .i64 o.mo, .string o.path, .int .u64 o.u, .string o.foot] 35)).alloc (.cells #[.int .u64 0, .slice none 0 0, .slice none 0 0] 31)) 33 #[.int .u64 o.u, .string o.foot]
    rw [hW] at h4
    refine ⟨?_, ?_, ?_, ?_, TurnsD.of_below KB.out, HLt.out, rfl⟩
    · rw [← hW]; exact ((h1.alloc _).alloc _).alloc _
    · have := (h2.alloc (.cells #[.int .u64 0, .slice none 0 0, .slice none 0 0] 31)).alloc (.cells #[.int .u64 o.u, .string o.foot] 33)
      rw [hW] at this
      simpa using this
    · have := h3.alloc (.cells #[.int .u64 o.u, .string o.foot] 33)
      rw [hW] at this
      simpa using this
    · simpa using h4)
  rw [hW]
  have B0 := hid (HBk.out.on KB.out)
  have D0 := hid (HDo2.out.below KB.out)
  clear hW
  obtain ⟨k, hk⟩ : ∃ k, w.heap.size = k := ⟨_, rfl⟩
  rw [hk] at S0 KB ⊢
  have HK := hid hk
  clear hk
  have k0 : W.cell? ⟨k + 1, 0, none⟩ = some (.int .i64 kd) := by rw [← HKd.out]; exact (S0.out.op.cell 0).trans rfl
  obtain ⟨o0, o1, o2, o3, o4⟩ := S0.out.o0
  obtain ⟨b0, b1, b2⟩ := S0.out.b0
  obtain ⟨⟨r0, r1, r2⟩, r3, r4, r5⟩ := S0.out.r0
  obtain ⟨s0, s1⟩ := S0.out.s0
  have hlt := S0.out.lt
  clear o0
  by_cases h1 : kd = 1
  · skip
    have ho1 : o.kd = 1 := by rw [HKd.out]; exact h1
    subst h1
    have HStp : Hid (stpL first l cs o = addOutL first l cs o.path o.u o.foot o.mo ∧ stpC first l cs o = addOutC first l cs o.path o.u o.foot o.mo) := hid (by unfold stpL stpC; rw [if_pos ho1, if_pos ho1]; exact ⟨rfl, rfl⟩)
    have HStp2 : Hid (stpL first2 l2 cs2 o = addOutL first2 l2 cs2 o.path o.u o.foot o.mo ∧ stpC first2 l2 cs2 o = addOutC first2 l2 cs2 o.path o.u o.foot o.mo) := hid (by unfold stpL stpC; rw [if_pos ho1, if_pos ho1]; exact ⟨rfl, rfl⟩)
    clear ho1
    unfold AddOut at HDA
    have HSame : Hid (first = first2 → l = l2 → cs = cs2 → addOutE first l cs o.path o.u o.foot o.mo = addOutE first2 l2 cs2 o.path o.u o.foot o.mo ∧ mayE first l cs o.path o.u o.foot o.mo = mayE first2 l2 cs2 o.path o.u o.foot o.mo) := hid (fun e1 e2 e3 => by rw [e1, e2, e3]; exact ⟨rfl, rfl⟩)
    replace HDA : Hid (∀ w', DocK w' (.agg #[.int .u64 first2, .slice A ln c, .slice A' nc c']) first2 l2 cs2 → Calls Tryz.prog 33 #[.agg #[.int .u64 first2, .slice A ln c, .slice A' nc c'], .string o.path, .int .u64 o.u, .string o.foot, .int .i64 o.mo] w' fun r w'' => ∃ v', r = .returned (.tuple #[v', entV (addOutE first2 l2 cs2 o.path o.u o.foot o.mo), .int .i64 (mayE first2 l2 cs2 o.path o.u o.foot o.mo)]) ∧ DocK w'' v' first2 (addOutL first2 l2 cs2 o.path o.u o.foot o.mo) (addOutC first2 l2 cs2 o.path o.u o.foot o.mo) ∧ Below w'.heap.size w' w'') := hid HDA.out
    obtain ⟨m1, hm1⟩ : ∃ x, mayE first l cs o.path o.u o.foot o.mo = x := ⟨_, rfl⟩
    obtain ⟨e1, he1⟩ : ∃ x, addOutE first l cs o.path o.u o.foot o.mo = x := ⟨_, rfl⟩
    obtain ⟨M2, hM2⟩ : ∃ x, mayE first2 l2 cs2 o.path o.u o.foot o.mo = x := ⟨_, rfl⟩
    obtain ⟨e2, he2⟩ : ∃ x, addOutE first2 l2 cs2 o.path o.u o.foot o.mo = x := ⟨_, rfl⟩
    rw [hm1, he1, hM2, he2] at HSame
    rw [hm1] at HMay
    rw [hm1, he1] at HAdd
    rw [hM2, he2] at HDA
    clear hm1 he1 hM2 he2
    obtain ⟨p1, u1, f1, mo1, nn1, st1⟩ := e1
    obtain ⟨p2, u2, f2, mo2, nn2, st2⟩ := e2
    have HOf : Hid (∀ w, Calls Tryz.prog 18 #[.agg #[.string p1, .int .u64 u1, .string f1, .int .i64 mo1, .int .u64 nn1, .int .i64 st1]] w (Asks (.agg #[.string p1, .int .u64 u1, .string f1, .int .i64 mo1, .int .u64 nn1, .int .i64 st1]) w)) := hid (fun w => lkof_any ⟨p1, u1, f1, mo1, nn1, st1⟩ w)
    have HEq : Hid (∀ w, (Op.equalIn 10000 47 (.agg #[.string p1, .int .u64 u1, .string f1, .int .i64 mo1, .int .u64 nn1, .int .i64 st1]) (.agg #[.string p2, .int .u64 u2, .string f2, .int .i64 mo2, .int .u64 nn2, .int .i64 st2])).run Tryz.prog w = .ok (eqE (⟨p1, u1, f1, mo1, nn1, st1⟩ : EnL) ⟨p2, u2, f2, mo2, nn2, st2⟩) w) := hid (eqk_entD ⟨p1, u1, f1, mo1, nn1, st1⟩ ⟨p2, u2, f2, mo2, nn2, st2⟩)
    obtain ⟨q, hq⟩ : ∃ x, eqE (⟨p1, u1, f1, mo1, nn1, st1⟩ : EnL) ⟨p2, u2, f2, mo2, nn2, st2⟩ = x := ⟨_, rfl⟩
    have HQ := hid hq
    clear hq
    have HSm : Hid (first = first2 → l = l2 → cs = cs2 → q = true ∧ m1 = M2) := hid (fun a1 a2 a3 => by
      obtain ⟨x1, x2⟩ := HSame.out a1 a2 a3
      exact ⟨by rw [← HQ.out, x1]; exact eqE_self _, x2⟩)
    go_upto_region 6 with (first
      | (go_at_call 32; (with_reducible refine (HMay.out _ B0.out).mono ?_); rintro r w1 ⟨rfl, b1'⟩; have B1 := hid (B0.out.on b1'); have S1 := hid (S0.out.on b1'); have D1 := hid (D0.out.below b1'); clear b1'; clear o1 o2 o3 o4 b0 b1 b2 r0 r1 r2 r3 r4 r5 s0 s1; obtain ⟨o0, o1, o2, o3, o4⟩ := S1.out.o0; obtain ⟨b0, b1, b2⟩ := S1.out.b0; obtain ⟨⟨r0, r1, r2⟩, r3, r4, r5⟩ := S1.out.r0; obtain ⟨s0, s1⟩ := S1.out.s0; clear o0)
      | (go_at_call 30; (with_reducible refine (HAdd.out _ B1.out).mono ?_); rintro r w2 ⟨rfl, g2, t2⟩; have B2 := hid g2; have S2 := hid (S1.out.turn t2 (fun i e => e)); have D2 := hid (D1.out.turns t2 B1.out.bare); clear g2 t2; clear o1 o2 o3 o4 b0 b1 b2 r0 r1 r2 r3 r4 r5 s0 s1; obtain ⟨o0, o1, o2, o3, o4⟩ := S2.out.o0; obtain ⟨b0, b1, b2⟩ := S2.out.b0; obtain ⟨⟨r0, r1, r2⟩, r3, r4, r5⟩ := S2.out.r0; obtain ⟨s0, s1⟩ := S2.out.s0; clear o0))
    obtain ⟨w3, hw3⟩ : ∃ w3, w2.alloc (.cells #[.string p1, .int .u64 u1, .string f1, .int .i64 mo1, .int .u64 nn1, .int .i64 st1] 44) = w3 := ⟨_, rfl⟩
    obtain ⟨E3, K3⟩ := lone_new hw3
    rw [hw3]
    clear hw3
    have B3 := hid (B2.out.on K3.out)
    have S3 := hid (S2.out.on K3.out)
    have D3 := hid (D2.out.below K3.out)
    obtain ⟨rr, hrr⟩ : ∃ x, w2.heap.size = x := ⟨_, rfl⟩
    have HRr := hid hrr
    have hrk : k + 3 < rr := by have := S2.out.ss.lt; omega
    rw [hrr] at E3 ⊢
    clear hrr K3 o1 o2 o3 o4 b0 b1 b2 r0 r1 r2 r3 r4 r5 s0 s1
    obtain ⟨o0, o1, o2, o3, o4⟩ := S3.out.o0; obtain ⟨b0, b1, b2⟩ := S3.out.b0; obtain ⟨⟨r0, r1, r2⟩, r3, r4, r5⟩ := S3.out.r0; obtain ⟨s0, s1⟩ := S3.out.s0; clear o0
    go_upto_region 7 with (first
      | (go_at_call 33; (with_reducible refine (HDA.out _ D3.out).mono ?_); rintro r w4 ⟨v4, rfl, d4, b4'⟩; obtain ⟨A2, m2, c2, A3, m3, c3, rfl⟩ := d4.form; have B4 := hid (B3.out.on b4'); have S4 := hid (S3.out.on b4'); have D4 := hid d4; have E4 := hid (E3.out.below b4' E3.out.lt); clear b4' d4; clear o1 o2 o3 o4 b0 b1 b2 r0 r1 r2 r3 r4 r5 s0 s1; obtain ⟨o0, o1, o2, o3, o4⟩ := S4.out.o0; obtain ⟨b0, b1, b2⟩ := S4.out.b0; obtain ⟨⟨r0, r1, r2⟩, r3, r4, r5⟩ := S4.out.r0; obtain ⟨s0, s1⟩ := S4.out.s0; clear o0))
    obtain ⟨g, hg⟩ : ∃ x, w4.heap.size = x := ⟨_, rfl⟩
    obtain ⟨w5, hw5⟩ : ∃ w5, (w4.alloc (.cells #[.int .u64 first2, .slice A2 m2 c2, .slice A3 m3 c3] 31)).alloc (.cells #[.string p2, .int .u64 u2, .string f2, .int .i64 mo2, .int .u64 nn2, .int .i64 st2] 47) = w5 := ⟨_, rfl⟩
    obtain ⟨F5, G5, K5⟩ := ltwo_new hw5
    rw [hw5]
    clear hw5
    have B5 := hid (B4.out.on K5.out)
    have S5 := hid (S4.out.on K5.out)
    have D5 := hid (D4.out.below K5.out)
    have E5 := hid (E4.out.below K5.out E4.out.lt)
    have hgk : rr < g := by have := E4.out.lt; omega
    rw [hg] at F5 G5 ⊢
    clear hg K5 o1 o2 o3 o4 b0 b1 b2 r0 r1 r2 r3 r4 r5 s0 s1
    have dr := below_drew (Below.refl w5.heap.size w5)
    have B6 := hid (B5.out.on dr)
    have S6 := hid (S5.out.on dr)
    have D6 := hid (D5.out.below dr)
    have E6 := hid (E5.out.below dr E5.out.lt)
    have F6 := hid (F5.out.below dr F5.out.lt)
    have G6 := hid (G5.out.below dr G5.out.lt)
    clear dr
    have A6 := hid (lkseven F6.out E6.out G6.out)
    cases q with
    | false =>
      rw [HQ.out] at HEq
      refine wp_region_held_drew (S := fun w' => Blk w' g 31 #[.int .u64 first2, .slice A2 m2 c2, .slice A3 m3 c3] ∧ Blk w' rr 44 #[.string p1, .int .u64 u1, .string f1, .int .i64 mo1, .int .u64 nn1, .int .i64 st1] ∧ Blk w' (g + 1) 47 #[.string p2, .int .u64 u2, .string f2, .int .i64 mo2, .int .u64 nn2, .int .i64 st2]) (by kernel_rfl) (by exact ⟨F6.out, E6.out, G6.out⟩) (fun hHeld => ?_)
      refine tl 0 ?_ rfl ?_ hHeld ?_
      rotate_left 1
      focus (intro w' hSw; obtain ⟨a0, a1, a2⟩ := lcells3K hSw.1; go_simp; try with_reducible rfl)
      try simp only [Act.put, List.getElem_toArray, List.getElem_cons_zero, List.getElem_cons_succ, List.setIfInBounds_toArray, List.set_cons_zero, List.set_cons_succ]
      refine tl 1 ?_ rfl ?_ hHeld ?_
      rotate_left 1
      focus (intro w' hSw; obtain ⟨a0, a1, a2, a3, a4, a5⟩ := lcells6 hSw.2.1; go_simp; try with_reducible rfl)
      try simp only [Act.put, List.getElem_toArray, List.getElem_cons_zero, List.getElem_cons_succ, List.setIfInBounds_toArray, List.set_cons_zero, List.set_cons_succ]
      refine tl 3 ?_ rfl ?_ hHeld ?_
      rotate_left 1
      focus (intro w' hSw; obtain ⟨a0, a1, a2, a3, a4, a5⟩ := lcells6 hSw.2.2; go_simp; try with_reducible rfl)
      try simp only [Act.put, List.getElem_toArray, List.getElem_cons_zero, List.getElem_cons_succ, List.setIfInBounds_toArray, List.set_cons_zero, List.set_cons_succ]
      refine wpAnyH_ready (rs := [2]) (by kernel_rfl) (by simp) ?_
      refine AllReadyH.cons (o := _) rfl (fun K hK => ?_) AllReadyH.nil
      go_simp
      go_at_call 18
      (with_reducible refine (HOf.out _).mono ?_)
      rintro r w6 ⟨rfl, b6⟩
      have F7 := hid (F6.out.below b6 F6.out.lt)
      have G7 := hid (G6.out.below b6 G6.out.lt)
      have E7 := hid (E6.out.below b6 E6.out.lt)
      have B7 := hid (B6.out.on b6)
      have S7 := hid (S6.out.on b6)
      have D7 := hid (D6.out.below b6)
      clear b6
      obtain ⟨⟨r0, r1, r2⟩, r3, r4, r5⟩ := S7.out.r0
      refine hK.out _ _ (by exact ⟨F7.out, E7.out, G7.out⟩) (fun hHeld => ?_)
      clear hK K
      try simp only [Act.put, List.getElem_toArray, List.getElem_cons_zero, List.getElem_cons_succ, List.setIfInBounds_toArray, List.set_cons_zero, List.set_cons_succ]
      have q9 := HEq.out
      refine tl 4 ?_ rfl ?_ hHeld ?_
      rotate_left 1
      focus (intro w' hSw; go_simp; try with_reducible rfl)
      try simp only [Act.put, List.getElem_toArray, List.getElem_cons_zero, List.getElem_cons_succ, List.setIfInBounds_toArray, List.set_cons_zero, List.set_cons_succ]
      refine tl 5 ?_ rfl ?_ hHeld ?_
      rotate_left 1
      focus (intro w' hSw; go_simp; try with_reducible rfl)
      try simp only [Act.put, List.getElem_toArray, List.getElem_cons_zero, List.getElem_cons_succ, List.setIfInBounds_toArray, List.set_cons_zero, List.set_cons_succ]
      refine tlu 6 rfl hHeld ?_
      try simp only [Act.put, List.getElem_toArray, List.getElem_cons_zero, List.getElem_cons_succ, List.setIfInBounds_toArray, List.set_cons_zero, List.set_cons_succ]
      refine tlu 7 rfl hHeld ?_
      try simp only [Act.put, List.getElem_toArray, List.getElem_cons_zero, List.getElem_cons_succ, List.setIfInBounds_toArray, List.set_cons_zero, List.set_cons_succ]
      refine tlu 8 rfl hHeld ?_
      try simp only [Act.put, List.getElem_toArray, List.getElem_cons_zero, List.getElem_cons_succ, List.setIfInBounds_toArray, List.set_cons_zero, List.set_cons_succ]
      refine tl 9 ?_ rfl ?_ hHeld ?_
      rotate_left 1
      focus (intro w' hSw; go_simp; try with_reducible rfl)
      try simp only [Act.put, List.getElem_toArray, List.getElem_cons_zero, List.getElem_cons_succ, List.setIfInBounds_toArray, List.set_cons_zero, List.set_cons_succ]
      refine tl 10 ?_ rfl ?_ hHeld ?_
      rotate_left 1
      focus (intro w' hSw; go_simp; try with_reducible rfl)
      try simp only [Act.put, List.getElem_toArray, List.getElem_cons_zero, List.getElem_cons_succ, List.setIfInBounds_toArray, List.set_cons_zero, List.set_cons_succ]
      refine tlu 11 rfl hHeld ?_
      try simp only [Act.put, List.getElem_toArray, List.getElem_cons_zero, List.getElem_cons_succ, List.setIfInBounds_toArray, List.set_cons_zero, List.set_cons_succ]
      refine tlu 12 rfl hHeld ?_
      try simp only [Act.put, List.getElem_toArray, List.getElem_cons_zero, List.getElem_cons_succ, List.setIfInBounds_toArray, List.set_cons_zero, List.set_cons_succ]
      refine tlu 13 rfl hHeld ?_
      try simp only [Act.put, List.getElem_toArray, List.getElem_cons_zero, List.getElem_cons_succ, List.setIfInBounds_toArray, List.set_cons_zero, List.set_cons_succ]
      refine tl 14 ?_ rfl ?_ hHeld ?_
      rotate_left 1
      focus (intro w' hSw; go_simp; try with_reducible rfl)
      try simp only [Act.put, List.getElem_toArray, List.getElem_cons_zero, List.getElem_cons_succ, List.setIfInBounds_toArray, List.set_cons_zero, List.set_cons_succ]
      refine wpAnyH_ready (rs := [15]) (by kernel_rfl) (by simp) ?_
      refine AllReadyH.cons (o := _) rfl (fun K hK => ?_) AllReadyH.nil
      go_simp
      refine hK.out _ _ (by exact ⟨(blk_far3 (k := k) F7.out (by omega) (.int .u64 first2) (.slice A2 m2 c2) (.slice A3 m3 c3)), (blk_far3 (k := k) E7.out (by omega) (.int .u64 first2) (.slice A2 m2 c2) (.slice A3 m3 c3)), (blk_far3 (k := k) G7.out (by omega) (.int .u64 first2) (.slice A2 m2 c2) (.slice A3 m3 c3))⟩) (fun hHeld => ?_)
      clear hK K
      try simp only [Act.put, List.getElem_toArray, List.getElem_cons_zero, List.getElem_cons_succ, List.setIfInBounds_toArray, List.set_cons_zero, List.set_cons_succ]
      refine tl 16 ?_ rfl ?_ hHeld ?_
      rotate_left 1
      focus (intro w' hSw; go_simp; try with_reducible rfl)
      try simp only [Act.put, List.getElem_toArray, List.getElem_cons_zero, List.getElem_cons_succ, List.setIfInBounds_toArray, List.set_cons_zero, List.set_cons_succ]
      refine wpAnyH_done (by kernel_rfl) ?_ _
      clear hHeld
      go_wp2
      obtain ⟨T1, T2, T3⟩ := S7.out.fin (.int .u64 first2) (.slice A2 m2 c2) (.slice A3 m3 c3)
      have T4 := B7.out.turns T3 (by have := S7.out.lt; omega) (by have := S7.out.lt; omega) (by have := S7.out.lt; omega)
      have T5 := D7.out.put S7.out.rs (.int .u64 first2) (.slice A2 m2 c2) (.slice A3 m3 c3)
      unfold put3K at T1 T2 T4 T5
      obtain ⟨w9, hw9⟩ : ∃ w9, (((w6.setCell ⟨k + 2, 0, none⟩ (.int .u64 first2)).setCell ⟨k + 2, 1, none⟩ (.slice A2 m2 c2)).setCell ⟨k + 2, 2, none⟩ (.slice A3 m3 c3)) = w9 := ⟨_, rfl⟩
      rw [hw9] at T1 T2 T4 T5 ⊢
      clear hw9 r0 r1 r2 r3 r4 r5
      obtain ⟨q0, q1, q2⟩ := lcells3K T1
      refine bodyPost_ret (v := .tuple #[.agg #[.int .u64 first2, .slice A2 m2 c2, .slice A3 m3 c3], .bool false]) (by simp [results, Tryz.results9, go_sem, q0, q1, q2]) rfl ⟨_, false, rfl, ?_, ?_, T2, fun a1 a2 a3 => (HSm.out a1 a2 a3).1⟩
      · rw [HStp.out.1, HStp.out.2]; exact T4
      · rw [HStp2.out.1, HStp2.out.2]; exact T5
    | true =>
      rw [HQ.out] at HEq
      by_cases hm : m1 = M2
      · subst hm
        have q9 := HEq.out
        go_region_held3 (fun w' => (w'.cell? ⟨g, 0, none⟩ = some (.int .u64 first2) ∧ w'.cell? ⟨g, 1, none⟩ = some (.slice A2 m2 c2) ∧ w'.cell? ⟨g, 2, none⟩ = some (.slice A3 m3 c3)) ∧ (w'.cell? ⟨rr, 0, none⟩ = some (.string p1) ∧ w'.cell? ⟨rr, 1, none⟩ = some (.int .u64 u1) ∧ w'.cell? ⟨rr, 2, none⟩ = some (.string f1) ∧ w'.cell? ⟨rr, 3, none⟩ = some (.int .i64 mo1) ∧ w'.cell? ⟨rr, 4, none⟩ = some (.int .u64 nn1) ∧ w'.cell? ⟨rr, 5, none⟩ = some (.int .i64 st1)) ∧ (w'.cell? ⟨g + 1, 0, none⟩ = some (.string p2) ∧ w'.cell? ⟨g + 1, 1, none⟩ = some (.int .u64 u2) ∧ w'.cell? ⟨g + 1, 2, none⟩ = some (.string f2) ∧ w'.cell? ⟨g + 1, 3, none⟩ = some (.int .i64 mo2) ∧ w'.cell? ⟨g + 1, 4, none⟩ = some (.int .u64 nn2) ∧ w'.cell? ⟨g + 1, 5, none⟩ = some (.int .i64 st2)))
          (first | with_reducible exact A6.out | with_reducible exact A7.out | with_reducible exact A8.out)
          (first
            | (go_at_call 18; (with_reducible refine (HOf.out _).mono ?_); rintro r w6 ⟨rfl, b6⟩; have F7 := hid (F6.out.below b6 F6.out.lt); have G7 := hid (G6.out.below b6 G6.out.lt); have E7 := hid (E6.out.below b6 E6.out.lt); have B7 := hid (B6.out.on b6); have S7 := hid (S6.out.on b6); have D7 := hid (D6.out.below b6); clear b6; have A7 := hid (lkseven F7.out E7.out G7.out); have A8 := hid (lkseven (blk_far3 (k := k) F7.out (by omega) (.int .u64 first2) (.slice A2 m2 c2) (.slice A3 m3 c3)) (blk_far3 (k := k) E7.out (by omega) (.int .u64 first2) (.slice A2 m2 c2) (.slice A3 m3 c3)) (blk_far3 (k := k) G7.out (by omega) (.int .u64 first2) (.slice A2 m2 c2) (.slice A3 m3 c3))); obtain ⟨⟨r0, r1, r2⟩, r3, r4, r5⟩ := S7.out.r0))
        all_goals go_wp2
        obtain ⟨T1, T2, T3⟩ := S7.out.fin (.int .u64 first2) (.slice A2 m2 c2) (.slice A3 m3 c3)
        have T4 := B7.out.turns T3 (by have := S7.out.lt; omega) (by have := S7.out.lt; omega) (by have := S7.out.lt; omega)
        have T5 := D7.out.put S7.out.rs (.int .u64 first2) (.slice A2 m2 c2) (.slice A3 m3 c3)
        unfold put3K at T1 T2 T4 T5
        obtain ⟨w9, hw9⟩ : ∃ w9, (((w6.setCell ⟨k + 2, 0, none⟩ (.int .u64 first2)).setCell ⟨k + 2, 1, none⟩ (.slice A2 m2 c2)).setCell ⟨k + 2, 2, none⟩ (.slice A3 m3 c3)) = w9 := ⟨_, rfl⟩
        rw [hw9] at T1 T2 T4 T5 ⊢
        clear hw9 r0 r1 r2 r3 r4 r5
        obtain ⟨q0, q1, q2⟩ := lcells3K T1
        refine bodyPost_ret (v := .tuple #[.agg #[.int .u64 first2, .slice A2 m2 c2, .slice A3 m3 c3], .bool true]) (by simp [results, Tryz.results9, go_sem, q0, q1, q2]) rfl ⟨_, true, rfl, ?_, ?_, T2, fun _ _ _ => rfl⟩
        · rw [HStp.out.1, HStp.out.2]; exact T4
        · rw [HStp2.out.1, HStp2.out.2]; exact T5
      · have hq2 : (m1 == M2) = false := by simpa using hm
        refine wp_region_held_drew (S := fun w' => Blk w' g 31 #[.int .u64 first2, .slice A2 m2 c2, .slice A3 m3 c3] ∧ Blk w' rr 44 #[.string p1, .int .u64 u1, .string f1, .int .i64 mo1, .int .u64 nn1, .int .i64 st1] ∧ Blk w' (g + 1) 47 #[.string p2, .int .u64 u2, .string f2, .int .i64 mo2, .int .u64 nn2, .int .i64 st2]) (by kernel_rfl) (by exact ⟨F6.out, E6.out, G6.out⟩) (fun hHeld => ?_)
        refine tl 0 ?_ rfl ?_ hHeld ?_
        rotate_left 1
        focus (intro w' hSw; obtain ⟨a0, a1, a2⟩ := lcells3K hSw.1; go_simp; try with_reducible rfl)
        try simp only [Act.put, List.getElem_toArray, List.getElem_cons_zero, List.getElem_cons_succ, List.setIfInBounds_toArray, List.set_cons_zero, List.set_cons_succ]
        refine tl 1 ?_ rfl ?_ hHeld ?_
        rotate_left 1
        focus (intro w' hSw; obtain ⟨a0, a1, a2, a3, a4, a5⟩ := lcells6 hSw.2.1; go_simp; try with_reducible rfl)
        try simp only [Act.put, List.getElem_toArray, List.getElem_cons_zero, List.getElem_cons_succ, List.setIfInBounds_toArray, List.set_cons_zero, List.set_cons_succ]
        refine tl 3 ?_ rfl ?_ hHeld ?_
        rotate_left 1
        focus (intro w' hSw; obtain ⟨a0, a1, a2, a3, a4, a5⟩ := lcells6 hSw.2.2; go_simp; try with_reducible rfl)
        try simp only [Act.put, List.getElem_toArray, List.getElem_cons_zero, List.getElem_cons_succ, List.setIfInBounds_toArray, List.set_cons_zero, List.set_cons_succ]
        refine wpAnyH_ready (rs := [2]) (by kernel_rfl) (by simp) ?_
        refine AllReadyH.cons (o := _) rfl (fun K hK => ?_) AllReadyH.nil
        go_simp
        go_at_call 18
        (with_reducible refine (HOf.out _).mono ?_)
        rintro r w6 ⟨rfl, b6⟩
        have F7 := hid (F6.out.below b6 F6.out.lt)
        have G7 := hid (G6.out.below b6 G6.out.lt)
        have E7 := hid (E6.out.below b6 E6.out.lt)
        have B7 := hid (B6.out.on b6)
        have S7 := hid (S6.out.on b6)
        have D7 := hid (D6.out.below b6)
        clear b6
        obtain ⟨⟨r0, r1, r2⟩, r3, r4, r5⟩ := S7.out.r0
        refine hK.out _ _ (by exact ⟨F7.out, E7.out, G7.out⟩) (fun hHeld => ?_)
        clear hK K
        try simp only [Act.put, List.getElem_toArray, List.getElem_cons_zero, List.getElem_cons_succ, List.setIfInBounds_toArray, List.set_cons_zero, List.set_cons_succ]
        have q9 := HEq.out
        refine tl 4 ?_ rfl ?_ hHeld ?_
        rotate_left 1
        focus (intro w' hSw; go_simp; try with_reducible rfl)
        try simp only [Act.put, List.getElem_toArray, List.getElem_cons_zero, List.getElem_cons_succ, List.setIfInBounds_toArray, List.set_cons_zero, List.set_cons_succ]
        refine tl 5 ?_ rfl ?_ hHeld ?_
        rotate_left 1
        focus (intro w' hSw; go_simp; try with_reducible rfl)
        try simp only [Act.put, List.getElem_toArray, List.getElem_cons_zero, List.getElem_cons_succ, List.setIfInBounds_toArray, List.set_cons_zero, List.set_cons_succ]
        refine tl 6 ?_ rfl ?_ hHeld ?_
        rotate_left 1
        focus (intro w' hSw; go_simp; try with_reducible rfl)
        try simp only [Act.put, List.getElem_toArray, List.getElem_cons_zero, List.getElem_cons_succ, List.setIfInBounds_toArray, List.set_cons_zero, List.set_cons_succ]
        refine tl 7 ?_ rfl ?_ hHeld ?_
        rotate_left 1
        focus (intro w' hSw; go_simp; try with_reducible rfl)
        try simp only [Act.put, List.getElem_toArray, List.getElem_cons_zero, List.getElem_cons_succ, List.setIfInBounds_toArray, List.set_cons_zero, List.set_cons_succ]
        refine tl 8 ?_ rfl ?_ hHeld ?_
        rotate_left 1
        focus (intro w' hSw; go_simp; try with_reducible rfl)
        try simp only [Act.put, List.getElem_toArray, List.getElem_cons_zero, List.getElem_cons_succ, List.setIfInBounds_toArray, List.set_cons_zero, List.set_cons_succ]
        refine tl 9 ?_ rfl ?_ hHeld ?_
        rotate_left 1
        focus (intro w' hSw; go_simp; try with_reducible rfl)
        try simp only [Act.put, List.getElem_toArray, List.getElem_cons_zero, List.getElem_cons_succ, List.setIfInBounds_toArray, List.set_cons_zero, List.set_cons_succ]
        refine tl 10 ?_ rfl ?_ hHeld ?_
        rotate_left 1
        focus (intro w' hSw; go_simp; try with_reducible rfl)
        try simp only [Act.put, List.getElem_toArray, List.getElem_cons_zero, List.getElem_cons_succ, List.setIfInBounds_toArray, List.set_cons_zero, List.set_cons_succ]
        refine tlu 11 rfl hHeld ?_
        try simp only [Act.put, List.getElem_toArray, List.getElem_cons_zero, List.getElem_cons_succ, List.setIfInBounds_toArray, List.set_cons_zero, List.set_cons_succ]
        refine tlu 12 rfl hHeld ?_
        try simp only [Act.put, List.getElem_toArray, List.getElem_cons_zero, List.getElem_cons_succ, List.setIfInBounds_toArray, List.set_cons_zero, List.set_cons_succ]
        refine tlu 13 rfl hHeld ?_
        try simp only [Act.put, List.getElem_toArray, List.getElem_cons_zero, List.getElem_cons_succ, List.setIfInBounds_toArray, List.set_cons_zero, List.set_cons_succ]
        refine tl 14 ?_ rfl ?_ hHeld ?_
        rotate_left 1
        focus (intro w' hSw; go_simp; try with_reducible rfl)
        try simp only [Act.put, List.getElem_toArray, List.getElem_cons_zero, List.getElem_cons_succ, List.setIfInBounds_toArray, List.set_cons_zero, List.set_cons_succ]
        refine wpAnyH_ready (rs := [15]) (by kernel_rfl) (by simp) ?_
        refine AllReadyH.cons (o := _) rfl (fun K hK => ?_) AllReadyH.nil
        go_simp
        refine hK.out _ _ (by exact ⟨(blk_far3 (k := k) F7.out (by omega) (.int .u64 first2) (.slice A2 m2 c2) (.slice A3 m3 c3)), (blk_far3 (k := k) E7.out (by omega) (.int .u64 first2) (.slice A2 m2 c2) (.slice A3 m3 c3)), (blk_far3 (k := k) G7.out (by omega) (.int .u64 first2) (.slice A2 m2 c2) (.slice A3 m3 c3))⟩) (fun hHeld => ?_)
        clear hK K
        try simp only [Act.put, List.getElem_toArray, List.getElem_cons_zero, List.getElem_cons_succ, List.setIfInBounds_toArray, List.set_cons_zero, List.set_cons_succ]
        refine tl 16 ?_ rfl ?_ hHeld ?_
        rotate_left 1
        focus (intro w' hSw; go_simp; try with_reducible rfl)
        try simp only [Act.put, List.getElem_toArray, List.getElem_cons_zero, List.getElem_cons_succ, List.setIfInBounds_toArray, List.set_cons_zero, List.set_cons_succ]
        refine wpAnyH_done (by kernel_rfl) ?_ _
        clear hHeld
        go_wp2
        obtain ⟨T1, T2, T3⟩ := S7.out.fin (.int .u64 first2) (.slice A2 m2 c2) (.slice A3 m3 c3)
        have T4 := B7.out.turns T3 (by have := S7.out.lt; omega) (by have := S7.out.lt; omega) (by have := S7.out.lt; omega)
        have T5 := D7.out.put S7.out.rs (.int .u64 first2) (.slice A2 m2 c2) (.slice A3 m3 c3)
        unfold put3K at T1 T2 T4 T5
        obtain ⟨w9, hw9⟩ : ∃ w9, (((w6.setCell ⟨k + 2, 0, none⟩ (.int .u64 first2)).setCell ⟨k + 2, 1, none⟩ (.slice A2 m2 c2)).setCell ⟨k + 2, 2, none⟩ (.slice A3 m3 c3)) = w9 := ⟨_, rfl⟩
        rw [hw9] at T1 T2 T4 T5 ⊢
        clear hw9 r0 r1 r2 r3 r4 r5
        obtain ⟨q0, q1, q2⟩ := lcells3K T1
        refine bodyPost_ret (v := .tuple #[.agg #[.int .u64 first2, .slice A2 m2 c2, .slice A3 m3 c3], .bool false]) (by simp [results, Tryz.results9, go_sem, q0, q1, q2]) rfl ⟨_, false, rfl, ?_, ?_, T2, fun a1 a2 a3 => absurd (HSm.out a1 a2 a3).2 hm⟩
        · rw [HStp.out.1, HStp.out.2]; exact T4
        · rw [HStp2.out.1, HStp2.out.2]; exact T5
  have q1 : (kd == 1) = false := by simpa using h1
  have ho1 : ¬ o.kd = 1 := by rw [HKd.out]; exact h1
  by_cases h2 : kd = 2
  · skip
    have ho2 : o.kd = 2 := by rw [HKd.out]; exact h2
    subst h2
    have HStp : Hid (stpL first l cs o = rmE l o.path o.u o.foot ∧ stpC first l cs o = cs) := hid (by unfold stpL stpC; rw [if_neg ho1, if_pos ho2, if_neg ho1]; exact ⟨rfl, rfl⟩)
    have HStp3 : Hid (stpL first2 l2 cs2 o = rmE l2 o.path o.u o.foot ∧ stpC first2 l2 cs2 o = cs2) := hid (by unfold stpL stpC; rw [if_neg ho1, if_pos ho2, if_neg ho1]; exact ⟨rfl, rfl⟩)
    clear ho1 ho2
    obtain ⟨rc, hrc⟩ : ∃ x : Int, (if (findE l o.path o.u o.foot).isSome = true then 0 else 52) = x := ⟨_, rfl⟩
    rw [hrc] at HRem
    have HRc := hid hrc
    obtain ⟨fo, hfo⟩ : ∃ x, idxE l2 o.path o.u o.foot = x := ⟨_, rfl⟩
    rw [hfo] at HDF
    have HFo := hid hfo
    clear hrc hfo
    by_cases hng : fo < 0
    · have HNo : Hid (findE l2 o.path o.u o.foot = none) := hid (idx_neg.1.1 (by rw [HFo.out]; exact hng))
      have HStp2 : Hid (stpL first2 l2 cs2 o = l2 ∧ stpC first2 l2 cs2 o = cs2) := hid (by rw [HStp3.out.1, HStp3.out.2, rm_none HNo.out]; exact ⟨rfl, rfl⟩)
      have HSm : Hid (first = first2 → l = l2 → cs = cs2 → (rc == 52) = true) := hid (fun _ e _ => by rw [← HRc.out, e, HNo.out]; rfl)
      go_wp2_with (first
        | (go_at_call 31; (with_reducible refine (HRem.out _ B0.out).mono ?_); rintro r w1 ⟨rfl, g1, t1⟩; have B1 := hid g1; have t1' := t1.more (T := OwnK de dc) (fun i _ e => .inl e); have S1 := hid (S0.out.turn t1' (fun i e => e)); have D1 := hid (D0.out.turns t1' B0.out.bare); clear g1 t1 t1'; clear o1 o2 o3 o4 b0 b1 b2 r0 r1 r2 r3 r4 r5 s0 s1; obtain ⟨o0, o1, o2, o3, o4⟩ := S1.out.o0; obtain ⟨b0, b1, b2⟩ := S1.out.b0; obtain ⟨⟨r0, r1, r2⟩, r3, r4, r5⟩ := S1.out.r0; obtain ⟨s0, s1⟩ := S1.out.s0; clear o0)
        | (go_at_call 17; (with_reducible refine (HDF.out _ D1.out).mono ?_); rintro r w2 ⟨rfl, b2'⟩; have B2 := hid (B1.out.on b2'); have S2 := hid (S1.out.on b2'); have D2 := hid (D1.out.below b2'); clear b2'; clear o1 o2 o3 o4 b0 b1 b2 r0 r1 r2 r3 r4 r5 s0 s1; obtain ⟨o0, o1, o2, o3, o4⟩ := S2.out.o0; obtain ⟨b0, b1, b2⟩ := S2.out.b0; obtain ⟨⟨r0, r1, r2⟩, r3, r4, r5⟩ := S2.out.r0; obtain ⟨s0, s1⟩ := S2.out.s0; clear o0))
      obtain ⟨T1, T2, T3⟩ := S2.out.fin (.int .u64 first2) (.slice A ln c) (.slice A' nc c')
      have T4 := B2.out.turns T3 (by have := S2.out.lt; omega) (by have := S2.out.lt; omega) (by have := S2.out.lt; omega)
      have T5 := D2.out.put S2.out.rs (.int .u64 first2) (.slice A ln c) (.slice A' nc c')
      unfold put3K at T1 T2 T4 T5
      obtain ⟨w9, hw9⟩ : ∃ w9, (((w2.setCell ⟨k + 2, 0, none⟩ (.int .u64 first2)).setCell ⟨k + 2, 1, none⟩ (.slice A ln c)).setCell ⟨k + 2, 2, none⟩ (.slice A' nc c')) = w9 := ⟨_, rfl⟩
      rw [hw9] at T1 T2 T4 T5 ⊢
      clear hw9 r0 r1 r2 r3 r4 r5
      obtain ⟨q0, q1, q2⟩ := lcells3K T1
      refine bodyPost_ret (v := .tuple #[.agg #[.int .u64 first2, .slice A ln c, .slice A' nc c'], .bool (rc == 52)]) (by simp [results, Tryz.results9, go_sem, q0, q1, q2]) rfl ⟨_, (rc == 52), rfl, ?_, ?_, T2, HSm.out⟩
      · rw [HStp.out.1, HStp.out.2]; exact T4.mono (by omega)
      · rw [HStp2.out.1, HStp2.out.2]; exact T5
    · have HYe : Hid ((findE l2 o.path o.u o.foot).isSome = true) := hid (idx_neg.2.1 (by rw [HFo.out]; omega))
      have HStp2 : Hid (stpL first2 l2 cs2 o = l2.filter (keptE false o.path o.u o.foot) ∧ stpC first2 l2 cs2 o = cs2) := hid (by rw [HStp3.out.1, HStp3.out.2, kept_rm]; exact ⟨rfl, rfl⟩)
      have HSm : Hid (first = first2 → l = l2 → cs = cs2 → (rc == 0) = true) := hid (fun _ e _ => by rw [← HRc.out, e, if_pos HYe.out]; rfl)
      go_wp2_with (first
        | (go_at_call 31; (with_reducible refine (HRem.out _ B0.out).mono ?_); rintro r w1 ⟨rfl, g1, t1⟩; have B1 := hid g1; have t1' := t1.more (T := OwnK de dc) (fun i _ e => .inl e); have S1 := hid (S0.out.turn t1' (fun i e => e)); have D1 := hid (D0.out.turns t1' B0.out.bare); clear g1 t1 t1'; clear o1 o2 o3 o4 b0 b1 b2 r0 r1 r2 r3 r4 r5 s0 s1; obtain ⟨o0, o1, o2, o3, o4⟩ := S1.out.o0; obtain ⟨b0, b1, b2⟩ := S1.out.b0; obtain ⟨⟨r0, r1, r2⟩, r3, r4, r5⟩ := S1.out.r0; obtain ⟨s0, s1⟩ := S1.out.s0; clear o0)
        | (go_at_call 17; (with_reducible refine (HDF.out _ D1.out).mono ?_); rintro r w2 ⟨rfl, b2'⟩; have B2 := hid (B1.out.on b2'); have S2 := hid (S1.out.on b2'); have D2 := hid (D1.out.below b2'); clear b2'; clear o1 o2 o3 o4 b0 b1 b2 r0 r1 r2 r3 r4 r5 s0 s1; obtain ⟨o0, o1, o2, o3, o4⟩ := S2.out.o0; obtain ⟨b0, b1, b2⟩ := S2.out.b0; obtain ⟨⟨r0, r1, r2⟩, r3, r4, r5⟩ := S2.out.r0; obtain ⟨s0, s1⟩ := S2.out.s0; clear o0)
        | (go_at_call 34; (with_reducible refine (HDD.out _ D2.out).mono ?_); rintro r w3 ⟨v3, rfl, d3, b3'⟩; obtain ⟨A2, m2, c2, A3, m3, c3, rfl⟩ := d3.form; have B3 := hid (B2.out.on b3'); have S3 := hid (S2.out.on b3'); have D3 := hid d3; clear b3' d3; clear o1 o2 o3 o4 b0 b1 b2 r0 r1 r2 r3 r4 r5 s0 s1; obtain ⟨o0, o1, o2, o3, o4⟩ := S3.out.o0; obtain ⟨b0, b1, b2⟩ := S3.out.b0; obtain ⟨⟨r0, r1, r2⟩, r3, r4, r5⟩ := S3.out.r0; obtain ⟨s0, s1⟩ := S3.out.s0; clear o0))
      obtain ⟨T1, T2, T3⟩ := S3.out.fin (.int .u64 first2) (.slice A2 m2 c2) (.slice A3 m3 c3)
      have T4 := B3.out.turns T3 (by have := S3.out.lt; omega) (by have := S3.out.lt; omega) (by have := S3.out.lt; omega)
      have T5 := D3.out.put S3.out.rs (.int .u64 first2) (.slice A2 m2 c2) (.slice A3 m3 c3)
      unfold put3K at T1 T2 T4 T5
      obtain ⟨w9, hw9⟩ : ∃ w9, (((w3.setCell ⟨k + 2, 0, none⟩ (.int .u64 first2)).setCell ⟨k + 2, 1, none⟩ (.slice A2 m2 c2)).setCell ⟨k + 2, 2, none⟩ (.slice A3 m3 c3)) = w9 := ⟨_, rfl⟩
      rw [hw9] at T1 T2 T4 T5 ⊢
      clear hw9 r0 r1 r2 r3 r4 r5
      obtain ⟨q0, q1, q2⟩ := lcells3K T1
      refine bodyPost_ret (v := .tuple #[.agg #[.int .u64 first2, .slice A2 m2 c2, .slice A3 m3 c3], .bool (rc == 0)]) (by simp [results, Tryz.results9, go_sem, q0, q1, q2]) rfl ⟨_, (rc == 0), rfl, ?_, ?_, T2, HSm.out⟩
      · rw [HStp.out.1, HStp.out.2]; exact T4.mono (by omega)
      · rw [HStp2.out.1, HStp2.out.2]; exact T5
  have q2 : (kd == 2) = false := by simpa using h2
  have ho2 : ¬ o.kd = 2 := by rw [HKd.out]; exact h2
  by_cases h3 : kd = 3
  · skip
    have ho3 : o.kd = 3 := by rw [HKd.out]; exact h3
    subst h3
    have HStp : Hid (stpL first l cs o = dropE l o.u o.foot ∧ stpC first l cs o = cs) := hid (by unfold stpL stpC; rw [if_neg ho1, if_neg ho2, if_pos ho3, if_neg ho1]; exact ⟨rfl, rfl⟩)
    have HStp2 : Hid (stpL first2 l2 cs2 o = l2.filter (keptE true ⟨#[]⟩ o.u o.foot) ∧ stpC first2 l2 cs2 o = cs2) := hid (by unfold stpL stpC; rw [if_neg ho1, if_neg ho2, if_pos ho3, if_neg ho1, kept_drop]; exact ⟨rfl, rfl⟩)
    clear ho1 ho2 ho3
    go_upto_region 16 with (first
      | (go_at_call 34; (with_reducible refine (HDE.out _ D0.out).mono ?_); rintro r w1 ⟨v3, rfl, d3, b3'⟩; have HF3 := hid d3.lens; obtain ⟨A2, m2, c2, A3, m3, c3, rfl⟩ := d3.form; have B1 := hid (B0.out.on b3'); have S1 := hid (S0.out.on b3'); have D1 := hid d3; clear b3' d3; clear o1 o2 o3 o4 b0 b1 b2 r0 r1 r2 r3 r4 r5 s0 s1; obtain ⟨o0, o1, o2, o3, o4⟩ := S1.out.o0; obtain ⟨b0, b1, b2⟩ := S1.out.b0; obtain ⟨⟨r0, r1, r2⟩, r3, r4, r5⟩ := S1.out.r0; obtain ⟨s0, s1⟩ := S1.out.s0; clear o0; have z0 := S1.out.bk.frozen 0; have z1 := S1.out.bk.frozen 1; have z2 := S1.out.bk.frozen 2))
    have hm2 := HF3.out _ _ _ _ _ _ rfl
    have HM2 := hid hm2
    have hm2l : m2 ≤ ln := by rw [← hm2, ← HLN.out]; exact List.length_filter_le _ _
    have hlnb := HLn.out.1
    clear hm2 HF3
    have S2 := hid (S1.out.put first2 A2 A3 m2 c2 m3 c3)
    have T2 := turn3K w1 k (.int .u64 first2) (.slice A2 m2 c2) (.slice A3 m3 c3)
    have B2 := hid (B1.out.turns T2 (by have := S1.out.lt; omega) (by have := S1.out.lt; omega) (by have := S1.out.lt; omega))
    have D2 := hid (D1.out.put S1.out.bk (.int .u64 first2) (.slice A2 m2 c2) (.slice A3 m3 c3))
    unfold put3K at S2 B2 D2
    obtain ⟨w2, hw2⟩ : ∃ w2, (((w1.setCell ⟨k, 0, none⟩ (.int .u64 first2)).setCell ⟨k, 1, none⟩ (.slice A2 m2 c2)).setCell ⟨k, 2, none⟩ (.slice A3 m3 c3)) = w2 := ⟨_, rfl⟩
    rw [hw2] at S2 B2 D2 ⊢
    clear hw2 T2 z0 z1 z2
    have dr := below_drew (Below.refl w2.heap.size w2)
    have S3 := hid (S2.out.on dr)
    have B3 := hid (B2.out.on dr)
    have D3 := hid (D2.out.below dr)
    clear dr o1 o2 o3 o4 b0 b1 b2 r0 r1 r2 r3 r4 r5 s0 s1
    have A3' := hid (And.intro S3.out.b0 S3.out.s0)
    have hsub : IntKind.i64.wrap ((ln : Int) - (m2 : Int)) = (ln : Int) - (m2 : Int) := IntWalk.i64_in _ (by omega)
    obtain ⟨hd, hhd⟩ : ∃ x, heldE l o.u o.foot = x := ⟨_, rfl⟩
    rw [hhd] at HDrp
    have HHd := hid hhd
    clear hhd
    have HSm : Hid (first = first2 → l = l2 → cs = cs2 → ((hd : Int) == (ln : Int) - (m2 : Int)) = true) := hid (fun _ e _ => by
      have h := drop_len l2 o.u o.foot
      rw [HLN.out, ← kept_drop l2 ⟨#[]⟩, HM2.out, ← e, HHd.out] at h
      rw [h]
      simp)
    go_region_held3 (fun w' => (w'.cell? ⟨k, 0, none⟩ = some (.int .u64 first2) ∧ w'.cell? ⟨k, 1, none⟩ = some (.slice A2 m2 c2) ∧ w'.cell? ⟨k, 2, none⟩ = some (.slice A3 m3 c3)) ∧ w'.cell? ⟨k + 3, 0, none⟩ = some (.int .u64 o.u) ∧ w'.cell? ⟨k + 3, 1, none⟩ = some (.string o.foot))
      (first | with_reducible exact A3'.out | with_reducible exact A4.out | with_reducible exact A5.out)
      (first
        | (go_at_call 29; (with_reducible refine (HDrp.out _ B3.out).mono ?_); rintro r w4 ⟨rfl, g4, t4⟩; have B4 := hid g4; have t4' := t4.more (T := OwnK de dc) (fun i _ e => .inl e); have S4 := hid (S3.out.turn t4' (fun i e => e)); have D4 := hid (D3.out.turns t4' B3.out.bare); clear g4 t4 t4'; have A4 := hid (And.intro S4.out.b0 S4.out.s0); have A5 := hid (S4.out.far3 (.int .u64 first2) (.slice A2 m2 c2) (.slice A3 m3 c3)); simp only at A5; obtain ⟨⟨r0, r1, r2⟩, r3, r4, r5⟩ := S4.out.r0))
    all_goals go_wp2
    obtain ⟨T1, T2, T3⟩ := S4.out.fin (.int .u64 first2) (.slice A2 m2 c2) (.slice A3 m3 c3)
    have T4 := B4.out.turns T3 (by have := S4.out.lt; omega) (by have := S4.out.lt; omega) (by have := S4.out.lt; omega)
    have T5 := D4.out.put S4.out.rs (.int .u64 first2) (.slice A2 m2 c2) (.slice A3 m3 c3)
    unfold put3K at T1 T2 T4 T5
    obtain ⟨w9, hw9⟩ : ∃ w9, (((w4.setCell ⟨k + 2, 0, none⟩ (.int .u64 first2)).setCell ⟨k + 2, 1, none⟩ (.slice A2 m2 c2)).setCell ⟨k + 2, 2, none⟩ (.slice A3 m3 c3)) = w9 := ⟨_, rfl⟩
    rw [hw9] at T1 T2 T4 T5 ⊢
    clear hw9 r0 r1 r2 r3 r4 r5
    obtain ⟨q0, q1, q2⟩ := lcells3K T1
    refine bodyPost_ret (v := .tuple #[.agg #[.int .u64 first2, .slice A2 m2 c2, .slice A3 m3 c3], .bool ((hd : Int) == (ln : Int) - (m2 : Int))]) (by simp [results, Tryz.results9, go_sem, q0, q1, q2]) rfl ⟨_, ((hd : Int) == (ln : Int) - (m2 : Int)), rfl, ?_, ?_, T2, HSm.out⟩
    · rw [HStp.out.1, HStp.out.2]; exact T4.mono (by omega)
    · rw [HStp2.out.1, HStp2.out.2]; exact T5
  have q3 : (kd == 3) = false := by simpa using h3
  have ho3 : ¬ o.kd = 3 := by rw [HKd.out]; exact h3
  have HStp : Hid (stpL first l cs o = l ∧ stpC first l cs o = cs) := hid (by unfold stpL stpC; rw [if_neg ho1, if_neg ho2, if_neg ho3, if_neg ho1]; exact ⟨rfl, rfl⟩)
  have HStp2 : Hid (stpL first2 l2 cs2 o = l2 ∧ stpC first2 l2 cs2 o = cs2) := hid (by unfold stpL stpC; rw [if_neg ho1, if_neg ho2, if_neg ho3, if_neg ho1]; exact ⟨rfl, rfl⟩)
  clear ho1 ho2 ho3
  go_wp2_with fail
  obtain ⟨T1, T2, T3⟩ := S0.out.fin (.int .u64 first2) (.slice A ln c) (.slice A' nc c')
  have T4 := B0.out.turns T3 (by have := S0.out.lt; omega) (by have := S0.out.lt; omega) (by have := S0.out.lt; omega)
  have T5 := D0.out.put S0.out.rs (.int .u64 first2) (.slice A ln c) (.slice A' nc c')
  unfold put3K at T1 T2 T4 T5
  obtain ⟨w9, hw9⟩ : ∃ w9, (((W.setCell ⟨k + 2, 0, none⟩ (.int .u64 first2)).setCell ⟨k + 2, 1, none⟩ (.slice A ln c)).setCell ⟨k + 2, 2, none⟩ (.slice A' nc c')) = w9 := ⟨_, rfl⟩
  rw [hw9] at T1 T2 T4 T5 ⊢
  clear hw9 r0 r1 r2 r3 r4 r5
  obtain ⟨q0, q1, q2⟩ := lcells3K T1
  refine bodyPost_ret (v := .tuple #[.agg #[.int .u64 first2, .slice A ln c, .slice A' nc c'], .bool true]) (by simp [results, Tryz.results9, go_sem, q0, q1, q2]) rfl ⟨_, true, rfl, ?_, ?_, T2, fun _ _ _ => rfl⟩
  · rw [HStp.out.1, HStp.out.2]; exact T4.mono (by omega)
  · rw [HStp2.out.1, HStp2.out.2]; exact T5
theorem lkstep_same (base b de dc n : Nat) (first : Int) (l : List EnL) (cs : CnL) (v : Value) (first2 : Int) (l2 : List EnL) (cs2 : CnL) (n2 : Nat) (o : OpK) (w : World) (h : BkK w base b de dc n first l cs) (hn : n < 900000)
    (hd : DocK w v first2 l2 cs2) (hg : GoodD n2 first2 l2 cs2) (hn2 : n2 < 900000) (ho : MadeK o) (hp : o.path.size ≤ 100) (hs : first = first2 ∧ l = l2 ∧ cs = cs2) :
    Calls Tryz.prog 9 #[.pointer (some ⟨b, 0, none⟩), v, .agg #[.int .i64 o.kd, .int .i64 o.mo, .string o.path, .int .u64 o.u, .string o.foot]] w (StepOut base b de dc n first l cs first2 l2 cs2 o w) :=
  lkstep_any base b de dc n first l cs v first2 l2 cs2 n2 o w h hn hd hg hn2 ho hp
end Go.Proofs.YtgjbhlianlbflaaGreat
