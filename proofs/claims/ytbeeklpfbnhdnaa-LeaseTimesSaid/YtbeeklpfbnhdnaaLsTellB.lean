/-
  The contract of lease's Tell.
-/
import Derived.Test.YtbeeklpfbnhdnaaLsTold
namespace Go.Proofs.Ytbeeklpfbnhdnaa
open Go.ChangeShapes Go.WideShapes Go.ChangeAt Go.RowKit Go.Maps Go.WideMaps
set_option linter.unusedVariables false
set_option linter.unusedSimpArgs false

/-- A book, a key's, an answer's and a session's box of a call's own; what was turned lies in S. -/
def Bt (S : Nat → Prop) (w W : World) (b d k q : Nat) (u : Int) (f : ByteArray) (an : AnL) (cs : Array Value) : Prop :=
  (Blk W b 77 #[.map (some d)] ∧ W.heap[d]? = w.heap[d]? ∧ TurnsD S w W ∧ Blk W k 25 #[.int .u64 u, .string f] ∧ Blk W q 89 cs ∧ Blk W (k + 1) 34 (ansC an)) ∧
    (b < k ∧ d < k ∧ k + 1 < q ∧ w.heap.size = k)
section
variable {S : Nat → Prop} {w W W' : World} {b d k q : Nat} {u : Int} {f : ByteArray} {an : AnL} {cs : Array Value}
theorem Bt.on (h : Bt S w W b d k q u f an cs) (hb : Below W.heap.size W W') : Bt S w W' b d k q u f an cs := by
  obtain ⟨⟨h1, h2, h3, h4, h5, h6⟩, h7⟩ := h
  have hl := h5.lt
  exact ⟨⟨h1.below hb h1.lt, (hb.block d (by omega)).trans h2, h3.then hb, h4.below hb h4.lt, h5.below hb hl, h6.below hb h6.lt⟩, h7⟩
theorem Bt.set (h : Bt S w W b d k q u f an cs) (i : Nat) (x : Value) : Bt S w (W.setCell ⟨q, i, none⟩ x) b d k q u f an (cs.setIfInBounds i x) := by
  obtain ⟨⟨h1, h2, h3, h4, h5, h6⟩, h7⟩ := h
  exact ⟨⟨h1.far (by simp; omega) x, (Below.heap_setCell W _ _ d (by simp; omega)).trans h2, h3.set (.inr (by simp; omega)) _, h4.far (by simp; omega) x, h5.set_ i x, h6.far (by simp; omega) x⟩, h7⟩
theorem Bt.up {p : Nat} (h : Bt S w W b d k q u f an cs) (hg : W.grownBy W' (some p)) (hp : S p ∨ k ≤ p) (n1 : p ≠ b) (n2 : p ≠ d) (n3 : p ≠ k) (n4 : p ≠ k + 1) (n5 : p ≠ q) : Bt S w W' b d k q u f an cs := by
  obtain ⟨⟨h1, h2, h3, h4, h5, h6⟩, h7⟩ := h
  have hl := h5.lt
  refine ⟨⟨h1.grown hg (by simp; omega), (hg.block d (by omega) (by simp; omega)).trans h2, ?_, h4.grown hg (by simp; omega), h5.grown hg (by simp; omega), h6.grown hg (by simp; omega)⟩, h7⟩
  refine h3.trans (TurnsD.of_grown (S := fun i => i = p) hg (fun x e => by injection e with e; exact e.symm)) (fun i hi e => ?_)
  subst e
  rcases hp with hp | hp
  · exact hp
  · omega
theorem Bt.box (h : Bt S w W b d k q u f an cs) : Blk W q 89 cs := h.1.2.2.2.2.1
theorem Bt.key (h : Bt S w W b d k q u f an cs) : Blk W k 25 #[.int .u64 u, .string f] := h.1.2.2.2.1
theorem Bt.ans (h : Bt S w W b d k q u f an cs) : Blk W (k + 1) 34 (ansC an) := h.1.2.2.2.2.2
theorem Bt.turns (h : Bt S w W b d k q u f an cs) : TurnsD S w W := h.1.2.2.1
end
theorem lcells3 {w : World} {g : Nat} {t : TypeId} {a b c : Value} (h : Blk w g t #[a, b, c]) : w.cell? ⟨g, 0, none⟩ = some a ∧ w.cell? ⟨g, 1, none⟩ = some b ∧ w.cell? ⟨g, 2, none⟩ = some c :=
  ⟨(h.cell 0).trans rfl, (h.cell 1).trans rfl, (h.cell 2).trans rfl⟩
/-- A store into the map of answers, in whatever world holds it. -/
theorem AnM.put_all {w : World} {b n : Nat} {t : ToldL} (h : AnM w (some b) n t) (hn : n < maxLen) {r : Int} (a : AnL) (ht : RiseT t) (hr : IsU r) (hno : saidL t r = none) (htu : ∀ p ∈ t, IsU p.1) :
    ∃ U : World → World, ∀ w', w'.heap[b]? = w.heap[b]? → (Instr.mapUpdate 87 (.map (some b)) (.int .u64 r) (ansV a)).run Try.prog w' = .ok () (U w') ∧ AnM (U w') (some b) (n + 1) (tellT t r a) ∧ w'.grownBy (U w') (some b) := by
  classical
  refine ⟨fun w' => if e : w'.heap[b]? = w.heap[b]? then ((h.same (w' := w') (fun x hx => by injection hx with hx; rw [← hx]; exact e)).put hn a ht hr hno htu).choose else w', fun w' e => ?_⟩
  simp only [dif_pos e]
  exact ((h.same (w' := w') (fun x hx => by injection hx with hx; rw [← hx]; exact e)).put hn a ht hr hno htu).choose_spec

def tellS (s : SeL) (r : Int) (a : AnL) (p : Nat) : SeL := ⟨s.num, s.foot, s.opn, s.dead, s.dl, s.ttl, tellT s.told r a, some p⟩
/-- May it be told still? -/
def tellP (s : SeL) (r : Int) : Prop := saidL s.told r = none ∧ s.told.length < 256
/-- Behind Tell: nothing was done, or a session with one answer more is stored, its map at p. -/
def TellOut (w w' : World) (base b d n : Nat) (l : List SeL) (s : SeL) (r : Int) (a : AnL) : Prop :=
  TurnsD (fun i => i = d ∨ s.m = some i) w w' ∧ ((¬ tellP s r ∧ BkAt w' base b d (n + 1) l) ∨ (tellP s r ∧ ∃ p, BkAt w' base b d (n + 1) (putL (tellS s r a p) l) ∧ (s.m = some p ∨ w.heap.size ≤ p)))

theorem tell_end {w w9 w' : World} {base b d n p : Nat} {l : List SeL} {u : Int} {f : ByteArray} {r : Int} {a : AnL} (h : BkAt w base b d n l) (hu : IsU u) (hf : OkF f) (hr : IsU r) (hP : tellP (getL l u f) r)
    (hp : (getL l u f).m = some p ∨ w.heap.size ≤ p) (t9 : TurnsD (fun i => i = d ∨ (getL l u f).m = some i) w w9) (hA : AnM w9 (some p) (n + 1) (tellT (getL l u f).told r a)) (hbt : w9.heap[b]? = w.heap[b]?)
    (hM : SsM w' d (n + 1) (putL (tellS (getL l u f) r a p) l)) (t : TurnsD (fun i => i = d) w9 w') : TellOut w w' base b d n l (getL l u f) r a := by
  obtain ⟨g1, g2, g3, g4⟩ := h.got u f
  obtain ⟨k1, k2⟩ := getL_key l u f
  have hpl : ∀ x, (getL l u f).m = some x → x < w.heap.size := fun x hx => by rw [hx] at g1; exact g1.lt
  have hl := h.lt
  have pn : p ≠ b ∧ p ≠ d ∧ base ≤ p := by
    rcases hp with hp | hp
    · exact g3 p hp
    · have := h.low; omega
  refine ⟨t9.trans t (fun i _ e => .inl e), .inr ⟨hP, p, h.put (Nat.le_succ n) hM ⟨by show IsU (getL l u f).num; rw [k1]; exact hu, by show OkF (getL l u f).foot; rw [k2]; exact hf⟩ ⟨?_, ?_, ?_, g2.dl, g2.ttl⟩ ?_ ?_ ?_ ?_, hp⟩⟩
  · exact g2.rise.tell a hP.1
  · intro q hq
    rcases mem_tellT.1 hq with rfl | hq
    · exact hr
    · exact g2.req q hq
  · show (tellT (getL l u f).told r a).length ≤ 256
    rw [tellT_len]
    have := hP.2
    omega
  · exact hA.same (fun x hx => by
      injection hx with hx
      subst hx
      exact t.block p hA.lt pn.2.1)
  · exact (t.block b (by have := t9.size; omega) h.ne).trans hbt
  · intro t' ht' hne x hx
    have hx1 : x < w.heap.size := by have := h.ans t' ht'; rw [hx] at this; exact this.lt
    have hne' : ¬ (u = t'.num ∧ f = t'.foot) := fun ⟨e1, e2⟩ => hne ⟨k1.trans e1, k2.trans e2⟩
    have hxp : x ≠ p := by
      rintro rfl
      rcases hp with hp | hp
      · exact g4 t' ht' hne' x hx hp
      · omega
    refine ⟨(t.block x (by have := t9.size; omega) (h.far t' ht' x hx).2.1).trans (t9.block x hx1 ?_), fun e => ?_⟩
    · rintro (e | e)
      · exact (h.far t' ht' x hx).2.1 e
      · exact g4 t' ht' hne' x hx e
    · injection e with e
      exact hxp e.symm
  · intro x hx
    injection hx with hx
    subst hx
    exact pn

set_option maxRecDepth 100000 in
set_option maxHeartbeats 4000000 in
theorem ltell_any (base b d n : Nat) (l : List SeL) (u : Int) (f : ByteArray) (r : Int) (a : AnL) (w : World) (h : BkAt w base b d n l) (hn : n ≤ 1000000) (hu : IsU u) (hf : OkF f) (hr : IsU r) :
    Calls Try.prog 25 #[.pointer (some ⟨b, 0, none⟩), sesV u f, .int .u64 r, ansV a] w fun e w' => e = .returned (.tuple #[]) ∧ TellOut w w' base b d n l (getL l u f) r a := by
  have HB := hid h.blk
  have HL := hid h.lt
  have HU := hid (h.map.look_all hu hf)
  have HBK := hid h
  have HMl : Hid (∀ x, (getL l u f).m = some x → x < w.heap.size) := hid (fun x hx => by have := (h.got u f).1; rw [hx] at this; exact this.lt)
  have HTo := hid (fun w' (k : Below w.heap.size w w') => ltold_any base b d n l u f r w' (h.on k) hu hf hr)
  have HRo := hid (fun w' (k : Below w.heap.size w w') => lroom_any base b d n l u f w' (h.on k) hu hf)
  have HGot := hid (h.got u f)
  obtain ⟨hsu, hsf⟩ := getL_key l u f
  have HSet := hid (fun p w' hb hm => lset_any b d n l (tellS (getL l u f) r a p) w' hb (h.map.same hm) (by unfold maxLen; omega) h.keys h.rise (by show IsU (getL l u f).num; rw [hsu]; exact hu) (by show OkF (getL l u f).foot; rw [hsf]; exact hf))
  have HEnd := hid (fun w9 w' p => tell_end (w9 := w9) (w' := w') (p := p) (a := a) h hu hf hr)
  have HN := hid hn
  have HR := hid hr
  obtain ⟨s, hs⟩ : ∃ s, getL l u f = s := ⟨_, rfl⟩
  rw [hs] at HU HMl HTo HRo HGot HSet HEnd hsu hsf ⊢
  clear hs h hu hf hr hn
  obtain ⟨an, han⟩ : ∃ x, toldA s r = x := ⟨_, rfl⟩
  rw [han] at HTo
  clear han
  simp only [tellS, cellsL, tellT_len] at HSet
  rw [hsu, hsf] at HSet
  go_enter Try.func25, Try.ntmps25
  go_upto_region 1 with fail
  obtain ⟨W, hW⟩ : ∃ W, (w.alloc (.cells #[.int .u64 u, .string f] 25)).alloc (.cells #[.int .i64 a.e, .int .u64 a.n, .bool a.g] 34) = W := ⟨_, rfl⟩
  rw [hW]
  obtain ⟨K0, K1, KB⟩ := ltwo_new hW
  clear hW
  obtain ⟨k, hk⟩ : ∃ k, w.heap.size = k := ⟨_, rfl⟩
  rw [hk] at K0 K1 HL ⊢
  have HK := hid hk
  have hbk := HL.out
  obtain ⟨c0, c1⟩ := lcells2 K0.out
  go_upto_region 2 with (first
    | (go_at_call 15; (with_reducible refine (HTo.out _ KB.out).mono ?_); rintro e w1 ⟨rfl, hb1⟩; have KB1 := hid (below_on KB.out hb1); have K01 := hid (K0.out.below hb1 K0.out.lt); have K11 := hid (K1.out.below hb1 K1.out.lt); clear hb1))
  obtain ⟨W1, hW1⟩ : ∃ W1, w1.alloc (.cells #[.int .i64 an.e, .int .u64 an.n, .bool an.g] 34) = W1 := ⟨_, rfl⟩
  obtain ⟨_, BA⟩ := lone_new hW1
  have K02 := hid (K01.out.below BA.out K01.out.lt)
  have K12 := hid (K11.out.below BA.out K11.out.lt)
  have KB2 : Hid (Below w.heap.size w W1) := hid (below_on KB1.out BA.out)
  rw [hW1]
  clear hW1 BA K0 K1 K01 K11 KB KB1 c0 c1
  obtain ⟨c0, c1⟩ := lcells2 K02.out
  obtain ⟨tb, htb⟩ : ∃ x, (saidL s.told r).isSome = x := ⟨_, rfl⟩
  rw [htb] at HTo ⊢
  cases tb with
  | true =>
    have HP : Hid (¬ tellP s r) := hid (fun hp => by rw [hp.1] at htb; cases htb)
    clear htb
    go_wp2
    refine bodyPost_ret (results_none rfl _ _ _) rfl ?_
    exact ⟨rfl, TurnsD.of_below KB2.out, .inl ⟨HP.out, (HBK.out.on KB2.out).mono (Nat.le_succ n)⟩⟩
  | false =>
  have HNo : Hid (saidL s.told r = none) := hid (by simpa using htb)
  clear htb
  obtain ⟨ro, hro⟩ : ∃ x, roomL s = x := ⟨_, rfl⟩
  rw [hro] at HRo
  cases ro with
  | false =>
    have HP : Hid (¬ tellP s r) := hid (fun hp => by unfold roomL at hro; simp at hro; have := hp.2; omega)
    clear hro
    go_wp2_with (first
      | (go_at_call 26; (with_reducible refine (HRo.out _ KB2.out).mono ?_); rintro e w2 ⟨rfl, hb2⟩; have KB3 := hid (below_on KB2.out hb2); clear hb2))
    refine bodyPost_ret (results_none rfl _ _ _) rfl ?_
    exact ⟨rfl, TurnsD.of_below KB3.out, .inl ⟨HP.out, (HBK.out.on KB3.out).mono (Nat.le_succ n)⟩⟩
  | true =>
  have HP : Hid (tellP s r) := hid ⟨HNo.out, by unfold roomL at hro; simpa using hro⟩
  clear hro
  go_upto_region 3 with (first
    | (go_at_call 26; (with_reducible refine (HRo.out _ KB2.out).mono ?_); rintro e w2 ⟨rfl, hb2⟩; have KB3 := hid (below_on KB2.out hb2); have K03 := hid (K02.out.below hb2 K02.out.lt); have K13 := hid (K12.out.below hb2 K12.out.lt); clear hb2))
  clear c0 c1 K02 K12 KB2 HTo HRo
  generalize w2 = W at *
  have KB : Hid (Below k w W) := hid (by rw [← HK.out]; exact KB3.out)
  have K0 := hid K03.out
  have HB1 : Hid (Blk W b 77 #[.map (some d)]) := hid (HB.out.below KB.out hbk.1)
  have HM1 : Hid (W.heap[d]? = w.heap[d]?) := hid (KB.out.block d hbk.2)
  have KL : Hid (k < W.heap.size) := hid K0.out.lt
  have KL2 : Hid (k + 1 < W.heap.size) := hid K13.out.lt
  have LK := hid (len_ses (.int .u64 u) (.string f))
  have LS := hid (len_sess s)
  refine wp_region_held_drew (S := fun w' => Blk w' b 77 #[.map (some d)] ∧ Blk w' k 25 #[.int .u64 u, .string f] ∧ w'.heap[d]? = w.heap[d]?) (by kernel_rfl) (by exact ⟨HB1.out.drew, K0.out.drew, HM1.out⟩) (fun hHeld => ?_)
  refine tl 0 ?_ rfl ?_ hHeld ?_
  rotate_left 1
  focus (intro w' hSw; go_simp; try with_reducible rfl)
  try simp only [Act.put, List.getElem_toArray, List.getElem_cons_zero, List.getElem_cons_succ, List.setIfInBounds_toArray, List.set_cons_zero, List.set_cons_succ]
  refine tl 1 ?_ rfl ?_ hHeld ?_
  rotate_left 1
  focus (intro w' hSw; go_simp; try with_reducible rfl)
  try simp only [Act.put, List.getElem_toArray, List.getElem_cons_zero, List.getElem_cons_succ, List.setIfInBounds_toArray, List.set_cons_zero, List.set_cons_succ]
  refine tl 2 ?_ rfl ?_ hHeld ?_
  rotate_left 1
  focus (intro w' hSw; go_simp; try with_reducible rfl)
  try simp only [Act.put, List.getElem_toArray, List.getElem_cons_zero, List.getElem_cons_succ, List.setIfInBounds_toArray, List.set_cons_zero, List.set_cons_succ]
  refine tl 3 ?_ rfl ?_ hHeld ?_
  rotate_left 1
  focus (intro w' hSw; (have q0 : w'.cell? ⟨b, 0, none⟩ = some (.map (some d)) := ((And.left hSw).cell 0).trans rfl); go_simp; try with_reducible rfl)
  try simp only [Act.put, List.getElem_toArray, List.getElem_cons_zero, List.getElem_cons_succ, List.setIfInBounds_toArray, List.set_cons_zero, List.set_cons_succ]
  refine wpAnyH_take (i := 4) (oi := _) (v := .agg (#[.int .u64 u, .string f])) rfl (by kernel_rfl) (by kernel_rfl) (by kernel_rfl) (fun _ _ _ h => h) (lyields_row (by kernel_rfl) 25 (.tmp 5) rfl k rfl 25 (#[.int .u64 u, .string f]) (0, 0) _ (fun _ h => Blk.heap (And.left (And.right h))) Try.underlying25 rfl LK.out) hHeld ?_
  try simp only [Act.put, List.getElem_toArray, List.getElem_cons_zero, List.getElem_cons_succ, List.setIfInBounds_toArray, List.set_cons_zero, List.set_cons_succ]
  refine tl 5 ?_ rfl ?_ hHeld ?_
  rotate_left 1
  focus (intro w' hSw; (have q0 := HU.out w' (And.right (And.right hSw))); go_simp; try with_reducible rfl)
  try simp only [Act.put, List.getElem_toArray, List.getElem_cons_zero, List.getElem_cons_succ, List.setIfInBounds_toArray, List.set_cons_zero, List.set_cons_succ]
  refine wpAnyH_ready (rs := [6]) (by kernel_rfl) (by simp) ?_
  refine AllReadyH.cons (o := _) rfl (fun K hK => ?_) AllReadyH.nil
  go_simp
  have KB3 : Hid (Below W.drew.heap.size W.drew (W.drew.alloc (.cells zrowL 89))) := hid ((Below.refl _ _).alloc (Nat.le_refl _) _)
  have HB3 := hid (HB1.out.drew.alloc (.cells zrowL 89))
  have K3 := hid (K0.out.drew.alloc (.cells zrowL 89))
  have HM3 : Hid ((W.drew.alloc (.cells zrowL 89)).heap[d]? = w.heap[d]?) := hid ((KB3.out.block d (by have := KL.out; have := hbk; show d < W.heap.size; omega)).trans HM1.out)
  have E3 : Hid (Blk (W.drew.alloc (.cells zrowL 89)) W.drew.heap.size 89 zrowL) := hid (Blk.new W.drew 89 zrowL)
  have T3 : Hid (Below k w (W.drew.alloc (.cells zrowL 89))) := hid ((below_drew KB.out).alloc (by have := KL.out; show k ≤ W.heap.size; omega) _)
  refine hK.out _ _ (by exact ⟨HB3.out, K3.out, HM3.out⟩) (fun hHeld => ?_)
  clear hK K
  try simp only [Act.put, List.getElem_toArray, List.getElem_cons_zero, List.getElem_cons_succ, List.setIfInBounds_toArray, List.set_cons_zero, List.set_cons_succ]
  obtain ⟨q, hq⟩ : ∃ q, W.heap.size = q := ⟨_, rfl⟩
  have hkq : k < q := by rw [← hq]; exact KL.out
  have HQ := hid hq
  have T3 : Hid (Below k w ((W.alloc (.cells zrowL 89)).drew)) := T3
  have K3 : Hid (Blk ((W.alloc (.cells zrowL 89)).drew) k 25 #[.int .u64 u, .string f]) := K3
  have HB3 : Hid (Blk ((W.alloc (.cells zrowL 89)).drew) b 77 #[.map (some d)]) := HB3
  have HM3 : Hid (((W.alloc (.cells zrowL 89)).drew).heap[d]? = w.heap[d]?) := HM3
  have E3 : Hid (Blk ((W.alloc (.cells zrowL 89)).drew) W.heap.size 89 zrowL) := E3
  obtain ⟨WA, hWA⟩ : ∃ WA, (W.alloc (.cells zrowL 89)).drew = WA := ⟨_, rfl⟩
  rw [hq] at E3
  rw [hWA] at T3 K3 HB3 HM3 E3
  rw [hWA, hq]
  have HW0 : Hid (∀ g, g < q → WA.heap[g]? = W.heap[g]?) := hid (fun g hg => by rw [← hWA]; exact Below.heap_alloc W _ g (by rw [hq]; exact hg))
  have HZ0 : Hid (q < WA.heap.size) := hid (E3.out.lt)
  clear hWA hq hHeld KB3
  have TR := hid (lturns_setRow WA q (cellsL s))
  have E4 : Hid (Blk (WA.setRow q (cellsL s)) q 89 (cellsL s)) := hid (Blk.rowL E3.out)
  have K4 := hid (K3.out.turns TR.out (by omega))
  have HB4 := hid (HB3.out.turns TR.out (by omega))
  have HM4 : Hid ((WA.setRow q (cellsL s)).heap[d]? = w.heap[d]?) := hid ((TR.out.block d (by have := HZ0.out; omega) (by omega)).trans HM3.out)
  have T4 : Hid (Below k w (WA.setRow q (cellsL s))) := hid (lbelow_setRow T3.out (by omega))
  have HW4 : Hid (∀ g, g < q → (WA.setRow q (cellsL s)).heap[g]? = W.heap[g]?) := hid (fun g hg => (TR.out.block g (by have := HZ0.out; omega) (by omega)).trans (HW0.out g hg))
  refine wpAnyH_ready (rs := [7]) (by kernel_rfl) (by simp) ?_
  refine AllReadyH.cons (o := _) rfl (fun K hK => ?_) AllReadyH.nil
  refine lready_store_row (by kernel_rfl) 89 (.tmp 10) (.tmp 30) rfl q (cellsL s) rfl rfl 89 zrowL E3.out.heap LS.out rfl (by simp [Value.oneCell']) ?_
  refine hK.out _ _ (by exact ⟨HB4.out, K4.out, HM4.out⟩) (fun hHeld => ?_)
  clear hK K
  try simp only [Act.put, List.getElem_toArray, List.getElem_cons_zero, List.getElem_cons_succ, List.setIfInBounds_toArray, List.set_cons_zero, List.set_cons_succ]
  refine wpAnyH_done (by kernel_rfl) ?_ _
  clear hHeld
  obtain ⟨wB, hwB⟩ : ∃ wB, WA.setRow q (cellsL s) = wB := ⟨_, rfl⟩
  rw [hwB] at E4 K4 HB4 HM4 T4 HW4
  rw [hwB]
  clear hwB TR T3 K3 HB3 HM3 E3 HW0 HZ0
  obtain ⟨S, hS⟩ : ∃ S : Nat → Prop, (fun i => i = d ∨ s.m = some i) = S := ⟨_, rfl⟩
  have X1 : Hid (Bt S w wB b d k q u f a (cellsL s)) := hid ⟨⟨HB4.out, HM4.out, TurnsD.of_below (by rw [HK.out]; exact T4.out), K4.out, E4.out, (HW4.out (k + 1) (by have := KL2.out; have := HQ.out; omega)).trans K13.out⟩, hbk.1, hbk.2, by have := KL2.out; have := HQ.out; omega, HK.out⟩
  have HS := hid hS
  have B4 : Hid (Below k w wB) := hid T4.out
  have HLen : Hid (s.told.length < 256) := hid HP.out.2
  clear hS KB3 K03 K13 KB K0 HB1 HM1 KL KL2 LK LS hHeld HB3 K3 HM3 E3 T3 HW4 T4 HM4 HB4 K4 E4 HB HU
  obtain ⟨e0, e1, e2, e3, e4, e5⟩ := lcells6 X1.out.box
  have z5 := X1.out.box.frozen 5
  obtain ⟨mo, hmo⟩ : ∃ x, s.m = x := ⟨_, rfl⟩
  have HMo := hid hmo
  rw [hmo] at e5
  have q22 : ∀ (w : World) (r : Option Nat), (binOp .eql 87 (.map r) (.map none)).run Try.prog w = .ok (.bool r.isNone) w := fun w r => run_eql_map_nil w _ _ _ r Try.underlying87
  cases mo with
  | none =>
    have HT0 : Hid (s.told = []) := hid (by have := HGot.out.1; rw [hmo] at this; exact this)
    clear hmo
    have hmm := @run_makeMap Try.prog
    have BW : Hid (Below wB.heap.size wB (wB.alloc (.map #[] 0))) := hid ((Below.refl _ _).alloc (Nat.le_refl _) _)
    have M0 : Hid (AnM ((wB.alloc (.map #[] 0)).setCell ⟨q, 5, none⟩ (.map (some wB.heap.size))) (some wB.heap.size) n s.told) := hid (by
      rw [HT0.out]
      refine ((AnM.made wB).same (fun x hx => ?_)).mono (Nat.zero_le n)
      injection hx with hx
      subst hx
      exact Below.heap_setCell _ _ _ _ (by have := X1.out.box.lt; simp; omega))
    have X2 := hid ((X1.out.on BW.out).set 5 (.map (some wB.heap.size)))
    have Qlt : Hid (q < wB.heap.size ∧ k < q ∧ k + 1 < q) := hid ⟨X1.out.box.lt, hkq, X1.out.2.2.2.1⟩
    have z6 : (wB.alloc (.map #[] 0)).cell? ⟨q, 5, none⟩ = some (.map none) := ((X1.out.on BW.out).box.cell 5).trans (by simp [HMo.out])
    have z7 := (X1.out.on BW.out).box.frozen 5
    go_upto_region 6 with fail
    obtain ⟨p, hp⟩ : ∃ p, wB.heap.size = p := ⟨_, rfl⟩
    obtain ⟨V, hV⟩ : ∃ V, (wB.alloc (.map #[] 0)).setCell ⟨q, 5, none⟩ (.map (some wB.heap.size)) = V := ⟨_, rfl⟩
    have XV := hid X2.out
    have MV := hid M0.out
    have PN : Hid (p ≠ b ∧ p ≠ d ∧ p ≠ k ∧ p ≠ k + 1 ∧ p ≠ q) := hid (by have := Qlt.out; have := hbk; omega)
    have PS : Hid (S p ∨ k ≤ p) := hid (by have := Qlt.out; omega)
    have PP : Hid (s.m = some p ∨ w.heap.size ≤ p) := hid (by rw [HK.out]; have := Qlt.out; omega)
    rw [hV] at XV MV ⊢
    rw [hp] at XV MV ⊢
    simp only [cellsL, List.setIfInBounds_toArray, List.set_cons_succ, List.set_cons_zero] at XV
    clear e0 e1 e2 e3 e4 e5 z5 z6 z7 hV hp X2 M0 BW X1 B4 Qlt
    obtain ⟨U, hU⟩ := MV.out.put_all (by have := HN.out; unfold maxLen; omega) a HGot.out.2.1.rise HR.out HNo.out HGot.out.2.1.req
    obtain ⟨r1, r2, r3⟩ := hU V rfl
    have R2 := hid r2
    have R3 := hid r3
    obtain ⟨e0, e1, e2, e3, e4, e5⟩ := lcells6 XV.out.box
    obtain ⟨b0, b1, b2⟩ := lcells3 XV.out.ans
    clear r2 r3 hU
    go_upto_region 7 with fail
    generalize U V = V2 at *
    have X6 := hid (XV.out.up R3.out PS.out PN.out.1 PN.out.2.1 PN.out.2.2.1 PN.out.2.2.2.1 PN.out.2.2.2.2)
    clear r1 e0 e1 e2 e3 e4 e5 b0 b1 b2 R3
    obtain ⟨e0, e1, e2, e3, e4, e5⟩ := lcells6 X6.out.box
    have z4 := X6.out.box.frozen 4
    have q3 : IntKind.i64.wrap ((s.told.length : Int) + 1) = (s.told.length : Int) + 1 := IntWalk.i64_in _ (by have := HLen.out; omega)
    go_upto_region 8 with fail
    obtain ⟨V3, hV3⟩ : ∃ V3, V2.setCell ⟨q, 4, none⟩ (.int .i64 ((s.told.length : Int) + 1)) = V3 := ⟨_, rfl⟩
    have X7 := hid (X6.out.set 4 (.int .i64 ((s.told.length : Int) + 1)))
    have A7 : Hid (AnM (V2.setCell ⟨q, 4, none⟩ (.int .i64 ((s.told.length : Int) + 1))) (some p) (n + 1) (tellT s.told r a)) := hid (R2.out.same (fun x hx => by
      injection hx with hx
      subst hx
      exact Below.heap_setCell V2 _ _ _ (by have := PN.out.2.2.2.2; simpa using this)))
    rw [hV3] at X7 A7 ⊢
    clear hV3 e0 e1 e2 e3 e4 e5 z4
    simp only [List.setIfInBounds_toArray, List.set_cons_succ, List.set_cons_zero] at X7
    obtain ⟨e0, e1, e2, e3, e4, e5⟩ := lcells6 X7.out.box
    obtain ⟨c0, c1⟩ := lcells2 X7.out.key
    have HSp := hid (HSet.out p)
    push_cast at HSp
    go_wp2_with (first
      | (go_at_call 40; refine (HSp.out _ X7.out.1.1 X7.out.1.2.1).mono ?_; rintro e w6 ⟨rfl, hm6, t6⟩; have Y6 := hid (And.intro hm6 t6); clear hm6 t6))
    go_end0
    refine ⟨rfl, HEnd.out V3 w6 p HP.out PP.out (by rw [HS.out]; exact X7.out.turns) A7.out ((X7.out.turns.block b (by rw [HK.out]; have := hbk; omega) ?_).trans rfl) (by unfold tellS; rw [hsu, hsf]; exact Y6.out.1) Y6.out.2⟩
    rw [← HS.out]
    rintro (e | e)
    · exact HBK.out.ne e
    · exact (HGot.out.2.2.1 b e).1 rfl
  | some p =>
    have PN : Hid (p ≠ b ∧ p ≠ d ∧ p ≠ k ∧ p ≠ k + 1 ∧ p ≠ q) := hid (by have := HMl.out p hmo; have h2 := HGot.out.2.2.1 p hmo; have := HK.out; omega)
    have PS : Hid (S p ∨ k ≤ p) := hid (by rw [← HS.out]; exact .inl (.inr hmo))
    have PP : Hid (s.m = some p ∨ w.heap.size ≤ p) := hid (.inl hmo)
    have MV : Hid (AnM wB (some p) n s.told) := hid (by
      have h1 := HGot.out.1
      rw [hmo] at h1
      refine h1.same (fun x hx => ?_)
      injection hx with hx
      subst hx
      exact B4.out.block _ (by have := HMl.out _ hmo; have := HK.out; omega))
    clear hmo
    go_upto_region 6 with fail
    have XV := hid X1.out
    simp only [cellsL] at XV
    rw [HMo.out] at XV
    generalize wB = V at *
    clear e0 e1 e2 e3 e4 e5 z5 X1 B4
    obtain ⟨U, hU⟩ := MV.out.put_all (by have := HN.out; unfold maxLen; omega) a HGot.out.2.1.rise HR.out HNo.out HGot.out.2.1.req
    obtain ⟨r1, r2, r3⟩ := hU V rfl
    have R2 := hid r2
    have R3 := hid r3
    obtain ⟨e0, e1, e2, e3, e4, e5⟩ := lcells6 XV.out.box
    obtain ⟨b0, b1, b2⟩ := lcells3 XV.out.ans
    clear r2 r3 hU
    go_upto_region 7 with fail
    generalize U V = V2 at *
    have X6 := hid (XV.out.up R3.out PS.out PN.out.1 PN.out.2.1 PN.out.2.2.1 PN.out.2.2.2.1 PN.out.2.2.2.2)
    clear r1 e0 e1 e2 e3 e4 e5 b0 b1 b2 R3
    obtain ⟨e0, e1, e2, e3, e4, e5⟩ := lcells6 X6.out.box
    have z4 := X6.out.box.frozen 4
    have q3 : IntKind.i64.wrap ((s.told.length : Int) + 1) = (s.told.length : Int) + 1 := IntWalk.i64_in _ (by have := HLen.out; omega)
    go_upto_region 8 with fail
    obtain ⟨V3, hV3⟩ : ∃ V3, V2.setCell ⟨q, 4, none⟩ (.int .i64 ((s.told.length : Int) + 1)) = V3 := ⟨_, rfl⟩
    have X7 := hid (X6.out.set 4 (.int .i64 ((s.told.length : Int) + 1)))
    have A7 : Hid (AnM (V2.setCell ⟨q, 4, none⟩ (.int .i64 ((s.told.length : Int) + 1))) (some p) (n + 1) (tellT s.told r a)) := hid (R2.out.same (fun x hx => by
      injection hx with hx
      subst hx
      exact Below.heap_setCell V2 _ _ _ (by have := PN.out.2.2.2.2; simpa using this)))
    rw [hV3] at X7 A7 ⊢
    clear hV3 e0 e1 e2 e3 e4 e5 z4
    simp only [List.setIfInBounds_toArray, List.set_cons_succ, List.set_cons_zero] at X7
    obtain ⟨e0, e1, e2, e3, e4, e5⟩ := lcells6 X7.out.box
    obtain ⟨c0, c1⟩ := lcells2 X7.out.key
    have HSp := hid (HSet.out p)
    push_cast at HSp
    go_wp2_with (first
      | (go_at_call 40; refine (HSp.out _ X7.out.1.1 X7.out.1.2.1).mono ?_; rintro e w6 ⟨rfl, hm6, t6⟩; have Y6 := hid (And.intro hm6 t6); clear hm6 t6))
    go_end0
    refine ⟨rfl, HEnd.out V3 w6 p HP.out PP.out (by rw [HS.out]; exact X7.out.turns) A7.out ((X7.out.turns.block b (by rw [HK.out]; have := hbk; omega) ?_).trans rfl) (by unfold tellS; rw [hsu, hsf]; exact Y6.out.1) Y6.out.2⟩
    rw [← HS.out]
    rintro (e | e)
    · exact HBK.out.ne e
    · exact (HGot.out.2.2.1 b e).1 rfl
end Go.Proofs.Ytbeeklpfbnhdnaa
