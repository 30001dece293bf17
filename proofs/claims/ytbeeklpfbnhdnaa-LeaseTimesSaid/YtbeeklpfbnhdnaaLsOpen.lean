/-
  The contracts of lease's Open, Keep, End, Expire.
-/
import Derived.Test.YtbeeklpfbnhdnaaLsRange
namespace Go.Proofs.Ytbeeklpfbnhdnaa
open Go.ChangeShapes Go.WideShapes Go.ChangeAt Go.RowKit Go.Maps Go.WideMaps
set_option linter.unusedVariables false
set_option linter.unusedSimpArgs false

abbrev zrowL : Array Value := #[.bool false, .bool false, .int .i64 0, .int .i64 0, .int .i64 0, .map none]
/-- A book, a key's box and a session's box of a call's own. -/
def Bx (w W : World) (b d k q : Nat) (u : Int) (f : ByteArray) (cs : Array Value) : Prop :=
  Blk W b 77 #[.map (some d)] ∧ W.heap[d]? = w.heap[d]? ∧ Below k w W ∧ Blk W k 25 #[.int .u64 u, .string f] ∧ Blk W q 89 cs ∧ b < k ∧ d < k ∧ k < q
section
variable {w W W' : World} {b d k q : Nat} {u : Int} {f : ByteArray} {cs : Array Value}
theorem Bx.on (h : Bx w W b d k q u f cs) (hb : Below W.heap.size W W') : Bx w W' b d k q u f cs := by
  obtain ⟨h1, h2, h3, h4, h5, h6, h7, h8⟩ := h
  have hl := h5.lt
  exact ⟨h1.below hb h1.lt, (hb.block d (by omega)).trans h2, h3.trans (hb.mono (by omega)), h4.below hb h4.lt, h5.below hb hl, h6, h7, h8⟩
theorem Bx.drew (h : Bx w W b d k q u f cs) : Bx w W.drew b d k q u f cs := h.on (below_drew (Below.refl _ _))
theorem Bx.set (h : Bx w W b d k q u f cs) (i : Nat) (x : Value) : Bx w (W.setCell ⟨q, i, none⟩ x) b d k q u f (cs.setIfInBounds i x) := by
  obtain ⟨h1, h2, h3, h4, h5, h6, h7, h8⟩ := h
  exact ⟨h1.far (by simp; omega) x, (Below.heap_setCell W _ _ d (by simp; omega)).trans h2, h3.setCell (by simp; omega) _, h4.far (by simp; omega) x, h5.set_ i x, h6, h7, h8⟩
theorem Bx.low (h : Bx w W b d k q u f cs) : Below k w W := h.2.2.1
theorem Bx.box (h : Bx w W b d k q u f cs) : Blk W q 89 cs := h.2.2.2.2.1
theorem Bx.key (h : Bx w W b d k q u f cs) : Blk W k 25 #[.int .u64 u, .string f] := h.2.2.2.1
end
theorem len_ses (a b : Value) : (Try.prog.info? 25).map (·.size) = some (#[a, b] : Array Value).size := by kernel_rfl
theorem len_sess (s : SeL) : (Try.prog.info? 89).map (·.size) = some (cellsL s).size := by kernel_rfl
/-- What a look-up has given. -/
theorem BkAt.got {w : World} {base b d n : Nat} {l : List SeL} (h : BkAt w base b d n l) (u : Int) (f : ByteArray) :
    AnM w (getL l u f).m n (getL l u f).told ∧ FitS (getL l u f) ∧ (∀ x, (getL l u f).m = some x → x ≠ b ∧ x ≠ d ∧ base ≤ x) ∧
      ∀ t ∈ l, ¬ (u = t.num ∧ f = t.foot) → ∀ x, t.m = some x → (getL l u f).m ≠ some x := by
  unfold getL
  cases hf : findL l u f with
  | none =>
    refine ⟨AnM.nil, ⟨List.Pairwise.nil, fun p hp => (by cases hp), by simp [zeroL], by simp [zeroL], by simp [zeroL]⟩, fun x hx => (by cases hx), fun t ht hne x hx => by simp [zeroL]⟩
  | some s =>
    have hs := findL_mem hf
    refine ⟨h.ans s hs, h.fit s hs, h.far s hs, fun t ht hne x hx hsx => ?_⟩
    have e := h.one t ht s hs x hx hsx
    subst e
    obtain ⟨a, c⟩ := findL_key hf
    exact hne ⟨a.symm, c.symm⟩
theorem BkAt.stored {w w' : World} {base b d n : Nat} {l : List SeL} {u : Int} {f : ByteArray} {s' : SeL} (h : BkAt w base b d n l) (hu : IsU u) (hf : OkF f) (h1 : s'.num = u) (h2 : s'.foot = f) (ht : s'.told = (getL l u f).told) (hm : s'.m = (getL l u f).m)
    (hdl : 0 ≤ s'.dl ∧ s'.dl ≤ 2199023255552) (httl : 0 ≤ s'.ttl ∧ s'.ttl ≤ 2199023255552) (hM : SsM w' d (n + 1) (putL s' l)) (t : TurnsD (fun i => i = d) w w') : BkAt w' base b d (n + 1) (putL s' l) := by
  obtain ⟨g1, g2, g3, g4⟩ := h.got u f
  subst h1 h2
  refine h.put (Nat.le_succ n) hM ⟨hu, hf⟩ ⟨by rw [ht]; exact g2.rise, by rw [ht]; exact g2.req, by rw [ht]; exact g2.few, hdl, httl⟩ ?_ (t.block b h.lt.1 h.ne) (fun t' ht' hne x hx => ⟨t.block x ?_ (h.far t' ht' x hx).2.1, ?_⟩) (fun x hx => g3 x (by rw [← hm]; exact hx))
  · rw [ht, hm]
    refine (g1.same (fun x hx => t.block x ?_ (g3 x hx).2.1)).mono (Nat.le_succ n)
    rw [hx] at g1
    exact g1.lt
  · have := h.ans t' ht'
    rw [hx] at this
    exact this.lt
  · rw [hm]
    exact g4 t' ht' hne x hx

def openE (l : List SeL) (s : SeL) : Int := if s.dead = true then 50 else if s.opn = true then 15 else if 32 ≤ openL l s.foot then 14 else 0
def openS (s : SeL) (ttl time : Int) : SeL := ⟨s.num, s.foot, true, s.dead, cutL (cutL time + cutL ttl), cutL ttl, s.told, s.m⟩
def openB (l : List SeL) (s : SeL) (ttl time : Int) : List SeL := if openE l s = 0 then putL (openS s ttl time) l else l

set_option maxRecDepth 100000 in
set_option maxHeartbeats 4000000 in
theorem lopen_any (base b d n : Nat) (l : List SeL) (u : Int) (f : ByteArray) (ttl time : Int) (w : World) (h : BkAt w base b d n l) (hn : n ≤ 1000000) (hu : IsU u) (hf : OkF f) :
    Calls Try.prog 16 #[.pointer (some ⟨b, 0, none⟩), sesV u f, .int .i64 ttl, .int .i64 time] w fun e w' => e = .returned (.int .i64 (openE l (getL l u f))) ∧ BkAt w' base b d (n + 1) (openB l (getL l u f) ttl time) ∧ TurnsD (fun i => i = d) w w' := by
  have HB := hid h.blk
  have HL := hid h.lt
  have HU := hid (h.map.look_all hu hf)
  have HBK := hid h
  obtain ⟨hsu, hsf⟩ := getL_key l u f
  obtain ⟨fdl, fttl⟩ := And.intro (h.got u f).2.1.dl (h.got u f).2.1.ttl
  have HBS := hid (fun w' => h.stored (w' := w') (u := u) (f := f) (s' := openS (getL l u f) ttl time) hu hf hsu hsf rfl rfl (cutL_le _) (cutL_le _))
  have HSet := hid (fun w' hb hm => lset_any b d n l (openS (getL l u f) ttl time) w' hb (h.map.same hm) (by unfold maxLen; omega) h.keys h.rise (by show IsU (getL l u f).num; rw [hsu]; exact hu) (by show OkF (getL l u f).foot; rw [hsf]; exact hf))
  have HOp := hid (fun w' (k : Below w.heap.size w w') => lopened_any base b d n l f w' (h.on k) hn)
  have HC1 := hid (fun w => lcut_any ttl w)
  have HC2 := hid (fun w => later_any time (cutL ttl) w (cutL_le ttl).1 (cutL_le ttl).2)
  obtain ⟨s, hs⟩ : ∃ s, getL l u f = s := ⟨_, rfl⟩
  rw [hs] at HU HBS HSet hsu hsf fdl fttl ⊢
  have HG := hid hs
  clear hs h
  go_enter Try.func16, Try.ntmps16
  go_upto_region 1 with fail
  obtain ⟨W, hW⟩ : ∃ W, w.alloc (.cells #[.int .u64 u, .string f] 25) = W := ⟨_, rfl⟩
  rw [hW]
  obtain ⟨K0, KB⟩ := lone_new hW
  clear hW
  obtain ⟨k, hk⟩ : ∃ k, w.heap.size = k := ⟨_, rfl⟩
  rw [hk] at K0 KB HL ⊢
  have HK := hid hk
  have hbk := HL.out
  have HB1 := hid (HB.out.below KB.out hbk.1)
  have HM1 : Hid (W.heap[d]? = w.heap[d]?) := hid (KB.out.block d hbk.2)
  have KL : Hid (k < W.heap.size) := hid K0.out.lt
  have LK := hid (len_ses (.int .u64 u) (.string f))
  have LS := hid (len_sess s)
  clear hk
  refine wp_region_held_drew (S := fun w' => Blk w' b 77 #[.map (some d)] ∧ Blk w' k 25 #[.int .u64 u, .string f] ∧ w'.heap[d]? = w.heap[d]?) (by kernel_rfl) (by exact ⟨HB1.out.drew, K0.out.drew, HM1.out⟩) (fun hHeld => ?_)
  refine tl 0 ?_ rfl ?_ hHeld ?_
  rotate_left 1
  focus (intro w' hSw; go_simp; try with_reducible rfl)
  try simp only [Act.put, List.getElem_toArray, List.getElem_cons_zero, List.getElem_cons_succ, List.setIfInBounds_toArray, List.set_cons_zero, List.set_cons_succ]
  refine tl 1 ?_ rfl ?_ hHeld ?_
  rotate_left 1
  focus (intro w' hSw; go_simp; try with_reducible rfl)
  try simp only [Act.put, List.getElem_toArray, List.getElem_cons_zero, List.getElem_cons_succ, List.setIfInBounds_toArray, List.set_cons_zero, List.set_cons_succ]
  refine tl 2 ?_ rfl ?_ hHeld ?_
  rotate_left 1
  focus (intro w' hSw; go_simp; try with_reducible rfl)
  try simp only [Act.put, List.getElem_toArray, List.getElem_cons_zero, List.getElem_cons_succ, List.setIfInBounds_toArray, List.set_cons_zero, List.set_cons_succ]
  refine tl 3 ?_ rfl ?_ hHeld ?_
  rotate_left 1
  focus (intro w' hSw; (have q0 : w'.cell? ⟨b, 0, none⟩ = some (.map (some d)) := ((And.left hSw).cell 0).trans rfl); go_simp; try with_reducible rfl)
  try simp only [Act.put, List.getElem_toArray, List.getElem_cons_zero, List.getElem_cons_succ, List.setIfInBounds_toArray, List.set_cons_zero, List.set_cons_succ]
  refine wpAnyH_take (i := 4) (oi := _) (v := .agg (#[.int .u64 u, .string f])) rfl (by kernel_rfl) (by kernel_rfl) (by kernel_rfl) (fun _ _ _ h => h) (lyields_row (by kernel_rfl) 25 (.tmp 5) rfl k rfl 25 (#[.int .u64 u, .string f]) (0, 0) _ (fun _ h => Blk.heap (And.left (And.right h))) Try.underlying25 rfl LK.out) hHeld ?_
  try simp only [Act.put, List.getElem_toArray, List.getElem_cons_zero, List.getElem_cons_succ, List.setIfInBounds_toArray, List.set_cons_zero, List.set_cons_succ]
  refine tl 5 ?_ rfl ?_ hHeld ?_
  rotate_left 1
  focus (intro w' hSw; (have q0 := HU.out w' (And.right (And.right hSw))); go_simp; try with_reducible rfl)
  try simp only [Act.put, List.getElem_toArray, List.getElem_cons_zero, List.getElem_cons_succ, List.setIfInBounds_toArray, List.set_cons_zero, List.set_cons_succ]
  refine wpAnyH_ready (rs := [6]) (by kernel_rfl) (by simp) ?_
  refine AllReadyH.cons (o := _) rfl (fun K hK => ?_) AllReadyH.nil
  go_simp
  have KB3 : Hid (Below W.drew.heap.size W.drew (W.drew.alloc (.cells zrowL 89))) := hid ((Below.refl _ _).alloc (Nat.le_refl _) _)
  have HB3 := hid (HB1.out.drew.alloc (.cells zrowL 89))
  have K3 := hid (K0.out.drew.alloc (.cells zrowL 89))
  have HM3 : Hid ((W.drew.alloc (.cells zrowL 89)).heap[d]? = w.heap[d]?) := hid ((KB3.out.block d (by have := KL.out; have := hbk; show d < W.heap.size; omega)).trans HM1.out)
  have E3 : Hid (Blk (W.drew.alloc (.cells zrowL 89)) W.drew.heap.size 89 zrowL) := hid (Blk.new W.drew 89 zrowL)
  have T3 : Hid (Below k w (W.drew.alloc (.cells zrowL 89))) := hid ((below_drew KB.out).alloc (by have := KL.out; show k ≤ W.heap.size; omega) _)
  refine hK.out _ _ (by exact ⟨HB3.out, K3.out, HM3.out⟩) (fun hHeld => ?_)
  clear hK K
  try simp only [Act.put, List.getElem_toArray, List.getElem_cons_zero, List.getElem_cons_succ, List.setIfInBounds_toArray, List.set_cons_zero, List.set_cons_succ]
  obtain ⟨q, hq⟩ : ∃ q, W.heap.size = q := ⟨_, rfl⟩
  have hkq : k < q := by rw [← hq]; exact KL.out
  have T3 : Hid (Below k w ((W.alloc (.cells zrowL 89)).drew)) := T3
  have K3 : Hid (Blk ((W.alloc (.cells zrowL 89)).drew) k 25 #[.int .u64 u, .string f]) := K3
  have HB3 : Hid (Blk ((W.alloc (.cells zrowL 89)).drew) b 77 #[.map (some d)]) := HB3
  have HM3 : Hid (((W.alloc (.cells zrowL 89)).drew).heap[d]? = w.heap[d]?) := HM3
  have E3 : Hid (Blk ((W.alloc (.cells zrowL 89)).drew) W.heap.size 89 zrowL) := E3
  obtain ⟨WA, hWA⟩ : ∃ WA, (W.alloc (.cells zrowL 89)).drew = WA := ⟨_, rfl⟩
  rw [hq] at E3
  rw [hWA] at T3 K3 HB3 HM3 E3
  rw [hWA, hq]
  have HW0 : Hid (∀ g, g < q → WA.heap[g]? = W.heap[g]?) := hid (fun g hg => by rw [← hWA]; exact Below.heap_alloc W _ g (by rw [hq]; exact hg))
  have HZ0 : Hid (q < WA.heap.size) := hid (E3.out.lt)
  clear hWA hq hHeld KB3
  have TR := hid (lturns_setRow WA q (cellsL s))
  have E4 : Hid (Blk (WA.setRow q (cellsL s)) q 89 (cellsL s)) := hid (Blk.rowL E3.out)
  have K4 := hid (K3.out.turns TR.out (by omega))
  have HB4 := hid (HB3.out.turns TR.out (by omega))
  have HM4 : Hid ((WA.setRow q (cellsL s)).heap[d]? = w.heap[d]?) := hid ((TR.out.block d (by have := HZ0.out; omega) (by omega)).trans HM3.out)
  have T4 : Hid (Below k w (WA.setRow q (cellsL s))) := hid (lbelow_setRow T3.out (by omega))
  have HW4 : Hid (∀ g, g < q → (WA.setRow q (cellsL s)).heap[g]? = W.heap[g]?) := hid (fun g hg => (TR.out.block g (by have := HZ0.out; omega) (by omega)).trans (HW0.out g hg))
  refine wpAnyH_ready (rs := [7]) (by kernel_rfl) (by simp) ?_
  refine AllReadyH.cons (o := _) rfl (fun K hK => ?_) AllReadyH.nil
  refine lready_store_row (by kernel_rfl) 89 (.tmp 9) (.tmp 15) rfl q (cellsL s) rfl rfl 89 zrowL E3.out.heap LS.out rfl (by simp [Value.oneCell']) ?_
  refine hK.out _ _ (by exact ⟨HB4.out, K4.out, HM4.out⟩) (fun hHeld => ?_)
  clear hK K
  try simp only [Act.put, List.getElem_toArray, List.getElem_cons_zero, List.getElem_cons_succ, List.setIfInBounds_toArray, List.set_cons_zero, List.set_cons_succ]
  refine wpAnyH_done (by kernel_rfl) ?_ _
  clear hHeld
  obtain ⟨wB, hwB⟩ : ∃ wB, WA.setRow q (cellsL s) = wB := ⟨_, rfl⟩
  rw [hwB] at E4 K4 HB4 HM4 T4 HW4
  rw [hwB]
  clear hwB TR T3 K3 HB3 HM3 E3 HW0 HZ0
  obtain ⟨e0, e1, e2, e3, e4, e5⟩ := lcells6 E4.out
  obtain ⟨c0, c1⟩ := lcells2 K4.out
  obtain ⟨op, hop⟩ : ∃ x, s.opn = x := ⟨_, rfl⟩
  obtain ⟨de, hde⟩ : ∃ x, s.dead = x := ⟨_, rfl⟩
  rw [hop] at e0
  rw [hde] at e1
  have X1 : Hid (Bx w wB b d k q u f (cellsL s)) := hid ⟨HB4.out, HM4.out, T4.out, K4.out, E4.out, hbk.1, hbk.2, hkq⟩
  have TW : Hid (Below w.heap.size w wB) := hid (by rw [HK.out]; exact T4.out)
  have T5 : Hid (TurnsD (fun i => i = d) w wB) := hid (TurnsD.of_below (by rw [HK.out]; exact T4.out))
  have HB5 : Hid (BkAt wB base b d n l) := hid (HBK.out.on (by rw [HK.out]; exact T4.out))
  cases de with
  | true =>
    have HE : Hid (openE l s = 50) := hid (by unfold openE; rw [if_pos hde])
    clear hop hde
    go_wp2
    go_ret
    exact ⟨ret_num HE.out.symm, by unfold openB; rw [if_neg (by rw [HE.out]; decide)]; exact HB5.out.mono (Nat.le_succ n), T5.out⟩
  | false =>
  cases op with
  | true =>
    have HE : Hid (openE l s = 15) := hid (by unfold openE; rw [if_neg (by rw [hde]; decide), if_pos hop])
    clear hop hde
    go_wp2
    go_ret
    exact ⟨ret_num HE.out.symm, by unfold openB; rw [if_neg (by rw [HE.out]; decide)]; exact HB5.out.mono (Nat.le_succ n), T5.out⟩
  | false =>
  have HE14 : Hid (32 ≤ openL l f → openE l s = 14) := hid (fun hh => by unfold openE; rw [if_neg (by rw [hde]; decide), if_neg (by rw [hop]; decide), if_pos (by rw [hsf]; exact hh)])
  have HE0 : Hid (¬ 32 ≤ openL l f → openE l s = 0) := hid (fun hh => by unfold openE; rw [if_neg (by rw [hde]; decide), if_neg (by rw [hop]; decide), if_neg (by rw [hsf]; exact hh)])
  have HX0 : Hid (s.opn = false) := hid hop
  have HX1 : Hid (s.dead = false) := hid hde
  have HX : Hid (openS s ttl time = ⟨u, f, true, false, cutL (cutL time + cutL ttl), cutL ttl, s.told, s.m⟩) := hid (by unfold openS; rw [hsu, hsf, hde])
  clear hop hde
  rw [HX.out] at HSet
  simp only [cellsL] at HSet
  obtain ⟨on, hon⟩ : ∃ x, openL l f = x := ⟨_, rfl⟩
  rw [hon] at HOp HE14 HE0
  clear hon
  by_cases hc : 32 ≤ on
  · have hc' : (32 : Int) ≤ on := by omega
    have HE := hid (HE14.out hc)
    clear HE0 HE14
    go_wp2_with (first
      | (go_at_call 37; (with_reducible refine (HOp.out _ TW.out).mono ?_); rintro e w2 ⟨rfl, hb2⟩; have B6 := hid (HB5.out.on hb2); have T6 := hid (T5.out.then hb2); clear hb2))
    go_ret
    exact ⟨ret_num HE.out.symm, by unfold openB; rw [if_neg (by rw [HE.out]; decide)]; exact B6.out.mono (Nat.le_succ n), T6.out⟩
  · have hc' : ¬ (32 : Int) ≤ on := by omega
    have HE := hid (HE0.out hc)
    clear HE0 HE14
    go_upto_region 8 with (first
      | (go_at_call 37; (with_reducible refine (HOp.out _ TW.out).mono ?_); rintro e w2 ⟨rfl, hb2⟩; have X2 := hid (X1.out.on hb2); clear hb2))
    obtain ⟨e0, e1, e2, e3, e4, e5⟩ := lcells6 X2.out.box
    have z0 := X2.out.box.frozen 0
    go_upto_region 9 with fail
    obtain ⟨w3, hw3⟩ : ∃ w3, w2.setCell ⟨q, 0, none⟩ (.bool true) = w3 := ⟨_, rfl⟩
    have X3 := hid (X2.out.set 0 (.bool true))
    rw [hw3] at X3 ⊢
    clear hw3 e0 e1 e2 e3 e4 e5 z0
    simp only [cellsL, List.setIfInBounds_toArray, List.set_cons_succ, List.set_cons_zero] at X3
    obtain ⟨e0, e1, e2, e3, e4, e5⟩ := lcells6 X3.out.box
    have z0 := X3.out.box.frozen 3
    go_upto_region 10 with (first
      | (go_at_call 38; (with_reducible refine (HC1.out _).mono ?_); rintro e w4 ⟨rfl, rfl⟩))
    obtain ⟨w4, hw4⟩ : ∃ w4, w3.setCell ⟨q, 3, none⟩ (.int .i64 (cutL ttl)) = w4 := ⟨_, rfl⟩
    have X4 := hid (X3.out.set 3 (.int .i64 (cutL ttl)))
    rw [hw4] at X4 ⊢
    clear hw4 e0 e1 e2 e3 e4 e5 z0
    simp only [List.setIfInBounds_toArray, List.set_cons_succ, List.set_cons_zero] at X4
    obtain ⟨e0, e1, e2, e3, e4, e5⟩ := lcells6 X4.out.box
    have z0 := X4.out.box.frozen 2
    go_upto_region 11 with (first
      | (go_at_call 39; (with_reducible refine (HC2.out _).mono ?_); rintro e w5 ⟨rfl, rfl⟩))
    obtain ⟨w5, hw5⟩ : ∃ w5, w4.setCell ⟨q, 2, none⟩ (.int .i64 (cutL (cutL time + cutL ttl))) = w5 := ⟨_, rfl⟩
    have X5 := hid (X4.out.set 2 (.int .i64 (cutL (cutL time + cutL ttl))))
    rw [hw5] at X5 ⊢
    clear hw5 e0 e1 e2 e3 e4 e5 z0
    simp only [List.setIfInBounds_toArray, List.set_cons_succ, List.set_cons_zero] at X5
    obtain ⟨e0, e1, e2, e3, e4, e5⟩ := lcells6 X5.out.box
    obtain ⟨c0, c1⟩ := lcells2 X5.out.key
    rw [HX1.out] at e1
    go_wp2_with (first
      | (go_at_call 40; refine (HSet.out _ X5.out.1 X5.out.2.1).mono ?_; rintro e w6 ⟨rfl, hm6, t6⟩; have Y6 := hid (And.intro hm6 t6); clear hm6 t6))
    go_ret
    have T6 : TurnsD (fun i => i = d) w w6 := (TurnsD.of_below (by rw [HK.out]; exact X5.out.low)).trans Y6.out.2 (fun _ _ e => e)
    exact ⟨ret_num HE.out.symm, by unfold openB; rw [if_pos HE.out]; exact HBS.out _ (by rw [HX.out]; exact Y6.out.1) T6, T6⟩

def keepE (l : List SeL) (s : SeL) : Int := if s.opn = true then 0 else 50
def keepS (s : SeL) (time : Int) : SeL := ⟨s.num, s.foot, s.opn, s.dead, (if s.dl < cutL (cutL time + s.ttl) then cutL (cutL time + s.ttl) else s.dl), s.ttl, s.told, s.m⟩
def keepB (l : List SeL) (s : SeL) (time : Int) : List SeL := if s.opn = true then putL (keepS s time) l else l

set_option maxRecDepth 100000 in
set_option maxHeartbeats 4000000 in
theorem lkeep_any (base b d n : Nat) (l : List SeL) (u : Int) (f : ByteArray) (time : Int) (w : World) (h : BkAt w base b d n l) (hn : n ≤ 1000000) (hu : IsU u) (hf : OkF f) :
    Calls Try.prog 17 #[.pointer (some ⟨b, 0, none⟩), sesV u f, .int .i64 time] w fun e w' => e = .returned (.int .i64 (keepE l (getL l u f))) ∧ BkAt w' base b d (n + 1) (keepB l (getL l u f) time) ∧ TurnsD (fun i => i = d) w w' := by
  have HB := hid h.blk
  have HL := hid h.lt
  have HU := hid (h.map.look_all hu hf)
  have HBK := hid h
  obtain ⟨hsu, hsf⟩ := getL_key l u f
  obtain ⟨fdl, fttl⟩ := And.intro (h.got u f).2.1.dl (h.got u f).2.1.ttl
  have HBS := hid (fun w' => h.stored (w' := w') (u := u) (f := f) (s' := keepS (getL l u f) time) hu hf hsu hsf rfl rfl (by have := cutL_le (cutL time + (getL l u f).ttl); unfold keepS; dsimp only; split <;> omega) fttl)
  have HSet := hid (fun w' hb hm => lset_any b d n l (keepS (getL l u f) time) w' hb (h.map.same hm) (by unfold maxLen; omega) h.keys h.rise (by show IsU (getL l u f).num; rw [hsu]; exact hu) (by show OkF (getL l u f).foot; rw [hsf]; exact hf))
  have HC2 := hid (fun w => later_any time (getL l u f).ttl w fttl.1 fttl.2)
  obtain ⟨s, hs⟩ : ∃ s, getL l u f = s := ⟨_, rfl⟩
  rw [hs] at HU HC2 HBS HSet hsu hsf fdl fttl ⊢
  have HG := hid hs
  clear hs h
  go_enter Try.func17, Try.ntmps17
  go_upto_region 1 with fail
  obtain ⟨W, hW⟩ : ∃ W, w.alloc (.cells #[.int .u64 u, .string f] 25) = W := ⟨_, rfl⟩
  rw [hW]
  obtain ⟨K0, KB⟩ := lone_new hW
  clear hW
  obtain ⟨k, hk⟩ : ∃ k, w.heap.size = k := ⟨_, rfl⟩
  rw [hk] at K0 KB HL ⊢
  have HK := hid hk
  have hbk := HL.out
  have HB1 := hid (HB.out.below KB.out hbk.1)
  have HM1 : Hid (W.heap[d]? = w.heap[d]?) := hid (KB.out.block d hbk.2)
  have KL : Hid (k < W.heap.size) := hid K0.out.lt
  have LK := hid (len_ses (.int .u64 u) (.string f))
  have LS := hid (len_sess s)
  clear hk
  refine wp_region_held_drew (S := fun w' => Blk w' b 77 #[.map (some d)] ∧ Blk w' k 25 #[.int .u64 u, .string f] ∧ w'.heap[d]? = w.heap[d]?) (by kernel_rfl) (by exact ⟨HB1.out.drew, K0.out.drew, HM1.out⟩) (fun hHeld => ?_)
  refine tl 0 ?_ rfl ?_ hHeld ?_
  rotate_left 1
  focus (intro w' hSw; go_simp; try with_reducible rfl)
  try simp only [Act.put, List.getElem_toArray, List.getElem_cons_zero, List.getElem_cons_succ, List.setIfInBounds_toArray, List.set_cons_zero, List.set_cons_succ]
  refine tl 1 ?_ rfl ?_ hHeld ?_
  rotate_left 1
  focus (intro w' hSw; go_simp; try with_reducible rfl)
  try simp only [Act.put, List.getElem_toArray, List.getElem_cons_zero, List.getElem_cons_succ, List.setIfInBounds_toArray, List.set_cons_zero, List.set_cons_succ]
  refine tl 2 ?_ rfl ?_ hHeld ?_
  rotate_left 1
  focus (intro w' hSw; go_simp; try with_reducible rfl)
  try simp only [Act.put, List.getElem_toArray, List.getElem_cons_zero, List.getElem_cons_succ, List.setIfInBounds_toArray, List.set_cons_zero, List.set_cons_succ]
  refine tl 3 ?_ rfl ?_ hHeld ?_
  rotate_left 1
  focus (intro w' hSw; (have q0 : w'.cell? ⟨b, 0, none⟩ = some (.map (some d)) := ((And.left hSw).cell 0).trans rfl); go_simp; try with_reducible rfl)
  try simp only [Act.put, List.getElem_toArray, List.getElem_cons_zero, List.getElem_cons_succ, List.setIfInBounds_toArray, List.set_cons_zero, List.set_cons_succ]
  refine wpAnyH_take (i := 4) (oi := _) (v := .agg (#[.int .u64 u, .string f])) rfl (by kernel_rfl) (by kernel_rfl) (by kernel_rfl) (fun _ _ _ h => h) (lyields_row (by kernel_rfl) 25 (.tmp 4) rfl k rfl 25 (#[.int .u64 u, .string f]) (0, 0) _ (fun _ h => Blk.heap (And.left (And.right h))) Try.underlying25 rfl LK.out) hHeld ?_
  try simp only [Act.put, List.getElem_toArray, List.getElem_cons_zero, List.getElem_cons_succ, List.setIfInBounds_toArray, List.set_cons_zero, List.set_cons_succ]
  refine tl 5 ?_ rfl ?_ hHeld ?_
  rotate_left 1
  focus (intro w' hSw; (have q0 := HU.out w' (And.right (And.right hSw))); go_simp; try with_reducible rfl)
  try simp only [Act.put, List.getElem_toArray, List.getElem_cons_zero, List.getElem_cons_succ, List.setIfInBounds_toArray, List.set_cons_zero, List.set_cons_succ]
  refine wpAnyH_ready (rs := [6]) (by kernel_rfl) (by simp) ?_
  refine AllReadyH.cons (o := _) rfl (fun K hK => ?_) AllReadyH.nil
  go_simp
  have KB3 : Hid (Below W.drew.heap.size W.drew (W.drew.alloc (.cells zrowL 89))) := hid ((Below.refl _ _).alloc (Nat.le_refl _) _)
  have HB3 := hid (HB1.out.drew.alloc (.cells zrowL 89))
  have K3 := hid (K0.out.drew.alloc (.cells zrowL 89))
  have HM3 : Hid ((W.drew.alloc (.cells zrowL 89)).heap[d]? = w.heap[d]?) := hid ((KB3.out.block d (by have := KL.out; have := hbk; show d < W.heap.size; omega)).trans HM1.out)
  have E3 : Hid (Blk (W.drew.alloc (.cells zrowL 89)) W.drew.heap.size 89 zrowL) := hid (Blk.new W.drew 89 zrowL)
  have T3 : Hid (Below k w (W.drew.alloc (.cells zrowL 89))) := hid ((below_drew KB.out).alloc (by have := KL.out; show k ≤ W.heap.size; omega) _)
  refine hK.out _ _ (by exact ⟨HB3.out, K3.out, HM3.out⟩) (fun hHeld => ?_)
  clear hK K
  try simp only [Act.put, List.getElem_toArray, List.getElem_cons_zero, List.getElem_cons_succ, List.setIfInBounds_toArray, List.set_cons_zero, List.set_cons_succ]
  obtain ⟨q, hq⟩ : ∃ q, W.heap.size = q := ⟨_, rfl⟩
  have hkq : k < q := by rw [← hq]; exact KL.out
  have T3 : Hid (Below k w ((W.alloc (.cells zrowL 89)).drew)) := T3
  have K3 : Hid (Blk ((W.alloc (.cells zrowL 89)).drew) k 25 #[.int .u64 u, .string f]) := K3
  have HB3 : Hid (Blk ((W.alloc (.cells zrowL 89)).drew) b 77 #[.map (some d)]) := HB3
  have HM3 : Hid (((W.alloc (.cells zrowL 89)).drew).heap[d]? = w.heap[d]?) := HM3
  have E3 : Hid (Blk ((W.alloc (.cells zrowL 89)).drew) W.heap.size 89 zrowL) := E3
  obtain ⟨WA, hWA⟩ : ∃ WA, (W.alloc (.cells zrowL 89)).drew = WA := ⟨_, rfl⟩
  rw [hq] at E3
  rw [hWA] at T3 K3 HB3 HM3 E3
  rw [hWA, hq]
  have HW0 : Hid (∀ g, g < q → WA.heap[g]? = W.heap[g]?) := hid (fun g hg => by rw [← hWA]; exact Below.heap_alloc W _ g (by rw [hq]; exact hg))
  have HZ0 : Hid (q < WA.heap.size) := hid (E3.out.lt)
  clear hWA hq hHeld KB3
  have TR := hid (lturns_setRow WA q (cellsL s))
  have E4 : Hid (Blk (WA.setRow q (cellsL s)) q 89 (cellsL s)) := hid (Blk.rowL E3.out)
  have K4 := hid (K3.out.turns TR.out (by omega))
  have HB4 := hid (HB3.out.turns TR.out (by omega))
  have HM4 : Hid ((WA.setRow q (cellsL s)).heap[d]? = w.heap[d]?) := hid ((TR.out.block d (by have := HZ0.out; omega) (by omega)).trans HM3.out)
  have T4 : Hid (Below k w (WA.setRow q (cellsL s))) := hid (lbelow_setRow T3.out (by omega))
  have HW4 : Hid (∀ g, g < q → (WA.setRow q (cellsL s)).heap[g]? = W.heap[g]?) := hid (fun g hg => (TR.out.block g (by have := HZ0.out; omega) (by omega)).trans (HW0.out g hg))
  refine wpAnyH_ready (rs := [7]) (by kernel_rfl) (by simp) ?_
  refine AllReadyH.cons (o := _) rfl (fun K hK => ?_) AllReadyH.nil
  refine lready_store_row (by kernel_rfl) 89 (.tmp 7) (.tmp 13) rfl q (cellsL s) rfl rfl 89 zrowL E3.out.heap LS.out rfl (by simp [Value.oneCell']) ?_
  refine hK.out _ _ (by exact ⟨HB4.out, K4.out, HM4.out⟩) (fun hHeld => ?_)
  clear hK K
  try simp only [Act.put, List.getElem_toArray, List.getElem_cons_zero, List.getElem_cons_succ, List.setIfInBounds_toArray, List.set_cons_zero, List.set_cons_succ]
  refine wpAnyH_done (by kernel_rfl) ?_ _
  clear hHeld
  obtain ⟨wB, hwB⟩ : ∃ wB, WA.setRow q (cellsL s) = wB := ⟨_, rfl⟩
  rw [hwB] at E4 K4 HB4 HM4 T4 HW4
  rw [hwB]
  clear hwB TR T3 K3 HB3 HM3 E3 HW0 HZ0
  obtain ⟨e0, e1, e2, e3, e4, e5⟩ := lcells6 E4.out
  obtain ⟨c0, c1⟩ := lcells2 K4.out
  obtain ⟨op, hop⟩ : ∃ x, s.opn = x := ⟨_, rfl⟩
  rw [hop] at e0
  have X1 : Hid (Bx w wB b d k q u f (cellsL s)) := hid ⟨HB4.out, HM4.out, T4.out, K4.out, E4.out, hbk.1, hbk.2, hkq⟩
  have T5 : Hid (TurnsD (fun i => i = d) w wB) := hid (TurnsD.of_below (by rw [HK.out]; exact T4.out))
  have HB5 : Hid (BkAt wB base b d n l) := hid (HBK.out.on (by rw [HK.out]; exact T4.out))
  cases op with
  | false =>
    have HE : Hid (keepE l s = 50) := hid (by unfold keepE; rw [hop]; rfl)
    have HO : Hid (s.opn = false) := hid hop
    clear hop
    go_wp2
    go_ret
    exact ⟨ret_num HE.out.symm, by unfold keepB; rw [if_neg (by rw [HO.out]; decide)]; exact HB5.out.mono (Nat.le_succ n), T5.out⟩
  | true =>
  have HE : Hid (keepE l s = 0) := hid (by unfold keepE; rw [hop]; rfl)
  have HO : Hid (s.opn = true) := hid hop
  clear hop
  obtain ⟨mx, hmx⟩ : ∃ x, (if s.dl < cutL (cutL time + s.ttl) then cutL (cutL time + s.ttl) else s.dl) = x := ⟨_, rfl⟩
  have HX : Hid (keepS s time = ⟨u, f, true, s.dead, mx, s.ttl, s.told, s.m⟩) := hid (by unfold keepS; rw [hsu, hsf, hmx, HO.out])
  have HMx := hid (run_maxE Try.prog s.dl (cutL (cutL time + s.ttl)) mx hmx)
  rw [HX.out] at HSet
  simp only [cellsL] at HSet
  clear hmx
  go_upto_region 4 with fail
  clear e0 e1 e2 e3 e4 e5 c0 c1
  have X2 := hid X1.out.drew
  obtain ⟨e0, e1, e2, e3, e4, e5⟩ := lcells6 X2.out.box
  have z0 := X2.out.box.frozen 2
  have q9 := HMx.out wB.drew
  go_still_tail 11, (by kernel_rfl)
  still_call ((HC2.out _).mono (by rintro e w' ⟨rfl, rfl⟩; exact ⟨rfl, rfl⟩))
  repeat still_step
  refine wpStill_nil ?_
  go_upto_region 5 with fail
  obtain ⟨w5, hw5⟩ : ∃ w5, (wB.setCell ⟨q, 2, none⟩ (.int .i64 mx)).drew = w5 := ⟨_, rfl⟩
  have X5 := hid (X1.out.set 2 (.int .i64 mx)).drew
  rw [hw5] at X5 ⊢
  clear hw5 e0 e1 e2 e3 e4 e5 z0
  simp only [cellsL, List.setIfInBounds_toArray, List.set_cons_succ, List.set_cons_zero] at X5
  obtain ⟨e0, e1, e2, e3, e4, e5⟩ := lcells6 X5.out.box
  obtain ⟨c0, c1⟩ := lcells2 X5.out.key
  rw [HO.out] at e0
  go_wp2_with (first
    | (go_at_call 40; refine (HSet.out _ X5.out.1 X5.out.2.1).mono ?_; rintro e w6 ⟨rfl, hm6, t6⟩; have Y6 := hid (And.intro hm6 t6); clear hm6 t6))
  go_ret
  have T6 : TurnsD (fun i => i = d) w w6 := (TurnsD.of_below (by rw [HK.out]; exact X5.out.low)).trans Y6.out.2 (fun _ _ e => e)
  exact ⟨ret_num HE.out.symm, by unfold keepB; rw [if_pos HO.out]; exact HBS.out _ (by rw [HX.out]; exact Y6.out.1) T6, T6⟩

def endE (l : List SeL) (s : SeL) : Int := if s.opn = true then 0 else 50
def endS (s : SeL) : SeL := ⟨s.num, s.foot, false, true, 0, 0, s.told, s.m⟩
def endB (l : List SeL) (s : SeL) : List SeL := if s.opn = true then putL (endS s) l else l

set_option maxRecDepth 100000 in
set_option maxHeartbeats 4000000 in
theorem lend_any (base b d n : Nat) (l : List SeL) (u : Int) (f : ByteArray) (w : World) (h : BkAt w base b d n l) (hn : n ≤ 1000000) (hu : IsU u) (hf : OkF f) :
    Calls Try.prog 27 #[.pointer (some ⟨b, 0, none⟩), sesV u f] w fun e w' => e = .returned (.int .i64 (endE l (getL l u f))) ∧ BkAt w' base b d (n + 1) (endB l (getL l u f)) ∧ TurnsD (fun i => i = d) w w' := by
  have HB := hid h.blk
  have HL := hid h.lt
  have HU := hid (h.map.look_all hu hf)
  have HBK := hid h
  obtain ⟨hsu, hsf⟩ := getL_key l u f
  obtain ⟨fdl, fttl⟩ := And.intro (h.got u f).2.1.dl (h.got u f).2.1.ttl
  have HBS := hid (fun w' => h.stored (w' := w') (u := u) (f := f) (s' := endS (getL l u f)) hu hf hsu hsf rfl rfl (by simp [endS]) (by simp [endS]))
  have HSet := hid (fun w' hb hm => lset_any b d n l (endS (getL l u f)) w' hb (h.map.same hm) (by unfold maxLen; omega) h.keys h.rise (by show IsU (getL l u f).num; rw [hsu]; exact hu) (by show OkF (getL l u f).foot; rw [hsf]; exact hf))
  obtain ⟨s, hs⟩ : ∃ s, getL l u f = s := ⟨_, rfl⟩
  rw [hs] at HU HBS HSet hsu hsf fdl fttl ⊢
  have HG := hid hs
  clear hs h
  go_enter Try.func27, Try.ntmps27
  go_upto_region 1 with fail
  obtain ⟨W, hW⟩ : ∃ W, w.alloc (.cells #[.int .u64 u, .string f] 25) = W := ⟨_, rfl⟩
  rw [hW]
  obtain ⟨K0, KB⟩ := lone_new hW
  clear hW
  obtain ⟨k, hk⟩ : ∃ k, w.heap.size = k := ⟨_, rfl⟩
  rw [hk] at K0 KB HL ⊢
  have HK := hid hk
  have hbk := HL.out
  have HB1 := hid (HB.out.below KB.out hbk.1)
  have HM1 : Hid (W.heap[d]? = w.heap[d]?) := hid (KB.out.block d hbk.2)
  have KL : Hid (k < W.heap.size) := hid K0.out.lt
  have LK := hid (len_ses (.int .u64 u) (.string f))
  have LS := hid (len_sess s)
  clear hk
  refine wp_region_held_drew (S := fun w' => Blk w' b 77 #[.map (some d)] ∧ Blk w' k 25 #[.int .u64 u, .string f] ∧ w'.heap[d]? = w.heap[d]?) (by kernel_rfl) (by exact ⟨HB1.out.drew, K0.out.drew, HM1.out⟩) (fun hHeld => ?_)
  refine tl 0 ?_ rfl ?_ hHeld ?_
  rotate_left 1
  focus (intro w' hSw; go_simp; try with_reducible rfl)
  try simp only [Act.put, List.getElem_toArray, List.getElem_cons_zero, List.getElem_cons_succ, List.setIfInBounds_toArray, List.set_cons_zero, List.set_cons_succ]
  refine tl 1 ?_ rfl ?_ hHeld ?_
  rotate_left 1
  focus (intro w' hSw; go_simp; try with_reducible rfl)
  try simp only [Act.put, List.getElem_toArray, List.getElem_cons_zero, List.getElem_cons_succ, List.setIfInBounds_toArray, List.set_cons_zero, List.set_cons_succ]
  refine tl 2 ?_ rfl ?_ hHeld ?_
  rotate_left 1
  focus (intro w' hSw; go_simp; try with_reducible rfl)
  try simp only [Act.put, List.getElem_toArray, List.getElem_cons_zero, List.getElem_cons_succ, List.setIfInBounds_toArray, List.set_cons_zero, List.set_cons_succ]
  refine tl 3 ?_ rfl ?_ hHeld ?_
  rotate_left 1
  focus (intro w' hSw; (have q0 : w'.cell? ⟨b, 0, none⟩ = some (.map (some d)) := ((And.left hSw).cell 0).trans rfl); go_simp; try with_reducible rfl)
  try simp only [Act.put, List.getElem_toArray, List.getElem_cons_zero, List.getElem_cons_succ, List.setIfInBounds_toArray, List.set_cons_zero, List.set_cons_succ]
  refine wpAnyH_take (i := 4) (oi := _) (v := .agg (#[.int .u64 u, .string f])) rfl (by kernel_rfl) (by kernel_rfl) (by kernel_rfl) (fun _ _ _ h => h) (lyields_row (by kernel_rfl) 25 (.tmp 3) rfl k rfl 25 (#[.int .u64 u, .string f]) (0, 0) _ (fun _ h => Blk.heap (And.left (And.right h))) Try.underlying25 rfl LK.out) hHeld ?_
  try simp only [Act.put, List.getElem_toArray, List.getElem_cons_zero, List.getElem_cons_succ, List.setIfInBounds_toArray, List.set_cons_zero, List.set_cons_succ]
  refine tl 5 ?_ rfl ?_ hHeld ?_
  rotate_left 1
  focus (intro w' hSw; (have q0 := HU.out w' (And.right (And.right hSw))); go_simp; try with_reducible rfl)
  try simp only [Act.put, List.getElem_toArray, List.getElem_cons_zero, List.getElem_cons_succ, List.setIfInBounds_toArray, List.set_cons_zero, List.set_cons_succ]
  refine wpAnyH_ready (rs := [6]) (by kernel_rfl) (by simp) ?_
  refine AllReadyH.cons (o := _) rfl (fun K hK => ?_) AllReadyH.nil
  go_simp
  have KB3 : Hid (Below W.drew.heap.size W.drew (W.drew.alloc (.cells zrowL 89))) := hid ((Below.refl _ _).alloc (Nat.le_refl _) _)
  have HB3 := hid (HB1.out.drew.alloc (.cells zrowL 89))
  have K3 := hid (K0.out.drew.alloc (.cells zrowL 89))
  have HM3 : Hid ((W.drew.alloc (.cells zrowL 89)).heap[d]? = w.heap[d]?) := hid ((KB3.out.block d (by have := KL.out; have := hbk; show d < W.heap.size; omega)).trans HM1.out)
  have E3 : Hid (Blk (W.drew.alloc (.cells zrowL 89)) W.drew.heap.size 89 zrowL) := hid (Blk.new W.drew 89 zrowL)
  have T3 : Hid (Below k w (W.drew.alloc (.cells zrowL 89))) := hid ((below_drew KB.out).alloc (by have := KL.out; show k ≤ W.heap.size; omega) _)
  refine hK.out _ _ (by exact ⟨HB3.out, K3.out, HM3.out⟩) (fun hHeld => ?_)
  clear hK K
  try simp only [Act.put, List.getElem_toArray, List.getElem_cons_zero, List.getElem_cons_succ, List.setIfInBounds_toArray, List.set_cons_zero, List.set_cons_succ]
  obtain ⟨q, hq⟩ : ∃ q, W.heap.size = q := ⟨_, rfl⟩
  have hkq : k < q := by rw [← hq]; exact KL.out
  have T3 : Hid (Below k w ((W.alloc (.cells zrowL 89)).drew)) := T3
  have K3 : Hid (Blk ((W.alloc (.cells zrowL 89)).drew) k 25 #[.int .u64 u, .string f]) := K3
  have HB3 : Hid (Blk ((W.alloc (.cells zrowL 89)).drew) b 77 #[.map (some d)]) := HB3
  have HM3 : Hid (((W.alloc (.cells zrowL 89)).drew).heap[d]? = w.heap[d]?) := HM3
  have E3 : Hid (Blk ((W.alloc (.cells zrowL 89)).drew) W.heap.size 89 zrowL) := E3
  obtain ⟨WA, hWA⟩ : ∃ WA, (W.alloc (.cells zrowL 89)).drew = WA := ⟨_, rfl⟩
  rw [hq] at E3
  rw [hWA] at T3 K3 HB3 HM3 E3
  rw [hWA, hq]
  have HW0 : Hid (∀ g, g < q → WA.heap[g]? = W.heap[g]?) := hid (fun g hg => by rw [← hWA]; exact Below.heap_alloc W _ g (by rw [hq]; exact hg))
  have HZ0 : Hid (q < WA.heap.size) := hid (E3.out.lt)
  clear hWA hq hHeld KB3
  have TR := hid (lturns_setRow WA q (cellsL s))
  have E4 : Hid (Blk (WA.setRow q (cellsL s)) q 89 (cellsL s)) := hid (Blk.rowL E3.out)
  have K4 := hid (K3.out.turns TR.out (by omega))
  have HB4 := hid (HB3.out.turns TR.out (by omega))
  have HM4 : Hid ((WA.setRow q (cellsL s)).heap[d]? = w.heap[d]?) := hid ((TR.out.block d (by have := HZ0.out; omega) (by omega)).trans HM3.out)
  have T4 : Hid (Below k w (WA.setRow q (cellsL s))) := hid (lbelow_setRow T3.out (by omega))
  have HW4 : Hid (∀ g, g < q → (WA.setRow q (cellsL s)).heap[g]? = W.heap[g]?) := hid (fun g hg => (TR.out.block g (by have := HZ0.out; omega) (by omega)).trans (HW0.out g hg))
  refine wpAnyH_ready (rs := [7]) (by kernel_rfl) (by simp) ?_
  refine AllReadyH.cons (o := _) rfl (fun K hK => ?_) AllReadyH.nil
  refine lready_store_row (by kernel_rfl) 89 (.tmp 5) (.tmp 11) rfl q (cellsL s) rfl rfl 89 zrowL E3.out.heap LS.out rfl (by simp [Value.oneCell']) ?_
  refine hK.out _ _ (by exact ⟨HB4.out, K4.out, HM4.out⟩) (fun hHeld => ?_)
  clear hK K
  try simp only [Act.put, List.getElem_toArray, List.getElem_cons_zero, List.getElem_cons_succ, List.setIfInBounds_toArray, List.set_cons_zero, List.set_cons_succ]
  refine wpAnyH_done (by kernel_rfl) ?_ _
  clear hHeld
  obtain ⟨wB, hwB⟩ : ∃ wB, WA.setRow q (cellsL s) = wB := ⟨_, rfl⟩
  rw [hwB] at E4 K4 HB4 HM4 T4 HW4
  rw [hwB]
  clear hwB TR T3 K3 HB3 HM3 E3 HW0 HZ0
  obtain ⟨e0, e1, e2, e3, e4, e5⟩ := lcells6 E4.out
  obtain ⟨c0, c1⟩ := lcells2 K4.out
  obtain ⟨op, hop⟩ : ∃ x, s.opn = x := ⟨_, rfl⟩
  rw [hop] at e0
  have X1 : Hid (Bx w wB b d k q u f (cellsL s)) := hid ⟨HB4.out, HM4.out, T4.out, K4.out, E4.out, hbk.1, hbk.2, hkq⟩
  have T5 : Hid (TurnsD (fun i => i = d) w wB) := hid (TurnsD.of_below (by rw [HK.out]; exact T4.out))
  have HB5 : Hid (BkAt wB base b d n l) := hid (HBK.out.on (by rw [HK.out]; exact T4.out))
  cases op with
  | false =>
    have HE : Hid (endE l s = 50) := hid (by unfold endE; rw [hop]; rfl)
    have HO : Hid (s.opn = false) := hid hop
    clear hop
    go_wp2
    go_ret
    exact ⟨ret_num HE.out.symm, by unfold endB; rw [if_neg (by rw [HO.out]; decide)]; exact HB5.out.mono (Nat.le_succ n), T5.out⟩
  | true =>
  have HE : Hid (endE l s = 0) := hid (by unfold endE; rw [hop]; rfl)
  have HO : Hid (s.opn = true) := hid hop
  clear hop
  have HX : Hid (endS s = ⟨u, f, false, true, 0, 0, s.told, s.m⟩) := hid (by unfold endS; rw [hsu, hsf])
  rw [HX.out] at HSet
  simp only [cellsL] at HSet
  go_upto_region 4 with fail
  have F0 := X1.out.box.frozen
  have z0 := F0 0; have z1 := F0 1; have z2 := F0 2; have z3 := F0 3; have z4 := F0 4
  go_upto_region 5 with fail
  obtain ⟨w5, hw5⟩ : ∃ w5, (((((wB.setCell ⟨q, 0, none⟩ (.bool false)).setCell ⟨q, 1, none⟩ (.bool true)).setCell ⟨q, 2, none⟩ (.int .i64 0)).setCell ⟨q, 3, none⟩ (.int .i64 0)).setCell ⟨q, 4, none⟩ (.int .i64 (s.told.length : Int))) = w5 := ⟨_, rfl⟩
  have X5 := hid (((((X1.out.set 0 (.bool false)).set 1 (.bool true)).set 2 (.int .i64 0)).set 3 (.int .i64 0)).set 4 (.int .i64 (s.told.length : Int)))
  rw [hw5] at X5 ⊢
  clear hw5 e0 e1 e2 e3 e4 e5 z0 z1 z2 z3 z4 F0
  simp only [cellsL, List.setIfInBounds_toArray, List.set_cons_succ, List.set_cons_zero] at X5
  obtain ⟨e0, e1, e2, e3, e4, e5⟩ := lcells6 X5.out.box
  obtain ⟨c0, c1⟩ := lcells2 X5.out.key
  go_wp2_with (first
    | (go_at_call 40; refine (HSet.out _ X5.out.1 X5.out.2.1).mono ?_; rintro e w6 ⟨rfl, hm6, t6⟩; have Y6 := hid (And.intro hm6 t6); clear hm6 t6))
  go_ret
  have T6 : TurnsD (fun i => i = d) w w6 := (TurnsD.of_below (by rw [HK.out]; exact X5.out.low)).trans Y6.out.2 (fun _ _ e => e)
  exact ⟨ret_num HE.out.symm, by unfold endB; rw [if_pos HO.out]; exact HBS.out _ (by rw [HX.out]; exact Y6.out.1) T6, T6⟩

def expE (l : List SeL) (s : SeL) (time : Int) : Int := if s.opn = true ∧ time < s.dl then 54 else endE l s
def expB (l : List SeL) (s : SeL) (time : Int) : List SeL := if s.opn = true ∧ time < s.dl then l else endB l s
set_option maxRecDepth 100000 in
set_option maxHeartbeats 4000000 in
theorem lexpire_any (base b d n : Nat) (l : List SeL) (u : Int) (f : ByteArray) (time : Int) (w : World) (h : BkAt w base b d n l) (hn : n ≤ 1000000) (hu : IsU u) (hf : OkF f) :
    Calls Try.prog 19 #[.pointer (some ⟨b, 0, none⟩), sesV u f, .int .i64 time] w fun e w' => e = .returned (.int .i64 (expE l (getL l u f) time)) ∧ BkAt w' base b d (n + 1) (expB l (getL l u f) time) ∧ TurnsD (fun i => i = d) w w' := by
  have HBK := hid h
  have HI := hid (fun w' (k : Below w.heap.size w w') => linfo_any base b d n l u f w' (h.on k) hu hf)
  have HEn := hid (fun w' (k : Below w.heap.size w w') => lend_any base b d n l u f w' (h.on k) hn hu hf)
  clear h hn hu hf
  obtain ⟨s, hs⟩ : ∃ s, getL l u f = s := ⟨_, rfl⟩
  rw [hs] at HI HEn ⊢
  clear hs
  simp only [infoV] at HI
  have KE : Hid (¬ (s.opn = true ∧ time < s.dl) → expE l s time = endE l s ∧ expB l s time = endB l s) := hid (fun hh => by unfold expE expB; rw [if_neg hh, if_neg hh]; exact ⟨rfl, rfl⟩)
  have KL : Hid (s.opn = true ∧ time < s.dl → expE l s time = 54 ∧ expB l s time = l) := hid (fun hh => by unfold expE expB; rw [if_pos hh, if_pos hh]; exact ⟨rfl, rfl⟩)
  go_enter Try.func19, Try.ntmps19
  go_upto_region 1 with fail
  obtain ⟨W, hW⟩ : ∃ W, w.alloc (.cells #[.int .u64 u, .string f] 25) = W := ⟨_, rfl⟩
  rw [hW]
  obtain ⟨K0, KB⟩ := lone_new hW
  clear hW
  obtain ⟨k, hk⟩ : ∃ k, w.heap.size = k := ⟨_, rfl⟩
  rw [hk] at K0 ⊢
  have HK := hid hk
  clear hk
  obtain ⟨c0, c1⟩ := lcells2 K0.out
  go_upto_region 2 with (first
    | (go_at_call 18; (with_reducible refine (HI.out _ KB.out).mono ?_); rintro e w1 ⟨rfl, hb1⟩; have KB1 := hid (below_on KB.out hb1); have K1 := hid (K0.out.below hb1 K0.out.lt); clear hb1))
  obtain ⟨w2, hw2⟩ : ∃ w2, w1.alloc (.cells #[.bool s.opn, .bool s.dead, .int .i64 s.dl, .int .i64 s.ttl, .int .i64 (s.told.length : Int)] 58) = w2 := ⟨_, rfl⟩
  have Z2 := lone_new hw2
  have K2 : Hid (Blk w2 k 25 #[.int .u64 u, .string f]) := hid (K1.out.below Z2.2.out K1.out.lt)
  have KB2 : Hid (Below w.heap.size w w2) := hid (below_on KB1.out Z2.2.out)
  obtain ⟨q, hq⟩ : ∃ q, w1.heap.size = q := ⟨_, rfl⟩
  rw [hq] at Z2 ⊢
  rw [hw2]
  have e0 : w2.cell? ⟨q, 0, none⟩ = some (.bool s.opn) := (Z2.1.out.cell 0).trans rfl
  have e2 : w2.cell? ⟨q, 2, none⟩ = some (.int .i64 s.dl) := (Z2.1.out.cell 2).trans rfl
  clear hw2 hq Z2 c0 c1 K1 KB1 HI
  obtain ⟨c0, c1⟩ := lcells2 K2.out
  by_cases hh : s.opn = true ∧ time < s.dl
  · have HE := hid (KL.out hh)
    obtain ⟨h1, h2⟩ := hh
    rw [h1] at e0
    go_wp2
    go_ret
    exact ⟨ret_num HE.out.1.symm, by rw [HE.out.2]; exact (HBK.out.on KB2.out).mono (Nat.le_succ n), TurnsD.of_below KB2.out⟩
  · have HE := hid (KE.out hh)
    have HHH := hid hh
    clear KL KE
    obtain ⟨op, hop⟩ : ∃ x, s.opn = x := ⟨_, rfl⟩
    rw [hop] at e0
    rw [hop] at hh
    cases op with
    | false =>
      clear hh
      go_wp2_with (first
        | (go_at_call 27; (with_reducible refine (HEn.out _ KB2.out).mono ?_); rintro e w6 ⟨rfl, hm6, t6⟩; have Y6 := hid (And.intro hm6 t6); clear hm6 t6))
      go_ret
      exact ⟨ret_num HE.out.1.symm, by rw [HE.out.2]; exact Y6.out.1, (TurnsD.of_below KB2.out).trans Y6.out.2 (fun _ _ e => e)⟩
    | true =>
      have h2 : ¬ time < s.dl := fun h => hh ⟨rfl, h⟩
      clear hh
      go_wp2_with (first
        | (go_at_call 27; (with_reducible refine (HEn.out _ KB2.out).mono ?_); rintro e w6 ⟨rfl, hm6, t6⟩; have Y6 := hid (And.intro hm6 t6); clear hm6 t6))
      go_ret
      exact ⟨ret_num HE.out.1.symm, by rw [HE.out.2]; exact Y6.out.1, (TurnsD.of_below KB2.out).trans Y6.out.2 (fun _ _ e => e)⟩
end Go.Proofs.Ytbeeklpfbnhdnaa
