/-
  The document's disk (moothillref13), by value: Append, byte by byte.
-/
import Derived.Test.YtmedfcpohmhbbaaERefB
namespace Go.Proofs.Ytmedfcpohmhbbaa
open Go.ChangeShapes Go.WideShapes Go.ChangeAt Go.RowKit
set_option linter.unusedVariables false
set_option linter.unusedSimpArgs false

/-- Behind so many bytes of it. -/
def stA (d : Dk) (k : Nat) (b : List Nat) (i : Nat) : Dk := putD (spentD d i) k (b.take i)
theorem putD_put (d : Dk) (k : Nat) (a b : List Nat) : putD (putD d k a) k b = putD d k (a ++ b) := by
  unfold putD
  simp only [updD_at, updD_upd, List.append_assoc]
theorem putD_nil (d : Dk) (k : Nat) : putD d k [] = d := by
  unfold putD
  rw [List.append_nil, updD_same]
theorem spentD_zero {d : Dk} (h : d.Ok) : spentD d 0 = d := by
  have h0 := h.un0
  cases hA : d.arm with
  | false => exact (spent_off hA 0).1
  | true =>
    rw [(spent_yes hA (n := 0) (by omega)).1]
    cases d
    simp
theorem stA_zero {d : Dk} (h : d.Ok) (k : Nat) (b : List Nat) : stA d k b 0 = d := by
  unfold stA
  rw [spentD_zero h, List.take_zero, putD_nil]
theorem stA_arm (d : Dk) (k : Nat) (b : List Nat) (i : Nat) : (stA d k b i).arm = d.arm := by
  unfold stA putD spentD
  split <;> rfl
theorem doneD_off {d : Dk} (hA : d.arm = false) (n : Nat) : doneD d n = n := (spent_off hA n).2.1
theorem stA_ok {d : Dk} (h : d.Ok) {k : Nat} (hk : k < 2) {b : List Nat} {i : Nat} (hl : (b.length : Int) ≤ leftD d) : (stA d k b i).Ok := by
  refine (spentD_ok h i).put hk ?_
  unfold leftD at hl ⊢
  rw [spentD_sz, spentD_l, List.length_take]
  omega
/-- The next unit isn't there. -/
theorem stA_stop {d : Dk} (h : d.Ok) (k : Nat) (b : List Nat) {i : Nat} (hi : i < b.length) (hd : i ≤ doneD d b.length) (hs : shortD (stA d k b i) 1 = true) :
    doneD d b.length = i ∧ spentD (stA d k b i) 1 = putD (spentD d b.length) k (b.take (doneD d b.length)) ∧ errD d b.length = 40 := by
  have h0 := h.un0
  have hA : d.arm = true := by
    unfold shortD at hs
    rw [stA_arm] at hs
    simp at hs
    exact hs.1
  have hu : (i : Int) ≤ d.un := by
    unfold doneD at hd
    rw [if_pos hA] at hd
    omega
  have e1 := (spent_yes hA hu).1
  have e2 : (stA d k b i).un = d.un - (i : Int) := by unfold stA putD; rw [e1]
  have h2 : d.un = i := by
    unfold shortD at hs
    simp [e2] at hs
    omega
  obtain ⟨q1, q2, q3, _⟩ := spent_no hA h0 (n := b.length) (by omega)
  have hdone : doneD d b.length = i := by omega
  refine ⟨hdone, ?_, q3⟩
  have hA2 : (stA d k b i).arm = true := by rw [stA_arm]; exact hA
  rw [(spent_no hA2 (by omega) (n := 1) (by omega)).1, q1, hdone]
  unfold stA putD
  rw [e1]
/-- It is there. -/
theorem stA_next {d : Dk} (h : d.Ok) (k : Nat) (b : List Nat) {i : Nat} (hi : i < b.length) (hd : i ≤ doneD d b.length) (hs : shortD (stA d k b i) 1 = false) :
    i + 1 ≤ doneD d b.length ∧ putD (spentD (stA d k b i) 1) k [b[i]] = stA d k b (i + 1) := by
  have h0 := h.un0
  have e3 : ∀ d' : Dk, putD (putD d' k (b.take i)) k [b[i]] = putD d' k (b.take (i + 1)) := fun d' => by
    rw [putD_put, List.take_succ_eq_append_getElem hi]
  cases hA : d.arm with
  | false =>
    have hA2 : (stA d k b i).arm = false := by rw [stA_arm]; exact hA
    rw [(spent_off hA2 1).1, doneD_off hA]
    refine ⟨hi, ?_⟩
    unfold stA
    rw [(spent_off hA i).1, (spent_off hA (i + 1)).1]
    exact e3 d
  | true =>
    have hu : (i : Int) ≤ d.un := by
      unfold doneD at hd
      rw [if_pos hA] at hd
      omega
    have e1 := (spent_yes hA hu).1
    have e2 : (stA d k b i).un = d.un - (i : Int) := by unfold stA putD; rw [e1]
    have hA2 : (stA d k b i).arm = true := by rw [stA_arm]; exact hA
    have h2 : (i : Int) + 1 ≤ d.un := by
      unfold shortD at hs
      rw [hA2, e2] at hs
      simp at hs
      omega
    refine ⟨?_, ?_⟩
    · unfold doneD
      rw [if_pos hA]
      omega
    · rw [(spent_yes hA2 (n := 1) (by rw [e2]; omega)).1, e2]
      unfold stA
      rw [e1, (spent_yes hA (n := i + 1) (by omega)).1, ← e3]
      have e4 : d.un - (i : Int) - ((1 : Nat) : Int) = d.un - ((i + 1 : Nat) : Int) := by omega
      rw [e4]
      rfl
theorem stA_last {d : Dk} (h : d.Ok) (k : Nat) (b : List Nat) (hd : b.length ≤ doneD d b.length) : stA d k b b.length = putD (spentD d b.length) k (b.take (doneD d b.length)) ∧ errD d b.length = 0 := by
  have h1 := doneD_le d b.length
  have h2 : doneD d b.length = b.length := by omega
  refine ⟨by rw [h2]; rfl, ?_⟩
  cases hA : d.arm with
  | false => exact (spent_off hA _).2.2.1
  | true =>
    have h0 := h.un0
    refine (spent_yes hA ?_).2.2.1
    unfold doneD at h2
    rw [if_pos hA] at h2
    omega

set_option maxRecDepth 100000 in
set_option maxHeartbeats 2000000 in
theorem refapp_err (sz : Int) (A : Option Addr) (l c : Nat) (B : Option Addr) (m e : Nat) (s t u : Int) (y : Bool) (f q : Int) (C : Option Addr) (n g : Nat) (w : World) (hq : q = if hasD f then (if y then 40 else 0) else 12) (h0 : q ≠ 0) :
    Calls Try.prog 26 #[.agg (rS sz A l c B m e s t u y), .int .i64 f, .slice C n g] w fun e' w' => e' = .returned (.tuple #[.agg (rS sz A l c B m e s t u y), .int .i64 q]) ∧ Below w.heap.size w w' := by
  have HM := hid (fun w => may_raw sz (.slice A l c) (.slice B m e) s t u y f q w hq)
  have h1 : (q != 0) = true := by rw [bne_iff_ne]; exact h0
  clear hq
  go_enter Try.func26, Try.ntmps26
  go_wp2_with fail
  with_reducible refine (HM.out _).mono ?_
  rintro e' w1 ⟨rfl, rfl⟩
  go_wp2_with fail
  go_region_with (go_at_call 31; (with_reducible refine (HM.out _).mono ?_); rintro e' w1 ⟨rfl, rfl⟩)
  all_goals go_wp2
  all_goals refine bodyPost_ret (v := .tuple #[.agg (rS sz A l c B m e s t u y), .int .i64 q]) (by simp [results, Try.results26, go_sem]) rfl ⟨rfl, ?_⟩
  all_goals exact below_drewN (below_four _ _ _ _) 1

set_option maxRecDepth 100000 in
set_option maxHeartbeats 2000000 in
theorem refapp_full (sz : Int) (A : Option Addr) (l c : Nat) (B : Option Addr) (m e : Nat) (s t u : Int) (y : Bool) (f : Int) (C : Option Addr) (n g : Nat) (w : World) (hq : 0 = if hasD f then (if y then 40 else 0) else (12 : Int)) (h0 : sz - (l : Int) - (m : Int) < (n : Int)) (h1 : 0 ≤ sz - (l : Int) - (m : Int)) (h2 : sz ≤ 4194304) :
    Calls Try.prog 26 #[.agg (rS sz A l c B m e s t u y), .int .i64 f, .slice C n g] w fun e' w' => e' = .returned (.tuple #[.agg (rS sz A l c B m e s t u y), .int .i64 14]) ∧ Below w.heap.size w w' := by
  have HM := hid (fun w => may_raw sz (.slice A l c) (.slice B m e) s t u y f 0 w hq)
  clear hq
  go_enter Try.func26, Try.ntmps26
  go_wp2_with fail
  with_reducible refine (HM.out _).mono ?_
  rintro e' w1 ⟨rfl, rfl⟩
  go_wp2
  refine bodyPost_ret (v := .tuple #[.agg (rS sz A l c B m e s t u y), .int .i64 14]) (by simp [results, Try.results26, go_sem]) rfl ⟨rfl, ?_⟩
  exact below_three _ _ _

theorem three_boxes {w W : World} {a b c : Array Value} {T U V : TypeId} (h : ((w.alloc (.cells a T)).alloc (.cells b U)).alloc (.cells c V) = W) :
    Hid (Blk W w.heap.size T a) ∧ Hid (Blk W (w.heap.size + 1) U b) ∧ Hid (Below w.heap.size w W) := by
  subst h
  have h2 := Blk.new (w.alloc (.cells a T)) U b
  rw [show (w.alloc (.cells a T)).heap.size = w.heap.size + 1 by simp] at h2
  exact ⟨hid (((Blk.new w T a).alloc _).alloc _), hid (h2.alloc _), hid (below_three _ _ _)⟩
theorem setRow_turns {S : Nat → Prop} {a w : World} (h : Turns S a w) {g : Nat} (hg : S g ∨ a.heap.size ≤ g) (cs : Array Value) : Turns S a (w.setRow g cs) :=
  ⟨h.os, h.tape, h.output, by simpa using h.size, fun i hi hs => (setRow_other w g i cs (by
    rintro rfl
    rcases hg with hg | hg
    · exact hs hg
    · omega)).trans (h.block i hi hs)⟩
theorem Blk.rowE {w : World} {r : Nat} {T : TypeId} {cs cs' : Array Value} (h : Blk w r T cs) : Blk (w.setRow r cs') r T cs' := setRow_heap w r _ cs' _ _ h.heap
theorem Blk.rowF {w : World} {g r : Nat} {T : TypeId} {cs cs' : Array Value} (h : Blk w g T cs) (hne : g ≠ r) : Blk (w.setRow r cs') g T cs := (setRow_other w r g cs' hne).trans h

/-- The zero disk's cells. -/
def zrC : Array Value := #[.int .i64 0, .slice none 0 0, .slice none 0 0, .int .i64 0, .int .i64 0, .int .i64 0, .bool false]
/-- Between two bytes. -/
def AppAt (S : Nat → Prop) (w wr : World) (p : Nat) (d : Dk) (k : Nat) (b : List Nat) (i : Nat) : Prop :=
  i ≤ doneD d b.length ∧ ∃ x', RefAt (fun j => S j ∨ j = p ∨ j = p + 1) wr (stA d k b i) x' ∧ Blk wr p 34 (rC (stA d k b i) x') ∧ Blk wr (p + 1) 34 zrC ∧ Below p w wr

theorem rC_one {S : Nat → Prop} {w : World} {d d' : Dk} {x : Nat → Value} (h : RefAt S w d x) : (rC d' x).all (·.oneCell') = true := by
  obtain ⟨A, c, B, e, h0, h1⟩ := h.open
  unfold rC
  rw [h0, h1]
  simp [Value.oneCell']
theorem rC_size (d : Dk) (x : Nat → Value) : (Try.prog.info? 34).map (·.size) = some (rC d x).size := by
  show _ = some 7
  kernel_rfl

theorem seesE_one {w : World} {x : Nat} (T : TypeId) : Sees .u8 (w.alloc (.cells #[.int .u8 (x : Int)] T)) (some ⟨w.heap.size, 0, none⟩) [x] := by
  intro j y hj
  match j, hj with
  | 0, hj =>
    simp at hj
    subst hj
    exact ⟨w.heap.size, 0, rfl, by simp, by rw [cell_of_row _ _ _ _ _ _ (heap_alloc_new w _)]; rfl⟩
theorem app_round {S : Nat → Prop} {w W w5 : World} {p : Nat} {d s2 : Dk} {x1 : Nat → Value} {k : Nat} {b : List Nat} {i y : Nat} (hk : k < 2) (hS : ∀ j, S j → j < p) (X : RefAt (fun j => S j ∨ j = p ∨ j = p + 1) W s2 x1) (B : Blk W p 34 (rC s2 x1)) (Z : Blk W (p + 1) 34 zrC) (L : Below p w W) (hb : Below W.heap.size W w5) {v5 : Value}
    (hown : w5.ownsRow W.heap.size 5 1 v5 ((s2.l k).length + 1) (((s2.l k).map fun y : Nat => Value.int .u8 (y : Int)) ++ [y].map fun y : Nat => Value.int .u8 (y : Int))) (hN : i + 1 ≤ doneD d b.length ∧ putD s2 k [y] = stA d k b (i + 1)) :
    AppAt S w (w5.setCell ⟨p, 1 + k, none⟩ v5) p d k b (i + 1) := by
  obtain ⟨h1, h2⟩ := hN
  have hz := Z.lt
  rw [← List.map_append] at hown
  have t5 : Turns (fun j => S j ∨ j = p ∨ j = p + 1) W w5 := Turns.of_below hb
  have t6 : Turns (fun j => S j ∨ j = p ∨ j = p + 1) W (w5.setCell ⟨p, 1 + k, none⟩ v5) := t5.set (.inl (.inr (.inl rfl))) _
  have B5 := B.below hb B.lt
  have hne : v5.ownBlock ≠ some p := fun e => by have := (hown.lt p e).1; have := B.lt; omega
  have own6 : (w5.setCell ⟨p, 1 + k, none⟩ v5).ownsRow W.heap.size 5 1 v5 ((s2.l k).length + 1) ((s2.l k ++ [y]).map fun y : Nat => Value.int .u8 (y : Int)) := hown.kept (row := some p) (only_setCell (World.grownBy.refl _ _) (.inl rfl) _) (.inr hne)
  have hlen : (s2.l k).length + 1 = (s2.l k ++ [y]).length := by simp
  rw [hlen] at own6
  obtain ⟨A, c, hv, hA, hc, hs⟩ := own_slice own6
  have hlt := own6.lt
  rw [hv] at hlt ⊢
  rw [hv] at t6 hs
  refine ⟨h1, updD x1 k (.slice A (s2.l k ++ [y]).length c), ?_, ?_, ?_, ?_⟩
  · rw [← h2]
    refine (X.turns t6 (fun _ _ h => h)).turn k hA hc (Apart.of_sees hs (fun b o e _ hb => ?_))
    subst e
    have := (hlt b rfl).1
    rcases hb with hb | hb | hb
    · have := hS b hb; omega
    · omega
    · omega
  · rw [← h2]
    have := B5.set_ (1 + k) (.slice A (s2.l k ++ [y]).length c)
    rw [rC_set s2 x1 _ (s2.l k ++ [y]) k hk] at this
    exact this
  · exact (Z.below hb Z.lt).far (p := ⟨p, 1 + k, none⟩) (by simp) _
  · exact (L.trans (hb.mono (by omega))).setCell (p := ⟨p, 1 + k, none⟩) (Nat.le_refl _) _

set_option maxRecDepth 100000 in
set_option maxHeartbeats 4000000 in
theorem refapp_ok {S : Nat → Prop} (d : Dk) (x : Nat → Value) (k : Nat) (f : Int) (C : Option Addr) (b : List Nat) (n cb : Nat) (w : World) (h : RefAt S w d x) (hS : ∀ j, S j → j < w.heap.size) (ho : d.Ok) (hd : d.dn = false) (hk : k < 2) (hf : f = k) (hn : b.length = n) (hl : (n : Int) ≤ leftD d) (hb : Sees .u8 w C b) :
    Calls Try.prog 26 #[rV d x, .int .i64 f, .slice C n cb] w (RefDoesD S (putD (spentD d n) k (b.take (doneD d n))) (errD d n) w) := by
  subst hf
  obtain ⟨A0, c0, B0, e0, hr⟩ := rC_raw h
  have r0 := hr d rfl
  have HM := hid (fun w => may_raw d.sz (.slice A0 (d.l 0).length c0) (.slice B0 (d.l 1).length e0) (d.s 0) (d.s 1) (unR d) d.dn k 0 w (mayD_at hk hd).symm)
  have h0 := ho.sz0
  have h1 := ho.sz1
  have h2 := ho.room
  have hl2 : (n : Int) ≤ d.sz - ((d.l 0).length : Int) - ((d.l 1).length : Int) := hl
  have HX := hid h
  have HS := hid hS
  have HO := hid ho
  have HB := hid hb
  have HN := hid hn
  have HL := hid (hn ▸ hl : (b.length : Int) ≤ leftD d)
  show Calls Try.prog _ #[.agg (rC d x), _, _] w _
  rw [r0]
  have R0 := hid r0
  clear h hS ho hb hr r0 hl hd hn
  go_enter Try.func26, Try.ntmps26
  go_wp2_with fail
  with_reducible refine (HM.out _).mono ?_
  rintro e' w1 ⟨rfl, rfl⟩
  clear HM
  go_upto_region 5 with fail
  obtain ⟨W, hW⟩ : ∃ W, ((w.alloc (.cells (rS d.sz A0 (d.l 0).length c0 B0 (d.l 1).length e0 (d.s 0) (d.s 1) (unR d) d.dn) 34)).alloc (.cells #[.int .i64 0, .slice none 0 0, .slice none 0 0, .int .i64 0, .int .i64 0, .int .i64 0, .bool false] 34)).alloc (.cells (rA d.sz (.slice A0 (d.l 0).length c0) (.slice B0 (d.l 1).length e0) (d.s 0) (d.s 1) (unR d) d.dn) 34) = W := ⟨_, rfl⟩
  rw [hW]
  obtain ⟨K0, K1, KB⟩ := three_boxes hW
  rw [← R0.out] at K0
  clear hW
  have HBw := hid (HB.out.below KB.out)
  have X0 : Hid (RefAt (fun j => S j ∨ j = w.heap.size ∨ j = w.heap.size + 1) W d x) := hid (fun i hi => by
    obtain ⟨A, c, q1, q2, q3, q4⟩ := HX.out i hi
    refine ⟨A, c, q1, q2, q3, fun j y hj => ?_⟩
    obtain ⟨bb, o, r1, r2, r3, r4⟩ := q4 j y hj
    refine ⟨bb, o, r1, Nat.lt_of_lt_of_le r2 KB.out.size, fun e => ?_, (KB.out.cell (by exact r2)).trans r4⟩
    rcases e with e | e | e
    · exact r3 e
    · omega
    · omega)
  obtain ⟨p, hp⟩ : ∃ p, w.heap.size = p := ⟨_, rfl⟩
  rw [hp] at K0 K1 KB X0
  rw [hp]
  have HP := hid hp
  have C0 : Hid (AppAt S w W p d k b 0) := hid ⟨Nat.zero_le _, x, by rw [stA_zero HO.out]; exact X0.out, by rw [stA_zero HO.out]; exact K0.out, K1.out, KB.out⟩
  have HBp : Hid (Sees .u8 w C b) := HB
  clear hp X0 K0 K1 KB R0 HX HBw HB
  obtain ⟨i0, hi, hz0, hz1, hz2⟩ := info_parts info_u8
  have HI := hid (And.intro hi (And.intro hz0 (And.intro hz1 hz2)))
  clear hi hz0 hz1 hz2
  go_wp2_with fail
  go_loopw [8] (fun iv wr => ∃ i : Nat, i ≤ n ∧ iv = .int .i64 i ∧ Hid (AppAt S w wr p d k b i)) (fun iv _ => n - (intOf iv).toNat)
  case atStart => exact ⟨0, Nat.zero_le _, rfl, C0⟩
  case round =>
    clear C0
    obtain ⟨i, hi, rfl, HC⟩ := hrel
    obtain ⟨hdone, x1, X1, B1, Z1, L1⟩ := HC.out
    have DX := hid X1
    have DB := hid B1
    have DZ := hid Z1
    have DL := hid L1
    have HD := hid hdone
    have HOK := hid (stA_ok (i := i) HO.out hk HL.out)
    clear X1 B1 Z1 L1 hdone HC
    have hn9 : (n : Int) ≤ 4194304 := by omega
    by_cases hlt : i < n
    · have hib : i < b.length := by rw [HN.out]; exact hlt
      obtain ⟨bb, o, rfl, hbb, hcell⟩ := HBp.out i b[i] (List.getElem?_eq_getElem hib)
      have hbp : bb < p := by rw [← HP.out]; exact hbb
      have HBC : Hid (w.cell? ⟨bb, o + i, none⟩ = some (.int .u8 ((b[i] : Nat) : Int))) := hid hcell
      obtain ⟨y, hy⟩ : ∃ y, b[i] = y := ⟨_, rfl⟩
      have HStop := hid (stA_stop HO.out k b hib HD.out)
      have HNext := hid (stA_next HO.out k b hib HD.out)
      rw [hy] at HBC HNext
      have HU := hid (fun w => unit_any _ x1 w _ DX.out HOK.out)
      obtain ⟨st, hst⟩ : ∃ s, stA d k b i = s := ⟨_, rfl⟩
      rw [hst] at HU HStop HNext DX DB HOK
      obtain ⟨s2, hs2⟩ : ∃ s, spentD st 1 = s := ⟨_, rfl⟩
      have HSL : Hid (s2.l = st.l) := hid (by rw [← hs2]; exact spentD_l st 1)
      have HS2 : Hid (s2.Ok) := hid (by rw [← hs2]; exact spentD_ok HOK.out 1)
      rw [hs2] at HU HStop HNext
      obtain ⟨sh, hsh⟩ : ∃ s, shortD st 1 = s := ⟨_, rfl⟩
      rw [hsh] at HU HStop HNext
      have T1 := hid (rC_size st x1)
      have T2 := hid (rC_size s2 x1)
      have T3 : Hid ((rC st x1).size = (rC s2 x1).size) := hid rfl
      have T4 := hid (rC_one (d' := s2) DX.out)
      have T5 : Hid (zrC.size = (rC s2 x1).size) := hid rfl
      clear hcell hbb hst hs2 hsh hy
      go_wp2_with (first
        | (with_reducible refine wpList_load_row (o := ⟨some 42, _, _, _, _, _⟩) rfl 34 (.tmp 3) rfl p rfl 34 (rC st x1) (0, 0) _ DB.out.heap Try.underlying34 rfl T1.out ?_))
      with_reducible refine (HU.out _).mono ?_
      rintro e1 w1 ⟨rfl, hb1⟩
      have EX := hid (DX.out.on hb1)
      have EB := hid (DB.out.below hb1 DB.out.lt)
      have EZ := hid (DZ.out.below hb1 DZ.out.lt)
      have EL := hid (DL.out.trans (hb1.mono (by have := DB.out.lt; omega)))
      clear hb1 DX DB DZ DL HU
      go_upto_region 10 with (first
        | (with_reducible refine wpList_store_row (o := ⟨none, _, _, _, _, _⟩) rfl 34 (.tmp 3) (.tmp 44) rfl p (rC s2 x1) rfl rfl 34 _ EB.out.heap T2.out T3.out T4.out ?_))
      have tw : Turns (fun j => S j ∨ j = p ∨ j = p + 1) w1 (w1.setRow p (rC s2 x1)) := setRow_turns (Turns.refl _ _) (.inl (.inr (.inl rfl))) _
      obtain ⟨W1, hW1⟩ : ∃ W1, w1.setRow p (rC s2 x1) = W1 := ⟨_, rfl⟩
      rw [hW1] at tw
      rw [hW1]
      have FX := hid ((EX.out.turns tw (fun _ _ h => h)).of HSL.out)
      have FB : Hid (Blk W1 p 34 (rC s2 x1)) := hid (hW1 ▸ EB.out.rowE)
      have FZ : Hid (Blk W1 (p + 1) 34 zrC) := hid (hW1 ▸ EZ.out.rowF (by omega))
      have tw2 : Turns (fun j => j = p) w1 W1 := hW1 ▸ setRow_turns (S := fun j => j = p) (g := p) (Turns.refl _ _) (.inl rfl) _
      have FL : Hid (Below p w W1) := hid (EL.out.trans (tw2.below (by have := EZ.out.lt; omega) (fun j hj e => by omega)))
      clear hW1 EX EB EZ EL tw tw2
      cases sh
      · obtain ⟨A9, c9, e9, a9, b9, s9⟩ := FX.out k hk
        have cK : W1.cell? ⟨p, 1 + k, none⟩ = some (.slice A9 (s2.l k).length c9) := by rw [← e9]; exact (FB.out.cell _).trans (rC_get s2 x1 k hk)
        have HL9 := HS2.out.len hk
        have hk2 : (k : Int) < 2 := by omega
        have HS9 := hid s9.sees
        have HA9 := hid a9
        obtain ⟨N, hN⟩ : ∃ N, W1.heap.size = N := ⟨_, rfl⟩
        have HNN := hid hN
        obtain ⟨ln, hln⟩ : ∃ l, (s2.l k).length = l := ⟨_, rfl⟩
        have HLN := hid hln
        rw [hln] at cK HL9
        obtain ⟨hi0, hz0, hz1, hz2⟩ := HI.out
        clear e9 a9 b9 s9 hN hln HStop
        go_upto_region 14 with (first
          | (at_builtin; refine wpList_append_named rfl (.tmp 49) (.tmp 53) 28 rfl W1.heap.size 5 i0 (.int .u8 0) 1 Try.underlying28 hi0 hz0 hz1 hz2 rfl (.slice none 0 0) 0 [] rfl (World.ownsRow_nil _ _ _ _) .u8 A9 c9 (s2.l k) ln HLN.out rfl HA9.out HS9.out (by unfold maxLen; omega) (by omega) (Nat.le_refl _) ?_; intro v3 w3 hown3 hg3))
        simp only [Nat.zero_add, List.nil_append] at hown3
        have O3 := hid hown3
        have B3 : Hid (Below W1.heap.size W1 w3) := hid ⟨hg3.os, hg3.tape, hg3.output, hg3.size, fun j hj => hg3.block j hj (by simp [Value.ownBlock])⟩
        have bc : w3.cell? ⟨bb, o + i, none⟩ = some (.int .u8 (y : Int)) := ((FL.out.trans (B3.out.mono (Nat.le_of_lt FB.out.lt))).cell (by exact hbp)).trans HBC.out
        have hin : (i : Int) < (n : Int) := by omega
        have HRound := hid (fun (w5 : World) (v5 : Value) hb hown => app_round (b := b) (d := d) (i := i) (y := y) (W := W1) hk (fun j h => by rw [← HP.out]; exact HS.out j h) FX.out FB.out FZ.out FL.out hb hown (w5 := w5) (v5 := v5) (HNext.out rfl))
        have HF := hid (fun (w5 : World) (hb : Below W1.heap.size W1 w5) => And.intro ((FB.out.below hb FB.out.lt).frozen (1 + k)) (((FB.out.below hb FB.out.lt).cell (1 + k)).trans (rC_get s2 x1 k hk)))
        have HZ3 := hid B3.out.size
        rw [HLN.out] at HRound
        clear hown3 hg3 cK FX FB FZ FL HS9 HA9 HNext
        go_wp2_with (first
          | (at_builtin; refine wpList_append_named rfl (.tmp 56) (.tmp 61) 28 rfl W1.heap.size 5 i0 (.int .u8 0) 1 Try.underlying28 hi0 hz0 hz1 hz2 rfl v3 ln _ rfl (O3.out.alloc _) .u8 (some ⟨w3.heap.size, 0, none⟩) 1 [y] 1 rfl rfl (fun h => nomatch h) (seesE_one _) (by unfold maxLen; omega) (by omega) (by have := HZ3.out; simp; omega) ?_; intro v5 w5 hown5 hg5; have HB5 : Hid (Below W1.heap.size W1 w5) := hid ((B3.out.alloc B3.out.size _).grown hg5 (by have := HZ3.out; simp; omega) (fun j hj => (O3.out.lt j hj).1)); have c5 := (HF.out w5 HB5.out).2; have f5 := (HF.out w5 HB5.out).1; have HC5 := hid (HRound.out w5 v5 HB5.out hown5); obtain ⟨A5, k5, rfl⟩ := own_shape hown5; clear hown5 hg5))
        go_roundw
        case rel => exact ⟨i + 1, by omega, by go_num, HC5⟩
        case measure => simp only [intOf]; omega
      · obtain ⟨q1, q2, q3⟩ := HStop.out rfl
        have HR : Hid (RefDoesD S (putD (spentD d n) k (b.take (doneD d n))) (errD d n) w (.returned (.tuple #[rV s2 x1, .int .i64 40])) (W1.setRow (p + 1) (rC s2 x1))) := hid (by
          rw [← HN.out, ← q2, q3]
          have tz : Turns (fun j => S j ∨ j = p ∨ j = p + 1) W1 (W1.setRow (p + 1) (rC s2 x1)) := setRow_turns (Turns.refl _ _) (.inl (.inr (.inr rfl))) _
          have tz2 : Turns (fun j => j = p + 1) W1 (W1.setRow (p + 1) (rC s2 x1)) := setRow_turns (S := fun j => j = p + 1) (g := p + 1) (Turns.refl _ _) (.inl rfl) _
          exact ⟨x1, rfl, FX.out.turns tz (fun _ _ h => .inl h), by rw [HP.out]; exact FL.out.trans (tz2.below (by have := FZ.out.lt; omega) (fun j hj e => by omega))⟩)
        obtain ⟨d0, d1, d2, d3, d4, d5, d6⟩ := rcells (FZ.out.rowE (cs' := rC s2 x1))
        have TB := hid FB.out.heap
        have TZ := hid FZ.out.heap
        clear FX FB FZ FL HNext HStop q1 q2 q3
        go_wp2_with (first
          | (with_reducible refine wpList_load_row (o := ⟨some 48, _, _, _, _, _⟩) rfl 34 (.tmp 3) rfl p rfl 34 (rC s2 x1) (0, 0) _ TB.out Try.underlying34 rfl T2.out ?_)
          | (with_reducible refine wpList_store_row (o := ⟨none, _, _, _, _, _⟩) rfl 34 (.tmp 6) (.tmp 48) rfl (p + 1) (rC s2 x1) rfl rfl 34 _ TZ.out T2.out T5.out T4.out ?_))
        refine bodyPost_ret (v := .tuple #[.agg #[.int .i64 s2.sz, x1 0, x1 1, .int .i64 (s2.s 0 : Int), .int .i64 (s2.s 1 : Int), .int .i64 (unR s2), .bool s2.dn], .int .i64 40]) (by simp [results, Try.results26, go_sem, d0, d1, d2, d3, d4, d5, d6]) rfl HR.out
    · obtain rfl : i = n := by omega
      obtain ⟨st, hst⟩ : ∃ s, stA d k b i = s := ⟨_, rfl⟩
      have HLast := hid (stA_last HO.out k b (by have := HD.out; have := HN.out; omega))
      have HE : Hid (stA d k b b.length = st) := hid (by rw [HN.out]; exact hst)
      rw [hst] at DX DB
      have HR : Hid (RefDoesD S (putD (spentD d i) k (b.take (doneD d i))) (errD d i) w (.returned (.tuple #[rV st x1, .int .i64 0])) (wr.setRow (p + 1) (rC st x1))) := hid (by
        rw [← HN.out, ← HLast.out.1, HLast.out.2, HE.out]
        have tz : Turns (fun j => S j ∨ j = p ∨ j = p + 1) wr (wr.setRow (p + 1) (rC st x1)) := setRow_turns (Turns.refl _ _) (.inl (.inr (.inr rfl))) _
        have tz2 : Turns (fun j => j = p + 1) wr (wr.setRow (p + 1) (rC st x1)) := setRow_turns (S := fun j => j = p + 1) (g := p + 1) (Turns.refl _ _) (.inl rfl) _
        exact ⟨x1, rfl, DX.out.turns tz (fun _ _ h => .inl h), by rw [HP.out]; exact DL.out.trans (tz2.below (by have := DZ.out.lt; omega) (fun j hj e => by omega))⟩)
      obtain ⟨d0, d1, d2, d3, d4, d5, d6⟩ := rcells (DZ.out.rowE (cs' := rC st x1))
      have T2 := hid (rC_size st x1)
      have T4 := hid (rC_one (d' := st) DX.out)
      have T5 : Hid (zrC.size = (rC st x1).size) := hid rfl
      have TB := hid DB.out.heap
      have TZ := hid DZ.out.heap
      clear DX DB DZ DL HLast HE hst
      go_wp2_with (first
        | (with_reducible refine wpList_load_row (o := ⟨some 65, _, _, _, _, _⟩) rfl 34 (.tmp 3) rfl p rfl 34 (rC st x1) (0, 0) _ TB.out Try.underlying34 rfl T2.out ?_)
        | (with_reducible refine wpList_store_row (o := ⟨none, _, _, _, _, _⟩) rfl 34 (.tmp 6) (.tmp 65) rfl (p + 1) (rC st x1) rfl rfl 34 _ TZ.out T2.out T5.out T4.out ?_))
      refine bodyPost_ret (v := .tuple #[.agg #[.int .i64 st.sz, x1 0, x1 1, .int .i64 (st.s 0 : Int), .int .i64 (st.s 1 : Int), .int .i64 (unR st), .bool st.dn], .int .i64 0]) (by simp [results, Try.results26, go_sem, d0, d1, d2, d3, d4, d5, d6]) rfl HR.out

end Go.Proofs.Ytmedfcpohmhbbaa
