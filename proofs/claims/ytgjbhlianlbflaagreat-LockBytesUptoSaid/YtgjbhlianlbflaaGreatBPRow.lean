/-
  Contracts of path.pieces, isRow at both kinds of parts, Right and Pattern.
-/
import Derived.Test.YtgjbhlianlbflaaGreatBPSeq
import Derived.Test.YtgjbhlianlbflaaGreatBHeld
namespace Go.Proofs.YtgjbhlianlbflaaGreat
open Go.ChangeShapes Go.WideShapes Go.ChangeAt Go.RowKit Go.Shelf
attribute [local go_sem] Oper.semAt_some
def Seqs (s : ByteArray) (w : World) (e : Ending) (w' : World) : Prop := e = .returned (.func (.func 99) #[] #[.pointer (some ⟨w.heap.size, 0, none⟩)]) ∧ w.alloc (.cells #[.string s] 9) = w'
theorem pieces_any (s : ByteArray) (w : World) : Calls Tryz.prog 74 #[.string s] w (Seqs s w) := by
  go_enter Tryz.func74, Tryz.ntmps74
  go_wp2
  go_ret
  exact ⟨rfl, rfl⟩
theorem keeps_below {W W' : World} (h : Below W.heap.size W W') : KeepsOthers W W' :=
  ⟨h.size, fun k _ hk _ => (h.block k (Array.getElem?_eq_some_iff.1 hk).1).trans hk⟩
def Turned (B : Nat) (W : World) (row : Option Nat) : Prop := ∀ r, row = some r → B ≤ r ∧ ∃ o : Obj, W.heap[r]? = some o ∧ o.isCells = false
theorem Blk.own {W W' : World} {row : Option Nat} {B g : Nat} {t : TypeId} {cs : Array Value} (h : Blk W g t cs) (hg : W.grownBy W' row) (hr : Turned B W row) : Blk W' g t cs :=
  h.grown hg (fun e => by
    obtain ⟨_, o, ho, hc⟩ := hr g e.symm
    unfold Blk at h
    rw [h] at ho
    injection ho with ho
    subst ho
    cases hc)
theorem below_own {W W' w : World} {row : Option Nat} {B n₀ : Nat} (h : Below n₀ w W) (hn : n₀ ≤ w.heap.size) (hB : n₀ ≤ B) (hg : W.grownBy W' row) (hr : Turned B W row) : Below n₀ w W' :=
  h.grown hg (Nat.le_trans hn h.size) (fun k e => Nat.le_trans hB (hr k e).1)
def rowOf (is : List UInt8 → Bool) (s : List UInt8) : Bool := decide (s.length ≤ 64) && (pieces s).all is && decide ((pieces s).length ≤ 8)
theorem rowOf_long {is : List UInt8 → Bool} {s : ByteArray} (h : 64 < s.size) : rowOf is (L s) = false := by
  unfold rowOf; rw [L_length, decide_eq_false (by omega)]; rfl
theorem rowOf_bad {is : List UInt8 → Bool} {s : ByteArray} {pre : List ByteArray} (h : pre.map L <+: pieces (L s)) {x : ByteArray} (hx : x ∈ pre) (hi : is (L x) = false) : rowOf is (L s) = false := by
  have : (pieces (L s)).all is = false := by
    rw [← Bool.not_eq_true, List.all_eq_true]
    intro h'
    have := h' (L x) (h.subset (List.mem_map_of_mem hx))
    rw [hi] at this; cases this
  unfold rowOf; rw [this]; simp
theorem rowOf_end {is : List UInt8 → Bool} {s : ByteArray} {ys : List ByteArray} (h : ys.map L = pieces (L s)) (h64 : ¬ 64 < s.size) (hi : ∀ x ∈ ys, is (L x) = true) : rowOf is (L s) = decide ((ys.length : Int) ≤ 8) := by
  have : (pieces (L s)).all is = true := by
    rw [List.all_eq_true, ← h]
    intro x hx
    obtain ⟨y, hy, rfl⟩ := List.mem_map.1 hx
    exact hi y hy
  unfold rowOf
  rw [this, L_length, decide_eq_true (by omega), ← h, List.length_map, Bool.and_true, Bool.true_and]
  exact decide_eq_decide.2 (by omega)
def RowAt (h : Nat) (f : Nat) (w : World) (is : List UInt8 → Bool) (pre : List ByteArray) (W : World) : Prop :=
  (∀ x ∈ pre, is (L x) = true) ∧ Blk W h 87 #[.func (.func f) #[] #[]] ∧ Blk W (h + 1) 4 #[.bool false] ∧ Blk W (h + 1 + 1) 3 #[.int .i64 pre.length] ∧ Below h w W
def RowEnd (h : Nat) (w : World) (is : List UInt8 → Bool) (c : Code) (pre : List ByteArray) (W : World) : Prop :=
  c = .ret ∧ (∃ x ∈ pre, is (L x) = false) ∧ Blk W (h + 1) 4 #[.bool false] ∧ Below h w W
theorem RowAt.own (h f : Nat) (w : World) (is : List UInt8 → Bool) (B : Nat) (hw : h ≤ w.heap.size) (hB : h ≤ B) : OwnFrom B (RowAt h f w is) := fun _ _ _ _ hs hg hr =>
  ⟨hs.1, hs.2.1.own hg hr, hs.2.2.1.own hg hr, hs.2.2.2.1.own hg hr, below_own hs.2.2.2.2 hw hB hg hr⟩
theorem RowEnd.own (h : Nat) (w : World) (is : List UInt8 → Bool) (c : Code) (B : Nat) (hw : h ≤ w.heap.size) (hB : h ≤ B) : OwnFrom B (RowEnd h w is c) := fun _ _ _ _ hs hg hr =>
  ⟨hs.1, hs.2.1, hs.2.2.1.own hg hr, below_own hs.2.2.2 hw hB hg hr⟩
set_option maxRecDepth 100000 in
set_option maxHeartbeats 2000000 in
theorem row_part (s : ByteArray) (w : World) (hs : s.size ≤ 4611686018427387903) : Calls Tryz.prog 70 #[.string s, .func (.func 71) #[] #[]] w (Asks (.bool (rowOf isPart (L s))) w) := by
  refine (callsIn_wide (n := 9)).1 ?_
  refine callsIn_of_wp_marks Tryz.func70 rfl trivial ?_ rfl
  simp only [Tryz.ntmps70, List.size_toArray, List.length_cons, List.length_nil, Nat.reduceAdd, Nat.reduceSub, Array.replicate_succ, Array.replicate_zero, List.push_toArray, List.append_toArray, List.nil_append, List.cons_append]
  by_cases h64 : 64 < s.size
  · have H := hid (rowOf_long (is := isPart) h64)
    gi_wp2
    refine ⟨.bool false, by simp [results, Tryz.f70, go_sem], ?_, ((Below.refl _ _).alloc (Nat.le_refl _) _).alloc (by simp) _⟩
    rw [H.out]
  · gi_wp2_with fail
    refine ⟨trivial, ?_⟩
    refine (callsIn_wide.2 (pieces_any s _)).mono ?_
    rintro e w1 ⟨rfl, rfl⟩
    gi_wp2
    have b0 := Blk.new w 87 #[.func (.func 71) #[] #[]]
    have b1 := Blk.new (w.alloc (.cells #[.func (.func 71) #[] #[]] 87)) 4 #[.bool false]
    have b2 := Blk.new ((w.alloc (.cells #[.func (.func 71) #[] #[]] 87)).alloc (.cells #[.bool false] 4)) 3 #[.int .i64 0]
    have b3 := Blk.new (((w.alloc (.cells #[.func (.func 71) #[] #[]] 87)).alloc (.cells #[.bool false] 4)).alloc (.cells #[.int .i64 0] 3)) 9 #[.string s]
    simp only [World.size_alloc] at b1 b2 b3
    have hB0 : Below w.heap.size w ((((w.alloc (.cells #[.func (.func 71) #[] #[]] 87)).alloc (.cells #[.bool false] 4)).alloc (.cells #[.int .i64 0] 3)).alloc (.cells #[.string s] 9)) :=
      ((((Below.refl _ w).alloc (Nat.le_refl _) _).alloc (by simp) _).alloc (by simp <;> omega) _).alloc (by simp <;> omega) _
    refine wpIn_rangeFunc_ownF rfl (by omega) (gf := 99) (lb := #[.pointer (some ⟨w.heap.size + 1 + 1 + 1, 0, none⟩)]) rfl trivial (enters_of Tryz.func99 (by kernel_rfl) rfl)
      (pieces_stops _ (by omega) s hs (w.heap.size + 1 + 1 + 1) _ b3.lt (b3.cell 0)) (fun _ _ => trivial) (fun _ _ _ _ _ _ _ _ => trivial) (Below.refl _ _) (fun _ => rfl)
      (RowAt w.heap.size 71 w isPart) (RowEnd w.heap.size w isPart)
      (RowAt.own _ _ _ _ _ (Nat.le_refl _) (by simp <;> omega)) (fun c => RowEnd.own _ _ _ _ _ (Nat.le_refl _) (by simp <;> omega))
      ⟨(fun x hx => nomatch hx), ((b0.alloc _).alloc _).alloc _, (b1.alloc _).alloc _, b2.alloc _, hB0⟩
      (fun x => { tmps := #[.string s, .func (.func 71) #[] #[], undef, .pointer (some ⟨w.heap.size, 0, none⟩), .pointer (some ⟨w.heap.size + 1, 0, none⟩), .pointer (some ⟨w.heap.size + 1 + 1, 0, none⟩), .string x, .string s, .int .i64 s.size, .bool (decide (64 < (s.size : Int))), .string s, .func (.func 99) #[] #[.pointer (some ⟨w.heap.size + 1 + 1 + 1, 0, none⟩)], .string x, undef, undef, undef, undef, undef, undef, undef, undef], defers := [] }) ?assign ?body ?done ?stop
    case assign =>
      intro l x W K hK
      gi_wp2
      exact hK
    case body =>
      rintro l pre x W ⟨hp, b0, b1, b2, hB⟩ hlen
      have c0 := b0.cell 0
      have HP := hid hp
      have hl2 : (pre.length : Int) ≤ 65 := by omega
      clear hp hlen
      cases hx : isPart (L x) with
      | false =>
        have HX := hid hx
        clear hx
        gi_wp2_with fail
        refine ⟨trivial, ?_⟩
        refine (CallsIn.inRound l (callsIn_wide.2 (part_any x _))).mono ?_
        rintro e w1 ⟨rfl, hb⟩
        rw [HX.out]
        have d1 := b1.below hb b1.lt
        have e1 := d1.cell 0
        have f1 := d1.frozen 0
        have HB := hid hb
        clear hb
        gi_wp2
        exact ⟨(keeps_below HB.out).trans (KeepsOthers.setCell _ _ _), rfl, ⟨x, by simp, HX.out⟩, d1.set_ 0 _, (hB.trans (HB.out.mono hB.size)).setCell (p := ⟨w.heap.size + 1, 0, none⟩) (by simp) _⟩
      | true =>
        have HX := hid hx
        clear hx
        gi_wp2_with fail
        refine ⟨trivial, ?_⟩
        refine (CallsIn.inRound l (callsIn_wide.2 (part_any x _))).mono ?_
        rintro e w1 ⟨rfl, hb⟩
        rw [HX.out]
        have d0 := b0.below hb b0.lt
        have d1 := b1.below hb b1.lt
        have d2 := b2.below hb b2.lt
        have e2 := d2.cell 0
        have f2 := d2.frozen 0
        have HB := hid hb
        clear hb
        gi_wp2
        refine ⟨(keeps_below HB.out).trans (KeepsOthers.setCell _ _ _), trivial, ?_, d0.far (by simp <;> omega) _, d1.far (by simp) _, ?_, (hB.trans (HB.out.mono hB.size)).setCell (p := ⟨w.heap.size + 1 + 1, 0, none⟩) (by simp <;> omega) _⟩
        · intro y hy
          rcases List.mem_append.1 hy with hy | hy
          · exact HP.out y hy
          · simp at hy; subst hy; exact HX.out
        · have h := d2.set_ 0 (.int .i64 ((pre ++ [x]).length : Int))
          simpa using h
    case done =>
      rintro D ys W hD hys ⟨hp, b0, b1, b2, hB⟩ hK
      have H := hid (rowOf_end hys h64 hp)
      have HY := hid hys
      have c1 := b1.cell 0
      have f1 := b1.frozen 0
      have c2 := b2.cell 0
      clear hp hys
      gi_wp2
      have hK' := (KeepsOthers.setCell W ⟨w.heap.size + 1, 0, none⟩ (.bool (decide ((ys.length : Int) ≤ 8)))).same D _ hK rfl
      refine ⟨by simp, .inl ⟨_, _, rfl, run_takeDeferred hK', ?_⟩⟩
      have hb5 := (b1.set_ 0 (.bool (decide ((ys.length : Int) ≤ 8)))).own (grownBy_putObj' _ D (.deferred none)) (B := D) (fun r e => by cases e; exact ⟨Nat.le_refl _, _, hK', rfl⟩)
      have hc5 := hb5.cell 0
      refine ⟨.bool (decide ((ys.length : Int) ≤ 8)), ?_, ret_bool H.out.symm, (hB.setCell (p := ⟨w.heap.size + 1, 0, none⟩) (by simp) _).trans (belowK_b (w := w) (Nat.le_refl _) _ D _ _ (by simp at hD; omega) hK' rfl rfl)⟩
      simp [results, Tryz.f70, go_sem, hc5]
    case stop =>
      rintro D c pre W hD hpre ⟨rfl, ⟨x, hx, hi⟩, b1, hB⟩ hK
      have H := hid (rowOf_bad hpre.2 hx hi)
      clear hpre hx hi
      gi_wp2
      refine ⟨by simp, .inl ⟨_, _, rfl, run_takeDeferred hK, ?_⟩⟩
      have hb5 := b1.own (grownBy_putObj' _ D (.deferred none)) (B := D) (fun r e => by cases e; exact ⟨Nat.le_refl _, _, hK, rfl⟩)
      have hc5 := hb5.cell 0
      refine ⟨.bool false, ?_, ret_bool H.out.symm, hB.trans (belowK_b (w := w) (Nat.le_refl _) W D _ _ (by simp at hD; omega) hK rfl rfl)⟩
      simp [results, Tryz.f70, go_sem, hc5]
theorem right_any (s : ByteArray) (w : World) (hs : s.size ≤ 4611686018427387903) : Calls Tryz.prog 43 #[.string s] w (Asks (.bool (right (L s))) w) := by
  go_enter Tryz.func43, Tryz.ntmps43
  go_wp2_with fail
  refine (row_part s _ hs).mono ?_
  rintro e w1 ⟨rfl, hb⟩
  have HB := hid hb
  clear hb
  go_wp2
  go_ret
  exact ⟨rfl, HB.out⟩
end Go.Proofs.YtgjbhlianlbflaaGreat
