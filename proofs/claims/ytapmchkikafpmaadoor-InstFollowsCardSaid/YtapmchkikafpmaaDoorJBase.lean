/-
  States in boxes; contracts of New, isStatus, maySame, Alike, empty (package inst).
-/
import Derived.Test.YtapmchkikafpmaaDoorRows
import Derived.Test.YtapmchkikafpmaaDoorJEq
namespace Go.Proofs.YtapmchkikafpmaaDoor
open Go.ChangeShapes Go.WideShapes Go.ChangeAt Go.RowKit
set_option linter.unusedVariables false
set_option linter.unusedSimpArgs false

/-- A guarded load that is wanted, of a row whole, and from its midst. -/
theorem wpList_wanted {P : Program} {ops : Array Oper} {Q : Exit → Act → World → Prop} {a : Act} {w : World} {rest : List Oper} {o : Oper} (hw : Region.wanted o (yielded ops a.tmps) = true)
    (h : ∀ K : Act → World → Prop, (∀ a w, wpList P ops Q rest a w → K a w) → o.wp P a w K Q) : wpList P ops Q (o :: rest) a w :=
  wpList_step fun K hK => by simp only [hw, if_true]; exact h K hK
theorem wpList_load_midg {P : Program} {ops : Array Oper} {rest : List Oper} {op : Oper} {a : Act} {w : World} {Q : Exit → Act → World → Prop} (hw : Region.wanted op (yielded ops a.tmps) = true) (ty : TypeId) (x : Operand) (ho : op.op = .load ty x)
    (b o : Nat) (hx : a.eval x = .pointer (some ⟨b, o, none⟩)) (cs : List Value) (d : TypeDesc) (hc : w.rangeAt b o cs)
    (hu : P.underlying ty = some d) (hd : d.isRow = true) (hi : (P.info? ty).map (·.size) = some cs.length)
    (h : wpList P ops Q rest (a.put op.dst (.agg cs.toArray)) w) : wpList P ops Q (op :: rest) a w :=
  wpList_wanted hw fun _ hK => wp_load_mid ty x ho b o hx cs d hc hu hd hi (hK _ _ h)
theorem wpList_load_rowg {P : Program} {ops : Array Oper} {rest : List Oper} {o : Oper} {a : Act} {w : World} {Q : Exit → Act → World → Prop} (hw : Region.wanted o (yielded ops a.tmps) = true) (ty : TypeId) (x : Operand) (ho : o.op = .load ty x)
    (g : Nat) (hx : a.eval x = .pointer (some ⟨g, 0, none⟩)) (t : TypeId) (cs : Array Value) (fr : Nat × Nat) (d : TypeDesc) (hg : w.heap[g]? = some (.cells cs t fr))
    (hu : P.underlying ty = some d) (hd : (match d with | .struct _ | .array _ _ => true | _ => false) = true) (hi : (P.info? ty).map (·.size) = some cs.size)
    (h : wpList P ops Q rest (a.put o.dst (.agg cs)) w) : wpList P ops Q (o :: rest) a w :=
  wpList_wanted hw fun _ hK => wp_load_row ty x ho g hx t cs fr d hg hu hd hi (hK _ _ h)

theorem info_inst : (Tryd.prog.info? 35).map (·.size) = some 22 := by kernel_rfl
theorem len_inst (x : J) : (Tryd.prog.info? 35).map (·.size) = some (rowJ x).size := by rw [rowJ_size]; exact info_inst
theorem size_inst (x y : J) : (rowJ x).size = (rowJ y).size := rfl
theorem rowJ_one (x : J) : (rowJ x).all (·.oneCell') = true := by simp [rowJ, Value.oneCell']
theorem rowJ_congr {x y : J} (h : eqJ x y = true) : rowJ x = rowJ y := by
  unfold eqJ at h
  simp only [Bool.and_eq_true, beq_iff_eq, decide_eq_true_eq, eqA_iff] at h
  obtain ⟨⟨h1, h2⟩, h3, h4, h5, h6, h7, h8⟩ := h
  unfold rowJ
  rw [h1, h2, h3, h4, h5, h6, h7, h8 0 (by decide), h8 1 (by decide), h8 2 (by decide), h8 3 (by decide), h8 4 (by decide), h8 5 (by decide), h8 6 (by decide), h8 7 (by decide)]

section
variable {w : World} {g : Nat} {T : TypeId} {x : J}
theorem Blk.j0 (h : Blk w g T (rowJ x)) : w.cell? ⟨g, 0, none⟩ = some (.int .i64 x.r) := (h.cell 0).trans rfl
theorem Blk.j1 (h : Blk w g T (rowJ x)) : w.cell? ⟨g, 1, none⟩ = some (.int .i64 x.s) := (h.cell 1).trans rfl
theorem Blk.j2 (h : Blk w g T (rowJ x)) : w.cell? ⟨g, 2, none⟩ = some (.int .i64 x.st) := (h.cell 2).trans rfl
theorem Blk.j3 (h : Blk w g T (rowJ x)) : w.cell? ⟨g, 3, none⟩ = some (.int .u32 x.bal) := (h.cell 3).trans rfl
theorem Blk.j4 (h : Blk w g T (rowJ x)) : w.cell? ⟨g, 4, none⟩ = some (.int .u32 x.vote) := (h.cell 4).trans rfl
theorem Blk.j5 (h : Blk w g T (rowJ x)) : w.cell? ⟨g, 5, none⟩ = some (.bool x.same) := (h.cell 5).trans rfl
abbrev lsK (c : K) : List Value := [.int .i64 c.kind, .int .u64 c.num, .string c.foot, .int .u64 c.req, .string c.path, .int .i64 c.mode, .int .u64 c.n, .int .i64 c.time]
abbrev ls8 (f : Nat → Int) : List Value := [.int .i64 (f 0), .int .i64 (f 1), .int .i64 (f 2), .int .i64 (f 3), .int .i64 (f 4), .int .i64 (f 5), .int .i64 (f 6), .int .i64 (f 7)]
theorem Blk.jc (h : Blk w g T (rowJ x)) : w.rangeAt g 6 (lsK x.c) := by
  intro j v hv
  have hj : j < 8 := (List.getElem?_eq_some_iff.1 hv).1
  have e : j = 0 ∨ j = 1 ∨ j = 2 ∨ j = 3 ∨ j = 4 ∨ j = 5 ∨ j = 6 ∨ j = 7 := by omega
  rw [h.cell, ← hv]
  rcases e with rfl | rfl | rfl | rfl | rfl | rfl | rfl | rfl <;> rfl
theorem Blk.ja (h : Blk w g T (rowJ x)) : w.rangeAt g 14 (ls8 x.f) := by
  intro j v hv
  have hj : j < 8 := (List.getElem?_eq_some_iff.1 hv).1
  have e : j = 0 ∨ j = 1 ∨ j = 2 ∨ j = 3 ∨ j = 4 ∨ j = 5 ∨ j = 6 ∨ j = 7 := by omega
  rw [h.cell, ← hv]
  rcases e with rfl | rfl | rfl | rfl | rfl | rfl | rfl | rfl <;> rfl
end
theorem info_cmd8 (c : K) : (Tryd.prog.info? 30).map (·.size) = some (lsK c).length := by kernel_rfl
theorem info_att8 (f : Nat → Int) : (Tryd.prog.info? 33).map (·.size) = some (ls8 f).length := by kernel_rfl

theorem newrow (r s : Int) : Value.agg #[.int .i64 r, .int .i64 s, .int .i64 0, .int .u32 0, .int .u32 0, .bool false, .int .i64 0, .int .u64 0, .string ⟨#[]⟩, .int .u64 0, .string ⟨#[]⟩, .int .i64 0, .int .u64 0, .int .i64 0, .int .i64 0, .int .i64 0, .int .i64 0, .int .i64 0, .int .i64 0, .int .i64 0, .int .i64 0, .int .i64 0] = .agg (rowJ (newJ r s)) := rfl

set_option maxRecDepth 100000 in
set_option maxHeartbeats 400000 in
theorem new_any (r s : Int) (w : World) :
    Calls Tryd.prog 16 #[nm r s] w fun e w' => e = .returned (.agg (rowJ (newJ r s))) ∧ Below w.heap.size w w' := by
  go_enter Tryd.func16, Tryd.ntmps16
  go_upto_region 1 with fail
  obtain ⟨W, hW⟩ : ∃ W, (w.alloc (.cells #[.int .i64 r, .int .i64 s] 23)).alloc (.cells (rowJ zeroJ) 35) = W := ⟨_, rfl⟩
  have hW' := hW
  simp only [rowJ, zeroJ] at hW'
  rw [hW']
  clear hW'
  obtain ⟨K0, K1, KB⟩ := two_new hW
  clear hW
  obtain ⟨k, hk⟩ : ∃ k, w.heap.size = k := ⟨_, rfl⟩
  rw [hk] at K0 K1 KB
  rw [hk]
  have HK := hid hk
  clear hk
  obtain ⟨⟨c0, c1⟩, _, _⟩ := blkn K0.out
  have L1 := hid (len_inst (newJ r s))
  have L2 := hid (size_inst zeroJ (newJ r s))
  have L3 := hid (rowJ_one (newJ r s))
  go_wp2_with (refine wpList_store_row (o := ⟨none, _, _, _, _, _⟩) rfl 35 (.tmp 2) (.tmp 4) rfl (k + 1) (rowJ (newJ r s)) rfl (newrow r s) 35 _ K1.out.heap L1.out L2.out L3.out ?_)
  exact bodyPost_ret (v := .agg (rowJ (newJ r s))) (results_cell_row (p := 2) (ty := 35) (by kernel_rfl) _ _ (k + 1) 35 (rowJ (newJ r s)) (0, 0) _ rfl (setRow_heap W (k + 1) _ (rowJ (newJ r s)) _ _ K1.out.heap) Tryd.underlying35 rfl L1.out) rfl ⟨rfl, by rw [HK.out]; exact below_setRow_ KB.out (by omega)⟩

set_option maxRecDepth 100000 in
set_option maxHeartbeats 400000 in
theorem isstatus_any (n : Int) (w : World) : Calls Tryd.prog 29 #[.int .i64 n] w fun e w' => e = .returned (.bool (statB n)) ∧ w = w' := by
  go_enter Tryd.func29, Tryd.ntmps29
  go_wp2
  all_goals go_ret
  all_goals exact ⟨ret_bool (by unfold statB; rw [Bool.eq_iff_iff]; simp; try omega), rfl⟩

set_option maxRecDepth 100000 in
set_option maxHeartbeats 400000 in
theorem maysame_any (x : J) (w : World) :
    Calls Tryd.prog 56 #[.agg (rowJ x)] w fun e w' => e = .returned (.bool (maySame x)) ∧ Below w.heap.size w w' := by
  have HV : Hid (maySame x = (x.st == 1 && x.vote == 0)) := hid rfl
  go_enter Tryd.func56, Tryd.ntmps56
  go_upto_region 1 with fail
  obtain ⟨W, hW⟩ : ∃ W, w.alloc (.cells (rowJ x) 35) = W := ⟨_, rfl⟩
  rw [hW]
  obtain ⟨K0, KB⟩ := one_new hW
  clear hW
  obtain ⟨k, hk⟩ : ∃ k, w.heap.size = k := ⟨_, rfl⟩
  rw [hk] at K0 KB
  rw [hk]
  have HK := hid hk
  clear hk
  have c2 := K0.out.j2
  have c4 := K0.out.j4
  rcases Decidable.em (x.st = 1) with h | h
  · have hb : (x.st == 1) = true := beq_iff_eq.2 h
    go_wp2
    go_ret
    exact ⟨ret_bool (by rw [HV.out, hb]; simp), by rw [HK.out]; exact KB.out⟩
  · have hb : (x.st == 1) = false := beq_eq_false_iff_ne.2 h
    go_wp2
    go_ret
    exact ⟨ret_bool (by rw [HV.out, hb]; simp), by rw [HK.out]; exact KB.out⟩

/-- Two boxes of states. -/
theorem twoj_new {w W : World} {x y : J} (h : (w.alloc (.cells (rowJ x) 35)).alloc (.cells (rowJ y) 35) = W) :
    Hid (Blk W w.heap.size 35 (rowJ x)) ∧ Hid (Blk W (w.heap.size + 1) 35 (rowJ y)) ∧ Hid (Below w.heap.size w W) := two_new h

set_option maxRecDepth 100000 in
set_option maxHeartbeats 1000000 in
theorem alike_any (x y : J) (w : World) :
    Calls Tryd.prog 8 #[.agg (rowJ x), .agg (rowJ y)] w fun e w' => e = .returned (.bool (alikeJ x y)) ∧ Below w.heap.size w w' := by
  obtain ⟨a, ha⟩ : ∃ a, decide (x.c = y.c) = a := ⟨_, rfl⟩
  obtain ⟨b, hb⟩ : ∃ b, eqA x.f y.f = b := ⟨_, rfl⟩
  have HV : Hid (alikeJ x y = (a && b)) := hid (by unfold alikeJ; rw [ha, hb])
  have EQ1 := eq_val x.c y.c a ha
  have EQ2 := eq_attr x.f y.f b hb
  dsimp only [val] at EQ1
  have G1 := eq_guard
  have G2 := attr_guard
  clear ha hb
  go_enter Tryd.func8, Tryd.ntmps8
  go_upto_region 1 with fail
  obtain ⟨W, hW⟩ : ∃ W, (w.alloc (.cells (rowJ x) 35)).alloc (.cells (rowJ y) 35) = W := ⟨_, rfl⟩
  rw [hW]
  obtain ⟨K0, K1, KB⟩ := twoj_new hW
  clear hW
  obtain ⟨k, hk⟩ : ∃ k, w.heap.size = k := ⟨_, rfl⟩
  rw [hk] at K0 K1 KB
  rw [hk]
  have HK := hid hk
  clear hk
  have I1 := hid (info_cmd8 x.c)
  have I2 := hid (info_cmd8 y.c)
  have I3 := hid (info_att8 x.f)
  have I4 := hid (info_att8 y.f)
  cases a
  all_goals
    go_wp2_with (first
      | (with_reducible refine wpList_load_mid (op := ⟨some 6, _, _, _, _, _⟩) rfl 30 (.tmp 5) rfl k 6 rfl (lsK x.c) _ K0.out.jc Tryd.underlying30 rfl I1.out ?_)
      | (with_reducible refine wpList_load_mid (op := ⟨some 8, _, _, _, _, _⟩) rfl 30 (.tmp 7) rfl (k + 1) 6 rfl (lsK y.c) _ K1.out.jc Tryd.underlying30 rfl I2.out ?_)
      | (with_reducible refine wpList_load_midg (op := ⟨some 12, _, _, _, _, _⟩) (by kernel_rfl) 33 (.tmp 11) rfl k 14 rfl (ls8 x.f) _ K0.out.ja Tryd.underlying33 rfl I3.out ?_)
      | (with_reducible refine wpList_load_midg (op := ⟨some 14, _, _, _, _, _⟩) (by kernel_rfl) 33 (.tmp 13) rfl (k + 1) 14 rfl (ls8 y.f) _ K1.out.ja Tryd.underlying33 rfl I4.out ?_))
    go_ret
    exact ⟨ret_bool (by rw [HV.out]; simp), by rw [HK.out]; exact KB.out⟩

end Go.Proofs.YtapmchkikafpmaaDoor
