/-
  Messages in boxes; contracts of package msg: isKind, isReply, isReplica, isBetweenTwo, statusOf, asked.
-/
import Derived.Test.YtohffiehmmcgbaaGreatDoorZYEq
import Derived.Test.YtohffiehmmcgbaaGreatDoorMpC
namespace Go.Proofs.YtohffiehmmcgbaaGreatDoor
open Go.ChangeShapes Go.WideShapes Go.ChangeAt Go.RowKit Go.Lib
set_option linter.unusedVariables false
set_option linter.unusedSimpArgs false

theorem info_msg : (Tryz.prog.info? 64).map (·.size) = some 29 := by kernel_rfl
theorem len_msg (m : Ms) : (Tryz.prog.info? 64).map (·.size) = some (rowM m).size := by rw [rowM_size]; exact info_msg
theorem size_msg (m n : Ms) : (rowM m).size = (rowM n).size := rfl
theorem rowM_one (m : Ms) : (rowM m).all (·.oneCell') = true := by simp [rowM, Value.oneCell']
theorem info_known (x : J) : (Tryz.prog.info? 37).map (·.size) = some (lsJ x).length := by kernel_rfl
theorem rowM_congr {m n : Ms} (h : eqM m n = true) : rowM m = rowM n := by
  unfold eqM eqJ at h
  simp only [Bool.and_eq_true, beq_iff_eq, decide_eq_true_eq, eqA_iff] at h
  obtain ⟨k1, k2, k3, ⟨k4, k5⟩, k6, k7, ⟨h1, h2⟩, h3, h4, h5, h6, h7, h8⟩ := h
  unfold rowM
  rw [k1, k2, k3, k4, k5, k6, k7, h1, h2, h3, h4, h5, h6, h7, h8 0 (by decide), h8 1 (by decide), h8 2 (by decide), h8 3 (by decide), h8 4 (by decide), h8 5 (by decide), h8 6 (by decide), h8 7 (by decide)]

section
variable {w : World} {g : Nat} {T : TypeId} {m : Ms}
theorem Blk.m0 (h : Blk w g T (rowM m)) : w.cell? ⟨g, 0, none⟩ = some (.int .i64 m.k) := (h.cell 0).trans rfl
theorem Blk.m1 (h : Blk w g T (rowM m)) : w.cell? ⟨g, 1, none⟩ = some (.int .i64 m.a) := (h.cell 1).trans rfl
theorem Blk.m2 (h : Blk w g T (rowM m)) : w.cell? ⟨g, 2, none⟩ = some (.int .i64 m.b) := (h.cell 2).trans rfl
theorem Blk.m3 (h : Blk w g T (rowM m)) : w.cell? ⟨g, 3, none⟩ = some (.int .i64 m.r) := (h.cell 3).trans rfl
theorem Blk.m4 (h : Blk w g T (rowM m)) : w.cell? ⟨g, 4, none⟩ = some (.int .i64 m.s) := (h.cell 4).trans rfl
theorem Blk.m5 (h : Blk w g T (rowM m)) : w.cell? ⟨g, 5, none⟩ = some (.int .u32 m.bal) := (h.cell 5).trans rfl
theorem Blk.m6 (h : Blk w g T (rowM m)) : w.cell? ⟨g, 6, none⟩ = some (.bool m.ok) := (h.cell 6).trans rfl
theorem Blk.m7 (h : Blk w g T (rowM m)) : w.cell? ⟨g, 7, none⟩ = some (.int .i64 m.x.r) := (h.cell 7).trans rfl
theorem Blk.m8 (h : Blk w g T (rowM m)) : w.cell? ⟨g, 8, none⟩ = some (.int .i64 m.x.s) := (h.cell 8).trans rfl
theorem rowM_at (m : Ms) (j : Nat) (hj : j < 22) : (rowM m)[7 + j]? = (lsJ m.x)[j]? := by
  have e : j = 0 ∨ j = 1 ∨ j = 2 ∨ j = 3 ∨ j = 4 ∨ j = 5 ∨ j = 6 ∨ j = 7 ∨ j = 8 ∨ j = 9 ∨ j = 10 ∨ j = 11 ∨ j = 12 ∨ j = 13 ∨ j = 14 ∨ j = 15 ∨ j = 16 ∨ j = 17 ∨ j = 18 ∨ j = 19 ∨ j = 20 ∨ j = 21 := by omega
  rcases e with rfl | rfl | rfl | rfl | rfl | rfl | rfl | rfl | rfl | rfl | rfl | rfl | rfl | rfl | rfl | rfl | rfl | rfl | rfl | rfl | rfl | rfl <;> rfl
theorem Blk.mx (h : Blk w g T (rowM m)) : w.rangeAt g 7 (lsJ m.x) := by
  intro j v hv
  have hj : j < 22 := (List.getElem?_eq_some_iff.1 hv).1
  rw [h.cell, rowM_at m j hj, hv]
end

/-- What is known, loaded out of a message's midst. -/
theorem wpList_load_known {P : Program} {ops : Array Oper} {rest : List Oper} {op : Oper} {a : Act} {w : World} {Q : Exit → Act → World → Prop} {m : Ms} {T : TypeId} (hgd : op.guard = none) (ty : TypeId) (x : Operand) (ho : op.op = .load ty x)
    (b : Nat) (hx : a.eval x = .pointer (some ⟨b, 7, none⟩)) (hc : Blk w b T (rowM m)) (d : TypeDesc)
    (hu : P.underlying ty = some d) (hd : d.isRow = true) (hi : (P.info? ty).map (·.size) = some 22)
    (h : wpList P ops Q rest (a.put op.dst (.agg (rowJ m.x))) w) : wpList P ops Q (op :: rest) a w :=
  wpList_load_mid hgd ty x ho b 7 hx (lsJ m.x) d hc.mx hu hd hi h
theorem wpList_load_knowng {P : Program} {ops : Array Oper} {rest : List Oper} {op : Oper} {a : Act} {w : World} {Q : Exit → Act → World → Prop} {m : Ms} {T : TypeId} (hw : Region.wanted op (yielded ops a.tmps) = true) (ty : TypeId) (x : Operand) (ho : op.op = .load ty x)
    (b : Nat) (hx : a.eval x = .pointer (some ⟨b, 7, none⟩)) (hc : Blk w b T (rowM m)) (d : TypeDesc)
    (hu : P.underlying ty = some d) (hd : d.isRow = true) (hi : (P.info? ty).map (·.size) = some 22)
    (h : wpList P ops Q rest (a.put op.dst (.agg (rowJ m.x))) w) : wpList P ops Q (op :: rest) a w :=
  wpList_load_midg hw ty x ho b 7 hx (lsJ m.x) d hc.mx hu hd hi h
theorem yields_known {P : Program} {ops : Array Oper} {S : World → Prop} {op : Oper} {a : Act} {m : Ms} {T : TypeId} (hw : Region.wanted op (yielded ops a.tmps) = true) (ty : TypeId) (x : Operand) (ho : op.op = .load ty x)
    (b : Nat) (hx : a.eval x = .pointer (some ⟨b, 7, none⟩)) (hS : ∀ w, S w → Blk w b T (rowM m)) (d : TypeDesc)
    (hu : P.underlying ty = some d) (hd : d.isRow = true) (hi : (P.info? ty).map (·.size) = some 22) : YieldsIf P ops S op (.agg (rowJ m.x)) a :=
  yieldsIf_load_mid hw ty x ho b 7 hx (lsJ m.x) d (fun w h => (hS w h).mx) hu hd hi

set_option maxRecDepth 100000 in
set_option maxHeartbeats 400000 in
theorem mkind_any (n : Int) (w : World) : Calls Tryz.prog 71 #[.int .i64 n] w fun e w' => e = .returned (.bool (kindB n)) ∧ w = w' := by
  go_enter Tryz.func71, Tryz.ntmps71
  go_wp2
  all_goals go_ret
  all_goals exact ⟨ret_bool (by unfold kindB; rw [Bool.eq_iff_iff]; simp; try omega), rfl⟩

set_option maxRecDepth 100000 in
set_option maxHeartbeats 400000 in
theorem isrep_any (r : Int) (w : World) : Calls Tryz.prog 126 #[.int .i64 r] w fun e w' => e = .returned (.bool (repB r)) ∧ w = w' := by
  go_enter Tryz.func126, Tryz.ntmps126
  go_wp2
  all_goals go_ret
  all_goals exact ⟨ret_bool (by unfold repB; rw [Bool.eq_iff_iff]; simp; try omega), rfl⟩

set_option maxRecDepth 100000 in
set_option maxHeartbeats 400000 in
theorem isreply_any (n : Int) (w : World) : Calls Tryz.prog 74 #[.int .i64 n] w fun e w' => e = .returned (.bool (replyB n)) ∧ w = w' := by
  rcases Decidable.em (n = 2) with h | h
  · subst h
    go_enter Tryz.func74, Tryz.ntmps74
    go_wp2
    go_ret
    exact ⟨rfl, rfl⟩
  · have h2 : (n == 2) = false := beq_eq_false_iff_ne.2 h
    rcases Decidable.em (n = 4) with h' | h'
    · subst h'
      go_enter Tryz.func74, Tryz.ntmps74
      go_wp2
      go_ret
      exact ⟨rfl, rfl⟩
    · have h4 : (n == 4) = false := beq_eq_false_iff_ne.2 h'
      have HV : Hid (replyB n = (n == 7)) := hid (by unfold replyB; rw [h2, h4]; simp)
      go_enter Tryz.func74, Tryz.ntmps74
      go_wp2
      go_ret
      exact ⟨ret_bool (by rw [HV.out]), rfl⟩

set_option maxRecDepth 100000 in
set_option maxHeartbeats 1000000 in
theorem between_any (m : Ms) (w : World) :
    Calls Tryz.prog 72 #[.agg (rowM m)] w fun e w' => e = .returned (.bool (twoB m)) ∧ Below w.heap.size w w' := by
  obtain ⟨x, hx⟩ : ∃ x, repB m.a = x := ⟨_, rfl⟩
  obtain ⟨y, hy⟩ : ∃ y, repB m.b = y := ⟨_, rfl⟩
  have HV : Hid (twoB m = (x && y && (m.a != m.b))) := hid (by unfold twoB; rw [hx, hy])
  have HX := hid hx
  have HY := hid hy
  clear hx hy
  go_enter Tryz.func72, Tryz.ntmps72
  go_upto_region 1 with fail
  obtain ⟨W, hW⟩ : ∃ W, w.alloc (.cells (rowM m) 64) = W := ⟨_, rfl⟩
  rw [hW]
  obtain ⟨K0, KB⟩ := one_new hW
  clear hW
  obtain ⟨k, hk⟩ : ∃ k, w.heap.size = k := ⟨_, rfl⟩
  rw [hk] at K0 KB
  rw [hk]
  have HK := hid hk
  clear hk
  have c1 := K0.out.m1
  have c2 := K0.out.m2
  go_wp2_with fail
  with_reducible refine (isrep_any m.a _).mono ?_
  rw [HX.out]
  rintro e w1 ⟨rfl, rfl⟩
  cases x
  · go_wp2
    go_ret
    exact ⟨ret_bool (by rw [HV.out]; simp), by rw [HK.out]; exact KB.out⟩
  go_wp2_with fail
  with_reducible refine (isrep_any m.b _).mono ?_
  rw [HY.out]
  rintro e w1 ⟨rfl, rfl⟩
  cases y
  · go_wp2
    go_ret
    exact ⟨ret_bool (by rw [HV.out]; simp), by rw [HK.out]; exact KB.out⟩
  go_wp2
  go_ret
  exact ⟨ret_bool (by rw [HV.out]; simp), by rw [HK.out]; exact KB.out⟩

set_option maxRecDepth 100000 in
set_option maxHeartbeats 400000 in
theorem statusof1_any (n : Int) (hn : n = 1 ∨ n = 3 ∨ n = 5) (w : World) : Calls Tryz.prog 128 #[.int .i64 n] w fun e w' => e = .returned (.int .i64 (statK n)) ∧ w = w' := by
  rcases hn with rfl | rfl | rfl
  all_goals
    go_enter Tryz.func128, Tryz.ntmps128
    go_wp2
    go_ret
    exact ⟨rfl, rfl⟩

end Go.Proofs.YtohffiehmmcgbaaGreatDoor
