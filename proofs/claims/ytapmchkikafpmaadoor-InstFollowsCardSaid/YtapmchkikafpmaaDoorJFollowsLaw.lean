/-
  The law InstFollows, walked.
-/
import Derived.Test.YtapmchkikafpmaaDoorJPutN
namespace Go.Proofs.YtapmchkikafpmaaDoor.instFollows
open Go.ChangeShapes Go.WideShapes Go.ChangeAt Go.RowKit Go.Lib
set_option linter.unusedVariables false
set_option linter.unusedSimpArgs false

/-- Three boxes of states, the table, and the frame. -/
def Trip (w0 : World) (k : Nat) (w : World) (x y z : J) : Prop := Blk w k 35 (rowJ x) ∧ Blk w (k + 1) 35 (rowJ y) ∧ Blk w (k + 1 + 1) 35 (rowJ z) ∧ Below k w0 w ∧ PartsIs w
theorem Trip.on {w0 w w' : World} {k : Nat} {x y z : J} (h : Trip w0 k w x y z) (hb : Below w.heap.size w w') : Trip w0 k w' x y z :=
  ⟨h.1.below hb h.1.lt, h.2.1.below hb h.2.1.lt, h.2.2.1.below hb h.2.2.1.lt, below_pay h.2.2.2.1 (by have := h.1.lt; omega) hb, h.2.2.2.2.below hb⟩
theorem Trip.a {w0 w : World} {k : Nat} {x y z : J} (h : Trip w0 k w x y z) : Blk w k 35 (rowJ x) := h.1
theorem Trip.b {w0 w : World} {k : Nat} {x y z : J} (h : Trip w0 k w x y z) : Blk w (k + 1) 35 (rowJ y) := h.2.1
theorem Trip.c {w0 w : World} {k : Nat} {x y z : J} (h : Trip w0 k w x y z) : Blk w (k + 1 + 1) 35 (rowJ z) := h.2.2.1
theorem Trip.bel {w0 w : World} {k : Nat} {x y z : J} (h : Trip w0 k w x y z) : Below k w0 w := h.2.2.2.1
theorem Trip.parts {w0 w : World} {k : Nat} {x y z : J} (h : Trip w0 k w x y z) : PartsIs w := h.2.2.2.2

set_option maxRecDepth 100000 in
set_option maxHeartbeats 4000000 in
theorem walk (x y z : J) (hox : okJ x) (hoy : okJ y) (hoz : okJ z) (w : World) (hP : PartsIs w) :
    Calls Tryd.prog 3 #[.agg (rowJ x), .agg (rowJ y), .agg (rowJ z)] w fun e w' => e = .returned (.bool true) ∧ Below w.heap.size w w' := by
  obtain ⟨sx, hsx⟩ : ∃ a, smallJ x = a := ⟨_, rfl⟩
  obtain ⟨sy, hsy⟩ : ∃ a, smallJ y = a := ⟨_, rfl⟩
  obtain ⟨sz, hsz⟩ : ∃ a, smallJ z = a := ⟨_, rfl⟩
  obtain ⟨f1, hf1⟩ : ∃ a, followsJ y x = a := ⟨_, rfl⟩
  obtain ⟨f2, hf2⟩ : ∃ a, followsJ z y = a := ⟨_, rfl⟩
  have SX := hid hsx
  have SY := hid hsy
  have SZ := hid hsz
  have F1 := hid hf1
  have F2 := hid hf2
  have HP := hid hP
  have HOX := hid hox
  have HOY := hid hoy
  have HOZ := hid hoz
  clear hsx hsy hsz hf1 hf2 hP hox hoy hoz
  go_enter Tryd.func3, Tryd.ntmps3
  go_upto_region 1 with fail
  obtain ⟨W, hW⟩ : ∃ W, ((w.alloc (.cells (rowJ x) 35)).alloc (.cells (rowJ y) 35)).alloc (.cells (rowJ z) 35) = W := ⟨_, rfl⟩
  rw [hW]
  obtain ⟨K0, K1, K2, KB⟩ := three_new hW
  clear hW
  have HPW := hid (HP.out.below KB.out)
  obtain ⟨k, hk⟩ : ∃ k, w.heap.size = k := ⟨_, rfl⟩
  rw [hk] at K0 K1 K2 KB
  rw [hk]
  have HK := hid hk
  clear hk
  have A0 : Hid (Trip w k W x y z) := hid ⟨K0.out, K1.out, K2.out, KB.out, HPW.out⟩
  clear K0 K1 K2 KB HPW
  have L1 := hid (len_inst x)
  have L2 := hid (len_inst y)
  have L3 := hid (len_inst z)
  go_wp2_with fail
  with_reducible refine (anchor10 _).mono ?_
  rintro e w1 ⟨rfl, hb⟩
  have A1 := hid (A0.out.on hb)
  clear hb A0
  go_wp2_with (with_reducible refine wpList_load_row (o := ⟨some 9, _, _, _, _, _⟩) rfl 35 (.tmp 3) rfl k rfl 35 (rowJ x) (0, 0) _ A1.out.a.heap Tryd.underlying35 rfl L1.out ?_)
  with_reducible refine (small10 x _).mono ?_
  rw [SX.out]
  rintro e w2 ⟨rfl, hb⟩
  have A2 := hid (A1.out.on hb)
  clear hb A1
  cases sx
  · go_wp2
    go_ret
    exact ⟨rfl, by rw [HK.out]; exact A2.out.bel⟩
  go_wp2_with (with_reducible refine wpList_load_rowg (o := ⟨some 13, _, _, _, _, _⟩) (by kernel_rfl) 35 (.tmp 4) rfl (k + 1) rfl 35 (rowJ y) (0, 0) _ A2.out.b.heap Tryd.underlying35 rfl L2.out ?_)
  with_reducible refine (small10 y _).mono ?_
  rw [SY.out]
  rintro e w3 ⟨rfl, hb⟩
  have A3 := hid (A2.out.on hb)
  clear hb A2
  cases sy
  · go_wp2
    go_ret
    exact ⟨rfl, by rw [HK.out]; exact A3.out.bel⟩
  go_wp2_with (with_reducible refine wpList_load_rowg (o := ⟨some 18, _, _, _, _, _⟩) (by kernel_rfl) 35 (.tmp 5) rfl (k + 1 + 1) rfl 35 (rowJ z) (0, 0) _ A3.out.c.heap Tryd.underlying35 rfl L3.out ?_)
  with_reducible refine (small10 z _).mono ?_
  rw [SZ.out]
  rintro e w4 ⟨rfl, hb⟩
  have A4 := hid (A3.out.on hb)
  clear hb A3
  cases sz
  · go_wp2
    go_ret
    exact ⟨rfl, by rw [HK.out]; exact A4.out.bel⟩
  have hx1 : x.c.foot.size ≤ 4611686018427387903 := by have := smallJ_in SX.out; omega
  have hx2 : x.c.path.size ≤ 4611686018427387903 := by have := smallJ_in SX.out; omega
  have hy1 : y.c.foot.size ≤ 4611686018427387903 := by have := smallJ_in SY.out; omega
  have hy2 : y.c.path.size ≤ 4611686018427387903 := by have := smallJ_in SY.out; omega
  have hz1 : z.c.foot.size ≤ 4611686018427387903 := by have := smallJ_in SZ.out; omega
  have hz2 : z.c.path.size ≤ 4611686018427387903 := by have := smallJ_in SZ.out; omega
  go_wp2_with (first
    | (with_reducible refine wpList_load_row (o := ⟨some 22, _, _, _, _, _⟩) rfl 35 (.tmp 4) rfl (k + 1) rfl 35 (rowJ y) (0, 0) _ A4.out.b.heap Tryd.underlying35 rfl L2.out ?_)
    | (with_reducible refine wpList_load_row (o := ⟨some 23, _, _, _, _, _⟩) rfl 35 (.tmp 3) rfl k rfl 35 (rowJ x) (0, 0) _ A4.out.a.heap Tryd.underlying35 rfl L1.out ?_))
  with_reducible refine (follows_any y x HOY.out HOX.out _ A4.out.parts hy1 hy2 hx1 hx2).mono ?_
  rw [F1.out]
  rintro e w5 ⟨rfl, hb⟩
  have A5 := hid (A4.out.on hb)
  clear hb A4
  cases f1
  · go_wp2
    go_ret
    exact ⟨rfl, by rw [HK.out]; exact A5.out.bel⟩
  go_wp2_with (first
    | (with_reducible refine wpList_load_rowg (o := ⟨some 27, _, _, _, _, _⟩) (by kernel_rfl) 35 (.tmp 5) rfl (k + 1 + 1) rfl 35 (rowJ z) (0, 0) _ A5.out.c.heap Tryd.underlying35 rfl L3.out ?_)
    | (with_reducible refine wpList_load_rowg (o := ⟨some 28, _, _, _, _, _⟩) (by kernel_rfl) 35 (.tmp 4) rfl (k + 1) rfl 35 (rowJ y) (0, 0) _ A5.out.b.heap Tryd.underlying35 rfl L2.out ?_))
  with_reducible refine (follows_any z y HOZ.out HOY.out _ A5.out.parts hz1 hz2 hy1 hy2).mono ?_
  rw [F2.out]
  rintro e w6 ⟨rfl, hb⟩
  have A6 := hid (A5.out.on hb)
  clear hb A5
  cases f2
  · go_wp2
    go_ret
    exact ⟨rfl, by rw [HK.out]; exact A6.out.bel⟩
  obtain ⟨t1, t2, t3⟩ := follows_trans F1.out F2.out
  have T1 := hid t1
  have T3 := hid t3
  clear t1 t3
  have key : ∀ (fr : Act) (w7 : World), Trip w k w7 x y z → True := fun _ _ _ => trivial
  clear key
  have a2 := A6.out.a.j2
  have a3 := A6.out.a.j3
  have c2 := A6.out.c.j2
  have c3 := A6.out.c.j3
  rcases Decidable.em (x.st = 3) with hx3 | hx3
  · have HT := hid (T3.out hx3)
    have hbx : (x.st == 3) = true := beq_iff_eq.2 hx3
    have hbz : (z.st != 3) = false := by rw [HT.out.1]; rfl
    have AL := hid HT.out.2
    clear hx3 HT
    go_wp2_with (first
      | (with_reducible refine wpList_load_rowg (o := ⟨some 40, _, _, _, _, _⟩) (by kernel_rfl) 35 (.tmp 5) rfl (k + 1 + 1) rfl 35 (rowJ z) (0, 0) _ A6.out.c.heap Tryd.underlying35 rfl L3.out ?_)
      | (with_reducible refine wpList_load_rowg (o := ⟨some 41, _, _, _, _, _⟩) (by kernel_rfl) 35 (.tmp 3) rfl k rfl 35 (rowJ x) (0, 0) _ A6.out.a.heap Tryd.underlying35 rfl L1.out ?_))
    with_reducible refine (alike_any z x _).mono ?_
    rw [AL.out]
    rintro e w7 ⟨rfl, hb⟩
    have A7 := hid (A6.out.on hb)
    clear hb A6 a2 a3 c2 c3
    have a3 := A7.out.a.j3
    have c3 := A7.out.c.j3
    go_wp2_with (first
      | (with_reducible refine wpList_load_rowg (o := ⟨some 52, _, _, _, _, _⟩) (by kernel_rfl) 35 (.tmp 5) rfl (k + 1 + 1) rfl 35 (rowJ z) (0, 0) _ A7.out.c.heap Tryd.underlying35 rfl L3.out ?_)
      | (with_reducible refine wpList_load_rowg (o := ⟨some 53, _, _, _, _, _⟩) (by kernel_rfl) 35 (.tmp 3) rfl k rfl 35 (rowJ x) (0, 0) _ A7.out.a.heap Tryd.underlying35 rfl L1.out ?_))
    with_reducible refine (follows_any z x HOZ.out HOX.out _ A7.out.parts hz1 hz2 hx1 hx2).mono ?_
    rw [T1.out]
    rintro e w8 ⟨rfl, hb⟩
    have A8 := hid (A7.out.on hb)
    clear hb A7
    go_wp2
    go_ret
    exact ⟨rfl, by rw [HK.out]; exact A8.out.bel⟩
  · have hbx : (x.st == 3) = false := beq_eq_false_iff_ne.2 hx3
    clear hx3
    go_wp2_with (first
      | (with_reducible refine wpList_load_rowg (o := ⟨some 52, _, _, _, _, _⟩) (by kernel_rfl) 35 (.tmp 5) rfl (k + 1 + 1) rfl 35 (rowJ z) (0, 0) _ A6.out.c.heap Tryd.underlying35 rfl L3.out ?_)
      | (with_reducible refine wpList_load_rowg (o := ⟨some 53, _, _, _, _, _⟩) (by kernel_rfl) 35 (.tmp 3) rfl k rfl 35 (rowJ x) (0, 0) _ A6.out.a.heap Tryd.underlying35 rfl L1.out ?_))
    with_reducible refine (follows_any z x HOZ.out HOX.out _ A6.out.parts hz1 hz2 hx1 hx2).mono ?_
    rw [T1.out]
    rintro e w8 ⟨rfl, hb⟩
    have A8 := hid (A6.out.on hb)
    clear hb A6
    go_wp2
    go_ret
    exact ⟨rfl, by rw [HK.out]; exact A8.out.bel⟩

end Go.Proofs.YtapmchkikafpmaaDoor.instFollows
