/-
  Contracts of states (package inst): empty, hasRightValue, Right, Follows.
-/
import Derived.Test.YtapmchkikafpmaaDoorJBase
import Derived.Test.YtapmchkikafpmaaDoorKRight
namespace Go.Proofs.YtapmchkikafpmaaDoor
open Go.ChangeShapes Go.WideShapes Go.ChangeAt Go.RowKit Go.Lib
set_option linter.unusedVariables false
set_option linter.unusedSimpArgs false

abbrev zrow : Array Value := #[.int .i64 0, .int .i64 0, .int .i64 0, .int .u32 0, .int .u32 0, .bool false, .int .i64 0, .int .u64 0, .string ⟨#[]⟩, .int .u64 0, .string ⟨#[]⟩, .int .i64 0, .int .u64 0, .int .i64 0, .int .i64 0, .int .i64 0, .int .i64 0, .int .i64 0, .int .i64 0, .int .i64 0, .int .i64 0, .int .i64 0]
theorem zrow_is : zrow = rowJ zeroJ := rfl
theorem Blk.row {w : World} {g : Nat} {t : TypeId} {cs : Array Value} (h : Blk w g t cs) (ds : Array Value) : Blk (w.setRow g ds) g t ds := setRow_heap w g cs ds t (0, 0) h
theorem Blk.rowFar {w : World} {g : Nat} {t : TypeId} {cs : Array Value} (h : Blk w g t cs) {k : Nat} (hne : g ≠ k) (ds : Array Value) : Blk (w.setRow k ds) g t cs := (setRow_other w k g ds hne).trans h
theorem below_pay {k : Nat} {w W w' : World} (h : Below k w W) (hk : k ≤ W.heap.size) (hb : Below W.heap.size W w') : Below k w w' := h.trans (hb.mono hk)
theorem set_bal (x : J) : (rowJ (newJ x.r x.s)).setIfInBounds 3 (.int .u32 x.bal) = rowJ (emptyJ x) := rfl

set_option maxRecDepth 100000 in
set_option maxHeartbeats 1000000 in
theorem empty_any (x : J) (w : World) :
    Calls Tryd.prog 37 #[.agg (rowJ x)] w fun e w' => e = .returned (.agg (rowJ (emptyJ x))) ∧ Below w.heap.size w w' := by
  go_enter Tryd.func37, Tryd.ntmps37
  go_upto_region 1 with fail
  obtain ⟨W, hW⟩ : ∃ W, (w.alloc (.cells (rowJ x) 35)).alloc (.cells zrow 35) = W := ⟨_, rfl⟩
  rw [hW]
  obtain ⟨K0, K1, KB⟩ := two_new hW
  rw [zrow_is] at K1
  clear hW
  obtain ⟨k, hk⟩ : ∃ k, w.heap.size = k := ⟨_, rfl⟩
  rw [hk] at K0 K1 KB
  rw [hk]
  have HK := hid hk
  clear hk
  have c0 := K0.out.j0
  have c1 := K0.out.j1
  go_wp2_with fail
  with_reducible refine (new_any x.r x.s _).mono ?_
  rintro e w1 ⟨rfl, hb⟩
  have D0 := hid (K0.out.below hb K0.out.lt)
  have D1 := hid (K1.out.below hb K1.out.lt)
  have DB := hid (below_pay KB.out (by have := K0.out.lt; omega) hb)
  have HL := hid (show k + 1 < w1.heap.size by have := D1.out.lt; omega)
  clear hb K0 K1 KB c0 c1
  have L1 := hid (len_inst (newJ x.r x.s))
  have L2 := hid (size_inst zeroJ (newJ x.r x.s))
  have L3 := hid (rowJ_one (newJ x.r x.s))
  obtain ⟨n, hn⟩ : ∃ n, w1.heap.size = n := ⟨_, rfl⟩
  have E0 : Hid (Blk (w1.alloc (.cells zrow 35)) n 35 zrow) := hid (by rw [← hn]; exact Blk.new w1 35 zrow)
  go_upto_region 2 with (refine wpList_store_row (o := ⟨none, _, _, _, _, _⟩) rfl 35 (.tmp 3) (.tmp 6) rfl n (rowJ (newJ x.r x.s)) rfl rfl 35 _ E0.out.heap L1.out L2.out L3.out ?_)
  obtain ⟨W2, hW2⟩ : ∃ W2, (w1.alloc (.cells zrow 35)).setRow n (rowJ (newJ x.r x.s)) = W2 := ⟨_, rfl⟩
  rw [hW2]
  have F0 : Hid (Blk W2 k 35 (rowJ x)) := hid (by rw [← hW2]; exact (D0.out.alloc _).rowFar (by have := HL.out; omega) _)
  have F1 : Hid (Blk W2 (k + 1) 35 (rowJ zeroJ)) := hid (by rw [← hW2]; exact (D1.out.alloc _).rowFar (by have := HL.out; omega) _)
  have F2 : Hid (Blk W2 n 35 (rowJ (newJ x.r x.s))) := hid (by rw [← hW2]; exact E0.out.row _)
  have FB : Hid (Below k w W2) := hid (by rw [← hW2]; exact below_setRow_ (DB.out.trans ((Below.refl k w1).alloc (by have := HL.out; omega) _)) (by have := HL.out; omega))
  have HN : Hid (k + 1 < n) := hid (by rw [← hn]; exact HL.out)
  clear hW2 hn D0 D1 DB HL E0 L1 L2 L3
  have c3 := F0.out.j3
  have d3 := F2.out.j3
  have f3 := F2.out.frozen 3
  go_upto_region 3 with fail
  obtain ⟨W3, hW3⟩ : ∃ W3, W2.setCell ⟨n, 3, none⟩ (.int .u32 x.bal) = W3 := ⟨_, rfl⟩
  rw [hW3]
  have G1 : Hid (Blk W3 (k + 1) 35 (rowJ zeroJ)) := hid (by rw [← hW3]; exact F1.out.far (by have := HN.out; simp; omega) _)
  have G2 : Hid (Blk W3 n 35 (rowJ (emptyJ x))) := hid (by rw [← hW3, ← set_bal]; exact F2.out.set_ 3 _)
  have GB : Hid (Below k w W3) := hid (by rw [← hW3]; exact FB.out.setCell (by have := HN.out; simp; omega) _)
  clear hW3 F0 F1 F2 FB c3 d3 f3
  have L1 := hid (len_inst (emptyJ x))
  have L2 := hid (size_inst zeroJ (emptyJ x))
  have L3 := hid (rowJ_one (emptyJ x))
  go_wp2_with (first
    | (with_reducible refine wpList_load_row (o := ⟨some 10, _, _, _, _, _⟩) rfl 35 (.tmp 3) rfl n rfl 35 (rowJ (emptyJ x)) (0, 0) _ G2.out.heap Tryd.underlying35 rfl L1.out ?_)
    | (with_reducible refine wpList_store_row (o := ⟨none, _, _, _, _, _⟩) rfl 35 (.tmp 2) (.tmp 10) rfl (k + 1) (rowJ (emptyJ x)) rfl rfl 35 _ G1.out.heap L1.out L2.out L3.out ?_))
  exact bodyPost_ret (v := .agg (rowJ (emptyJ x))) (results_cell_row (p := 2) (ty := 35) (by kernel_rfl) _ _ (k + 1) 35 (rowJ (emptyJ x)) (0, 0) _ rfl (setRow_heap W3 (k + 1) _ (rowJ (emptyJ x)) _ _ G1.out.heap) Tryd.underlying35 rfl L1.out) rfl ⟨rfl, by rw [HK.out]; exact below_setRow_ GB.out (by omega)⟩

theorem okJ.bal' {x : J} (h : okJ x) : 0 ≤ x.bal ∧ x.bal < 4294967296 := h.1
theorem okJ.vote {x : J} (h : okJ x) : 0 ≤ x.vote ∧ x.vote < 4294967296 := h.2
theorem balright_int (b : Int) (w : World) (hb : 0 ≤ b ∧ b < 4294967296) :
    Calls Tryd.prog 36 #[.int .u32 b] w fun e w' => e = .returned (.bool (balB b)) ∧ w = w' := by
  obtain ⟨n, rfl⟩ : ∃ n : Nat, b = (n : Int) := ⟨b.toNat, by omega⟩
  have := ballotright_any n w (by omega)
  unfold balB
  rw [Int.toNat_natCast]
  exact this

set_option maxRecDepth 100000 in
set_option maxHeartbeats 4000000 in
theorem hasright_any (x : J) (hok : okJ x) (w : World) (hP : PartsIs w) (hf : x.c.foot.size ≤ 4611686018427387903) (hp : x.c.path.size ≤ 4611686018427387903) :
    Calls Tryd.prog 38 #[.agg (rowJ x)] w fun e w' => e = .returned (.bool (valB x)) ∧ Below w.heap.size w w' := by
  obtain ⟨va, hva⟩ : ∃ a, balB x.vote = a := ⟨_, rfl⟩
  obtain ⟨ms, hms⟩ : ∃ a, maySame x = a := ⟨_, rfl⟩
  obtain ⟨rk, hrk⟩ : ∃ a, rightK x.c = a := ⟨_, rfl⟩
  obtain ⟨ob, hob⟩ : ∃ a, ownB x.f x.r x.s = a := ⟨_, rfl⟩
  obtain ⟨sm, hsm⟩ : ∃ a, x.same = a := ⟨_, rfl⟩
  have HV : Hid (valB x = (va && decide (x.vote ≤ x.bal) && (!sm || ms) && rk && ob)) := hid (by unfold valB; rw [hva, hms, hrk, hob, hsm])
  have HO := hid hok
  have HP := hid hP
  have VA := hid hva
  have MS := hid hms
  have RK := hid hrk
  have OB := hid hob
  have SM := hid hsm
  clear hok hP hva hms hrk hob hsm
  go_enter Tryd.func38, Tryd.ntmps38
  go_upto_region 1 with fail
  obtain ⟨W, hW⟩ : ∃ W, w.alloc (.cells (rowJ x) 35) = W := ⟨_, rfl⟩
  rw [hW]
  obtain ⟨K0, KB⟩ := one_new hW
  clear hW
  have HPW := hid (HP.out.below KB.out)
  obtain ⟨k, hk⟩ : ∃ k, w.heap.size = k := ⟨_, rfl⟩
  rw [hk] at K0 KB
  rw [hk]
  have HK := hid hk
  clear hk
  have c3 := K0.out.j3
  have c4 := K0.out.j4
  have c5 := K0.out.j5
  rw [SM.out] at c5
  have HKL := hid (show k ≤ W.heap.size by have := K0.out.lt; omega)
  cases va
  · go_wp2_with fail
    with_reducible refine (balright_int x.vote _ HO.out.vote).mono ?_
    rw [VA.out]
    rintro e w1 ⟨rfl, rfl⟩
    go_wp2
    go_ret
    exact ⟨ret_bool (by rw [HV.out]; simp), by rw [HK.out]; exact KB.out⟩
  · go_wp2_with fail
    with_reducible refine (balright_int x.vote _ HO.out.vote).mono ?_
    rw [VA.out]
    rintro e w1 ⟨rfl, rfl⟩
    rcases Int.lt_or_le x.bal x.vote with hle | hle
    · have HD : Hid (decide (x.vote ≤ x.bal) = false) := hid (decide_eq_false (by omega))
      go_wp2
      go_ret
      exact ⟨ret_bool (by rw [HV.out, HD.out]; simp), by rw [HK.out]; exact KB.out⟩
    · have HD : Hid (decide (x.vote ≤ x.bal) = true) := hid (decide_eq_true hle)
      have key : ∀ (y : Bool) (w2 : World), Below W.heap.size W w2 → (y = (!sm || ms)) → Hid (Blk w2 k 35 (rowJ x) ∧ Below k w w2 ∧ PartsIs w2) := fun y w2 hb _ =>
        hid ⟨K0.out.below hb K0.out.lt, below_pay KB.out HKL.out hb, HPW.out.below hb⟩
      have HKEY := hid key
      clear key
      have I1 := hid (info_cmd8 x.c)
      have I2 := hid (info_att8 x.f)
      have I3 := hid (len_inst x)
      cases sm
      · -- not the same
        cases rk
        · go_wp2_with (with_reducible refine wpList_load_midg (op := ⟨some 24, _, _, _, _, _⟩) (by kernel_rfl) 30 (.tmp 23) rfl k 6 rfl (lsK x.c) _ K0.out.jc Tryd.underlying30 rfl I1.out ?_)
          with_reducible refine (cmdright_any x.c _ HPW.out hf hp).mono ?_
          rw [RK.out]
          rintro e w2 ⟨rfl, hb⟩
          have HB := hid (below_pay KB.out HKL.out hb)
          clear hb
          go_wp2
          go_ret
          exact ⟨ret_bool (by rw [HV.out, HD.out]; simp), by rw [HK.out]; exact HB.out⟩
        · go_wp2_with (with_reducible refine wpList_load_midg (op := ⟨some 24, _, _, _, _, _⟩) (by kernel_rfl) 30 (.tmp 23) rfl k 6 rfl (lsK x.c) _ K0.out.jc Tryd.underlying30 rfl I1.out ?_)
          with_reducible refine (cmdright_any x.c _ HPW.out hf hp).mono ?_
          rw [RK.out]
          rintro e w2 ⟨rfl, hb⟩
          have HB := hid (below_pay KB.out HKL.out hb)
          have K2 := hid (K0.out.below hb K0.out.lt)
          clear hb c3 c4 c5
          have c0 := K2.out.j0
          have c1 := K2.out.j1
          go_wp2_with (with_reducible refine wpList_load_midg (op := ⟨some 29, _, _, _, _, _⟩) (by kernel_rfl) 33 (.tmp 28) rfl k 14 rfl (ls8 x.f) _ K2.out.ja Tryd.underlying33 rfl I2.out ?_)
          with_reducible refine (owns8 x.f x.r x.s _).mono ?_
          rw [OB.out]
          rintro e w3 ⟨rfl, hb⟩
          have HB2 := hid (below_pay HB.out (by have := K2.out.lt; omega) hb)
          clear hb c0 c1
          go_wp2
          go_ret
          exact ⟨ret_bool (by rw [HV.out, HD.out]; simp), by rw [HK.out]; exact HB2.out⟩
      · cases ms
        · go_wp2_with (with_reducible refine wpList_load_rowg (o := ⟨some 18, _, _, _, _, _⟩) (by kernel_rfl) 35 (.tmp 1) rfl k rfl 35 (rowJ x) (0, 0) _ K0.out.heap Tryd.underlying35 rfl I3.out ?_)
          with_reducible refine (maysame_any x _).mono ?_
          rw [MS.out]
          rintro e w2 ⟨rfl, hb⟩
          have HB := hid (below_pay KB.out HKL.out hb)
          clear hb
          go_wp2
          go_ret
          exact ⟨ret_bool (by rw [HV.out, HD.out]; simp), by rw [HK.out]; exact HB.out⟩
        · go_wp2_with (with_reducible refine wpList_load_rowg (o := ⟨some 18, _, _, _, _, _⟩) (by kernel_rfl) 35 (.tmp 1) rfl k rfl 35 (rowJ x) (0, 0) _ K0.out.heap Tryd.underlying35 rfl I3.out ?_)
          with_reducible refine (maysame_any x _).mono ?_
          rw [MS.out]
          rintro e w2 ⟨rfl, hb⟩
          have J2 := HKEY.out true w2 hb (by rfl)
          have K2 := hid J2.out.1
          clear hb c3 c4 c5
          cases rk
          · go_wp2_with (with_reducible refine wpList_load_midg (op := ⟨some 24, _, _, _, _, _⟩) (by kernel_rfl) 30 (.tmp 23) rfl k 6 rfl (lsK x.c) _ K2.out.jc Tryd.underlying30 rfl I1.out ?_)
            with_reducible refine (cmdright_any x.c _ J2.out.2.2 hf hp).mono ?_
            rw [RK.out]
            rintro e w3 ⟨rfl, hb⟩
            have HB := hid (below_pay J2.out.2.1 (by have := K2.out.lt; omega) hb)
            clear hb
            go_wp2
            go_ret
            exact ⟨ret_bool (by rw [HV.out, HD.out]; simp), by rw [HK.out]; exact HB.out⟩
          · go_wp2_with (with_reducible refine wpList_load_midg (op := ⟨some 24, _, _, _, _, _⟩) (by kernel_rfl) 30 (.tmp 23) rfl k 6 rfl (lsK x.c) _ K2.out.jc Tryd.underlying30 rfl I1.out ?_)
            with_reducible refine (cmdright_any x.c _ J2.out.2.2 hf hp).mono ?_
            rw [RK.out]
            rintro e w3 ⟨rfl, hb⟩
            have HB := hid (below_pay J2.out.2.1 (by have := K2.out.lt; omega) hb)
            have K3 := hid (K2.out.below hb K2.out.lt)
            clear hb
            have c0 := K3.out.j0
            have c1 := K3.out.j1
            go_wp2_with (with_reducible refine wpList_load_midg (op := ⟨some 29, _, _, _, _, _⟩) (by kernel_rfl) 33 (.tmp 28) rfl k 14 rfl (ls8 x.f) _ K3.out.ja Tryd.underlying33 rfl I2.out ?_)
            with_reducible refine (owns8 x.f x.r x.s _).mono ?_
            rw [OB.out]
            rintro e w4 ⟨rfl, hb⟩
            have HB2 := hid (below_pay HB.out (by have := K3.out.lt; omega) hb)
            clear hb c0 c1
            go_wp2
            go_ret
            exact ⟨ret_bool (by rw [HV.out, HD.out]; simp), by rw [HK.out]; exact HB2.out⟩

end Go.Proofs.YtapmchkikafpmaaDoor
