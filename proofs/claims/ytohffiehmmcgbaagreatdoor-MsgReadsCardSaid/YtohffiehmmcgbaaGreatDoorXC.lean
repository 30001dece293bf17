/-
  Contracts of states (package inst): empty, hasRightValue, Right, Follows.
-/
import Derived.Test.YtohffiehmmcgbaaGreatDoorXA
import Derived.Test.YtohffiehmmcgbaaGreatDoorXKRight
import Derived.WalkKit
import Derived.WalkSpells
import Derived.WalkLawsBesides
import Derived.Laws.BytesArg
import Derived.Laws.IdiomStrings
import Derived.Deep.RegionHeld3
namespace Go.Proofs.YtohffiehmmcgbaaGreatDoor
open Go.ChangeShapes Go.WideShapes Go.ChangeAt Go.RowKit Go.Lib
set_option linter.unusedVariables false
set_option linter.unusedSimpArgs false
abbrev zrow : Array Value := #[.int .i64 0, .int .i64 0, .int .i64 0, .int .u32 0, .int .u32 0, .bool false, .int .i64 0, .int .u64 0, .string ⟨#[]⟩, .int .u64 0, .string ⟨#[]⟩, .int .i64 0, .int .u64 0, .int .i64 0, .int .i64 0, .int .i64 0, .int .i64 0, .int .i64 0, .int .i64 0, .int .i64 0, .int .i64 0, .int .i64 0]
theorem zrow_is : zrow = rowJ zeroJ := rfl
theorem Blk.row {w : World} {g : Nat} {t : TypeId} {cs : Array Value} (h : Blk w g t cs) (ds : Array Value) : Blk (w.setRow g ds) g t ds := setRow_heap w g cs ds t (0, 0) h
theorem Blk.rowFar {w : World} {g : Nat} {t : TypeId} {cs : Array Value} (h : Blk w g t cs) {k : Nat} (hne : g ≠ k) (ds : Array Value) : Blk (w.setRow k ds) g t cs := (setRow_other w k g ds hne).trans h
theorem below_pay {k : Nat} {w W w' : World} (h : Below k w W) (hk : k ≤ W.heap.size) (hb : Below W.heap.size W w') : Below k w w' := h.trans (hb.mono hk)
theorem set_bal (x : J) : (rowJ (newJ x.r x.s)).setIfInBounds 3 (.int .u32 x.bal) = rowJ (emptyJ x) := rfl
set_option maxRecDepth 100000 in
set_option maxHeartbeats 1000000 in
theorem empty_any (x : J) (w : World) :
    Calls Tryz.prog 78 #[.agg (rowJ x)] w fun e w' => e = .returned (.agg (rowJ (emptyJ x))) ∧ Below w.heap.size w w' := by
  go_enter Tryz.func78, Tryz.ntmps78
  go_upto_region 1 with fail
  obtain ⟨W, hW⟩ : ∃ W, (w.alloc (.cells (rowJ x) 37)).alloc (.cells zrow 37) = W := ⟨_, rfl⟩
  rw [hW]
  obtain ⟨K0, K1, KB⟩ := two_new hW
  rw [zrow_is] at K1
  clear hW
  obtain ⟨k, hk⟩ : ∃ k, w.heap.size = k := ⟨_, rfl⟩
  rw [hk] at K0 K1 KB
  rw [hk]
  have HK := hid hk
  clear hk
  have c0 := K0.out.j0
  have c1 := K0.out.j1
  go_wp2_with fail
  with_reducible refine (new_any x.r x.s _).mono ?_
  rintro e w1 ⟨rfl, hb⟩
  have D0 := hid (K0.out.below hb K0.out.lt)
  have D1 := hid (K1.out.below hb K1.out.lt)
  have DB := hid (below_pay KB.out (by have := K0.out.lt; omega) hb)
  have HL := hid (show k + 1 < w1.heap.size by have := D1.out.lt; omega)
  clear hb K0 K1 KB c0 c1
  have L1 := hid (len_inst (newJ x.r x.s))
  have L2 := hid (size_inst zeroJ (newJ x.r x.s))
  have L3 := hid (rowJ_one (newJ x.r x.s))
  obtain ⟨n, hn⟩ : ∃ n, w1.heap.size = n := ⟨_, rfl⟩
  have E0 : Hid (Blk (w1.alloc (.cells zrow 37)) n 37 zrow) := hid (by rw [← hn]; exact Blk.new w1 37 zrow)
  go_upto_region 2 with (refine wpList_store_row (o := ⟨none, _, _, _, _, _⟩) rfl 37 (.tmp 3) (.tmp 6) rfl n (rowJ (newJ x.r x.s)) rfl rfl 37 _ E0.out.heap L1.out L2.out L3.out ?_)
  obtain ⟨W2, hW2⟩ : ∃ W2, (w1.alloc (.cells zrow 37)).setRow n (rowJ (newJ x.r x.s)) = W2 := ⟨_, rfl⟩
  rw [hW2]
  have F0 : Hid (Blk W2 k 37 (rowJ x)) := hid (by rw [← hW2]; exact (D0.out.alloc _).rowFar (by have := HL.out; omega) _)
  have F1 : Hid (Blk W2 (k + 1) 37 (rowJ zeroJ)) := hid (by rw [← hW2]; exact (D1.out.alloc _).rowFar (by have := HL.out; omega) _)
  have F2 : Hid (Blk W2 n 37 (rowJ (newJ x.r x.s))) := hid (by rw [← hW2]; exact E0.out.row _)
  have FB : Hid (Below k w W2) := hid (by rw [← hW2]; exact below_setRow_ (DB.out.trans ((Below.refl k w1).alloc (by have := HL.out; omega) _)) (by have := HL.out; omega))
  have HN : Hid (k + 1 < n) := hid (by rw [← hn]; exact HL.out)
  clear hW2 hn D0 D1 DB HL E0 L1 L2 L3
  have c3 := F0.out.j3
  have d3 := F2.out.j3
  have f3 := F2.out.frozen 3
  go_upto_region 3 with fail
  obtain ⟨W3, hW3⟩ : ∃ W3, W2.setCell ⟨n, 3, none⟩ (.int .u32 x.bal) = W3 := ⟨_, rfl⟩
  rw [hW3]
  have G1 : Hid (Blk W3 (k + 1) 37 (rowJ zeroJ)) := hid (by rw [← hW3]; exact F1.out.far (by have := HN.out; simp; omega) _)
  have G2 : Hid (Blk W3 n 37 (rowJ (emptyJ x))) := hid (by rw [← hW3, ← set_bal]; exact F2.out.set_ 3 _)
  have GB : Hid (Below k w W3) := hid (by rw [← hW3]; exact FB.out.setCell (by have := HN.out; simp; omega) _)
  clear hW3 F0 F1 F2 FB c3 d3 f3
  have L1 := hid (len_inst (emptyJ x))
  have L2 := hid (size_inst zeroJ (emptyJ x))
  have L3 := hid (rowJ_one (emptyJ x))
  go_wp2_with (first
    | (with_reducible refine wpList_load_row (o := ⟨some 10, _, _, _, _, _⟩) rfl 37 (.tmp 3) rfl n rfl 37 (rowJ (emptyJ x)) (0, 0) _ G2.out.heap Tryz.underlying37 rfl L1.out ?_)
    | (with_reducible refine wpList_store_row (o := ⟨none, _, _, _, _, _⟩) rfl 37 (.tmp 2) (.tmp 10) rfl (k + 1) (rowJ (emptyJ x)) rfl rfl 37 _ G1.out.heap L1.out L2.out L3.out ?_))
  exact bodyPost_ret (v := .agg (rowJ (emptyJ x))) (results_cell_row (p := 2) (ty := 37) (by kernel_rfl) _ _ (k + 1) 37 (rowJ (emptyJ x)) (0, 0) _ rfl (setRow_heap W3 (k + 1) _ (rowJ (emptyJ x)) _ _ G1.out.heap) Tryz.underlying37 rfl L1.out) rfl ⟨rfl, by rw [HK.out]; exact below_setRow_ GB.out (by omega)⟩
theorem okJ.bal' {x : J} (h : okJ x) : 0 ≤ x.bal ∧ x.bal < 4294967296 := h.1
theorem okJ.vote {x : J} (h : okJ x) : 0 ≤ x.vote ∧ x.vote < 4294967296 := h.2
theorem balright_int (b : Int) (w : World) (hb : 0 ≤ b ∧ b < 4294967296) :
    Calls Tryz.prog 32 #[.int .u32 b] w fun e w' => e = .returned (.bool (balB b)) ∧ w = w' := by
  obtain ⟨n, rfl⟩ : ∃ n : Nat, b = (n : Int) := ⟨b.toNat, by omega⟩
  have := ballotright_any n w (by omega)
  unfold balB
  rw [Int.toNat_natCast]
  exact this
set_option maxRecDepth 100000 in
set_option maxHeartbeats 4000000 in
theorem hasright_any (x : J) (hok : okJ x) (w : World) (hP : PartsIs w) (hf : x.c.foot.size ≤ 4611686018427387903) (hp : x.c.path.size ≤ 4611686018427387903) :
    Calls Tryz.prog 80 #[.agg (rowJ x)] w fun e w' => e = .returned (.bool (valB x)) ∧ Below w.heap.size w w' := by
  obtain ⟨va, hva⟩ : ∃ a, balB x.vote = a := ⟨_, rfl⟩
  obtain ⟨ms, hms⟩ : ∃ a, maySame x = a := ⟨_, rfl⟩
  obtain ⟨rk, hrk⟩ : ∃ a, rightK x.c = a := ⟨_, rfl⟩
  obtain ⟨ob, hob⟩ : ∃ a, ownB x.f x.r x.s = a := ⟨_, rfl⟩
  obtain ⟨sm, hsm⟩ : ∃ a, x.same = a := ⟨_, rfl⟩
  have HV : Hid (valB x = (va && decide (x.vote ≤ x.bal) && (!sm || ms) && rk && ob)) := hid (by unfold valB; rw [hva, hms, hrk, hob, hsm])
  have HO := hid hok
  have HP := hid hP
  have VA := hid hva
  have MS := hid hms
  have RK := hid hrk
  have OB := hid hob
  have SM := hid hsm
  clear hok hP hva hms hrk hob hsm
  go_enter Tryz.func80, Tryz.ntmps80
  go_upto_region 1 with fail
  obtain ⟨W, hW⟩ : ∃ W, w.alloc (.cells (rowJ x) 37) = W := ⟨_, rfl⟩
  rw [hW]
  obtain ⟨K0, KB⟩ := one_new hW
  clear hW
  have HPW := hid (HP.out.below KB.out)
  obtain ⟨k, hk⟩ : ∃ k, w.heap.size = k := ⟨_, rfl⟩
  rw [hk] at K0 KB
  rw [hk]
  have HK := hid hk
  clear hk
  have c3 := K0.out.j3
  have c4 := K0.out.j4
  have c5 := K0.out.j5
  rw [SM.out] at c5
  have HKL := hid (show k ≤ W.heap.size by have := K0.out.lt; omega)
  cases va
  · go_wp2_with fail
    with_reducible refine (balright_int x.vote _ HO.out.vote).mono ?_
    rw [VA.out]
    rintro e w1 ⟨rfl, rfl⟩
    go_wp2
    go_ret
    exact ⟨ret_bool (by rw [HV.out]; simp), by rw [HK.out]; exact KB.out⟩
  · go_wp2_with fail
    with_reducible refine (balright_int x.vote _ HO.out.vote).mono ?_
    rw [VA.out]
    rintro e w1 ⟨rfl, rfl⟩
    rcases Int.lt_or_le x.bal x.vote with hle | hle
    · have HD : Hid (decide (x.vote ≤ x.bal) = false) := hid (decide_eq_false (by omega))
      go_wp2
      go_ret
      exact ⟨ret_bool (by rw [HV.out, HD.out]; simp), by rw [HK.out]; exact KB.out⟩
    · have HD : Hid (decide (x.vote ≤ x.bal) = true) := hid (decide_eq_true hle)
      have key : ∀ (y : Bool) (w2 : World), Below W.heap.size W w2 → (y = (!sm || ms)) → Hid (Blk w2 k 37 (rowJ x) ∧ Below k w w2 ∧ PartsIs w2) := fun y w2 hb _ =>
        hid ⟨K0.out.below hb K0.out.lt, below_pay KB.out HKL.out hb, HPW.out.below hb⟩
      have HKEY := hid key
      clear key
      have I1 := hid (info_cmd8 x.c)
      have I2 := hid (info_att8 x.f)
      have I3 := hid (len_inst x)
      cases sm
      · 
        cases rk
        · go_wp2_with (with_reducible refine wpList_load_midg (op := ⟨some 24, _, _, _, _, _⟩) (by kernel_rfl) 32 (.tmp 23) rfl k 6 rfl (lsK x.c) _ K0.out.jc Tryz.underlying32 rfl I1.out ?_)
          with_reducible refine (cmdright_any x.c _ HPW.out hf hp).mono ?_
          rw [RK.out]
          rintro e w2 ⟨rfl, hb⟩
          have HB := hid (below_pay KB.out HKL.out hb)
          clear hb
          go_wp2
          go_ret
          exact ⟨ret_bool (by rw [HV.out, HD.out]; simp), by rw [HK.out]; exact HB.out⟩
        · go_wp2_with (with_reducible refine wpList_load_midg (op := ⟨some 24, _, _, _, _, _⟩) (by kernel_rfl) 32 (.tmp 23) rfl k 6 rfl (lsK x.c) _ K0.out.jc Tryz.underlying32 rfl I1.out ?_)
          with_reducible refine (cmdright_any x.c _ HPW.out hf hp).mono ?_
          rw [RK.out]
          rintro e w2 ⟨rfl, hb⟩
          have HB := hid (below_pay KB.out HKL.out hb)
          have K2 := hid (K0.out.below hb K0.out.lt)
          clear hb c3 c4 c5
          have c0 := K2.out.j0
          have c1 := K2.out.j1
          go_wp2_with (with_reducible refine wpList_load_midg (op := ⟨some 29, _, _, _, _, _⟩) (by kernel_rfl) 35 (.tmp 28) rfl k 14 rfl (ls8 x.f) _ K2.out.ja Tryz.underlying35 rfl I2.out ?_)
          with_reducible refine (owns8 x.f x.r x.s _).mono ?_
          rw [OB.out]
          rintro e w3 ⟨rfl, hb⟩
          have HB2 := hid (below_pay HB.out (by have := K2.out.lt; omega) hb)
          clear hb c0 c1
          go_wp2
          go_ret
          exact ⟨ret_bool (by rw [HV.out, HD.out]; simp), by rw [HK.out]; exact HB2.out⟩
      · cases ms
        · go_wp2_with (with_reducible refine wpList_load_rowg (o := ⟨some 18, _, _, _, _, _⟩) (by kernel_rfl) 37 (.tmp 1) rfl k rfl 37 (rowJ x) (0, 0) _ K0.out.heap Tryz.underlying37 rfl I3.out ?_)
          with_reducible refine (maysame_any x _).mono ?_
          rw [MS.out]
          rintro e w2 ⟨rfl, hb⟩
          have HB := hid (below_pay KB.out HKL.out hb)
          clear hb
          go_wp2
          go_ret
          exact ⟨ret_bool (by rw [HV.out, HD.out]; simp), by rw [HK.out]; exact HB.out⟩
        · go_wp2_with (with_reducible refine wpList_load_rowg (o := ⟨some 18, _, _, _, _, _⟩) (by kernel_rfl) 37 (.tmp 1) rfl k rfl 37 (rowJ x) (0, 0) _ K0.out.heap Tryz.underlying37 rfl I3.out ?_)
          with_reducible refine (maysame_any x _).mono ?_
          rw [MS.out]
          rintro e w2 ⟨rfl, hb⟩
          have J2 := HKEY.out true w2 hb (by rfl)
          have K2 := hid J2.out.1
          clear hb c3 c4 c5
          cases rk
          · go_wp2_with (with_reducible refine wpList_load_midg (op := ⟨some 24, _, _, _, _, _⟩) (by kernel_rfl) 32 (.tmp 23) rfl k 6 rfl (lsK x.c) _ K2.out.jc Tryz.underlying32 rfl I1.out ?_)
            with_reducible refine (cmdright_any x.c _ J2.out.2.2 hf hp).mono ?_
            rw [RK.out]
            rintro e w3 ⟨rfl, hb⟩
            have HB := hid (below_pay J2.out.2.1 (by have := K2.out.lt; omega) hb)
            clear hb
            go_wp2
            go_ret
            exact ⟨ret_bool (by rw [HV.out, HD.out]; simp), by rw [HK.out]; exact HB.out⟩
          · go_wp2_with (with_reducible refine wpList_load_midg (op := ⟨some 24, _, _, _, _, _⟩) (by kernel_rfl) 32 (.tmp 23) rfl k 6 rfl (lsK x.c) _ K2.out.jc Tryz.underlying32 rfl I1.out ?_)
            with_reducible refine (cmdright_any x.c _ J2.out.2.2 hf hp).mono ?_
            rw [RK.out]
            rintro e w3 ⟨rfl, hb⟩
            have HB := hid (below_pay J2.out.2.1 (by have := K2.out.lt; omega) hb)
            have K3 := hid (K2.out.below hb K2.out.lt)
            clear hb
            have c0 := K3.out.j0
            have c1 := K3.out.j1
            go_wp2_with (with_reducible refine wpList_load_midg (op := ⟨some 29, _, _, _, _, _⟩) (by kernel_rfl) 35 (.tmp 28) rfl k 14 rfl (ls8 x.f) _ K3.out.ja Tryz.underlying35 rfl I2.out ?_)
            with_reducible refine (owns8 x.f x.r x.s _).mono ?_
            rw [OB.out]
            rintro e w4 ⟨rfl, hb⟩
            have HB2 := hid (below_pay HB.out (by have := K3.out.lt; omega) hb)
            clear hb c0 c1
            go_wp2
            go_ret
            exact ⟨ret_bool (by rw [HV.out, HD.out]; simp), by rw [HK.out]; exact HB2.out⟩
end Go.Proofs.YtohffiehmmcgbaaGreatDoor
namespace Go.Proofs.YtohffiehmmcgbaaGreatDoor
open Go.ChangeShapes Go.WideShapes Go.ChangeAt Go.RowKit Go.Lib
set_option linter.unusedVariables false
set_option linter.unusedSimpArgs false
theorem yields_row {P : Program} {ops : Array Oper} {S : World → Prop} {op : Oper} {a : Act} (hw : Region.wanted op (yielded ops a.tmps) = true) (ty : TypeId) (x : Operand) (ho : op.op = .load ty x)
    (g : Nat) (hx : a.eval x = .pointer (some ⟨g, 0, none⟩)) (t : TypeId) (cs : Array Value) (fr : Nat × Nat) (d : TypeDesc) (hS : ∀ w, S w → w.heap[g]? = some (.cells cs t fr))
    (hu : P.underlying ty = some d) (hd : (match d with | .struct _ | .array _ _ => true | _ => false) = true) (hi : (P.info? ty).map (·.size) = some cs.size) : YieldsIf P ops S op (.agg cs) a :=
  .inl ⟨hw, fun w hw' => by
    unfold execOp
    simp only [ho, hx, Instr.loadAt, Instr.sureAddr, Sem.run_bind, Sem.run_pure, Result.andThen_ok, run_loadVar_row w g t ty cs fr d (hS w hw') hu hd hi]⟩
set_option maxRecDepth 100000 in
set_option maxHeartbeats 4000000 in
theorem jright_any (x : J) (hok : okJ x) (w : World) (hP : PartsIs w) (hf : x.c.foot.size ≤ 4611686018427387903) (hp : x.c.path.size ≤ 4611686018427387903) :
    Calls Tryz.prog 31 #[.agg (rowJ x)] w fun e w' => e = .returned (.bool (rightJ x)) ∧ Below w.heap.size w w' := by
  obtain ⟨nb, hnb⟩ : ∃ a, nameB x.r x.s = a := ⟨_, rfl⟩
  obtain ⟨ba, hba⟩ : ∃ a, balB x.bal = a := ⟨_, rfl⟩
  obtain ⟨ee, hee⟩ : ∃ a, eqJ x (emptyJ x) = a := ⟨_, rfl⟩
  obtain ⟨sb, hsb⟩ : ∃ a, statB x.st = a := ⟨_, rfl⟩
  obtain ⟨vb, hvb⟩ : ∃ a, valB x = a := ⟨_, rfl⟩
  have HV : Hid (rightJ x = (nb && ba && (if x.st = 0 then ee else sb && vb))) := hid (by unfold rightJ; rw [hnb, hba, hee, hsb, hvb])
  have HO := hid hok
  have HP := hid hP
  have NB := hid hnb
  have BA := hid hba
  have EE := hid hee
  have SB := hid hsb
  have VB := hid hvb
  clear hok hP hnb hba hee hsb hvb
  go_enter Tryz.func31, Tryz.ntmps31
  go_upto_region 1 with fail
  obtain ⟨W, hW⟩ : ∃ W, w.alloc (.cells (rowJ x) 37) = W := ⟨_, rfl⟩
  rw [hW]
  obtain ⟨K0, KB⟩ := one_new hW
  clear hW
  have HPW := hid (HP.out.below KB.out)
  obtain ⟨k, hk⟩ : ∃ k, w.heap.size = k := ⟨_, rfl⟩
  rw [hk] at K0 KB
  rw [hk]
  have HK := hid hk
  clear hk
  have c0 := K0.out.j0
  have c1 := K0.out.j1
  have HKL := hid (show k ≤ W.heap.size by have := K0.out.lt; omega)
  go_wp2_with fail
  with_reducible refine (nright_any x.r x.s _).mono ?_
  rw [NB.out]
  rintro e w1 ⟨rfl, hb⟩
  have D0 := hid (K0.out.below hb K0.out.lt)
  have DB := hid (below_pay KB.out HKL.out hb)
  have DP := hid (HPW.out.below hb)
  have DL := hid (show k ≤ w1.heap.size by have := D0.out.lt; omega)
  clear hb c0 c1 K0 KB HPW HKL
  have c2 := D0.out.j2
  have c3 := D0.out.j3
  cases nb
  · go_wp2
    go_ret
    exact ⟨ret_bool (by rw [HV.out]; simp), by rw [HK.out]; exact DB.out⟩
  · cases ba
    · go_wp2_with fail
      with_reducible refine (balright_int x.bal _ HO.out.bal').mono ?_
      rw [BA.out]
      rintro e w2 ⟨rfl, rfl⟩
      go_wp2
      go_ret
      exact ⟨ret_bool (by rw [HV.out]; simp), by rw [HK.out]; exact DB.out⟩
    · go_wp2_with fail
      with_reducible refine (balright_int x.bal _ HO.out.bal').mono ?_
      rw [BA.out]
      rintro e w2 ⟨rfl, rfl⟩
      have L1 := hid (len_inst x)
      rcases Decidable.em (x.st = 0) with h0 | h0
      · have HZ := hid h0
        have hb0 : (x.st == 0) = true := beq_iff_eq.2 h0
        clear h0
        go_upto_region 4 with fail
        clear c2 c3 hb0
        refine wp_region_held_drew (S := fun w' => Blk w' k 37 (rowJ x)) (by kernel_rfl) (by exact D0.out.drew) (fun hHeld => ?_)
        refine wpAnyH_take (i := 0) (oi := _) (v := .agg (rowJ x)) rfl (by kernel_rfl) (by kernel_rfl) (by kernel_rfl) (fun _ _ _ h => h) (yields_row (by kernel_rfl) 37 (.tmp 1) rfl k rfl 37 (rowJ x) (0, 0) _ (fun _ h => h) Tryz.underlying37 rfl L1.out) hHeld ?_
        try simp only [Act.put, List.getElem_toArray, List.getElem_cons_zero, List.getElem_cons_succ, List.setIfInBounds_toArray, List.set_cons_zero, List.set_cons_succ]
        refine wpAnyH_take (i := 1) (oi := _) (v := .agg (rowJ x)) rfl (by kernel_rfl) (by kernel_rfl) (by kernel_rfl) (fun _ _ _ h => h) (yields_row (by kernel_rfl) 37 (.tmp 1) rfl k rfl 37 (rowJ x) (0, 0) _ (fun _ h => h) Tryz.underlying37 rfl L1.out) hHeld ?_
        try simp only [Act.put, List.getElem_toArray, List.getElem_cons_zero, List.getElem_cons_succ, List.setIfInBounds_toArray, List.set_cons_zero, List.set_cons_succ]
        refine wpAnyH_ready (rs := [2]) (by kernel_rfl) (by simp) ?_
        refine AllReadyH.cons (o := _) rfl (fun K hK => ?_) AllReadyH.nil
        go_simp
        go_at_call 78
        with_reducible refine (empty_any x _).mono ?_
        rintro e w3 ⟨rfl, hb⟩
        have E0 := hid (D0.out.drew.below hb D0.out.drew.lt)
        have EB := hid (below_pay (below_drew DB.out) DL.out hb)
        clear hb
        refine hK.out _ _ (by exact E0.out) (fun hHeld => ?_)
        clear hK K
        try simp only [Act.put, List.getElem_toArray, List.getElem_cons_zero, List.getElem_cons_succ, List.setIfInBounds_toArray, List.set_cons_zero, List.set_cons_succ]
        have EQ := eq_inst x (emptyJ x) ee EE.out
        have EG := inst_guard
        refine wpAnyH_take (i := 3) (oi := _) (v := .bool ee) rfl (by kernel_rfl) (by kernel_rfl) (by kernel_rfl) (fun _ _ _ h => h) (Or.inl ⟨by kernel_rfl, ?_⟩) hHeld ?_
        focus (intro w' hSw; go_simp; try with_reducible rfl)
        try simp only [Act.put, List.getElem_toArray, List.getElem_cons_zero, List.getElem_cons_succ, List.setIfInBounds_toArray, List.set_cons_zero, List.set_cons_succ]
        clear EQ EG
        refine wpAnyH_take (i := 4) (oi := _) (v := ?_) rfl (by kernel_rfl) (by kernel_rfl) (by kernel_rfl) (fun _ _ _ h => h) (Or.inl ⟨by kernel_rfl, ?_⟩) hHeld ?_
        rotate_left 1
        focus (intro w' hSw; go_simp; try with_reducible rfl)
        try simp only [Act.put, List.getElem_toArray, List.getElem_cons_zero, List.getElem_cons_succ, List.setIfInBounds_toArray, List.set_cons_zero, List.set_cons_succ]
        refine wpAnyH_done (by kernel_rfl) ?_ _
        clear hHeld
        go_wp2
        go_ret
        exact ⟨ret_bool (by rw [HV.out, if_pos HZ.out]; simp), by rw [HK.out]; exact EB.out⟩
      · have HZ := hid h0
        have hb0 : (x.st == 0) = false := beq_eq_false_iff_ne.2 h0
        clear h0
        cases sb
        · go_wp2_with fail
          with_reducible refine (isstatus_any x.st _).mono ?_
          rw [SB.out]
          rintro e w3 ⟨rfl, rfl⟩
          go_wp2
          go_ret
          exact ⟨ret_bool (by rw [HV.out, if_neg HZ.out]; simp), by rw [HK.out]; exact DB.out⟩
        · go_wp2_with fail
          with_reducible refine (isstatus_any x.st _).mono ?_
          rw [SB.out]
          rintro e w3 ⟨rfl, rfl⟩
          go_wp2_with (with_reducible refine wpList_load_rowg (o := ⟨some 24, _, _, _, _, _⟩) (by kernel_rfl) 37 (.tmp 1) rfl k rfl 37 (rowJ x) (0, 0) _ D0.out.heap Tryz.underlying37 rfl L1.out ?_)
          with_reducible refine (hasright_any x HO.out _ DP.out hf hp).mono ?_
          rw [VB.out]
          rintro e w4 ⟨rfl, hb⟩
          have EB := hid (below_pay DB.out DL.out hb)
          clear hb
          go_wp2
          go_ret
          exact ⟨ret_bool (by rw [HV.out, if_neg HZ.out]; simp), by rw [HK.out]; exact EB.out⟩
end Go.Proofs.YtohffiehmmcgbaaGreatDoor
namespace Go.Proofs.YtohffiehmmcgbaaGreatDoor
open Go.RowKit
def ShortRel (V : Nat) (base : Nat) (w : World) (n : Value) (s : Value) (wr : World) : Prop :=
  ∃ (m : Nat) (a : List Nat), n = .int .u64 m ∧ m < 18446744073709551616 ∧ a.length + (shortN m).length = (shortN V).length ∧ a ++ shortN m = shortN V ∧
    wr.ownsRow base 5 1 s a.length (a.map bv) ∧ Below base w wr
theorem short_step {V base m : Nat} {a : List Nat} {w wr w1 : World} {s v' : Value} {o : Obj} {x : Int} (hsz : base ≤ wr.heap.size) (hx : x = ((m % 128 + 128 : Nat) : Int))
    (hm : m < 18446744073709551616) (h128 : 128 ≤ m)
    (hlen : a.length + (shortN m).length = (shortN V).length) (happ : a ++ shortN m = shortN V) (hown : wr.ownsRow base 5 1 s a.length (a.map bv)) (hb : Below base w wr)
    (hown' : w1.ownsRow base 5 1 v' (a.length + 1) (a.map bv ++ [.int .u8 x])) (hg : (wr.alloc o).grownBy w1 s.ownBlock) :
    ShortRel V base w (.int .u64 ((m / 128 : Nat) : Int)) v' w1 := by
  subst hx
  rw [shortN_hi h128] at hlen happ
  refine ⟨m / 128, a ++ [m % 128 + 128], rfl, by omega, ?_, ?_, ?_, below_append hb hsz hown hg⟩
  · rw [← hlen]; simp; omega
  · rw [← happ]; simp
  · simpa [bv] using hown'
theorem short_end {V m : Nat} {a : List Nat} {w wr w1 : World} {s v' : Value} {o : Obj} {x : Int} (hsz : w.heap.size ≤ wr.heap.size) (hx : x = (m : Int)) (h128 : m < 128)
    (happ : a ++ shortN m = shortN V) (hown : wr.ownsRow w.heap.size 5 1 s a.length (a.map bv)) (hb : Below w.heap.size w wr)
    (hown' : w1.ownsRow w.heap.size 5 1 v' (a.length + 1) (a.map bv ++ [.int .u8 x])) (hg : (wr.alloc o).grownBy w1 s.ownBlock) :
    Makes (shortN V) w (.returned v') w1 := by
  subst hx
  rw [shortN_lo h128] at happ
  refine ⟨v', rfl, ?_, below_append hb hsz hown hg⟩
  rw [← happ]
  simpa [bv] using hown'
set_option maxRecDepth 100000 in
set_option maxHeartbeats 400000 in
theorem short_any (v : Nat) (w : World) (hv : v < 18446744073709551616) :
    Calls Tryz.prog 156 #[.int .u64 v] w (Makes (shortN v) w) := by
  obtain ⟨i0, hi, hz0, hz1, hz2⟩ := info_parts info_u8
  have HL := hid (shortN_len10 hv)
  go_enter Tryz.func156, Tryz.ntmps156
  go_wp2
  go_loopw [0, 3] (fun n s wr => ShortRel v w.heap.size w n s wr) (fun n _ _ => (intOf n).toNat)
  case atStart => exact ⟨v, [], rfl, hv, by simp, by simp, World.ownsRow_nil _ _ _ _, Below.refl _ _⟩
  case round =>
    obtain ⟨m, a, rfl, hm, hlen, happ, hown, hbel⟩ := hrel
    have hsz := hbel.size
    have hal : a.length ≤ 10 := by have h1 := HL.out; have h2 := shortN_pos m; omega
    have HA := hid happ
    have HN := hid hlen
    clear happ hlen
    by_cases h128 : 128 ≤ m
    · go_wp2_with (at_builtin; refine wpList_append_own _ rfl (.tmp 6) (.tmp 10) 22 rfl w.heap.size 5 i0 (.int .u8 0) 1 1 Tryz.underlying22 hi hz0 hz1 hz2 rfl (by decide) _ _ _ rfl (hown.alloc _) ⟨wr.heap.size, 0, none⟩ 1 1 [.int .u8 (bits BinOp.or IntKind.u8 ((m : Int) % 256) 128)] rfl rfl (one_at _) one_cell (by unfold maxLen; omega) (by omega) (by simp; omega) ?_)
      intro v' w1 hown' hgrow _
      have R := hid (short_step hsz (or128_walk m) hm h128 HN.out HA.out hown hbel hown' hgrow)
      clear hown' hgrow hown
      go_wp2
      go_roundw
      case rel => exact R.out
      case measure => simp [intOf]; omega
    · go_wp2_with (at_builtin; refine wpList_append_own _ rfl (.tmp 14) (.tmp 17) 22 rfl w.heap.size 5 i0 (.int .u8 0) 1 1 Tryz.underlying22 hi hz0 hz1 hz2 rfl (by decide) _ _ _ rfl (hown.alloc _) ⟨wr.heap.size, 0, none⟩ 1 1 [.int .u8 (m : Int)] rfl rfl (one_at _) one_cell (by unfold maxLen; omega) (by omega) (by simp; omega) ?_)
      intro v' w1 hown' hgrow _
      have R := hid (short_end hsz rfl (by omega) HA.out hown hbel hown' hgrow)
      clear hown' hgrow hown
      go_wp2
      go_ret
      exact R.out
theorem short_hands (v : Nat) (w : World) (hv : v < 18446744073709551616) : Calls Tryz.prog 156 #[.int .u64 v] w (Hands (shortN v) w) :=
  (short_any v w hv).mono fun _ _ h => h.hands
end Go.Proofs.YtohffiehmmcgbaaGreatDoor
namespace Go.Proofs.YtohffiehmmcgbaaGreatDoor
open Go.RowKit
def Tells (t : Nat × Nat × Nat) (w : World) (e : Ending) (w' : World) : Prop :=
  e = .returned (.tuple #[.int .u64 (t.1 : Int), .int .i64 (t.2.1 : Int), .int .i64 (t.2.2 : Int)]) ∧ w = w'
theorem tells3 {t : Nat × Nat × Nat} {w : World} {a b c : Int} {x y z : Nat} (h : t = (x, y, z)) (ha : a = x) (hb : b = y) (hc : c = z) :
    Tells t w (.returned (.tuple #[.int .u64 a, .int .i64 b, .int .i64 c])) w := by
  subst h; subst ha; subst hb; subst hc; exact ⟨rfl, rfl⟩
def ReadRel (l : List Nat) (v i : Value) : Prop :=
  ∃ k n : Nat, k ≤ l.length ∧ k ≤ 9 ∧ n < 128 ^ k ∧ i = .int .i64 k ∧ v = .int .u64 n ∧ readAt k n (l.drop k) = readN l
set_option maxRecDepth 100000 in
set_option maxHeartbeats 400000 in
theorem readshort_any (A : Option Addr) (l : List Nat) (ca : Nat) (w : World) (hl : l.length ≤ 9223372036854775807) (h8 : ∀ x ∈ l, x < 256) (hA : Sees .u8 w A l) :
    Calls Tryz.prog 166 #[.slice A l.length ca] w (Tells (readN l) w) := by
  have HA := hid hA
  have H8 := hid h8
  clear hA h8
  go_enter Tryz.func166, Tryz.ntmps166
  go_wp2
  go_loop [2, 9] (fun v i => ReadRel l v i) (fun _ i => l.length - (intOf i).toNat)
  case atStart => exact ⟨0, 0, Nat.zero_le _, Nat.zero_le _, by decide, rfl, rfl, rfl⟩
  case round =>
    obtain ⟨k, n, hk, hk9, hn, rfl, rfl, hread⟩ := hrel
    have HR := hid hread
    have HN := hid hn
    clear hread hn
    by_cases hlt : k < l.length
    · have hc256 := H8.out _ (List.getElem_mem hlt)
      have hd := List.drop_eq_getElem_cons hlt
      obtain ⟨b, o, rfl, _, hc⟩ := HA.out k l[k] (List.getElem?_eq_getElem hlt)
      have HD := hid hd
      clear hd
      generalize l[k] = c at *
      by_cases hk' : k = 9
      · obtain rfl : k = 9 := hk'
        by_cases h1 : 1 < c
        · go_wp2
          go_ret3
          exact tells3 (by rw [← HR.out, HD.out, readAt_range ⟨rfl, h1⟩]) rfl rfl rfl
        · by_cases h3 : c = 0
          · obtain rfl : c = 0 := h3
            go_wp2
            go_ret3
            exact tells3 (by rw [← HR.out, HD.out, readAt_form ⟨rfl, by omega⟩]) rfl rfl rfl
          · obtain rfl : c = 1 := by omega
            have HT := hid (take9_walk n 1 (by omega) HN.out)
            go_wp2
            go_ret3
            exact tells3 (by rw [← HR.out, HD.out, readAt_ok (by omega) (by omega) (by omega)]) HT.out rfl rfl
      · have hk8 : k ≤ 8 := by omega
        clear hk'
        have HT := hid (take7_walk n c k hc256 (.inl hk8) HN.out)
        by_cases h2 : 128 ≤ c
        · go_wp2
          go_round
          case rel => exact ⟨k + 1, n + c % 128 * 128 ^ k, by omega, by omega, HT.out.2.2 hk8, by go_num, by rw [HT.out.1], by rw [← HR.out, HD.out, readAt_more (by omega) h2]⟩
          case measure => simp [intOf]; omega
        · by_cases h3 : c = 0
          · obtain rfl : c = 0 := h3
            by_cases h0 : 0 < k
            · go_wp2
              go_ret3
              exact tells3 (by rw [← HR.out, HD.out, readAt_form ⟨rfl, h0⟩]) rfl rfl rfl
            · go_wp2
              go_ret3
              exact tells3 (by rw [← HR.out, HD.out, readAt_ok (by omega) (by omega) (by omega)]) HT.out.1 (by omega) rfl
          · go_wp2
            go_ret3
            exact tells3 (by rw [← HR.out, HD.out, readAt_ok (by omega) (by omega) (by omega)]) HT.out.1 (by omega) rfl
    · go_wp2
      go_ret3
      exact tells3 (by rw [← HR.out, List.drop_of_length_le (by omega), readAt_nil]) rfl rfl rfl
end Go.Proofs.YtohffiehmmcgbaaGreatDoor
namespace Go.Proofs.YtohffiehmmcgbaaGreatDoor
open Go.RowKit
end Go.Proofs.YtohffiehmmcgbaaGreatDoor
namespace Go.Proofs.YtohffiehmmcgbaaGreatDoor
open Go.RowKit
def strN (l : List Nat) : ByteArray := strOfNums (l.map fun x : Nat => (x : Int))
theorem run_convert_none0 (P : Program) (w : World) (src dst e : TypeId) (hs : P.underlying src = some (.slice e)) (he : P.underlying e = some (.int .u8)) (hd : P.underlying dst = some .string) (A : Option Addr) (c : Nat) :
    (convert src dst (.slice A 0 c)).run P w = .ok (.string ByteArray.empty) w := by
  rw [run_convert_bytes_string w src dst e _ 0 c hs he hd]
  cases A <;> simp [Conv.bytesToString, loadCells, loadCellsFrom]
theorem sees_convert {w : World} {A : Option Addr} {l : List Nat} {n : Nat} (hS : Sees .u8 w A l) (hn : l.length = n) (c : Nat) :
    (convert 22 9 (.slice A n c)).run Tryz.prog w = .ok (.string (strN l)) w := by
  cases l with
  | nil =>
    simp at hn
    subst hn
    exact run_convert_none0 _ w _ _ 5 Tryz.underlying22 Tryz.underlying5 Tryz.underlying9 A c
  | cons x l =>
    obtain ⟨b, o, rfl, _, _⟩ := hS 0 x rfl
    refine run_convert_bytes_arg w 22 5 Tryz.underlying22 Tryz.underlying5 b o n c _ (by simpa using hn) ?_ 9 Tryz.underlying9
    intro i hi
    have hi' : i < (x :: l).length := by omega
    obtain ⟨b', o', he, _, hc⟩ := hS i _ (List.getElem?_eq_getElem hi')
    injection he with he
    injection he with h1 h2
    subst h1; subst h2
    rw [hc, List.getD_eq_getElem?_getD, List.getElem?_map, List.getElem?_eq_getElem hi']
    rfl
set_option maxRecDepth 100000 in
set_option maxHeartbeats 400000 in
theorem clone_some (b o : Nat) (l : List Nat) (n c : Nat) (w : World) (hn : l.length = n) (hl : n ≤ 140737488355328) (hA : Sees .u8 w (some ⟨b, o, none⟩) l) :
    Calls Tryz.prog 89 #[.slice (some ⟨b, o, none⟩) n c] w (Makes l w) := by
  obtain ⟨i0, hi, hz0, hz1, hz2⟩ := info_parts info_u8
  have HA := hid hA
  have HN := hid hn
  clear hA hn
  have q22 : ∀ (w : World) (a : Option Addr) (n c n' c' : Nat), (binOp .eql 22 (.slice a n c) (.slice none n' c')).run Tryz.prog w = .ok (.bool a.isNone) w := fun w a n c n' c' => Lib.run_eql_slice_nil w _ _ a n c n' c' Tryz.underlying22
  go_enter Tryz.func89, Tryz.ntmps89
  go_wp2_with (first
    | ((with_reducible refine wpList_build_none (o := ⟨some 5, _, _, _, _, _⟩) rfl 22 5 rfl Tryz.underlying22 i0 hi w.heap.size (Nat.le_refl _) ?_); intro s5 w5 hown5 hb5; have z5 := hb5.size)
    | (at_builtin; refine wpList_append_named rfl (.tmp 5) (.tmp 6) 22 rfl w.heap.size 5 i0 (.int .u8 0) 1 Tryz.underlying22 hi hz0 hz1 hz2 rfl _ 0 [] rfl hown5 .u8 (some ⟨b, o, none⟩) c l n HN.out rfl (fun h => nomatch h) (HA.out.below hb5) (by unfold maxLen; omega) (by omega) z5 ?_; intro s6 w6 hown6 hg6; simp only [Nat.zero_add, List.nil_append] at hown6; have HO := hid hown6; have HB := hid (hb5.grown hg6 z5 (fun k hk => (hown5.lt k hk).1)); clear hown6 hg6))
  go_ret
  exact ⟨_, rfl, by rw [HN.out]; exact HO.out, HB.out⟩
set_option maxRecDepth 100000 in
set_option maxHeartbeats 400000 in
theorem clone_none (w : World) : Calls Tryz.prog 89 #[.slice none 0 0] w (Makes [] w) := by
  have q22 : ∀ (w : World) (a : Option Addr) (n c n' c' : Nat), (binOp .eql 22 (.slice a n c) (.slice none n' c')).run Tryz.prog w = .ok (.bool a.isNone) w := fun w a n c n' c' => Lib.run_eql_slice_nil w _ _ a n c n' c' Tryz.underlying22
  go_enter Tryz.func89, Tryz.ntmps89
  go_wp2
  go_ret
  exact ⟨_, rfl, World.ownsRow_nil _ _ _ _, Below.refl _ _⟩
theorem sees_some {w : World} {a : Addr} {l : List Nat} (h : Sees .u8 w (some a) l) : l = [] ∨ ∃ b o, a = ⟨b, o, none⟩ := by
  cases l with
  | nil => exact .inl rfl
  | cons x l =>
    obtain ⟨b, o, he, _⟩ := h 0 x rfl
    injection he with he
    exact .inr ⟨b, o, he⟩
set_option maxRecDepth 100000 in
set_option maxHeartbeats 400000 in
theorem clone_empty (a : Addr) (c : Nat) (w : World) : Calls Tryz.prog 89 #[.slice (some a) 0 c] w (Makes [] w) := by
  obtain ⟨i0, hi, hz0, hz1, hz2⟩ := info_parts info_u8
  have q22 : ∀ (w : World) (a : Option Addr) (n c n' c' : Nat), (binOp .eql 22 (.slice a n c) (.slice none n' c')).run Tryz.prog w = .ok (.bool a.isNone) w := fun w a n c n' c' => Lib.run_eql_slice_nil w _ _ a n c n' c' Tryz.underlying22
  go_enter Tryz.func89, Tryz.ntmps89
  go_wp2_with (first
    | ((with_reducible refine wpList_build_none (o := ⟨some 5, _, _, _, _, _⟩) rfl 22 5 rfl Tryz.underlying22 i0 hi w.heap.size (Nat.le_refl _) ?_); intro s5 w5 hown5 hb5; have z5 := hb5.size)
    | (at_builtin; refine wpList_append_named rfl (.tmp 5) (.tmp 6) 22 rfl w.heap.size 5 i0 (.int .u8 0) 1 Tryz.underlying22 hi hz0 hz1 hz2 rfl _ 0 [] rfl hown5 .u8 (some a) c [] 0 rfl rfl (fun h => nomatch h) (Sees.nil _ _ _) (by unfold maxLen; omega) (by omega) z5 ?_; intro s6 w6 hown6 hg6; simp only [Nat.zero_add, List.nil_append] at hown6; have HO := hid hown6; have HB := hid (hb5.grown hg6 z5 (fun k hk => (hown5.lt k hk).1)); clear hown6 hg6))
  go_ret
  exact ⟨_, rfl, HO.out, HB.out⟩
theorem clone_any (A : Option Addr) (l : List Nat) (n c : Nat) (w : World) (hn : l.length = n) (hl : n ≤ 140737488355328) (hc : A = none → c = 0) (hA : Sees .u8 w A l) :
    Calls Tryz.prog 89 #[.slice A n c] w (Makes l w) := by
  cases A with
  | none =>
    have h0 : l = [] := by
      cases l with
      | nil => rfl
      | cons x l => obtain ⟨b, o, he, _⟩ := hA 0 x rfl; cases he
    subst h0
    rw [hc rfl, ← hn]
    exact clone_none w
  | some a =>
    rcases sees_some hA with rfl | ⟨b, o, rfl⟩
    · rw [← hn]
      exact clone_empty a c w
    · exact clone_some b o l n c w hn hl hA
end Go.Proofs.YtohffiehmmcgbaaGreatDoor
namespace Go.Proofs.YtohffiehmmcgbaaGreatDoor
open Go.ChangeShapes Go.WideShapes Go.ChangeAt Go.RowKit
set_option linter.unusedVariables false
def OutAt (w : World) (base g : Nat) (l : List Nat) : Prop :=
  base ≤ g ∧ ∃ v, Blk w g 97 #[v] ∧ w.ownsRow base 5 1 v l.length (l.map fun y : Nat => Value.int .u8 (y : Int))
theorem row_ne {w : World} {base n g : Nat} {T : TypeId} {cs : Array Value} {v : Value} {xs : List Value} (h : w.ownsRow base 5 1 v n xs) (hg : Blk w g T cs) (hne : 5 ≠ T) : v.ownBlock ≠ some g := by
  rcases h.2 with ⟨rfl, _⟩ | ⟨g', cap, cur, rfl, _, hh, _⟩
  · simp [Value.ownBlock]
  · intro he
    have : g' = g := by simpa [Value.ownBlock] using he
    subst this
    unfold Blk at hg
    rw [hh] at hg
    injection hg with hg
    injection hg with _ ht
    exact hne ht
theorem own_below {w w' : World} {base : Nat} {e : TypeId} {v : Value} {n : Nat} {xs : List Value} (h : w.ownsRow base e 1 v n xs) (hb : Below w.heap.size w w') : w'.ownsRow base e 1 v n xs :=
  h.kept (row := none) ⟨hb.os, hb.tape, hb.output, hb.size, fun k hk _ => hb.block k hk⟩ (by cases hv : v.ownBlock <;> simp)
theorem OutAt.later {w w' : World} {base g : Nat} {l : List Nat} (h : OutAt w base g l) (hb : Below w.heap.size w w') : OutAt w' base g l := by
  obtain ⟨h0, v, h1, h2⟩ := h
  exact ⟨h0, v, h1.below hb h1.lt, own_below h2 hb⟩
theorem OutAt.alloc {w : World} {base g : Nat} {l : List Nat} (h : OutAt w base g l) (o : Obj) : OutAt (w.alloc o) base g l := h.later ((Below.refl _ _).alloc (Nat.le_refl _) o)
theorem OutAt.base_le {w : World} {base g : Nat} {l : List Nat} (h : OutAt w base g l) : base ≤ w.heap.size := Nat.le_of_lt (Nat.lt_of_le_of_lt h.1 (by obtain ⟨_, v, h1, _⟩ := h; exact h1.lt))
def Puts (base g : Nat) (l : List Nat) (w : World) (en : Ending) (w' : World) : Prop := en = .returned (.pointer (some ⟨g, 0, none⟩)) ∧ OutAt w' base g l ∧ Below base w w'
theorem put_step {w w1 : World} {base g : Nat} {l bs L : List Nat} {v v' : Value} (hL : L = l ++ bs) (hg : base ≤ g) (hb : Blk w g 97 #[v]) (hown : w.ownsRow base 5 1 v l.length (l.map fun y : Nat => Value.int .u8 (y : Int)))
    (hown' : w1.ownsRow base 5 1 v' (l.length + bs.length) ((l.map fun y : Nat => Value.int .u8 (y : Int)) ++ bs.map fun y : Nat => Value.int .u8 (y : Int))) (hgr : w.grownBy w1 v.ownBlock) :
    Puts base g L w (.returned (.pointer (some ⟨g, 0, none⟩))) (w1.setCell ⟨g, 0, none⟩ v') := by
  subst hL
  have hne := row_ne hown hb (by decide)
  have hb1 : Blk w1 g 97 #[v] := hb.grown hgr (fun h => hne h.symm)
  have hne' := row_ne hown' hb1 (by decide)
  have hsz : base ≤ w.heap.size := Nat.le_of_lt (Nat.lt_of_le_of_lt hg hb.lt)
  refine ⟨rfl, ⟨hg, v', hb1.set_ 0 v', ?_⟩, Below.setCell (p := ⟨g, 0, none⟩) ((Below.refl _ _).grown hgr hsz (fun k hk => (hown.lt k hk).1)) hg _⟩
  rw [List.length_append, List.map_append]
  have hr : w1.grownBy (w1.setCell ⟨g, 0, none⟩ v') (some g) := only_setCell (p := ⟨g, 0, none⟩) (World.grownBy.refl _ _) (.inl rfl) _
  exact hown'.kept hr (.inr hne')
theorem sees_one {w : World} {x : Nat} (T : TypeId) : Sees .u8 (w.alloc (.cells #[.int .u8 (x : Int)] T)) (some ⟨w.heap.size, 0, none⟩) [x] := by
  intro j y hj
  match j, hj with
  | 0, hj =>
    simp at hj
    subst hj
    exact ⟨w.heap.size, 0, rfl, by simp, by rw [cell_of_row _ _ _ _ _ _ (heap_alloc_new w _)]; rfl⟩
def truthN (t : Bool) : Nat := if t then 1 else 0
def bytesOfS (s : ByteArray) : List Nat := s.data.toList.map UInt8.toNat
theorem bytesOfS_len (s : ByteArray) : (bytesOfS s).length = s.size := by simp [bytesOfS]
theorem bytesOfS_byte (s : ByteArray) : ∀ x ∈ bytesOfS s, x < 256 := by
  intro x hx
  obtain ⟨b, _, rfl⟩ := List.mem_map.1 hx
  exact b.toNat_lt
set_option maxRecDepth 100000 in
set_option maxHeartbeats 400000 in
theorem outbytes_any (base g : Nat) (l : List Nat) (w : World) (h : OutAt w base g l) (hlen : l.length ≤ 140737488355328) :
    Calls Tryz.prog 50 #[.pointer (some ⟨g, 0, none⟩)] w (Makes l w) := by
  obtain ⟨hg, v, hb, hown⟩ := h
  have c0 : w.cell? ⟨g, 0, none⟩ = some v := (hb.cell 0).trans rfl
  have f0 := hb.frozen 0
  obtain ⟨Av, cv, rfl, hn, _, hs⟩ := own_slice hown
  have HN := hid hn
  have HS := hid hs
  clear hb hown hn hs
  go_enter Tryz.func50, Tryz.ntmps50
  go_wp2_with fail
  with_reducible refine (clone_any Av l l.length cv _ rfl hlen HN.out HS.out).mono ?_
  rintro en w1 hm
  obtain ⟨s, rfl, hown, hb⟩ := hm
  have HM : Hid (Makes l w (.returned s) w1) := hid ⟨s, rfl, hown, hb⟩
  clear hown hb
  go_wp2
  go_ret
  exact HM.out
end Go.Proofs.YtohffiehmmcgbaaGreatDoor
namespace Go.Proofs.YtohffiehmmcgbaaGreatDoor
open Go.ChangeShapes Go.WideShapes Go.ChangeAt Go.RowKit
set_option linter.unusedVariables false
def Stays (g : Nat) (w w' : World) : Prop := w.heap.size ≤ w'.heap.size ∧ ∀ k T cs, k ≠ g → 5 ≠ T → Blk w k T cs → Blk w' k T cs
theorem Stays.of_below {g : Nat} {w w' : World} (h : Below w.heap.size w w') : Stays g w w' := ⟨h.size, fun _ _ _ _ _ hb => hb.below h hb.lt⟩
theorem Stays.trans {g : Nat} {a b c : World} (h : Stays g a b) (k : Stays g b c) : Stays g a c := ⟨Nat.le_trans h.1 k.1, fun i T cs hi hT hb => k.2 i T cs hi hT (h.2 i T cs hi hT hb)⟩
theorem Stays.drew {g : Nat} {a b : World} (h : Stays g a.drew b) : Stays g a b := h
theorem Stays.refl (g : Nat) (w : World) : Stays g w w := ⟨Nat.le_refl _, fun _ _ _ _ _ h => h⟩
def PutsK (base g : Nat) (l : List Nat) (w : World) (en : Ending) (w' : World) : Prop := Puts base g l w en w' ∧ Stays g w w'
theorem put_stays {w w1 : World} {base g n : Nat} {v v' : Value} {xs : List Value} (hown : w.ownsRow base 5 1 v n xs) (hgr : w.grownBy w1 v.ownBlock) : Stays g w (w1.setCell ⟨g, 0, none⟩ v') :=
  ⟨Nat.le_trans hgr.size (by simp), fun k T cs hk hT hb => (hb.grown hgr (fun e => row_ne hown hb hT e.symm)).far hk _⟩
set_option maxRecDepth 100000 in
set_option maxHeartbeats 400000 in
theorem putk_as (base g : Nat) (A : Option Addr) (l bs L : List Nat) (n c : Nat) (w : World) (hL : L = l ++ bs) (h : OutAt w base g l) (hn : bs.length = n) (hA0 : A = none → c = 0) (hA : Sees .u8 w A bs) (hlen : l.length + n ≤ 140737488355328) :
    Calls Tryz.prog 122 #[.pointer (some ⟨g, 0, none⟩), .slice A n c] w (PutsK base g L w) := by
  obtain ⟨i0, hi, hz0, hz1, hz2⟩ := info_parts info_u8
  have hsz := h.base_le
  obtain ⟨hg, v, hb, hown⟩ := h
  have HA := hid hA
  have HN := hid hn
  have H0 := hid hA0
  have HO := hid hown
  have hgl := hb.lt
  have hne := row_ne hown hb (by decide)
  have HNE := hid hne
  have HP := hid (fun (w1 : World) (v' : Value) (h1 : w1.ownsRow base 5 1 v' (l.length + bs.length) _) (h2 : w.grownBy w1 v.ownBlock) => And.intro (put_step (L := L) hL hg hb hown h1 h2) (put_stays (g := g) (v' := v') hown h2))
  have HL := hid hL
  have HBk := hid hb
  have c0 : w.cell? ⟨g, 0, none⟩ = some v := (hb.cell 0).trans rfl
  have f0 := hb.frozen 0
  obtain ⟨Av, cv, rfl, _, _, _⟩ := own_slice hown
  clear hb hown hA hn hA0 hne hL
  go_enter Tryz.func122, Tryz.ntmps122
  go_wp2_with (at_builtin; refine wpList_append_named rfl (.tmp 9) (.tmp 10) 22 rfl base 5 i0 (.int .u8 0) 1 Tryz.underlying22 hi hz0 hz1 hz2 rfl _ l.length _ rfl HO.out .u8 A c bs n HN.out rfl H0.out HA.out (by unfold maxLen; omega) (by omega) hsz ?_; intro v1 w1 hown1 hg1; rw [← HN.out] at hown1; have HR := hid (HP.out w1 v1 hown1 hg1); have hb1 := HBk.out.grown hg1 (fun h => HNE.out h.symm); have c1 := (hb1.cell 0).trans rfl; have f1 := hb1.frozen 0; obtain ⟨Aw, cw, rfl, _, _, _⟩ := own_slice2 (L := L) HL.out hown1; clear hown1 hg1 hb1)
  go_ret
  exact HR.out
set_option maxRecDepth 100000 in
set_option maxHeartbeats 400000 in
theorem outbytek_any (base g : Nat) (l : List Nat) (x : Nat) (a : Int) (w : World) (h : OutAt w base g l) (ha : a = (x : Int)) (hlen : l.length + 1 ≤ 140737488355328) :
    Calls Tryz.prog 66 #[.pointer (some ⟨g, 0, none⟩), .int .u8 a] w (PutsK base g (l ++ [x]) w) := by
  subst ha
  have HO := hid (h.alloc (.cells #[.int .u8 (x : Int)] 5))
  have hB := h.base_le
  clear h
  go_enter Tryz.func66, Tryz.ntmps66
  go_wp2_with fail
  refine (putk_as base g (some ⟨w.heap.size, 0, none⟩) l [x] (l ++ [x]) 1 1 _ rfl HO.out rfl (fun h => nomatch h) (sees_one _) hlen).mono ?_
  rintro en w1 ⟨⟨rfl, ho, hb⟩, hst⟩
  have HR : Hid (OutAt w1 base g (l ++ [x]) ∧ Below base w w1 ∧ Stays g w w1) := hid ⟨ho, ((Below.refl _ _).alloc hB _).trans hb, (Stays.of_below ((Below.refl _ _).alloc (Nat.le_refl _) _)).trans hst⟩
  clear ho hb hst
  go_wp2
  go_ret
  exact ⟨⟨rfl, HR.out.1, HR.out.2.1⟩, HR.out.2.2⟩
set_option maxRecDepth 100000 in
set_option maxHeartbeats 400000 in
theorem outshortk_any (base g : Nat) (l : List Nat) (v : Nat) (a : Int) (w : World) (h : OutAt w base g l) (ha : a = (v : Int)) (hv : v < 18446744073709551616) (hlen : l.length + 10 ≤ 140737488355328) :
    Calls Tryz.prog 123 #[.pointer (some ⟨g, 0, none⟩), .int .u64 a] w (PutsK base g (l ++ shortN v) w) := by
  subst ha
  have HO := hid h
  have hB := h.base_le
  have h10 := shortN_len10 hv
  clear h
  go_enter Tryz.func123, Tryz.ntmps123
  go_wp2_with fail
  with_reducible refine (short_hands v _ hv).mono ?_
  rintro en w1 ⟨A1, c1, rfl, hn1, _, hs1, hb1⟩
  have HS := hid hs1
  have HN := hid hn1
  have HO1 := hid (HO.out.later hb1)
  have HB1 := hid hb1
  clear hs1 hn1 hb1
  go_wp2_with fail
  with_reducible refine (putk_as base g A1 l (shortN v) (l ++ shortN v) _ c1 _ rfl HO1.out rfl HN.out HS.out (by omega)).mono ?_
  rintro en w2 ⟨⟨rfl, ho, hb⟩, hst⟩
  have HR : Hid (OutAt w2 base g (l ++ shortN v) ∧ Below base w w2 ∧ Stays g w w2) := hid ⟨ho, (HB1.out.mono hB).trans hb, (Stays.of_below HB1.out).trans hst⟩
  clear ho hb hst
  go_wp2
  go_ret
  exact ⟨⟨rfl, HR.out.1, HR.out.2.1⟩, HR.out.2.2⟩
end Go.Proofs.YtohffiehmmcgbaaGreatDoor
namespace Go.Proofs.YtohffiehmmcgbaaGreatDoor
open Go.ChangeShapes Go.WideShapes Go.ChangeAt Go.RowKit
set_option linter.unusedVariables false
def PutsN (base g : Nat) (l : List Nat) (w : World) (en : Ending) (w' : World) : Prop := en = .returned (.tuple #[]) ∧ OutAt w' base g l ∧ Below base w w' ∧ Stays g w w'
theorem OutAt.drew {w : World} {base g : Nat} {l : List Nat} (h : OutAt w base g l) : OutAt w.drew base g l := h.later (below_drew (Below.refl _ _))
set_option maxRecDepth 100000 in
set_option maxHeartbeats 1000000 in
theorem idput_any (base g : Nat) (l L : List Nat) (a b : Nat) (w : World) (h : OutAt w base g l) (ha : a < 7) (hb : b < 1024) (hlen : l.length + 11 ≤ 140737488355328) (hL : L = (l ++ [a]) ++ shortN b) :
    Calls Tryz.prog 67 #[nm a b, .pointer (some ⟨g, 0, none⟩)] w (PutsN base g L w) := by
  subst hL
  have hB := h.base_le
  obtain ⟨W, hW⟩ : ∃ W, w.alloc (.cells #[.int .i64 (a : Int), .int .i64 (b : Int)] 25) = W := ⟨_, rfl⟩
  obtain ⟨k, hk⟩ : ∃ k, w.heap.size = k := ⟨_, rfl⟩
  have HO : Hid (OutAt W base g l) := hid (hW ▸ h.alloc _)
  have HK : Hid (Blk W k 25 #[.int .i64 (a : Int), .int .i64 (b : Int)]) := hid (by rw [← hW, ← hk]; exact Blk.new _ _ _)
  have HB : Hid (Below base w W) := hid (by rw [← hW]; exact (Below.refl _ _).alloc hB _)
  have HS : Hid (Stays g w W) := hid (by rw [← hW]; exact Stays.of_below ((Below.refl _ _).alloc (Nat.le_refl _) _))
  have hkg : k ≠ g := by
    obtain ⟨_, v, h1, _⟩ := h
    have := h1.lt
    omega
  have HA := hid (show IntKind.u8.wrap (a : Int) = (a : Int) by rw [IntKind.wrap_u8]; omega)
  have HB6 := hid (show IntKind.u64.wrap (b : Int) = (b : Int) by rw [IntKind.wrap_u64]; omega)
  have hl1 : (l ++ [a]).length + 10 ≤ 140737488355328 := by simp; omega
  have HL1 := hid hl1
  clear h hB hl1
  go_enter Tryz.func67, Tryz.ntmps67
  go_wp2_with fail
  clear hW hk
  go_region_held3 (fun w' => w'.cell? ⟨k, 0, none⟩ = some (.int .i64 (a : Int)) ∧ w'.cell? ⟨k, 1, none⟩ = some (.int .i64 (b : Int)))
    (first | exact (blkn HK.out).1 | exact (blkn HK.out.drew).1 | exact (blkn K6.out).1 | exact (blkn K7.out).1)
    (first
      | (go_at_call 66; (with_reducible refine (outbytek_any base g l a _ _ HO.out.drew HA.out (by omega)).mono ?_); rintro en w6 ⟨⟨rfl, ho6, hb6⟩, hs6⟩; have K6 := hid (hs6.2 k _ _ hkg (by decide) HK.out.drew))
      | (go_at_call 123; (with_reducible refine (outshortk_any base g (l ++ [a]) b _ _ ho6 HB6.out (by omega) HL1.out).mono ?_); rintro en w7 ⟨⟨rfl, ho7, hb7⟩, hs7⟩; have K7 := hid (hs7.2 k _ _ hkg (by decide) K6.out)))
  have HR : Hid (OutAt w7 base g ((l ++ [a]) ++ shortN b) ∧ Below base w w7 ∧ Stays g w w7) := hid ⟨ho7, (below_drew HB.out).trans (hb6.trans hb7), (HS.out.trans (Stays.drew hs6)).trans hs7⟩
  clear ho6 hb6 hs6 ho7 hb7 hs7
  go_wp2
  go_end0
  exact ⟨rfl, HR.out⟩
set_option maxRecDepth 100000 in
set_option maxHeartbeats 400000 in
theorem ballotput_any (base g : Nat) (l : List Nat) (v : Nat) (w : World) (h : OutAt w base g l) (hv : v < 4294967296) (hlen : l.length + 10 ≤ 140737488355328) :
    Calls Tryz.prog 68 #[.int .u32 (v : Int), .pointer (some ⟨g, 0, none⟩)] w (PutsN base g (l ++ shortN v) w) := by
  have HO := hid h
  clear h
  go_enter Tryz.func68, Tryz.ntmps68
  go_wp2_with fail
  with_reducible refine (outshortk_any base g l v _ _ HO.out rfl (by omega) hlen).mono ?_
  rintro en w2 ⟨⟨rfl, ho, hb⟩, hs⟩
  have HR : Hid (OutAt w2 base g (l ++ shortN v) ∧ Below base w w2 ∧ Stays g w w2) := hid ⟨ho, hb, hs⟩
  clear ho hb hs
  go_wp2
  go_end0
  exact ⟨rfl, HR.out⟩
end Go.Proofs.YtohffiehmmcgbaaGreatDoor
namespace Go.Proofs.YtohffiehmmcgbaaGreatDoor
open Go.ChangeShapes Go.WideShapes Go.ChangeAt Go.RowKit Go.Lib
def textN (s : ByteArray) : List Nat := shortN s.size ++ bytesOfS s
def e0 (c : K) : List Nat := if h0 c.kind then bytesN c.num.toNat 8 ++ textN c.foot else []
def e1 (c : K) : List Nat := if h1 c.kind then shortN c.req.toNat else []
def e2 (c : K) : List Nat := if h2 c.kind then textN c.path else []
def e3 (c : K) : List Nat := if h3 c.kind then [c.mode.toNat] else []
def e4 (c : K) : List Nat := if h4 c.kind then shortN c.n.toNat else []
def e5 (c : K) : List Nat := if h5 c.kind then shortN c.time.toNat else []
def enc (c : K) : List Nat := c.kind.toNat :: (e0 c ++ (e1 c ++ (e2 c ++ (e3 c ++ (e4 c ++ e5 c)))))
theorem var_under {P : Program} {w w' : World} {n : String} {cs : Array Value} {g base : Nat} (hg : P.globalNamed n = some g) (h : w.var? P n = some cs) (hlt : g < base) (hb : Below base w w') : w'.var? P n = some cs := by
  unfold World.var? at h ⊢
  rw [hg] at h ⊢
  simp only [Option.bind_some] at h ⊢
  rw [hb.block g hlt]; exact h
theorem PartsIs.lt {w : World} (h : PartsIs w) : 3 < w.heap.size := by
  have h1 := h.cell 0
  rcases Nat.lt_or_ge 3 w.heap.size with hlt | hge
  · exact hlt
  · exfalso
    have h2 : w.heap[3]? = none := Array.getElem?_eq_none hge
    have h3 : ptsV[0]? = some (.int .u8 0) := rfl
    rw [h3] at h1
    simp [World.cell?, h2] at h1
end Go.Proofs.YtohffiehmmcgbaaGreatDoor
namespace Go.Proofs.YtohffiehmmcgbaaGreatDoor
open Go.ChangeShapes Go.WideShapes Go.ChangeAt Go.RowKit Go.Lib
set_option linter.unusedVariables false
set_option linter.unusedSimpArgs false
theorem Blk.j8 {w : World} {g : Nat} {T : TypeId} {x : J} (h : Blk w g T (rowJ x)) : w.cell? ⟨g, 8, none⟩ = some (.string x.c.foot) := (h.cell 8).trans rfl
theorem Blk.j10 {w : World} {g : Nat} {T : TypeId} {x : J} (h : Blk w g T (rowJ x)) : w.cell? ⟨g, 10, none⟩ = some (.string x.c.path) := (h.cell 10).trans rfl
end Go.Proofs.YtohffiehmmcgbaaGreatDoor
namespace Go.Proofs.YtohffiehmmcgbaaGreatDoor
open Go.ChangeShapes Go.WideShapes Go.ChangeAt Go.RowKit
def InAt (w : World) (g : Nat) (l : List Nat) (e : Nat) : Prop :=
  ∃ A c, Blk w g 128 #[.slice A l.length c, .int .i64 (e : Int)] ∧ (A = none → c = 0) ∧ l.length ≤ c ∧ c ≤ 9223372036854775807 ∧ Held g w A l
theorem InAt.lt {w : World} {g : Nat} {l : List Nat} {e : Nat} (h : InAt w g l e) : g < w.heap.size := by
  obtain ⟨A, c, hb, _⟩ := h
  exact hb.lt
theorem InAt.keep {w w' : World} {g : Nat} {l : List Nat} {e : Nat} (h : InAt w g l e) (hb : Below (g + 1) w w') : InAt w' g l e := by
  obtain ⟨A, c, hk, h1, h2, h3, h4⟩ := h
  exact ⟨A, c, hk.below hb (by omega), h1, h2, h3, h4.below (hb.mono (by omega))⟩
theorem InAt.grown {w w' : World} {g r : Nat} {l : List Nat} {e : Nat} (h : InAt w g l e) (hb : w.grownBy w' (some r)) (hr : g < r) : InAt w' g l e :=
  h.keep (below_only hb (by omega) h.lt)
theorem blk2 {w : World} {g : Nat} {T : TypeId} {a b : Value} (h : Blk w g T #[a, b]) :
    w.cell? ⟨g, 0, none⟩ = some a ∧ w.cell? ⟨g, 1, none⟩ = some b ∧ w.frozen? ⟨g, 0, none⟩ = false ∧ w.frozen? ⟨g, 1, none⟩ = false :=
  ⟨(h.cell 0).trans rfl, (h.cell 1).trans rfl, h.frozen 0, h.frozen 1⟩
set_option maxRecDepth 100000 in
set_option maxHeartbeats 400000 in
theorem left_any (g : Nat) (l : List Nat) (e : Nat) (w : World) (h : InAt w g l e) :
    Calls Tryz.prog 98 #[.pointer (some ⟨g, 0, none⟩)] w fun en w' => en = .returned (.int .i64 (l.length : Int)) ∧ w = w' := by
  obtain ⟨A, c, hb, h1, h2, h3, h4⟩ := h
  have H4 := hid h4
  obtain ⟨c0, c1, f0, f1⟩ := blk2 hb
  clear hb h1 h4
  go_enter Tryz.func98, Tryz.ntmps98
  go_wp2
  go_ret
  exact ⟨rfl, rfl⟩
set_option maxRecDepth 100000 in
set_option maxHeartbeats 400000 in
theorem failed_as (b : Bool) (g : Nat) (l : List Nat) (e : Nat) (w : World) (h : InAt w g l e) (hb : b = ((e : Int) != 0)) :
    Calls Tryz.prog 97 #[.pointer (some ⟨g, 0, none⟩)] w fun en w' => en = .returned (.bool b) ∧ w = w' := by
  obtain ⟨A, c, hk, h1, h2, h3, h4⟩ := h
  obtain ⟨c0, c1, f0, f1⟩ := blk2 hk
  have HB := hid hb
  clear hk h1 h4 hb
  go_enter Tryz.func97, Tryz.ntmps97
  go_wp2
  go_ret
  exact ⟨ret_bool HB.out.symm, rfl⟩
theorem failed_no (g : Nat) (l : List Nat) (w : World) (h : InAt w g l 0) :
    Calls Tryz.prog 97 #[.pointer (some ⟨g, 0, none⟩)] w fun en w' => en = .returned (.bool false) ∧ w = w' := failed_as false g l 0 w h (by simp)
theorem failed_yes (g : Nat) (l : List Nat) (e : Nat) (w : World) (h : InAt w g l e) (he : 0 < e) :
    Calls Tryz.prog 97 #[.pointer (some ⟨g, 0, none⟩)] w fun en w' => en = .returned (.bool true) ∧ w = w' :=
  failed_as true g l e w h (by have h1 : ((e : Int) != 0) = true := by { rw [bne_iff_ne]; omega }; exact h1.symm)
def firstE (e x : Nat) : Nat := if e = 0 then x else e
def leftE (e x : Nat) (l : List Nat) : List Nat := if e = 0 ∧ 0 < x then [] else l
def Turns (P : Ending → Prop) (g : Nat) (l : List Nat) (e : Nat) (w : World) (en : Ending) (w' : World) : Prop := P en ∧ InAt w' g l e ∧ w.grownBy w' (some g)
theorem fail_step {w : World} {g : Nat} {x : Nat} {A : Option Addr} {n c : Nat} (hb : Blk w g 128 #[.slice A n c, .int .i64 0]) :
    InAt ((w.setCell ⟨g, 1, none⟩ (.int .i64 (x : Int))).setCell ⟨g, 0, none⟩ (.slice none 0 0)) g [] x ∧ w.grownBy ((w.setCell ⟨g, 1, none⟩ (.int .i64 (x : Int))).setCell ⟨g, 0, none⟩ (.slice none 0 0)) (some g) := by
  refine ⟨⟨none, 0, ?_, fun _ => rfl, Nat.le_refl _, by omega, Held.nil _ _ _⟩, only_setCell (p := ⟨g, 0, none⟩) (only_setCell (p := ⟨g, 1, none⟩) (World.grownBy.refl _ _) (.inl rfl) _) (.inl rfl) _⟩
  have h := (hb.set_ 1 (.int .i64 (x : Int))).set_ 0 (.slice none 0 0)
  exact h
set_option maxRecDepth 100000 in
set_option maxHeartbeats 400000 in
theorem fail_any (g : Nat) (l : List Nat) (e x : Nat) (a : Int) (w : World) (h : InAt w g l e) (ha : a = (x : Int)) :
    Calls Tryz.prog 93 #[.pointer (some ⟨g, 0, none⟩), .int .i64 a] w (Turns (fun en => en = .returned (.tuple #[])) g (leftE e x l) (firstE e x) w) := by
  subst ha
  by_cases he : e = 0
  · subst he
    by_cases hx : x = 0
    · subst hx
      have H : Hid (Turns (fun en => en = .returned (.tuple #[])) g (leftE 0 0 l) (firstE 0 0) w (.returned (.tuple #[])) w) := hid ⟨rfl, h, World.grownBy.refl _ _⟩
      have HI := hid h
      clear h
      go_enter Tryz.func93, Tryz.ntmps93
      go_wp2_with ((go_at_call 97; ((with_reducible refine (failed_no g l _ HI.out).mono ?_); rintro e w' ⟨rfl, rfl⟩)))
      go_end0
      exact H.out
    · have HI := hid h
      obtain ⟨A, c, hk, h1, h2, h3, h4⟩ := h
      have H : Hid (Turns (fun en => en = .returned (.tuple #[])) g (leftE 0 x l) (firstE 0 x) w (.returned (.tuple #[])) ((w.setCell ⟨g, 1, none⟩ (.int .i64 (x : Int))).setCell ⟨g, 0, none⟩ (.slice none 0 0))) := hid (by
        have := fail_step (x := x) hk
        refine ⟨rfl, ?_, this.2⟩
        rw [leftE, firstE, if_pos ⟨rfl, by omega⟩, if_pos rfl]
        exact this.1)
      obtain ⟨c0, c1, f0, f1⟩ := blk2 hk
      clear hk h1 h4
      go_enter Tryz.func93, Tryz.ntmps93
      go_wp2_with ((go_at_call 97; ((with_reducible refine (failed_no g l _ HI.out).mono ?_); rintro e w' ⟨rfl, rfl⟩)))
      go_end0
      exact H.out
  · have H : Hid (Turns (fun en => en = .returned (.tuple #[])) g (leftE e x l) (firstE e x) w (.returned (.tuple #[])) w) := hid ⟨rfl, by rw [leftE, firstE, if_neg (by omega), if_neg he]; exact h, World.grownBy.refl _ _⟩
    have HI := hid h
    have he' : 0 < e := by omega
    clear h
    go_enter Tryz.func93, Tryz.ntmps93
    go_wp2_with ((go_at_call 97; ((with_reducible refine (failed_yes g l e _ HI.out he').mono ?_); rintro e w' ⟨rfl, rfl⟩)))
    go_end0
    exact H.out
def Cuts (l : List Nat) (g : Nat) (w' : World) (en : Ending) : Prop := ∃ A1, en = .returned (.slice A1 l.length l.length) ∧ (A1 = none → l.length = 0) ∧ Held g w' A1 l
set_option maxRecDepth 100000 in
set_option maxHeartbeats 400000 in
theorem take_ok (g : Nat) (l : List Nat) (e k : Nat) (a : Int) (w : World) (h : InAt w g l e) (ha : a = (k : Int)) (hk : k ≤ l.length) :
    Calls Tryz.prog 138 #[.pointer (some ⟨g, 0, none⟩), .int .i64 a] w (fun en w' => Cuts (l.take k) g w' en ∧ InAt w' g (l.drop k) e ∧ w.grownBy w' (some g)) := by
  subst ha
  obtain ⟨i0, hi, hz0, hz1, hz2⟩ := info_parts info_u8
  obtain ⟨A, c, hb, h1, h2, h3, h4⟩ := h
  obtain ⟨A1, s1, n1, l1⟩ := cut_front (P := Tryz.prog) 22 5 i0 Tryz.underlying22 hi hk h2 h4 h1
  obtain ⟨A2, s2, n2, l2⟩ := cut_rest (P := Tryz.prog) 22 5 i0 Tryz.underlying22 hi hz1 rfl hk h2 h4 h1
  have H : Hid (Cuts (l.take k) g (w.setCell ⟨g, 0, none⟩ (.slice A2 (l.length - k) (c - k))) (.returned (.slice A1 k k)) ∧ InAt (w.setCell ⟨g, 0, none⟩ (.slice A2 (l.length - k) (c - k))) g (l.drop k) e ∧ w.grownBy (w.setCell ⟨g, 0, none⟩ (.slice A2 (l.length - k) (c - k))) (some g)) := hid (by
    have hbe : Below g w (w.setCell ⟨g, 0, none⟩ (.slice A2 (l.length - k) (c - k))) := Below.setCell (p := ⟨g, 0, none⟩) (Below.refl _ _) (Nat.le_refl _) _
    have hl : (l.take k).length = k := by rw [List.length_take]; omega
    refine ⟨⟨A1, by rw [hl], by rw [hl]; exact n1, l1.below hbe⟩, ⟨A2, c - k, ?_, n2, by rw [List.length_drop]; omega, by omega, l2.below hbe⟩, only_setCell (p := ⟨g, 0, none⟩) (World.grownBy.refl _ _) (.inl rfl) _⟩
    have := hb.set_ 0 (.slice A2 (l.length - k) (c - k))
    rw [List.length_drop]
    exact this)
  obtain ⟨c0, c1, f0, f1⟩ := blk2 hb
  have hlen : l.length ≤ 9223372036854775807 := by omega
  clear hb h1 h4 l1 l2 n1 n2 hz0 hz1 hz2 hi
  go_enter Tryz.func138, Tryz.ntmps138
  go_wp2
  go_ret
  exact H.out
set_option maxRecDepth 100000 in
set_option maxHeartbeats 400000 in
theorem take_no (g : Nat) (l : List Nat) (e k : Nat) (a : Int) (w : World) (h : InAt w g l e) (ha : a = (k : Int)) (hk : l.length < k) :
    Calls Tryz.prog 138 #[.pointer (some ⟨g, 0, none⟩), .int .i64 a] w (Turns (fun en => en = .returned (.slice none 0 0)) g (leftE e 20 l) (firstE e 20) w) := by
  subst ha
  have HI := hid h
  obtain ⟨A, c, hb, h1, h2, h3, h4⟩ := h
  obtain ⟨c0, c1, f0, f1⟩ := blk2 hb
  clear hb h1 h4
  go_enter Tryz.func138, Tryz.ntmps138
  go_wp2_with ((go_at_call 93; ((with_reducible refine (fail_any g l e 20 _ _ HI.out (by omega)).mono ?_); rintro en w1 ⟨rfl, hin, hg⟩; have HT := hid hin; have HG := hid hg; clear hin hg)))
  go_ret
  exact ⟨rfl, HT.out, HG.out⟩
def endE (l : List Nat) (e : Nat) : Nat := if l = [] then e else 21
set_option maxRecDepth 100000 in
set_option maxHeartbeats 400000 in
theorem end_any (g : Nat) (l : List Nat) (e : Nat) (w : World) (h : InAt w g l e) :
    Calls Tryz.prog 42 #[.pointer (some ⟨g, 0, none⟩)] w fun en w' => en = .returned (.int .i64 (endE l e : Int)) ∧ w = w' := by
  have HI := hid h
  obtain ⟨A, c, hb, h1, h2, h3, h4⟩ := h
  obtain ⟨c0, c1, f0, f1⟩ := blk2 hb
  clear hb h1 h4
  by_cases hl : l = []
  · subst hl
    have HE : Hid (endE [] e = e) := hid rfl
    go_enter Tryz.func42, Tryz.ntmps42
    go_wp2_with ((go_at_call 98; ((with_reducible refine (left_any g [] e _ HI.out).mono ?_); rintro e w' ⟨rfl, rfl⟩)))
    go_ret
    exact ⟨ret_num (by rw [HE.out]), rfl⟩
  · have hpos : 0 < l.length := List.length_pos_iff.2 hl
    have HE : Hid (endE l e = 21) := hid (by rw [endE, if_neg hl])
    clear hl
    go_enter Tryz.func42, Tryz.ntmps42
    go_wp2_with ((go_at_call 98; ((with_reducible refine (left_any g l e _ HI.out).mono ?_); rintro e w' ⟨rfl, rfl⟩)))
    go_ret
    exact ⟨ret_num (by rw [HE.out]; rfl), rfl⟩
end Go.Proofs.YtohffiehmmcgbaaGreatDoor
namespace Go.Proofs.YtohffiehmmcgbaaGreatDoor
open Go.ChangeShapes Go.WideShapes Go.ChangeAt Go.RowKit
def sByte (l : List Nat) (e : Nat) : List Nat × Nat × Nat := match l with
  | [] => ([], firstE e 20, 0)
  | b :: t => (t, e, b)
def sTruth (l : List Nat) (e : Nat) : List Nat × Nat × Bool := match l with
  | [] => ([], firstE e 20, false)
  | b :: t => if b ≤ 1 then (t, e, decide (b = 1)) else ([], 10, false)
def sShort (l : List Nat) (e most : Nat) : List Nat × Nat × Nat :=
  if (readN l).2.2 = 0 then (if most < (readN l).1 then ([], 12, 0) else (l.drop (readN l).2.1, e, (readN l).1)) else ([], firstE e (readN l).2.2, 0)
theorem readAt_zero (l : List Nat) : ∀ (i n : Nat), (readAt i n l).2.2 ≠ 0 → (readAt i n l).1 = 0 ∧ (readAt i n l).2.1 = 0 := by
  induction l with
  | nil => intro i n _; exact ⟨rfl, rfl⟩
  | cons c r ih =>
    intro i n h
    rw [readAt] at h ⊢
    split
    · exact ⟨rfl, rfl⟩
    · split
      · rename_i h1 h2
        rw [if_neg h1, if_pos h2] at h
        exact ih _ _ h
      · split
        · exact ⟨rfl, rfl⟩
        · rename_i h1 h2 h3
          rw [if_neg h1, if_neg h2, if_neg h3] at h
          exact absurd rfl h
theorem readN_zero {l : List Nat} (h : (readN l).2.2 ≠ 0) : readN l = (0, 0, (readN l).2.2) := by
  obtain ⟨h1, h2⟩ := readAt_zero l 0 0 h
  have e : readN l = ((readN l).1, (readN l).2.1, (readN l).2.2) := rfl
  rw [e]
  show ((readAt 0 0 l).1, (readAt 0 0 l).2.1, (readN l).2.2) = _
  rw [h1, h2]
theorem readN_ne {l : List Nat} (h : (readN l).2.2 = 0) : l ≠ [] := by
  rintro rfl
  exact absurd h (by decide)
theorem firstE_pos {e x : Nat} (h : 0 < x) : 0 < firstE e x := by unfold firstE; split <;> omega
theorem leftE_nil {e x : Nat} {l : List Nat} (h : 0 < x) (hl : e ≠ 0 → l = []) : leftE e x l = [] := by
  unfold leftE
  split
  · rfl
  · exact hl (by omega)
theorem leftE_zero (e : Nat) (l : List Nat) : leftE e 0 l = l := by simp [leftE]
theorem firstE_zero (e : Nat) : firstE e 0 = e := by unfold firstE; split <;> omega
theorem firstE_none (x : Nat) : firstE 0 x = x := rfl
def Fine (l : List Nat) (e : Nat) : Prop := e ≠ 0 → l = []
set_option maxRecDepth 100000 in
set_option maxHeartbeats 400000 in
theorem byte_none (g : Nat) (e : Nat) (w : World) (h : InAt w g [] e) :
    Calls Tryz.prog 92 #[.pointer (some ⟨g, 0, none⟩)] w (Turns (fun en => en = .returned (.int .u8 0)) g [] (firstE e 20) w) := by
  have HI := hid h
  have hp : 0 < firstE e 20 := firstE_pos (by omega)
  clear h
  go_enter Tryz.func92, Tryz.ntmps92
  go_wp2_with fail
  with_reducible refine (take_no g [] e 1 _ _ HI.out (by omega) (by simp)).mono ?_
  rintro en w1 ⟨rfl, hin, hg⟩
  have HT : Hid (InAt w1 g [] (firstE e 20)) := hid (by rw [leftE] at hin; simpa using hin)
  have HG := hid hg
  clear hin hg
  go_wp2_with fail
  with_reducible refine (failed_yes g [] (firstE e 20) _ HT.out hp).mono ?_
  rintro en w2 ⟨rfl, rfl⟩
  go_wp2
  go_ret
  exact ⟨rfl, HT.out, HG.out⟩
set_option maxRecDepth 100000 in
set_option maxHeartbeats 400000 in
theorem byte_some (g : Nat) (b : Nat) (t : List Nat) (w : World) (h : InAt w g (b :: t) 0) :
    Calls Tryz.prog 92 #[.pointer (some ⟨g, 0, none⟩)] w (Turns (fun en => en = .returned (.int .u8 (b : Int))) g t 0 w) := by
  have HI := hid h
  clear h
  go_enter Tryz.func92, Tryz.ntmps92
  go_wp2_with fail
  with_reducible refine (take_ok g (b :: t) 0 1 _ _ HI.out (by omega) (by simp)).mono ?_
  rintro en w1 ⟨⟨A1, rfl, _, hs⟩, hin, hg⟩
  obtain ⟨b', o, rfl, _, hc⟩ := hs 0 b (by simp)
  have HT : Hid (InAt w1 g t 0) := hid hin
  have HG := hid hg
  have hc' : w1.cell? ⟨b', o, none⟩ = some (.int .u8 (b : Int)) := hc
  clear hin hg hs hc
  go_wp2_with fail
  with_reducible refine (failed_no g t _ HT.out).mono ?_
  rintro en w2 ⟨rfl, rfl⟩
  go_wp2
  go_ret
  exact ⟨rfl, HT.out, HG.out⟩
theorem byte_any (g : Nat) (l : List Nat) (e : Nat) (l' : List Nat) (e' v : Nat) (w : World) (h : InAt w g l e) (hf : Fine l e) (hs : sByte l e = (l', e', v)) :
    Calls Tryz.prog 92 #[.pointer (some ⟨g, 0, none⟩)] w (Turns (fun en => en = .returned (.int .u8 (v : Int))) g l' e' w) := by
  cases l with
  | nil =>
    simp only [sByte, Prod.mk.injEq] at hs
    obtain ⟨rfl, rfl, rfl⟩ := hs
    exact byte_none g e w h
  | cons b t =>
    obtain rfl : e = 0 := by
      rcases Nat.eq_zero_or_pos e with h0 | h0
      · exact h0
      · exact absurd (hf (by omega)) (by simp)
    simp only [sByte, Prod.mk.injEq] at hs
    obtain ⟨rfl, rfl, rfl⟩ := hs
    exact byte_some g b t w h
set_option maxRecDepth 100000 in
set_option maxHeartbeats 400000 in
theorem truth_any (g : Nat) (l : List Nat) (e : Nat) (l' : List Nat) (e' : Nat) (v : Bool) (w : World) (h : InAt w g l e) (hf : Fine l e) (h8 : ∀ x ∈ l, x < 256) (hs : sTruth l e = (l', e', v)) :
    Calls Tryz.prog 94 #[.pointer (some ⟨g, 0, none⟩)] w (Turns (fun en => en = .returned (.bool v)) g l' e' w) := by
  cases l with
  | nil =>
    simp only [sTruth, Prod.mk.injEq] at hs
    obtain ⟨rfl, rfl, rfl⟩ := hs
    have HI := hid h
    clear h h8 hf
    go_enter Tryz.func94, Tryz.ntmps94
    go_wp2_with fail
    with_reducible refine (byte_none g e _ HI.out).mono ?_
    rintro en w1 ⟨rfl, hin, hg⟩
    have HT := hid hin
    have HG := hid hg
    clear hin hg
    go_wp2
    go_ret
    exact ⟨rfl, HT.out, HG.out⟩
  | cons b t =>
    obtain rfl : e = 0 := by
      rcases Nat.eq_zero_or_pos e with h0 | h0
      · exact h0
      · exact absurd (hf (by omega)) (by simp)
    have hb : b < 256 := h8 b (by simp)
    have HI := hid h
    clear h h8 hf
    by_cases h2 : 2 ≤ b
    · rw [sTruth, if_neg (by omega)] at hs
      simp only [Prod.mk.injEq] at hs
      obtain ⟨rfl, rfl, rfl⟩ := hs
      have hb1 : ((b : Int) == 1) = false := by rw [beq_eq_false_iff_ne]; omega
      have hb2 : ((b : Int) != 0) = true := by rw [bne_iff_ne]; omega
      have hb3 : ((b : Int) != 1) = true := by rw [bne_iff_ne]; omega
      go_enter Tryz.func94, Tryz.ntmps94
      go_wp2_with fail
      with_reducible refine (byte_some g b t _ HI.out).mono ?_
      rintro en w1 ⟨rfl, hin, hg⟩
      have HT := hid hin
      have HG := hid hg
      clear hin hg
      go_wp2_with fail
      with_reducible refine (fail_any g t 0 10 _ _ HT.out (by omega)).mono ?_
      rintro en w2 ⟨rfl, hin, hg⟩
      have HT2 := hid hin
      have HG2 := hid (HG.out.trans hg)
      clear hin hg
      go_wp2
      go_ret
      exact ⟨rfl, HT2.out, HG2.out⟩
    · rw [sTruth, if_pos (by omega)] at hs
      simp only [Prod.mk.injEq] at hs
      obtain ⟨rfl, rfl, rfl⟩ := hs
      by_cases h0 : b = 0
      · subst h0
        go_enter Tryz.func94, Tryz.ntmps94
        go_wp2_with fail
        with_reducible refine (byte_some g 0 t _ HI.out).mono ?_
        rintro en w1 ⟨rfl, hin, hg⟩
        have HT := hid hin
        have HG := hid hg
        clear hin hg
        go_wp2
        go_ret
        exact ⟨rfl, HT.out, HG.out⟩
      · obtain rfl : b = 1 := by omega
        go_enter Tryz.func94, Tryz.ntmps94
        go_wp2_with fail
        with_reducible refine (byte_some g 1 t _ HI.out).mono ?_
        rintro en w1 ⟨rfl, hin, hg⟩
        have HT := hid hin
        have HG := hid hg
        clear hin hg
        go_wp2
        go_ret
        exact ⟨rfl, HT.out, HG.out⟩
theorem fine_zero {l : List Nat} {e : Nat} (hf : Fine l e) (hl : l ≠ []) : e = 0 := by
  rcases Nat.eq_zero_or_pos e with h0 | h0
  · exact h0
  · exact absurd (hf (by omega)) hl
set_option maxRecDepth 100000 in
set_option maxHeartbeats 400000 in
theorem short_err (g : Nat) (l : List Nat) (e z : Nat) (most : Int) (w : World) (hm0 : 0 ≤ most) (h : InAt w g l e) (hf : Fine l e) (hl : l.length ≤ 9223372036854775807) (h8 : ∀ x ∈ l, x < 256) (hr : readN l = (0, 0, z)) (hz : 0 < z) :
    Calls Tryz.prog 137 #[.pointer (some ⟨g, 0, none⟩), .int .u64 most] w (Turns (fun en => en = .returned (.int .u64 0)) g [] (firstE e z) w) := by
  have HI := hid h
  have HR := hid hr
  have H8 := hid h8
  have HF := hid hf
  have hp : 0 < firstE e z := firstE_pos hz
  obtain ⟨A, c, hb, h1, h2, h3, h4⟩ := h
  have HS : Hid (Sees .u8 w A l) := hid (h4.sees (Nat.le_of_lt hb.lt))
  obtain ⟨c0, c1, f0, f1⟩ := blk2 hb
  clear hb h1 h4 hr h8 hf
  go_enter Tryz.func137, Tryz.ntmps137
  go_wp2_with fail
  with_reducible refine (readshort_any A l c _ hl H8.out HS.out).mono ?_
  rintro en w1 ⟨rfl, rfl⟩
  rw [HR.out]
  go_wp2_with fail
  with_reducible refine (fail_any g l e z _ _ HI.out (by omega)).mono ?_
  rintro en w1 ⟨rfl, hin, hg⟩
  rw [leftE_nil hz HF.out] at hin
  have HT := hid hin
  have HG := hid hg
  clear hin hg c0 c1 f0 f1 h2 h3 HS HI
  go_wp2_with fail
  with_reducible refine (take_ok g [] (firstE e z) 0 _ _ HT.out (by omega) (by simp)).mono ?_
  rintro en w2 ⟨⟨A1, rfl, _, _⟩, hin, hg⟩
  have HT2 : Hid (InAt w2 g [] (firstE e z)) := hid hin
  have HG2 := hid (HG.out.trans hg)
  clear hin hg
  go_wp2_with fail
  with_reducible refine (failed_yes g [] (firstE e z) _ HT2.out hp).mono ?_
  rintro en w3 ⟨rfl, rfl⟩
  go_wp2
  go_ret
  exact ⟨rfl, HT2.out, HG2.out⟩
set_option maxRecDepth 100000 in
set_option maxHeartbeats 400000 in
theorem short_high (g : Nat) (l : List Nat) (v n : Nat) (most : Nat) (w : World) (h : InAt w g l 0) (hl : l.length ≤ 9223372036854775807) (h8 : ∀ x ∈ l, x < 256) (hr : readN l = (v, n, 0)) (hm : most < v) :
    Calls Tryz.prog 137 #[.pointer (some ⟨g, 0, none⟩), .int .u64 (most : Int)] w (Turns (fun en => en = .returned (.int .u64 0)) g [] 12 w) := by
  have HI := hid h
  have HR := hid hr
  have H8 := hid h8
  have hn : 0 < n := by have := (readN_inv h8 hr).1; have := shortN_pos v; omega
  obtain ⟨A, c, hb, h1, h2, h3, h4⟩ := h
  have HS : Hid (Sees .u8 w A l) := hid (h4.sees (Nat.le_of_lt hb.lt))
  obtain ⟨c0, c1, f0, f1⟩ := blk2 hb
  clear hb h1 h4 hr h8
  go_enter Tryz.func137, Tryz.ntmps137
  go_wp2_with fail
  with_reducible refine (readshort_any A l c _ hl H8.out HS.out).mono ?_
  rintro en w1 ⟨rfl, rfl⟩
  rw [HR.out]
  go_wp2_with fail
  with_reducible refine (fail_any g l 0 0 _ _ HI.out (by omega)).mono ?_
  rintro en w1 ⟨rfl, hin, hg⟩
  rw [leftE_zero, firstE_zero] at hin
  have HT := hid hin
  have HG := hid hg
  clear hin hg c0 c1 f0 f1 h2 h3 HS HI
  go_wp2_with fail
  with_reducible refine (fail_any g l 0 12 _ _ HT.out (by omega)).mono ?_
  rintro en w2 ⟨rfl, hin, hg⟩
  rw [leftE_nil (by omega) (fun h => absurd rfl h), firstE_none] at hin
  have HT2 := hid hin
  have HG2 := hid (HG.out.trans hg)
  clear hin hg HT HG
  go_wp2_with fail
  with_reducible refine (take_no g [] 12 n _ _ HT2.out (by omega) (by simpa using hn)).mono ?_
  rintro en w3 ⟨rfl, hin, hg⟩
  have HT3 : Hid (InAt w3 g [] 12) := hid hin
  have HG3 := hid (HG2.out.trans hg)
  clear hin hg
  go_wp2_with fail
  with_reducible refine (failed_yes g [] 12 _ HT3.out (by omega)).mono ?_
  rintro en w4 ⟨rfl, rfl⟩
  go_wp2
  go_ret
  exact ⟨rfl, HT3.out, HG3.out⟩
set_option maxRecDepth 100000 in
set_option maxHeartbeats 400000 in
theorem short_fits (g : Nat) (l : List Nat) (v n : Nat) (most : Int) (w : World) (h : InAt w g l 0) (hl : l.length ≤ 9223372036854775807) (h8 : ∀ x ∈ l, x < 256) (hr : readN l = (v, n, 0)) (hm : (v : Int) ≤ most) :
    Calls Tryz.prog 137 #[.pointer (some ⟨g, 0, none⟩), .int .u64 most] w (Turns (fun en => en = .returned (.int .u64 (v : Int))) g (l.drop n) 0 w) := by
  have HI := hid h
  have HR := hid hr
  have H8 := hid h8
  have hn : n ≤ l.length := (readN_inv h8 hr).2.1
  obtain ⟨A, c, hb, h1, h2, h3, h4⟩ := h
  have HS : Hid (Sees .u8 w A l) := hid (h4.sees (Nat.le_of_lt hb.lt))
  obtain ⟨c0, c1, f0, f1⟩ := blk2 hb
  clear hb h1 h4 hr h8
  go_enter Tryz.func137, Tryz.ntmps137
  go_wp2_with fail
  with_reducible refine (readshort_any A l c _ hl H8.out HS.out).mono ?_
  rintro en w1 ⟨rfl, rfl⟩
  rw [HR.out]
  go_wp2_with fail
  with_reducible refine (fail_any g l 0 0 _ _ HI.out (by omega)).mono ?_
  rintro en w1 ⟨rfl, hin, hg⟩
  rw [leftE_zero, firstE_zero] at hin
  have HT := hid hin
  have HG := hid hg
  clear hin hg c0 c1 f0 f1 h2 h3 HS HI
  go_wp2_with fail
  with_reducible refine (take_ok g l 0 n _ _ HT.out (by omega) hn).mono ?_
  rintro en w3 ⟨⟨A1, rfl, _, _⟩, hin, hg⟩
  have HT3 := hid hin
  have HG3 := hid (HG.out.trans hg)
  clear hin hg
  go_wp2_with fail
  with_reducible refine (failed_no g (l.drop n) _ HT3.out).mono ?_
  rintro en w4 ⟨rfl, rfl⟩
  go_wp2
  go_ret
  exact ⟨rfl, HT3.out, HG3.out⟩
theorem inshort_any (g : Nat) (l : List Nat) (e most : Nat) (a : Int) (l' : List Nat) (e' v : Nat) (w : World) (h : InAt w g l e) (hf : Fine l e) (h8 : ∀ x ∈ l, x < 256) (hl : l.length ≤ 9223372036854775807) (ha : a = (most : Int)) (hs : sShort l e most = (l', e', v)) :
    Calls Tryz.prog 137 #[.pointer (some ⟨g, 0, none⟩), .int .u64 a] w (Turns (fun en => en = .returned (.int .u64 (v : Int))) g l' e' w) := by
  subst ha
  unfold sShort at hs
  by_cases hz : (readN l).2.2 = 0
  · rw [if_pos hz] at hs
    obtain rfl := fine_zero hf (readN_ne hz)
    have hr : readN l = ((readN l).1, (readN l).2.1, 0) := by rw [← hz]
    by_cases hm : most < (readN l).1
    · rw [if_pos hm] at hs
      simp only [Prod.mk.injEq] at hs
      obtain ⟨rfl, rfl, rfl⟩ := hs
      exact short_high g l _ _ most w h hl h8 hr hm
    · rw [if_neg hm] at hs
      simp only [Prod.mk.injEq] at hs
      obtain ⟨rfl, rfl, rfl⟩ := hs
      exact short_fits g l _ _ _ w h hl h8 hr (by omega)
  · rw [if_neg hz] at hs
    simp only [Prod.mk.injEq] at hs
    obtain ⟨rfl, rfl, rfl⟩ := hs
    exact short_err g l e _ _ w (by omega) h hf hl h8 (readN_zero hz) (by omega)
end Go.Proofs.YtohffiehmmcgbaaGreatDoor
namespace Go.Proofs.YtohffiehmmcgbaaGreatDoor
open Go.ChangeShapes Go.WideShapes Go.ChangeAt Go.RowKit
def News (l : List Nat) (w : World) (en : Ending) (w' : World) : Prop := ∃ g, en = .returned (.pointer (some ⟨g, 0, none⟩)) ∧ InAt w' g l 0 ∧ Below w.heap.size w w' ∧ w.heap.size ≤ g
theorem makes_in {l : List Nat} {w w1 : World} {s : Value} (hown : w1.ownsRow w.heap.size 5 1 s l.length (l.map bv)) (hb : Below w.heap.size w w1) :
    News l w (.returned (.pointer (some ⟨w1.heap.size, 0, none⟩))) (w1.alloc (.cells #[s, .int .i64 0] 128)) := by
  have hsz := hb.size
  refine ⟨w1.heap.size, rfl, ?_, hb.alloc hsz _, hsz⟩
  have hbl := Blk.new w1 128 #[s, .int .i64 0]
  have hal : Below w1.heap.size w1 (w1.alloc (.cells #[s, .int .i64 0] 128)) := (Below.refl _ _).alloc (Nat.le_refl _) _
  rcases hown.2 with ⟨rfl, h0⟩ | ⟨g, cap, cur, rfl, _, _, hc, hm, _, _⟩
  · have : l = [] := List.eq_nil_of_length_eq_zero h0
    subst this
    exact ⟨none, 0, hbl, fun _ => rfl, Nat.le_refl _, by omega, Held.nil _ _ _⟩
  · exact ⟨_, cap, hbl, fun h => (by cases h), hc, by unfold maxLen at hm; omega, ((Sees.of_own hown).held).below hal⟩
set_option maxRecDepth 100000 in
set_option maxHeartbeats 400000 in
theorem newin_any (A : Option Addr) (l : List Nat) (n c : Nat) (w : World) (hn : l.length = n) (hl : n ≤ 140737488355328) (hc : A = none → c = 0) (hA : Sees .u8 w A l) :
    Calls Tryz.prog 40 #[.slice A n c] w (News l w) := by
  have HA := hid hA
  have HN := hid hn
  have HC := hid hc
  clear hA hn hc
  go_enter Tryz.func40, Tryz.ntmps40
  go_wp2_with fail
  with_reducible refine (clone_any A l n c _ HN.out hl HC.out HA.out).mono ?_
  rintro en w1 ⟨s, rfl, hown, hb⟩
  obtain ⟨A1, c1, rfl, _, _, _⟩ := own_slice hown
  have HM := hid (makes_in hown hb)
  clear hown hb
  go_wp2
  go_ret
  exact HM.out
theorem sShort_bad {l : List Nat} {e most : Nat} (h : (sShort l e most).2.1 ≠ 0) (hf : Fine l e) : (sShort l e most).1 = [] ∧ (sShort l e most).2.2 = 0 := by
  unfold sShort at h ⊢
  by_cases hz : (readN l).2.2 = 0
  · rw [if_pos hz] at h ⊢
    by_cases hm : most < (readN l).1
    · rw [if_pos hm]; exact ⟨rfl, rfl⟩
    · rw [if_neg hm] at h
      exact absurd (fine_zero hf (readN_ne hz)) h
  · rw [if_neg hz]; exact ⟨rfl, rfl⟩
theorem sShort_most {l : List Nat} {e most : Nat} : (sShort l e most).2.2 ≤ most := by
  unfold sShort
  split
  · split
    · exact Nat.zero_le _
    · show (readN l).1 ≤ most; omega
  · exact Nat.zero_le _
end Go.Proofs.YtohffiehmmcgbaaGreatDoor
namespace Go.Proofs.YtohffiehmmcgbaaGreatDoor
open Go.ChangeShapes Go.WideShapes Go.ChangeAt Go.RowKit Go.Lib
theorem sShort_put (v most : Nat) (r : List Nat) (hv : v < 18446744073709551616) (hm : v ≤ most) : sShort (shortN v ++ r) 0 most = (r, 0, v) := by
  unfold sShort
  rw [readN_short v r hv]
  simp only [if_true]
  rw [if_neg (by omega), List.drop_left]
theorem fine0 (l : List Nat) : Fine l 0 := fun h => absurd rfl h
theorem textN_byte (s : ByteArray) : ∀ x ∈ textN s, x < 256 := by
  intro x hx
  rcases List.mem_append.1 hx with h | h
  · exact shortN_byte _ x h
  · exact bytesOfS_byte s x h
theorem var_grown {P : Program} {w w' : World} {n : String} {cs : Array Value} {g : Nat} {row : Option Nat} (hg : P.globalNamed n = some g) (h : w.var? P n = some cs) (hlt : g < w.heap.size) (hne : some g ≠ row) (hb : w.grownBy w' row) : w'.var? P n = some cs := by
  unfold World.var? at h ⊢
  rw [hg] at h ⊢
  simp only [Option.bind_some] at h ⊢
  rw [hb.block g hlt hne]; exact h
end Go.Proofs.YtohffiehmmcgbaaGreatDoor
namespace Go.Proofs.YtohffiehmmcgbaaGreatDoor
open Go.ChangeShapes Go.WideShapes Go.ChangeAt Go.RowKit Go.Lib
set_option linter.unusedVariables false
def Sound (l : List Nat) (e : Nat) : Prop := Fine l e ∧ (∀ x ∈ l, x < 256) ∧ l.length ≤ 9223372036854775807
theorem Sound.fine {l : List Nat} {e : Nat} (h : Sound l e) : Fine l e := h.1
theorem Sound.bytes {l : List Nat} {e : Nat} (h : Sound l e) : ∀ x ∈ l, x < 256 := h.2.1
theorem Sound.len {l : List Nat} {e : Nat} (h : Sound l e) : l.length ≤ 9223372036854775807 := h.2.2
end Go.Proofs.YtohffiehmmcgbaaGreatDoor
