/-
  The law's own text of a state, ahead of its command's (package moothilllaw10).
-/
import Derived.Test.YtohffiehmmcgbaaGreatDoorUJuText
import Derived.Test.YtohffiehmmcgbaaGreatDoorUJuShowB
import Derived.Test.YtohffiehmmcgbaaGreatDoorUL
import Derived.Test.YtohffiehmmcgbaaGreatDoorUJRef
import Derived.LoopTactic
namespace Go.Proofs.YtohffiehmmcgbaaGreatDoor
open Go.ChangeShapes Go.WideShapes Go.ChangeAt Go.RowKit Go.Lib
set_option linter.unusedVariables false
set_option linter.unusedSimpArgs false
theorem digitsJ (q : Int) (w : World) (h0 : 0 ≤ q) (h1 : q < 4294967296) :
    Calls Tryz.prog 59 #[.int .u64 q] w fun e w' => (∃ r : ByteArray, e = .returned (.string r) ∧ Sb r = itoa q ∧ r.size ≤ 20) ∧ Below w.heap.size w w' := by
  obtain ⟨v, rfl⟩ : ∃ v : Nat, q = v := ⟨q.toNat, by omega⟩
  rw [itoa_nonneg]
  refine (digits10_at v (v : Int) w rfl (by omega)).mono ?_
  rintro e w1 ⟨r, rfl, h1, hb⟩
  exact ⟨⟨r, rfl, h1, by have h2 := dec_len9 (v := v) (by omega); have h3 := congrArg List.length h1; rw [L_length] at h3; omega⟩, hb⟩
theorem ballotJ (q : Int) (w : World) (h0 : 0 ≤ q) (h1 : q < 4294967296) :
    Calls Tryz.prog 60 #[.int .u32 q] w fun e w' => (∃ r : ByteArray, e = .returned (.string r) ∧ Sb r = balT q.toNat ∧ r.size ≤ 50) ∧ Below w.heap.size w w' := by
  obtain ⟨v, rfl⟩ : ∃ v : Nat, q = v := ⟨q.toNat, by omega⟩
  refine (ballot10 v w (by omega)).mono ?_
  rintro e w1 ⟨r, rfl, h1, hb⟩
  have h2 : Sb r = balT v := by
    unfold balT textOf
    rw [itoa_nonneg, itoa_nonneg]
    exact h1
  exact ⟨⟨r, rfl, h2, by have h3 := congrArg List.length h2; have h4 := balT_len v (by omega); rw [Sb_length] at h3; omega⟩, hb⟩
theorem Blk.jds {w : World} {g : Nat} {T : TypeId} {x : J} (h : Blk w g T (rowJ x)) : w.rangeAt g 15 (lsD x.f) := by
  intro j v hv
  have hj : j < 7 := by have := (List.getElem?_eq_some_iff.1 hv).1; rwa [lsD_len] at this
  rw [lsD_get x.f hj] at hv
  rw [h.jd hj, Nat.add_comm 1 j]
  exact hv
theorem stat_in (t : Int) (h : t = 1 ∨ t = 2 ∨ t = 3) : ∃ W : ByteArray, Sb W = 32 :: (statL t.toNat ++ [32]) ∧ W.size ≤ 11 ∧ ((t = 1 ∧ W = ⟨#[32, 112, 114, 101, 32]⟩) ∨ (t = 2 ∧ W = ⟨#[32, 97, 99, 99, 101, 112, 116, 101, 100, 32]⟩) ∨ (t = 3 ∧ W = ⟨#[32, 99, 111, 109, 109, 105, 116, 116, 101, 100, 32]⟩)) := by
  rcases h with rfl | rfl | rfl
  · exact ⟨_, by rfl, by decide, .inl ⟨rfl, rfl⟩⟩
  · exact ⟨_, by rfl, by decide, .inr (.inl ⟨rfl, rfl⟩)⟩
  · exact ⟨_, by rfl, by decide, .inr (.inr ⟨rfl, rfl⟩)⟩
theorem stat_index (t : Int) (W : ByteArray) (w : World) (h : (t = 1 ∧ W = ⟨#[32, 112, 114, 101, 32]⟩) ∨ (t = 2 ∧ W = ⟨#[32, 97, 99, 99, 101, 112, 116, 101, 100, 32]⟩) ∨ (t = 3 ∧ W = ⟨#[32, 99, 111, 109, 109, 105, 116, 116, 101, 100, 32]⟩)) :
    Sem.run Tryz.prog (Instr.index 99 (Value.agg #[Value.string { data := #[] }, Value.string { data := #[32, 112, 114, 101, 32] }, Value.string { data := #[32, 97, 99, 99, 101, 112, 116, 101, 100, 32] }, Value.string { data := #[32, 99, 111, 109, 109, 105, 116, 116, 101, 100, 32] }]) (Value.int IntKind.i64 t)) w = .ok (.string W) w := by
  obtain ⟨i, hi⟩ : ∃ i, Tryz.prog.info? 9 = some i := Option.isSome_iff_exists.1 (show (Tryz.prog.info? 9).isSome = true by kernel_rfl)
  have hs := run_sizeOf (P := Tryz.prog) w hi
  rw [show Tryz.prog.cellsOf 9 = 1 by kernel_rfl] at hs
  obtain ⟨j, rfl, hj, hv⟩ : ∃ j : Nat, t = (j : Int) ∧ j < 4 ∧ (#[Value.string { data := #[] }, Value.string { data := #[32, 112, 114, 101, 32] }, Value.string { data := #[32, 97, 99, 99, 101, 112, 116, 101, 100, 32] }, Value.string { data := #[32, 99, 111, 109, 109, 105, 116, 116, 101, 100, 32] }] : Array Value)[j]? = some (.string W) := by
    rcases h with ⟨rfl, rfl⟩ | ⟨rfl, rfl⟩ | ⟨rfl, rfl⟩
    · exact ⟨1, rfl, by omega, rfl⟩
    · exact ⟨2, rfl, by omega, rfl⟩
    · exact ⟨3, rfl, by omega, rfl⟩
  have hp := run_part_plain (P := Tryz.prog) (w := w) (e := 9) (by kernel_rfl) hv
  have h1 : (0 : Int) ≤ (j : Int) ∧ (j : Int) < ((4 : Nat) : Int) := by omega
  simp only [Instr.index, asIntOf, Sem.run_bind, Sem.run_pure, run_underlying Tryz.underlying99, Result.andThen_ok, Sem.run_ite, if_pos h1, hs, Int.toNat_natCast, Nat.mul_one, hp]
def TelJ (w0 : World) (k : Nat) (w : World) (x : J) : Prop := Blk w k 48 (rowJ x) ∧ Below k w0 w
theorem TelJ.on {w0 w w' : World} {k : Nat} {x : J} (h : TelJ w0 k w x) (hb : Below w.heap.size w w') : TelJ w0 k w' x :=
  ⟨h.1.below hb h.1.lt, below_pay h.2 (by have := h.1.lt; omega) hb⟩
theorem TelJ.drew {w0 w : World} {k : Nat} {x : J} (h : TelJ w0 k w x) : TelJ w0 k w.drew x := ⟨h.1.drew, below_drew h.2⟩
set_option maxRecDepth 100000 in
set_option maxHeartbeats 8000000 in
theorem jtell_any (x : J) (w : World) (hok : okJ x) (hr : rightJ x = true) :
    Calls Tryz.prog 21 #[.agg (rowJ x)] w fun e w' => (∃ t : ByteArray, e = .returned (.tuple #[.string t, .bool (decide (x.st ≠ 0))]) ∧ Sb t = headT x ∧ t.size ≤ 1000) ∧ Below w.heap.size w w' := by
  obtain ⟨a, b, v, u, t, ha, hb, hv, hu, ht, ha7, hb10, hvv, hvb, huu, hub, ht3, hn0, hz0⟩ := rightJ_in hok hr
  obtain ⟨r, s, st, bal, vote, sm, c, f⟩ := x
  simp only at ha hb hv hu ht hn0 hz0
  have HTX : Hid (headT ⟨r, s, st, bal, vote, sm, c, f⟩ = (textOf r s ++ 32 :: balT bal.toNat) ++ (if st = 0 then 32 :: statL st.toNat else 32 :: (statL st.toNat ++ 32 :: (balT vote.toNat ++ 32 :: (whoL sm ++ 32 :: (textA f ++ [32])))))) := hid rfl
  have zr : 0 ≤ r ∧ r ≤ 7 := by omega
  have zs : 0 ≤ s ∧ s ≤ 1024 := by omega
  have zb : 0 ≤ bal ∧ bal < 4294967296 := by omega
  have zv : 0 ≤ vote ∧ vote < 4294967296 := by omega
  have zt : st = 0 ∨ (st = 1 ∨ st = 2 ∨ st = 3) := by omega
  have HF : Hid (st ≠ 0 → okB f = true) := hid (fun h => (hn0 (by omega)).2)
  clear hn0 hz0 ha hb hv hu ht ha7 hb10 hvv hvb huu hub ht3 a b v u t hok hr
  have wr : IntKind.u64.wrap r = r := by rw [IntKind.wrap_u64]; omega
  have ws : IntKind.u64.wrap s = s := by rw [IntKind.wrap_u64]; omega
  go_enter Tryz.func21, Tryz.ntmps21
  go_upto_region 1 with fail
  obtain ⟨W, hW⟩ : ∃ W, w.alloc (.cells (rowJ ⟨r, s, st, bal, vote, sm, c, f⟩) 48) = W := ⟨_, rfl⟩
  rw [hW]
  obtain ⟨K0, KB⟩ := one_new hW
  clear hW
  obtain ⟨k, hk⟩ : ∃ k, w.heap.size = k := ⟨_, rfl⟩
  rw [hk] at K0 KB
  rw [hk]
  have HK := hid hk
  clear hk
  have T0 : Hid (TelJ w k W ⟨r, s, st, bal, vote, sm, c, f⟩) := hid ⟨K0.out, KB.out⟩
  clear K0 KB
  refine wp_region_held_drew (S := (fun w' => TelJ w k w' ⟨r, s, st, bal, vote, sm, c, f⟩)) (by kernel_rfl) (by exact T0.out.drew) (fun hHeld => ?_)
  refine wpAnyH_take (i := 0) (oi := _) (v := ?_) rfl (by kernel_rfl) (by kernel_rfl) (by kernel_rfl) (fun _ _ _ h => h) (Or.inl ⟨by kernel_rfl, ?_⟩) hHeld ?_
  rotate_left 1
  focus (intro w' hSw; (try dsimp only at hSw); go_simp; try with_reducible rfl)
  try simp only [Act.put, List.getElem_toArray, List.getElem_cons_zero, List.getElem_cons_succ, List.setIfInBounds_toArray, List.set_cons_zero, List.set_cons_succ]
  refine wpAnyH_take (i := 1) (oi := _) (v := ?_) rfl (by kernel_rfl) (by kernel_rfl) (by kernel_rfl) (fun _ _ _ h => h) (Or.inl ⟨by kernel_rfl, ?_⟩) hHeld ?_
  rotate_left 1
  focus (intro w' hSw; (try dsimp only at hSw); go_simp; try with_reducible rfl)
  try simp only [Act.put, List.getElem_toArray, List.getElem_cons_zero, List.getElem_cons_succ, List.setIfInBounds_toArray, List.set_cons_zero, List.set_cons_succ]
  refine wpAnyH_take (i := 2) (oi := _) (v := ?_) rfl (by kernel_rfl) (by kernel_rfl) (by kernel_rfl) (fun _ _ _ h => h) (Or.inl ⟨by kernel_rfl, ?_⟩) hHeld ?_
  rotate_left 1
  focus (intro w' hSw; (try dsimp only at hSw); have q0 := Blk.j0 hSw.1; go_simp; try with_reducible rfl)
  try simp only [Act.put, List.getElem_toArray, List.getElem_cons_zero, List.getElem_cons_succ, List.setIfInBounds_toArray, List.set_cons_zero, List.set_cons_succ]
  refine wpAnyH_take (i := 3) (oi := _) (v := ?_) rfl (by kernel_rfl) (by kernel_rfl) (by kernel_rfl) (fun _ _ _ h => h) (Or.inl ⟨by kernel_rfl, ?_⟩) hHeld ?_
  rotate_left 1
  focus (intro w' hSw; (try dsimp only at hSw); go_simp; try with_reducible rfl)
  try simp only [Act.put, List.getElem_toArray, List.getElem_cons_zero, List.getElem_cons_succ, List.setIfInBounds_toArray, List.set_cons_zero, List.set_cons_succ]
  refine wpAnyH_take (i := 6) (oi := _) (v := ?_) rfl (by kernel_rfl) (by kernel_rfl) (by kernel_rfl) (fun _ _ _ h => h) (Or.inl ⟨by kernel_rfl, ?_⟩) hHeld ?_
  rotate_left 1
  focus (intro w' hSw; (try dsimp only at hSw); go_simp; try with_reducible rfl)
  try simp only [Act.put, List.getElem_toArray, List.getElem_cons_zero, List.getElem_cons_succ, List.setIfInBounds_toArray, List.set_cons_zero, List.set_cons_succ]
  refine wpAnyH_take (i := 7) (oi := _) (v := ?_) rfl (by kernel_rfl) (by kernel_rfl) (by kernel_rfl) (fun _ _ _ h => h) (Or.inl ⟨by kernel_rfl, ?_⟩) hHeld ?_
  rotate_left 1
  focus (intro w' hSw; (try dsimp only at hSw); go_simp; try with_reducible rfl)
  try simp only [Act.put, List.getElem_toArray, List.getElem_cons_zero, List.getElem_cons_succ, List.setIfInBounds_toArray, List.set_cons_zero, List.set_cons_succ]
  refine wpAnyH_take (i := 8) (oi := _) (v := ?_) rfl (by kernel_rfl) (by kernel_rfl) (by kernel_rfl) (fun _ _ _ h => h) (Or.inl ⟨by kernel_rfl, ?_⟩) hHeld ?_
  rotate_left 1
  focus (intro w' hSw; (try dsimp only at hSw); have q0 := Blk.j1 hSw.1; go_simp; try with_reducible rfl)
  try simp only [Act.put, List.getElem_toArray, List.getElem_cons_zero, List.getElem_cons_succ, List.setIfInBounds_toArray, List.set_cons_zero, List.set_cons_succ]
  refine wpAnyH_take (i := 9) (oi := _) (v := ?_) rfl (by kernel_rfl) (by kernel_rfl) (by kernel_rfl) (fun _ _ _ h => h) (Or.inl ⟨by kernel_rfl, ?_⟩) hHeld ?_
  rotate_left 1
  focus (intro w' hSw; (try dsimp only at hSw); go_simp; try with_reducible rfl)
  try simp only [Act.put, List.getElem_toArray, List.getElem_cons_zero, List.getElem_cons_succ, List.setIfInBounds_toArray, List.set_cons_zero, List.set_cons_succ]
  refine wpAnyH_take (i := 13) (oi := _) (v := ?_) rfl (by kernel_rfl) (by kernel_rfl) (by kernel_rfl) (fun _ _ _ h => h) (Or.inl ⟨by kernel_rfl, ?_⟩) hHeld ?_
  rotate_left 1
  focus (intro w' hSw; (try dsimp only at hSw); go_simp; try with_reducible rfl)
  try simp only [Act.put, List.getElem_toArray, List.getElem_cons_zero, List.getElem_cons_succ, List.setIfInBounds_toArray, List.set_cons_zero, List.set_cons_succ]
  refine wpAnyH_take (i := 14) (oi := _) (v := ?_) rfl (by kernel_rfl) (by kernel_rfl) (by kernel_rfl) (fun _ _ _ h => h) (Or.inl ⟨by kernel_rfl, ?_⟩) hHeld ?_
  rotate_left 1
  focus (intro w' hSw; (try dsimp only at hSw); have q0 := Blk.j3 hSw.1; go_simp; try with_reducible rfl)
  try simp only [Act.put, List.getElem_toArray, List.getElem_cons_zero, List.getElem_cons_succ, List.setIfInBounds_toArray, List.set_cons_zero, List.set_cons_succ]
  refine wpAnyH_ready (rs := [4]) (by kernel_rfl) (by simp) ?_
  refine AllReadyH.cons (o := _) rfl (fun K hK => ?_) AllReadyH.nil
  go_simp
  go_at_call 59
  with_reducible refine (digitsJ r _ (by omega) (by omega)).mono ?_
  rintro e w1 ⟨⟨r1, rfl, hr, hz1⟩, hb⟩
  have R1 := hid hr
  have T1 := hid (T0.out.drew.on hb)
  clear hr hb T0
  refine hK.out _ _ (by exact T1.out) (fun hHeld => ?_)
  clear hK K
  try simp only [Act.put, List.getElem_toArray, List.getElem_cons_zero, List.getElem_cons_succ, List.setIfInBounds_toArray, List.set_cons_zero, List.set_cons_succ]
  refine wpAnyH_take (i := 5) (oi := _) (v := ?_) rfl (by kernel_rfl) (by kernel_rfl) (by kernel_rfl) (fun _ _ _ h => h) (Or.inl ⟨by kernel_rfl, ?_⟩) hHeld ?_
  rotate_left 1
  focus (intro w' hSw; (try dsimp only at hSw); have q0 := (show ¬ (9223372036854775807 < r1.size + 1) by omega); go_simp; try with_reducible rfl)
  try simp only [Act.put, List.getElem_toArray, List.getElem_cons_zero, List.getElem_cons_succ, List.setIfInBounds_toArray, List.set_cons_zero, List.set_cons_succ]
  refine wpAnyH_ready (rs := [10]) (by kernel_rfl) (by simp) ?_
  refine AllReadyH.cons (o := _) rfl (fun K hK => ?_) AllReadyH.nil
  go_simp
  go_at_call 59
  with_reducible refine (digitsJ s _ (by omega) (by omega)).mono ?_
  rintro e w2 ⟨⟨r2, rfl, hr, hz2⟩, hb⟩
  have R2 := hid hr
  have T2 := hid (T1.out.on hb)
  clear hr hb T1
  refine hK.out _ _ (by exact T2.out) (fun hHeld => ?_)
  clear hK K
  try simp only [Act.put, List.getElem_toArray, List.getElem_cons_zero, List.getElem_cons_succ, List.setIfInBounds_toArray, List.set_cons_zero, List.set_cons_succ]
  refine wpAnyH_take (i := 11) (oi := _) (v := ?_) rfl (by kernel_rfl) (by kernel_rfl) (by kernel_rfl) (fun _ _ _ h => h) (Or.inl ⟨by kernel_rfl, ?_⟩) hHeld ?_
  rotate_left 1
  focus (intro w' hSw; (try dsimp only at hSw); have q0 := (show ¬ (9223372036854775807 < r1.size + 1 + r2.size) by omega); go_simp; try with_reducible rfl)
  try simp only [Act.put, List.getElem_toArray, List.getElem_cons_zero, List.getElem_cons_succ, List.setIfInBounds_toArray, List.set_cons_zero, List.set_cons_succ]
  refine wpAnyH_take (i := 12) (oi := _) (v := ?_) rfl (by kernel_rfl) (by kernel_rfl) (by kernel_rfl) (fun _ _ _ h => h) (Or.inl ⟨by kernel_rfl, ?_⟩) hHeld ?_
  rotate_left 1
  focus (intro w' hSw; (try dsimp only at hSw); have q0 := (show ¬ (9223372036854775807 < r1.size + 1 + r2.size + 1) by omega); go_simp; try with_reducible rfl)
  try simp only [Act.put, List.getElem_toArray, List.getElem_cons_zero, List.getElem_cons_succ, List.setIfInBounds_toArray, List.set_cons_zero, List.set_cons_succ]
  refine wpAnyH_ready (rs := [15]) (by kernel_rfl) (by simp) ?_
  refine AllReadyH.cons (o := _) rfl (fun K hK => ?_) AllReadyH.nil
  go_simp
  go_at_call 60
  with_reducible refine (ballotJ bal _ (by omega) (by omega)).mono ?_
  rintro e w3 ⟨⟨r3, rfl, hr, hz3⟩, hb⟩
  have R3 := hid hr
  have T3 := hid (T2.out.on hb)
  clear hr hb T2
  refine hK.out _ _ (by exact T3.out) (fun hHeld => ?_)
  clear hK K
  try simp only [Act.put, List.getElem_toArray, List.getElem_cons_zero, List.getElem_cons_succ, List.setIfInBounds_toArray, List.set_cons_zero, List.set_cons_succ]
  refine wpAnyH_take (i := 16) (oi := _) (v := ?_) rfl (by kernel_rfl) (by kernel_rfl) (by kernel_rfl) (fun _ _ _ h => h) (Or.inl ⟨by kernel_rfl, ?_⟩) hHeld ?_
  rotate_left 1
  focus (intro w' hSw; (try dsimp only at hSw); have q0 := (show ¬ (9223372036854775807 < r1.size + 1 + r2.size + 1 + r3.size) by omega); go_simp; try with_reducible rfl)
  try simp only [Act.put, List.getElem_toArray, List.getElem_cons_zero, List.getElem_cons_succ, List.setIfInBounds_toArray, List.set_cons_zero, List.set_cons_succ]
  refine wpAnyH_take (i := 17) (oi := _) (v := ?_) rfl (by kernel_rfl) (by kernel_rfl) (by kernel_rfl) (fun _ _ _ h => h) (Or.inl ⟨by kernel_rfl, ?_⟩) hHeld ?_
  rotate_left 1
  focus (intro w' hSw; (try dsimp only at hSw); go_simp; try with_reducible rfl)
  try simp only [Act.put, List.getElem_toArray, List.getElem_cons_zero, List.getElem_cons_succ, List.setIfInBounds_toArray, List.set_cons_zero, List.set_cons_succ]
  refine wpAnyH_done (by kernel_rfl) ?_ _
  clear hHeld
  obtain ⟨s0, hs0⟩ : ∃ s0 : ByteArray, r1 ++ ⟨#[46]⟩ ++ r2 ++ ⟨#[32]⟩ ++ r3 = s0 := ⟨_, rfl⟩
  have S0 : Hid (Sb s0 = textOf r s ++ 32 :: balT bal.toNat) := hid (by
    rw [← hs0, Sb_append, Sb_append, Sb_append, Sb_append, R1.out, R2.out, R3.out, show Sb ⟨#[46]⟩ = [46] from rfl, show Sb ⟨#[32]⟩ = [32] from rfl]
    unfold textOf
    simp)
  have Z0 : Hid (s0.size ≤ 100) := hid (by rw [← hs0]; simp only [ByteArray.size_append, show (⟨#[46]⟩ : ByteArray).size = 1 from rfl, show (⟨#[32]⟩ : ByteArray).size = 1 from rfl]; omega)
  try rw [hs0]
  clear hs0 hz1 hz2 hz3 R1 R2 R3 wr ws
  have c2 := T3.out.1.j2
  have z0 := Z0.out
  rcases zt with rfl | zt
  · go_wp2
    exact bodyPost_ret (v := .tuple #[.string (s0 ++ ⟨#[32, 110, 111, 110, 101]⟩), .bool false]) (by simp [results, Tryz.results21, go_sem]) rfl ⟨⟨_, rfl, by
        rw [HTX.out, Sb_append, S0.out, if_pos trivial]; rfl, by rw [ByteArray.size_append]; have h : (⟨#[32, 110, 111, 110, 101]⟩ : ByteArray).size = 5 := rfl; omega⟩, by rw [HK.out]; exact T3.out.2⟩
  have zt' : (st == 0) = false := by rw [beq_eq_false_iff_ne]; omega
  obtain ⟨W3, hw1, hw2, hw3⟩ := stat_in st zt
  have SW := hid hw1
  have SX := hid hw3
  have HO := hid (HF.out (by omega))
  have HNZ : Hid (st ≠ 0) := hid (by omega)
  clear hw1 hw3 HF
  go_upto_region 4 with fail
  clear c2
  refine wp_region_held_drew (S := (fun w' => TelJ w k w' ⟨r, s, st, bal, vote, sm, c, f⟩)) (by kernel_rfl) (by exact T3.out.drew) (fun hHeld => ?_)
  refine wpAnyH_take (i := 0) (oi := _) (v := ?_) rfl (by kernel_rfl) (by kernel_rfl) (by kernel_rfl) (fun _ _ _ h => h) (Or.inl ⟨by kernel_rfl, ?_⟩) hHeld ?_
  rotate_left 1
  focus (intro w' hSw; (try dsimp only at hSw); go_simp; try with_reducible rfl)
  try simp only [Act.put, List.getElem_toArray, List.getElem_cons_zero, List.getElem_cons_succ, List.setIfInBounds_toArray, List.set_cons_zero, List.set_cons_succ]
  refine wpAnyH_take (i := 1) (oi := _) (v := ?_) rfl (by kernel_rfl) (by kernel_rfl) (by kernel_rfl) (fun _ _ _ h => h) (Or.inl ⟨by kernel_rfl, ?_⟩) hHeld ?_
  rotate_left 1
  focus (intro w' hSw; (try dsimp only at hSw); go_simp; try with_reducible rfl)
  try simp only [Act.put, List.getElem_toArray, List.getElem_cons_zero, List.getElem_cons_succ, List.setIfInBounds_toArray, List.set_cons_zero, List.set_cons_succ]
  refine wpAnyH_take (i := 2) (oi := _) (v := ?_) rfl (by kernel_rfl) (by kernel_rfl) (by kernel_rfl) (fun _ _ _ h => h) (Or.inl ⟨by kernel_rfl, ?_⟩) hHeld ?_
  rotate_left 1
  focus (intro w' hSw; (try dsimp only at hSw); go_simp; try with_reducible rfl)
  try simp only [Act.put, List.getElem_toArray, List.getElem_cons_zero, List.getElem_cons_succ, List.setIfInBounds_toArray, List.set_cons_zero, List.set_cons_succ]
  refine wpAnyH_take (i := 3) (oi := _) (v := ?_) rfl (by kernel_rfl) (by kernel_rfl) (by kernel_rfl) (fun _ _ _ h => h) (Or.inl ⟨by kernel_rfl, ?_⟩) hHeld ?_
  rotate_left 1
  focus (intro w' hSw; (try dsimp only at hSw); have q0 := Blk.j2 hSw.1; go_simp; try with_reducible rfl)
  try simp only [Act.put, List.getElem_toArray, List.getElem_cons_zero, List.getElem_cons_succ, List.setIfInBounds_toArray, List.set_cons_zero, List.set_cons_succ]
  refine wpAnyH_take (i := 4) (oi := _) (v := .string W3) rfl (by kernel_rfl) (by kernel_rfl) (by kernel_rfl) (fun _ _ _ h => h) (Or.inl ⟨by kernel_rfl, fun w' hSw => by have SI := stat_index st W3 w' SX.out; go_simp; (try rw [SI]); try with_reducible rfl⟩) hHeld ?_
  try simp only [Act.put, List.getElem_toArray, List.getElem_cons_zero, List.getElem_cons_succ, List.setIfInBounds_toArray, List.set_cons_zero, List.set_cons_succ]
  refine wpAnyH_take (i := 5) (oi := _) (v := ?_) rfl (by kernel_rfl) (by kernel_rfl) (by kernel_rfl) (fun _ _ _ h => h) (Or.inl ⟨by kernel_rfl, ?_⟩) hHeld ?_
  rotate_left 1
  focus (intro w' hSw; (try dsimp only at hSw); go_simp; try with_reducible rfl)
  try simp only [Act.put, List.getElem_toArray, List.getElem_cons_zero, List.getElem_cons_succ, List.setIfInBounds_toArray, List.set_cons_zero, List.set_cons_succ]
  refine wpAnyH_take (i := 6) (oi := _) (v := ?_) rfl (by kernel_rfl) (by kernel_rfl) (by kernel_rfl) (fun _ _ _ h => h) (Or.inl ⟨by kernel_rfl, ?_⟩) hHeld ?_
  rotate_left 1
  focus (intro w' hSw; (try dsimp only at hSw); have q0 := Blk.j4 hSw.1; go_simp; try with_reducible rfl)
  try simp only [Act.put, List.getElem_toArray, List.getElem_cons_zero, List.getElem_cons_succ, List.setIfInBounds_toArray, List.set_cons_zero, List.set_cons_succ]
  refine wpAnyH_ready (rs := [7]) (by kernel_rfl) (by simp) ?_
  refine AllReadyH.cons (o := _) rfl (fun K hK => ?_) AllReadyH.nil
  go_simp
  go_at_call 60
  with_reducible refine (ballotJ vote _ (by omega) (by omega)).mono ?_
  rintro e w4 ⟨⟨r4, rfl, hr, hz4⟩, hb⟩
  have R4 := hid hr
  have T4 := hid (T3.out.drew.on hb)
  clear hr hb T3
  refine hK.out _ _ (by exact T4.out) (fun hHeld => ?_)
  clear hK K
  try simp only [Act.put, List.getElem_toArray, List.getElem_cons_zero, List.getElem_cons_succ, List.setIfInBounds_toArray, List.set_cons_zero, List.set_cons_succ]
  refine wpAnyH_take (i := 8) (oi := _) (v := ?_) rfl (by kernel_rfl) (by kernel_rfl) (by kernel_rfl) (fun _ _ _ h => h) (Or.inl ⟨by kernel_rfl, ?_⟩) hHeld ?_
  rotate_left 1
  focus (intro w' hSw; (try dsimp only at hSw); have q0 := (show ¬ (9223372036854775807 < W3.size + r4.size) by omega); go_simp; try with_reducible rfl)
  try simp only [Act.put, List.getElem_toArray, List.getElem_cons_zero, List.getElem_cons_succ, List.setIfInBounds_toArray, List.set_cons_zero, List.set_cons_succ]
  refine wpAnyH_take (i := 9) (oi := _) (v := ?_) rfl (by kernel_rfl) (by kernel_rfl) (by kernel_rfl) (fun _ _ _ h => h) (Or.inl ⟨by kernel_rfl, ?_⟩) hHeld ?_
  rotate_left 1
  focus (intro w' hSw; (try dsimp only at hSw); have q0 := (show ¬ (9223372036854775807 < s0.size + (W3.size + r4.size)) by omega); go_simp; try with_reducible rfl)
  try simp only [Act.put, List.getElem_toArray, List.getElem_cons_zero, List.getElem_cons_succ, List.setIfInBounds_toArray, List.set_cons_zero, List.set_cons_succ]
  refine wpAnyH_take (i := 10) (oi := _) (v := ?_) rfl (by kernel_rfl) (by kernel_rfl) (by kernel_rfl) (fun _ _ _ h => h) (Or.inl ⟨by kernel_rfl, ?_⟩) hHeld ?_
  rotate_left 1
  focus (intro w' hSw; (try dsimp only at hSw); go_simp; try with_reducible rfl)
  try simp only [Act.put, List.getElem_toArray, List.getElem_cons_zero, List.getElem_cons_succ, List.setIfInBounds_toArray, List.set_cons_zero, List.set_cons_succ]
  refine wpAnyH_done (by kernel_rfl) ?_ _
  clear hHeld
  obtain ⟨s1, hs1⟩ : ∃ s1 : ByteArray, s0 ++ (W3 ++ r4) = s1 := ⟨_, rfl⟩
  have S1 : Hid (Sb s1 = (textOf r s ++ 32 :: balT bal.toNat) ++ (32 :: (statL st.toNat ++ 32 :: balT vote.toNat))) := hid (by
    rw [← hs1, Sb_append, Sb_append, S0.out, SW.out, R4.out]
    simp)
  have Z1 : Hid (s1.size ≤ 200) := hid (by rw [← hs1]; simp only [ByteArray.size_append]; omega)
  try rw [hs1]
  clear hs1 hz4 R4 S0 Z0 z0 SX SW hw2
  have z1 := Z1.out
  have c5 := T4.out.1.j5
  obtain ⟨⟨x0, x1⟩, hbd⟩ := ok_bounds HO.out
  have HBD := hid hbd
  have HT := hid (textA_len HO.out)
  have HTT : Hid (textA f = itoa (f 0) ++ 124 :: Lib.join (partsA f) [44]) := hid rfl
  have HJL : Hid (∀ j, j ≤ 7 → (Lib.join ((partsA f).take j) [44]).length ≤ 154) := hid (fun j hj => by
    have h1 := join_len ((partsA f).take j) 21 (fun x hx => by
      have hx := List.mem_of_mem_take hx
      unfold partsA at hx
      obtain ⟨i, hi, rfl⟩ := List.mem_map.1 hx
      have := hbd i (List.mem_range.1 hi)
      exact itoa_len21 _ (by omega) (by omega))
    rw [List.length_take, partsA_len] at h1
    omega)
  clear hbd
  obtain ⟨y, hy⟩ : ∃ y, f 0 = y := ⟨_, rfl⟩
  have HY := hid hy
  rw [hy] at x0 x1 HTT
  clear hy
  have wy : IntKind.u64.wrap y = y := by rw [IntKind.wrap_u64]; omega
  obtain ⟨PP, hPP⟩ : ∃ PP : List UInt8, (textOf r s ++ 32 :: balT bal.toNat) ++ (32 :: (statL st.toNat ++ 32 :: (balT vote.toNat ++ 32 :: (whoL sm ++ [32])))) = PP := ⟨_, rfl⟩
  have HPP := hid hPP.symm
  have HPL : PP.length ≤ 210 := by
    have h1 := congrArg List.length S1.out
    rw [Sb_length] at h1
    have h2 := congrArg List.length hPP
    have h3 := whoL_len sm
    simp only [List.length_append, List.length_cons, List.length_nil] at h1 h2
    omega
  clear hPP
  have c14 : w4.cell? ⟨k, 14, none⟩ = some (.int .i64 y) := (T4.out.1.cell 14).trans (by rw [← HY.out]; rfl)
  cases sm
  · go_wp2_with fail
    with_reducible refine (digitsJ y _ x0 (by omega)).mono ?_
    rintro e w5 ⟨⟨r5, rfl, hr, hz5⟩, hb⟩
    have R5 := hid hr
    have T5 := hid (T4.out.on hb)
    clear hr hb T4 c5 c14
    have HS : Hid (Sb (s1 ++ ⟨#[32, 111, 116, 104, 101, 114, 32]⟩ ++ (r5 ++ ⟨#[124]⟩)) = PP ++ (itoa y ++ 124 :: Lib.join ((partsA f).take 0) [44])) := hid (by
      rw [HPP.out, Sb_append, Sb_append, Sb_append, S1.out, R5.out, show Sb ⟨#[124]⟩ = [124] from rfl, show Sb ⟨#[32, 111, 116, 104, 101, 114, 32]⟩ = 32 :: (whoL false ++ [32]) from rfl]
      simp [Lib.join])
    clear R5
    have MR := hid T5.out.1.jds
    have H7 := hid (len_seven f)
    go_wp2_with (with_reducible refine wpList_load_mid (op := ⟨some 55, _, _, _, _, _⟩) rfl 33 (.tmp 54) rfl k 15 rfl (lsD f) _ MR.out Tryz.underlying33 rfl H7.out ?_)
    have HI : Hid (∀ j : Nat, j < 7 → (lsD f)[j]? = some (.int .i64 (f (1 + j)))) := hid (fun j hj => by rw [lsD_get f hj, Nat.add_comm])
    obtain ⟨ds, hds⟩ : ∃ ds, lsD f = ds := ⟨_, rfl⟩
    rw [hds] at HI
    rw [hds]
    clear hds MR H7
    have B5 := hid T5.out.2
    go_loopw [4, 56] (fun sv iv wr => ∃ (j : Nat) (t : ByteArray), j ≤ 7 ∧ sv = .string t ∧ iv = .int .i64 j ∧ Hid (Sb t = PP ++ (itoa y ++ 124 :: Lib.join ((partsA f).take j) [44])) ∧ Hid (Below k w wr)) (fun _ iv _ => 7 - (RowKit.intOf iv).toNat)
    case atStart => exact ⟨0, _, by omega, rfl, rfl, HS, B5⟩
    case round =>
      obtain ⟨j, t, hj, rfl, rfl, HS, B⟩ := hrel
      have hts : t.size ≤ 500 := by
        have h1 := congrArg List.length HS.out
        rw [Sb_length, List.length_append, List.length_append, List.length_cons] at h1
        have := itoa_len21 y x0 x1
        have := HJL.out j hj
        omega
      by_cases hlt : j < 7
      · have hx := run_index_seven ds.toArray j _ hlt ((List.getElem?_toArray ..).trans (HI.out j hlt))
        obtain ⟨z0, z1⟩ := HBD.out j hlt
        have HN := hid (join_next f hlt)
        obtain ⟨z, hz⟩ : ∃ z, f (1 + j) = z := ⟨_, rfl⟩
        rw [hz] at hx z0 z1 HN
        clear hz
        have HCV : Hid (IntKind.u64.wrap z = z) := hid (by rw [IntKind.wrap_u64]; omega)
        rcases (show j = 0 ∨ 0 < j by omega) with rfl | h0
        · rw [show ((0 : Nat) : Int) = 0 from rfl] at hx
          go_wp2_with fail
          with_reducible refine (digitsJ z _ z0 (by omega)).mono ?_
          rintro e w2 ⟨⟨r, rfl, hr, hzr⟩, hb⟩
          have B2 := hid (below_on9 HK.out B.out hb)
          have HS2 : Hid (Sb (t ++ r) = PP ++ (itoa y ++ 124 :: Lib.join ((partsA f).take (0 + 1)) [44])) := hid (by rw [HN.out, Sb_append, HS.out, hr]; simp)
          clear hr hb
          go_wp2
          go_roundw
          case rel => exact ⟨0 + 1, _, by omega, rfl, by go_num, HS2, B2⟩
          case measure => simp only [RowKit.intOf]; omega
        · go_wp2_with fail
          with_reducible refine (digitsJ z _ z0 (by omega)).mono ?_
          rintro e w2 ⟨⟨r, rfl, hr, hzr⟩, hb⟩
          have B2 := hid (below_on9 HK.out B.out hb)
          have HS2 : Hid (Sb (t ++ ⟨#[44]⟩ ++ r) = PP ++ (itoa y ++ 124 :: Lib.join ((partsA f).take (j + 1)) [44])) := hid (by rw [HN.out, Sb_append, Sb_append, HS.out, hr, if_pos h0, show Sb ⟨#[44]⟩ = [44] from rfl]; simp)
          clear hr hb
          go_wp2
          go_roundw
          case rel => exact ⟨j + 1, _, by omega, rfl, by go_num, HS2, B2⟩
          case measure => simp only [RowKit.intOf]; omega
      · obtain rfl : j = 7 := by omega
        have HE : Hid (Sb t = PP ++ textA f) := hid (by rw [HTT.out, HS.out, List.take_of_length_le (by rw [partsA_len]; omega)])
        go_wp2
        exact bodyPost_ret (v := .tuple #[.string (t ++ ⟨#[32]⟩), .bool true]) (by simp [results, Tryz.results21, go_sem]) rfl ⟨⟨_, by rw [decide_eq_true HNZ.out], by
          rw [HTX.out, Sb_append, HE.out, HPP.out, if_neg HNZ.out, show Sb ⟨#[32]⟩ = [32] from rfl]; simp, by rw [ByteArray.size_append]; have h : (⟨#[32]⟩ : ByteArray).size = 1 := rfl; omega⟩, by rw [HK.out]; exact B.out⟩
  · go_wp2_with fail
    with_reducible refine (digitsJ y _ x0 (by omega)).mono ?_
    rintro e w5 ⟨⟨r5, rfl, hr, hz5⟩, hb⟩
    have R5 := hid hr
    have T5 := hid (T4.out.on hb)
    clear hr hb T4 c5 c14
    have HS : Hid (Sb (s1 ++ ⟨#[32, 115, 97, 109, 101, 32]⟩ ++ (r5 ++ ⟨#[124]⟩)) = PP ++ (itoa y ++ 124 :: Lib.join ((partsA f).take 0) [44])) := hid (by
      rw [HPP.out, Sb_append, Sb_append, Sb_append, S1.out, R5.out, show Sb ⟨#[124]⟩ = [124] from rfl, show Sb ⟨#[32, 115, 97, 109, 101, 32]⟩ = 32 :: (whoL true ++ [32]) from rfl]
      simp [Lib.join])
    clear R5
    have MR := hid T5.out.1.jds
    have H7 := hid (len_seven f)
    go_wp2_with (with_reducible refine wpList_load_mid (op := ⟨some 55, _, _, _, _, _⟩) rfl 33 (.tmp 54) rfl k 15 rfl (lsD f) _ MR.out Tryz.underlying33 rfl H7.out ?_)
    have HI : Hid (∀ j : Nat, j < 7 → (lsD f)[j]? = some (.int .i64 (f (1 + j)))) := hid (fun j hj => by rw [lsD_get f hj, Nat.add_comm])
    obtain ⟨ds, hds⟩ : ∃ ds, lsD f = ds := ⟨_, rfl⟩
    rw [hds] at HI
    rw [hds]
    clear hds MR H7
    have B5 := hid T5.out.2
    go_loopw [4, 56] (fun sv iv wr => ∃ (j : Nat) (t : ByteArray), j ≤ 7 ∧ sv = .string t ∧ iv = .int .i64 j ∧ Hid (Sb t = PP ++ (itoa y ++ 124 :: Lib.join ((partsA f).take j) [44])) ∧ Hid (Below k w wr)) (fun _ iv _ => 7 - (RowKit.intOf iv).toNat)
    case atStart => exact ⟨0, _, by omega, rfl, rfl, HS, B5⟩
    case round =>
      obtain ⟨j, t, hj, rfl, rfl, HS, B⟩ := hrel
      have hts : t.size ≤ 500 := by
        have h1 := congrArg List.length HS.out
        rw [Sb_length, List.length_append, List.length_append, List.length_cons] at h1
        have := itoa_len21 y x0 x1
        have := HJL.out j hj
        omega
      by_cases hlt : j < 7
      · have hx := run_index_seven ds.toArray j _ hlt ((List.getElem?_toArray ..).trans (HI.out j hlt))
        obtain ⟨z0, z1⟩ := HBD.out j hlt
        have HN := hid (join_next f hlt)
        obtain ⟨z, hz⟩ : ∃ z, f (1 + j) = z := ⟨_, rfl⟩
        rw [hz] at hx z0 z1 HN
        clear hz
        have HCV : Hid (IntKind.u64.wrap z = z) := hid (by rw [IntKind.wrap_u64]; omega)
        rcases (show j = 0 ∨ 0 < j by omega) with rfl | h0
        · rw [show ((0 : Nat) : Int) = 0 from rfl] at hx
          go_wp2_with fail
          with_reducible refine (digitsJ z _ z0 (by omega)).mono ?_
          rintro e w2 ⟨⟨r, rfl, hr, hzr⟩, hb⟩
          have B2 := hid (below_on9 HK.out B.out hb)
          have HS2 : Hid (Sb (t ++ r) = PP ++ (itoa y ++ 124 :: Lib.join ((partsA f).take (0 + 1)) [44])) := hid (by rw [HN.out, Sb_append, HS.out, hr]; simp)
          clear hr hb
          go_wp2
          go_roundw
          case rel => exact ⟨0 + 1, _, by omega, rfl, by go_num, HS2, B2⟩
          case measure => simp only [RowKit.intOf]; omega
        · go_wp2_with fail
          with_reducible refine (digitsJ z _ z0 (by omega)).mono ?_
          rintro e w2 ⟨⟨r, rfl, hr, hzr⟩, hb⟩
          have B2 := hid (below_on9 HK.out B.out hb)
          have HS2 : Hid (Sb (t ++ ⟨#[44]⟩ ++ r) = PP ++ (itoa y ++ 124 :: Lib.join ((partsA f).take (j + 1)) [44])) := hid (by rw [HN.out, Sb_append, Sb_append, HS.out, hr, if_pos h0, show Sb ⟨#[44]⟩ = [44] from rfl]; simp)
          clear hr hb
          go_wp2
          go_roundw
          case rel => exact ⟨j + 1, _, by omega, rfl, by go_num, HS2, B2⟩
          case measure => simp only [RowKit.intOf]; omega
      · obtain rfl : j = 7 := by omega
        have HE : Hid (Sb t = PP ++ textA f) := hid (by rw [HTT.out, HS.out, List.take_of_length_le (by rw [partsA_len]; omega)])
        go_wp2
        exact bodyPost_ret (v := .tuple #[.string (t ++ ⟨#[32]⟩), .bool true]) (by simp [results, Tryz.results21, go_sem]) rfl ⟨⟨_, by rw [decide_eq_true HNZ.out], by
          rw [HTX.out, Sb_append, HE.out, HPP.out, if_neg HNZ.out, show Sb ⟨#[32]⟩ = [32] from rfl]; simp, by rw [ByteArray.size_append]; have h : (⟨#[32]⟩ : ByteArray).size = 1 := rfl; omega⟩, by rw [HK.out]; exact B.out⟩
end Go.Proofs.YtohffiehmmcgbaaGreatDoor
