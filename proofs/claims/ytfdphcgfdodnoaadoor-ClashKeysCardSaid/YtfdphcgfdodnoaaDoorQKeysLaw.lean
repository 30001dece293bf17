/-
  ClashKeys: for any command and any two keys the law's call returns true: a command's key is its footprint and its session's number; any two keys interfere just if one of both says so. The condition: the table of kinds holds what its text lays, which the card ties to the program.
-/
import Derived.Test.YtfdphcgfdodnoaaDoorQRef
import Derived.Deep.RegionHeld3
namespace Go.Proofs.YtfdphcgfdodnoaaDoor.clashKeys
open Go.ChangeShapes Go.WideShapes Go.ChangeAt Go.RowKit Go.Lib
set_option linter.unusedVariables false
set_option linter.unusedSimpArgs false

theorem eq_key (f : ByteArray) (u : Int) (f2 : ByteArray) (u2 : Int) (w : World) :
    (Op.equalIn 10000 41 (.agg #[.string f, .int .u64 u]) (.agg #[.string f2, .int .u64 u2])).run Tryd.prog w = .ok (decide (f = f2) && u == u2) w := by
  have ht : Tryd.prog.underlying 41 = some (.struct (Tryd.prog.fieldsOf 41)) := by kernel_rfl
  have hp : Tryd.prog.stoodInHeld 41 = false := by kernel_rfl
  rw [run_equalIn_struct w 9999 _ _ _ ht hp]
  have p1 := run_part_plain (P := Tryd.prog) (w := w) (e := 9) (by kernel_rfl) (xs := #[.string f, .int .u64 u]) (off := 0) rfl
  have p2 := run_part_plain (P := Tryd.prog) (w := w) (e := 22) (by kernel_rfl) (xs := #[.string f, .int .u64 u]) (off := 1) rfl
  have p3 := run_part_plain (P := Tryd.prog) (w := w) (e := 9) (by kernel_rfl) (xs := #[.string f2, .int .u64 u2]) (off := 0) rfl
  have p4 := run_part_plain (P := Tryd.prog) (w := w) (e := 22) (by kernel_rfl) (xs := #[.string f2, .int .u64 u2]) (off := 1) rfl
  have q1 := run_equalIn_string (P := Tryd.prog) w 9998 9 f f2 Tryd.underlying9
  have q2 := run_equalIn_int (P := Tryd.prog) w 9998 22 .u64 .u64 u u2 Tryd.underlying22
  rw [toList_L, toList_L] at q1
  have hb : (L f == L f2) = decide (f = f2) := by
    by_cases h : f = f2
    · subst h; simp
    · rw [decide_eq_false h, beq_eq_false_iff_ne]; exact fun e => h (L_inj.1 e)
  rw [hb] at q1
  obtain ⟨x, hx⟩ : ∃ x, decide (f = f2) = x := ⟨_, rfl⟩
  rw [hx] at q1 ⊢
  obtain ⟨y, hy⟩ : ∃ y, (u == u2) = y := ⟨_, rfl⟩
  rw [hy] at q2 ⊢
  cases x <;> cases y <;> simp [Program.fieldsOf, Tryd.underlying41, Op.eqFields, p1, p2, p3, p4, q1, q2, Sem.run_bind, Sem.run_ite, Result.andThen_ok]
theorem key_guard : Tryd.prog.eqGuardType Tryd.prog.depth 41 = false := by kernel_rfl

theorem three_a {w : World} (hP : PartsIs w) (c : K) (a1 a2 : Array Value) : Boxed w (((w.alloc (.cells (cellsOf c) 26)).alloc (.cells a1 41)).alloc (.cells a2 41)) w.heap.size c :=
  ((Boxed.start hP c).alloc _).alloc _
theorem three_b (w : World) (o1 : Obj) (a1 : Array Value) (o2 : Obj) : Blk (((w.alloc o1).alloc (.cells a1 41)).alloc o2) (w.heap.size + 1) 41 a1 := by
  have h := (Blk.new (w.alloc o1) 41 a1).alloc o2
  simpa using h
theorem three_c (w : World) (o1 o2 : Obj) (a2 : Array Value) : Blk (((w.alloc o1).alloc o2).alloc (.cells a2 41)) (w.heap.size + 1 + 1) 41 a2 := by
  have h := Blk.new ((w.alloc o1).alloc o2) 41 a2
  simpa using h

set_option maxRecDepth 100000 in
set_option maxHeartbeats 4000000 in
theorem walk_k (k u : Int) (f : ByteArray) (q : Int) (s : ByteArray) (m n t : Int) (a : ByteArray) (i : Int) (b : ByteArray) (j : Int) (w : World) (hok : okK ⟨k, u, f, q, s, m, n, t⟩) (hP : PartsIs w) :
    Calls Tryd.prog 6 #[val ⟨k, u, f, q, s, m, n, t⟩, keyV a i, keyV b j] w fun e w' => e = .returned (.bool true) ∧ Below w.heap.size w w' := by
  have HO := hid hok
  have A0 := hid (three_a hP ⟨k, u, f, q, s, m, n, t⟩ (keyC a i) (keyC b j))
  have B0 := hid (three_b w (.cells (cellsOf ⟨k, u, f, q, s, m, n, t⟩) 26) (keyC a i) (.cells (keyC b j) 41))
  have C0 := hid (three_c w (.cells (cellsOf ⟨k, u, f, q, s, m, n, t⟩) 26) (.cells (keyC a i) 41) (keyC b j))
  obtain ⟨s1, hs1⟩ : ∃ x, smallK ⟨k, u, f, q, s, m, n, t⟩ = x := ⟨_, rfl⟩
  have S1 := hid hs1
  clear hok hP hs1
  go_enter Tryd.func6, Tryd.ntmps6
  go_wp2_with fail
  with_reducible refine (anchor8 _ A0.out.parts).mono ?_
  rintro e w1 ⟨rfl, hb⟩
  have A1 := hid (A0.out.on hb)
  have B1 := hid (B0.out.below hb B0.out.lt)
  have C1 := hid (C0.out.below hb C0.out.lt)
  clear hb A0 B0 C0
  obtain ⟨⟨c0, c1, c2, c3, c4, c5, c6, c7⟩, f0, f1, f2, f3, f4, f5, f6, f7⟩ := cells8  A1.out.1
  go_wp2_with fail
  with_reducible refine (small8 ⟨k, u, f, q, s, m, n, t⟩ _).mono ?_
  rw [S1.out]
  rintro e w2 ⟨rfl, hb⟩
  have A2 := hid (A1.out.on hb)
  have B2 := hid (B1.out.below hb B1.out.lt)
  have C2 := hid (C1.out.below hb C1.out.lt)
  clear hb A1 B1 C1
  clear c0 c1 c2 c3 c4 c5 c6 c7 f0 f1 f2 f3 f4 f5 f6 f7
  cases s1
  · go_wp2
    go_ret
    exact ⟨rfl, A2.out.below⟩
  obtain ⟨⟨b0, b1⟩, i0, i1⟩ := cells2 B2.out
  obtain ⟨⟨d0, d1⟩, j0, j1⟩ := cells2 C2.out
  rcases Decidable.em (200 < a.size) with h1 | h1
  · have h1' : (200 : Int) < (a.size : Int) := by omega
    go_wp2
    go_ret
    exact ⟨rfl, A2.out.below⟩
  rcases Decidable.em (200 < b.size) with h2 | h2
  · have h2' : (200 : Int) < (b.size : Int) := by omega
    have h1' : ¬ (200 : Int) < (a.size : Int) := by omega
    go_wp2
    go_ret
    exact ⟨rfl, A2.out.below⟩
  have h1' : ¬ (200 : Int) < (a.size : Int) := by omega
  have h2' : ¬ (200 : Int) < (b.size : Int) := by omega
  have hs := S1.out
  unfold smallK at hs
  simp only [Bool.and_eq_true, decide_eq_true_eq] at hs
  have Z : Hid (f.size ≤ 900 ∧ s.size ≤ 900) := hid (by omega)
  have Y : Hid (f.size ≤ 281474976710656 ∧ s.size ≤ 281474976710656) := hid (by omega)
  have ZK : Hid (a.size ≤ 900 ∧ b.size ≤ 900) := hid (by omega)
  have YK : Hid (a.size ≤ 4611686018427387903 ∧ b.size ≤ 4611686018427387903) := hid (by omega)
  obtain ⟨F, hF⟩ : ∃ y, keyF ⟨k, u, f, q, s, m, n, t⟩ = y := ⟨_, rfl⟩
  obtain ⟨U, hU⟩ : ∃ y, keyN ⟨k, u, f, q, s, m, n, t⟩ = y := ⟨_, rfl⟩
  obtain ⟨B, hB⟩ : ∃ y, keyed ⟨k, u, f, q, s, m, n, t⟩ = y := ⟨_, rfl⟩
  have hU1 : B = true → U = u := fun h => by
    rw [← hU]; unfold keyN; unfold keyed at hB; rw [hB, h]; rfl
  have hU2 : B = false → U = 0 ∧ F = ⟨#[]⟩ := fun h => by
    subst h
    constructor
    · rw [← hU]; unfold keyN; unfold keyed at hB; rw [hB]; rfl
    · rw [← hF]; unfold keyF; unfold keyed at hB; unfold footK at hB ⊢; split at hB
      · cases hB
      · rename_i h; rw [if_neg h]
  have HF := hid hF
  have HU := hid hU
  have HB := hid hB
  have HU1 := hid hU1
  have HU2 := hid hU2
  have e1 : (footK ⟨k, u, f, q, s, m, n, t⟩).1 = F := hF
  have e2 : (footK ⟨k, u, f, q, s, m, n, t⟩).2 = B := hB
  have E1 := hid e1
  have E2 := hid e2
  clear hs hF hU hB hU1 hU2 e1 e2 h1 h2
  obtain ⟨⟨c0, c1, c2, c3, c4, c5, c6, c7⟩, f0, f1, f2, f3, f4, f5, f6, f7⟩ := cells8  A2.out.1
  go_wp2_with fail
  with_reducible refine (keyof_any ⟨k, u, f, q, s, m, n, t⟩ _ A2.out.parts Y.out.1 Y.out.2).mono ?_
  rw [HF.out, HU.out, HB.out]
  rintro e w3 ⟨rfl, hb⟩
  have A3 := hid ((A2.out.on hb).alloc (.cells (keyC F U) 41))
  have B3 := hid ((B2.out.below hb B2.out.lt).alloc (.cells (keyC F U) 41))
  have C3 := hid ((C2.out.below hb C2.out.lt).alloc (.cells (keyC F U) 41))
  have D3 := hid (Blk.new w3 41 (keyC F U))
  clear hb A2 B2 C2 b0 b1 i0 i1 d0 d1 j0 j1
  clear c0 c1 c2 c3 c4 c5 c6 c7 f0 f1 f2 f3 f4 f5 f6 f7
  obtain ⟨⟨c0, c1, c2, c3, c4, c5, c6, c7⟩, f0, f1, f2, f3, f4, f5, f6, f7⟩ := cells8  A3.out.1
  go_wp2_with fail
  with_reducible refine (of8 ⟨k, u, f, q, s, m, n, t⟩ _).mono ?_
  rintro e w4 ⟨rfl, hb⟩
  have A4 := hid (A3.out.on hb)
  have B4 := hid (B3.out.below hb B3.out.lt)
  have C4 := hid (C3.out.below hb C3.out.lt)
  have D4 := hid (D3.out.below hb D3.out.lt)
  clear hb A3 B3 C3 D3
  clear c0 c1 c2 c3 c4 c5 c6 c7 f0 f1 f2 f3 f4 f5 f6 f7
  obtain ⟨⟨c0, c1, c2, c3, c4, c5, c6, c7⟩, f0, f1, f2, f3, f4, f5, f6, f7⟩ := cells8  A4.out.1
  go_wp2_with fail
  with_reducible refine (refoot_any ⟨k, u, f, q, s, m, n, t⟩ _ HO.out Z.out.1 Z.out.2).mono ?_
  rw [E1.out, E2.out]
  rintro e w5 ⟨rfl, hb⟩
  have A5 := hid (A4.out.on hb)
  have B5 := hid (B4.out.below hb B4.out.lt)
  have C5 := hid (C4.out.below hb C4.out.lt)
  have D5 := hid (D4.out.below hb D4.out.lt)
  clear hb A4 B4 C4 D4
  clear c0 c1 c2 c3 c4 c5 c6 c7 f0 f1 f2 f3 f4 f5 f6 f7
  obtain ⟨⟨c0, c1, c2, c3, c4, c5, c6, c7⟩, f0, f1, f2, f3, f4, f5, f6, f7⟩ := cells8  A5.out.1
  obtain ⟨⟨d0, d1⟩, j0, j1⟩ := cells2 D5.out
  obtain ⟨y, hy⟩ : ∃ y, clashF a i b j = y := ⟨_, rfl⟩
  have Y1 := hid hy
  have Y2 : Hid (clashF b j a i = y) := hid (by rw [← hy]; unfold clashF; rw [overlap_comm, show (j == i) = (i == j) by rw [Bool.eq_iff_iff]; simp; exact eq_comm])
  obtain ⟨x, hx⟩ : ∃ x, (i == j) = x := ⟨_, rfl⟩
  obtain ⟨z, hz⟩ : ∃ x, overlap (L a) (L b) = x := ⟨_, rfl⟩
  have Z1 := hid hz
  have hyx : y = (x || z) := by rw [← hy, ← hx, ← hz]; rfl
  have HYX := hid hyx
  have HX := hid hx
  clear hy hz hyx hx
  have EG := key_guard
  have base : ∀ (Kr : Frame → World → Prop) (fr : Frame), True := fun _ _ => trivial
  clear base
  cases B
  · obtain ⟨hu, hf⟩ := HU2.out rfl
    subst hu
    subst hf
    have EQ := fun w => eq_key ⟨#[]⟩ 0 ⟨#[]⟩ 0 w
    simp at EQ
    go_wp2_with fail
    clear EG EQ d0 d1 j0 j1 D5
    clear c0 c1 c2 c3 c4 c5 c6 c7 f0 f1 f2 f3 f4 f5 f6 f7
    obtain ⟨⟨b0, b1⟩, i0, i1⟩ := cells2 B5.out
    obtain ⟨⟨d0, d1⟩, j0, j1⟩ := cells2 C5.out
    have hyx := HYX.out
    cases x
    · simp only [Bool.false_or] at hyx
      subst hyx
      have hxx : (i == j) = false := HX.out
      have hyy : (y == y) = true := by simp
      have DA := hid A5.out.drew
      have DB := hid (Blk.drew B5.out)
      have DC := hid (Blk.drew C5.out)
      go_region_held3 (fun w' => (w'.cell? ⟨w.heap.size + 1, 0, none⟩ = some (.string a) ∧ w'.cell? ⟨w.heap.size + 1, 1, none⟩ = some (.int .u64 i)) ∧ (w'.cell? ⟨w.heap.size + 1 + 1, 0, none⟩ = some (.string b) ∧ w'.cell? ⟨w.heap.size + 1 + 1, 1, none⟩ = some (.int .u64 j)))
        (first | exact ⟨(cells2 B5.out).1, (cells2 C5.out).1⟩ | exact ⟨(cells2 DB.out).1, (cells2 DC.out).1⟩ | exact ⟨(cells2 B6.out).1, (cells2 C6.out).1⟩ | exact ⟨(cells2 B7.out).1, (cells2 C7.out).1⟩ | exact ⟨(cells2 B8.out).1, (cells2 C8.out).1⟩ | exact ⟨(cells2 B9.out).1, (cells2 C9.out).1⟩)
        (first
          | (go_at_call 24; (with_reducible refine (refoverlap_any a b _ ZK.out.1 ZK.out.2).mono ?_); rw [Z1.out]; rintro e w7 ⟨rfl, hb7⟩; have A7 := hid (Boxed.on A6.out hb7); have B7 := hid (Blk.below B6.out hb7 (Blk.lt B6.out)); have C7 := hid (Blk.below C6.out hb7 (Blk.lt C6.out)))
          | (go_at_call 23; (with_reducible refine (keyclash_any b j a i _ YK.out.2 YK.out.1).mono ?_); rw [Y2.out]; rintro e w9 ⟨rfl, hb9⟩; have A9 := hid (Boxed.on A8.out hb9); have B9 := hid (Blk.below B8.out hb9 (Blk.lt B8.out)); have C9 := hid (Blk.below C8.out hb9 (Blk.lt C8.out)))
          | (go_at_call 23; (with_reducible refine (keyclash_any a i b j _ YK.out.1 YK.out.2).mono ?_); rw [Y1.out]; rintro e w8 ⟨rfl, hb8⟩; have A8 := hid (Boxed.on A7.out hb8); have B8 := hid (Blk.below B7.out hb8 (Blk.lt B7.out)); have C8 := hid (Blk.below C7.out hb8 (Blk.lt C7.out)))
          | (go_at_call 23; (with_reducible refine (keyclash_any a i b j _ YK.out.1 YK.out.2).mono ?_); rw [Y1.out]; rintro e w6 ⟨rfl, hb6⟩; have A6 := hid (Boxed.on DA.out hb6); have B6 := hid (Blk.below DB.out hb6 (Blk.lt DB.out)); have C6 := hid (Blk.below DC.out hb6 (Blk.lt DC.out))))
      rename_i hHeld
      clear hHeld
      go_wp2
      go_ret
      exact ⟨rfl, A9.out.below⟩
    · simp only [Bool.true_or] at hyx
      subst hyx
      obtain rfl : i = j := by simpa using HX.out
      refine wp_region_held_drew (S := (fun w' => (w'.cell? ⟨w.heap.size + 1, 0, none⟩ = some (.string a) ∧ w'.cell? ⟨w.heap.size + 1, 1, none⟩ = some (.int .u64 i)) ∧ (w'.cell? ⟨w.heap.size + 1 + 1, 0, none⟩ = some (.string b) ∧ w'.cell? ⟨w.heap.size + 1 + 1, 1, none⟩ = some (.int .u64 i)))) (by kernel_rfl) (by exact ⟨(cells2 B5.out).1, (cells2 C5.out).1⟩) (fun hHeld => ?_)
      refine wpAnyH_take (i := 0) (oi := _) (v := ?_) rfl (by kernel_rfl) (by kernel_rfl) (by kernel_rfl) (fun _ _ _ h => h) (Or.inl ⟨by kernel_rfl, ?_⟩) hHeld ?_
      rotate_left 1
      focus (intro w' hSw; (try dsimp only at hSw); go_simp; try with_reducible rfl)
      try simp only [Act.put, List.getElem_toArray, List.getElem_cons_zero, List.getElem_cons_succ, List.setIfInBounds_toArray, List.set_cons_zero, List.set_cons_succ]
      refine wpAnyH_take (i := 1) (oi := _) (v := ?_) rfl (by kernel_rfl) (by kernel_rfl) (by kernel_rfl) (fun _ _ _ h => h) (Or.inl ⟨by kernel_rfl, ?_⟩) hHeld ?_
      rotate_left 1
      focus (intro w' hSw; (try dsimp only at hSw); go_simp; try with_reducible rfl)
      try simp only [Act.put, List.getElem_toArray, List.getElem_cons_zero, List.getElem_cons_succ, List.setIfInBounds_toArray, List.set_cons_zero, List.set_cons_succ]
      refine wpAnyH_take (i := 3) (oi := _) (v := ?_) rfl (by kernel_rfl) (by kernel_rfl) (by kernel_rfl) (fun _ _ _ h => h) (Or.inl ⟨by kernel_rfl, ?_⟩) hHeld ?_
      rotate_left 1
      focus (intro w' hSw; (try dsimp only at hSw); go_simp; try with_reducible rfl)
      try simp only [Act.put, List.getElem_toArray, List.getElem_cons_zero, List.getElem_cons_succ, List.setIfInBounds_toArray, List.set_cons_zero, List.set_cons_succ]
      refine wpAnyH_take (i := 4) (oi := _) (v := ?_) rfl (by kernel_rfl) (by kernel_rfl) (by kernel_rfl) (fun _ _ _ h => h) (Or.inl ⟨by kernel_rfl, ?_⟩) hHeld ?_
      rotate_left 1
      focus (intro w' hSw; (try dsimp only at hSw); go_simp; try with_reducible rfl)
      try simp only [Act.put, List.getElem_toArray, List.getElem_cons_zero, List.getElem_cons_succ, List.setIfInBounds_toArray, List.set_cons_zero, List.set_cons_succ]
      refine wpAnyH_take (i := 5) (oi := _) (v := ?_) rfl (by kernel_rfl) (by kernel_rfl) (by kernel_rfl) (fun _ _ _ h => h) (Or.inl ⟨by kernel_rfl, ?_⟩) hHeld ?_
      rotate_left 1
      focus (intro w' hSw; (try dsimp only at hSw); go_simp; try with_reducible rfl)
      try simp only [Act.put, List.getElem_toArray, List.getElem_cons_zero, List.getElem_cons_succ, List.setIfInBounds_toArray, List.set_cons_zero, List.set_cons_succ]
      refine wpAnyH_take (i := 6) (oi := _) (v := ?_) rfl (by kernel_rfl) (by kernel_rfl) (by kernel_rfl) (fun _ _ _ h => h) (Or.inl ⟨by kernel_rfl, ?_⟩) hHeld ?_
      rotate_left 1
      focus (intro w' hSw; (try dsimp only at hSw); go_simp; try with_reducible rfl)
      try simp only [Act.put, List.getElem_toArray, List.getElem_cons_zero, List.getElem_cons_succ, List.setIfInBounds_toArray, List.set_cons_zero, List.set_cons_succ]
      refine wpAnyH_take (i := 7) (oi := _) (v := ?_) rfl (by kernel_rfl) (by kernel_rfl) (by kernel_rfl) (fun _ _ _ h => h) (Or.inl ⟨by kernel_rfl, ?_⟩) hHeld ?_
      rotate_left 1
      focus (intro w' hSw; (try dsimp only at hSw); go_simp; try with_reducible rfl)
      try simp only [Act.put, List.getElem_toArray, List.getElem_cons_zero, List.getElem_cons_succ, List.setIfInBounds_toArray, List.set_cons_zero, List.set_cons_succ]
      refine wpAnyH_ready (rs := [2]) (by kernel_rfl) (by simp) ?_
      refine AllReadyH.cons (o := _) rfl (fun K hK => ?_) AllReadyH.nil
      go_simp
      go_at_call 23
      with_reducible refine (keyclash_any a i b i _ YK.out.1 YK.out.2).mono ?_
      rw [Y1.out]
      rintro e w6 ⟨rfl, hb6⟩
      have A6 := hid (Boxed.on (Boxed.drew A5.out) hb6)
      have B6 := hid (Blk.below (Blk.drew B5.out) hb6 (Blk.lt (Blk.drew B5.out)))
      have C6 := hid (Blk.below (Blk.drew C5.out) hb6 (Blk.lt (Blk.drew C5.out)))
      refine hK.out _ _ (by exact ⟨(cells2 B6.out).1, (cells2 C6.out).1⟩) (fun hHeld => ?_)
      clear hK K
      try simp only [Act.put, List.getElem_toArray, List.getElem_cons_zero, List.getElem_cons_succ, List.setIfInBounds_toArray, List.set_cons_zero, List.set_cons_succ]
      refine wpAnyH_take (i := 8) (oi := _) (v := ?_) rfl (by kernel_rfl) (by kernel_rfl) (by kernel_rfl) (fun _ _ _ h => h) (Or.inl ⟨by kernel_rfl, ?_⟩) hHeld ?_
      rotate_left 1
      focus (intro w' hSw; (try dsimp only at hSw); go_simp; try with_reducible rfl)
      try simp only [Act.put, List.getElem_toArray, List.getElem_cons_zero, List.getElem_cons_succ, List.setIfInBounds_toArray, List.set_cons_zero, List.set_cons_succ]
      refine wpAnyH_take (i := 9) (oi := _) (v := undef) rfl (by kernel_rfl) (by kernel_rfl) (by kernel_rfl) (fun _ _ _ h => h) (Or.inr ⟨by kernel_rfl, rfl⟩) hHeld ?_
      try simp only [Act.put, List.getElem_toArray, List.getElem_cons_zero, List.getElem_cons_succ, List.setIfInBounds_toArray, List.set_cons_zero, List.set_cons_succ]
      refine wpAnyH_take (i := 10) (oi := _) (v := undef) rfl (by kernel_rfl) (by kernel_rfl) (by kernel_rfl) (fun _ _ _ h => h) (Or.inr ⟨by kernel_rfl, rfl⟩) hHeld ?_
      try simp only [Act.put, List.getElem_toArray, List.getElem_cons_zero, List.getElem_cons_succ, List.setIfInBounds_toArray, List.set_cons_zero, List.set_cons_succ]
      refine wpAnyH_take (i := 11) (oi := _) (v := undef) rfl (by kernel_rfl) (by kernel_rfl) (by kernel_rfl) (fun _ _ _ h => h) (Or.inr ⟨by kernel_rfl, rfl⟩) hHeld ?_
      try simp only [Act.put, List.getElem_toArray, List.getElem_cons_zero, List.getElem_cons_succ, List.setIfInBounds_toArray, List.set_cons_zero, List.set_cons_succ]
      refine wpAnyH_take (i := 12) (oi := _) (v := undef) rfl (by kernel_rfl) (by kernel_rfl) (by kernel_rfl) (fun _ _ _ h => h) (Or.inr ⟨by kernel_rfl, rfl⟩) hHeld ?_
      try simp only [Act.put, List.getElem_toArray, List.getElem_cons_zero, List.getElem_cons_succ, List.setIfInBounds_toArray, List.set_cons_zero, List.set_cons_succ]
      refine wpAnyH_take (i := 13) (oi := _) (v := undef) rfl (by kernel_rfl) (by kernel_rfl) (by kernel_rfl) (fun _ _ _ h => h) (Or.inr ⟨by kernel_rfl, rfl⟩) hHeld ?_
      try simp only [Act.put, List.getElem_toArray, List.getElem_cons_zero, List.getElem_cons_succ, List.setIfInBounds_toArray, List.set_cons_zero, List.set_cons_succ]
      refine wpAnyH_take (i := 14) (oi := _) (v := ?_) rfl (by kernel_rfl) (by kernel_rfl) (by kernel_rfl) (fun _ _ _ h => h) (Or.inl ⟨by kernel_rfl, ?_⟩) hHeld ?_
      rotate_left 1
      focus (intro w' hSw; (try dsimp only at hSw); go_simp; try with_reducible rfl)
      try simp only [Act.put, List.getElem_toArray, List.getElem_cons_zero, List.getElem_cons_succ, List.setIfInBounds_toArray, List.set_cons_zero, List.set_cons_succ]
      refine wpAnyH_take (i := 15) (oi := _) (v := ?_) rfl (by kernel_rfl) (by kernel_rfl) (by kernel_rfl) (fun _ _ _ h => h) (Or.inl ⟨by kernel_rfl, ?_⟩) hHeld ?_
      rotate_left 1
      focus (intro w' hSw; (try dsimp only at hSw); go_simp; try with_reducible rfl)
      try simp only [Act.put, List.getElem_toArray, List.getElem_cons_zero, List.getElem_cons_succ, List.setIfInBounds_toArray, List.set_cons_zero, List.set_cons_succ]
      refine wpAnyH_take (i := 16) (oi := _) (v := ?_) rfl (by kernel_rfl) (by kernel_rfl) (by kernel_rfl) (fun _ _ _ h => h) (Or.inl ⟨by kernel_rfl, ?_⟩) hHeld ?_
      rotate_left 1
      focus (intro w' hSw; (try dsimp only at hSw); go_simp; try with_reducible rfl)
      try simp only [Act.put, List.getElem_toArray, List.getElem_cons_zero, List.getElem_cons_succ, List.setIfInBounds_toArray, List.set_cons_zero, List.set_cons_succ]
      refine wpAnyH_take (i := 17) (oi := _) (v := ?_) rfl (by kernel_rfl) (by kernel_rfl) (by kernel_rfl) (fun _ _ _ h => h) (Or.inl ⟨by kernel_rfl, ?_⟩) hHeld ?_
      rotate_left 1
      focus (intro w' hSw; (try dsimp only at hSw); go_simp; try with_reducible rfl)
      try simp only [Act.put, List.getElem_toArray, List.getElem_cons_zero, List.getElem_cons_succ, List.setIfInBounds_toArray, List.set_cons_zero, List.set_cons_succ]
      refine wpAnyH_take (i := 18) (oi := _) (v := ?_) rfl (by kernel_rfl) (by kernel_rfl) (by kernel_rfl) (fun _ _ _ h => h) (Or.inl ⟨by kernel_rfl, ?_⟩) hHeld ?_
      rotate_left 1
      focus (intro w' hSw; (try dsimp only at hSw); go_simp; try with_reducible rfl)
      try simp only [Act.put, List.getElem_toArray, List.getElem_cons_zero, List.getElem_cons_succ, List.setIfInBounds_toArray, List.set_cons_zero, List.set_cons_succ]
      refine wpAnyH_take (i := 20) (oi := _) (v := ?_) rfl (by kernel_rfl) (by kernel_rfl) (by kernel_rfl) (fun _ _ _ h => h) (Or.inl ⟨by kernel_rfl, ?_⟩) hHeld ?_
      rotate_left 1
      focus (intro w' hSw; (try dsimp only at hSw); go_simp; try with_reducible rfl)
      try simp only [Act.put, List.getElem_toArray, List.getElem_cons_zero, List.getElem_cons_succ, List.setIfInBounds_toArray, List.set_cons_zero, List.set_cons_succ]
      refine wpAnyH_take (i := 21) (oi := _) (v := ?_) rfl (by kernel_rfl) (by kernel_rfl) (by kernel_rfl) (fun _ _ _ h => h) (Or.inl ⟨by kernel_rfl, ?_⟩) hHeld ?_
      rotate_left 1
      focus (intro w' hSw; (try dsimp only at hSw); go_simp; try with_reducible rfl)
      try simp only [Act.put, List.getElem_toArray, List.getElem_cons_zero, List.getElem_cons_succ, List.setIfInBounds_toArray, List.set_cons_zero, List.set_cons_succ]
      refine wpAnyH_ready (rs := [19]) (by kernel_rfl) (by simp) ?_
      refine AllReadyH.cons (o := _) rfl (fun K hK => ?_) AllReadyH.nil
      go_simp
      go_at_call 23
      with_reducible refine (keyclash_any a i b i _ YK.out.1 YK.out.2).mono ?_
      rw [Y1.out]
      rintro e w8 ⟨rfl, hb8⟩
      have A8 := hid (Boxed.on A6.out hb8)
      have B8 := hid (Blk.below B6.out hb8 (Blk.lt B6.out))
      have C8 := hid (Blk.below C6.out hb8 (Blk.lt C6.out))
      refine hK.out _ _ (by exact ⟨(cells2 B8.out).1, (cells2 C8.out).1⟩) (fun hHeld => ?_)
      clear hK K
      try simp only [Act.put, List.getElem_toArray, List.getElem_cons_zero, List.getElem_cons_succ, List.setIfInBounds_toArray, List.set_cons_zero, List.set_cons_succ]
      refine wpAnyH_ready (rs := [22]) (by kernel_rfl) (by simp) ?_
      refine AllReadyH.cons (o := _) rfl (fun K hK => ?_) AllReadyH.nil
      go_simp
      go_at_call 23
      with_reducible refine (keyclash_any b i a i _ YK.out.2 YK.out.1).mono ?_
      rw [Y2.out]
      rintro e w9 ⟨rfl, hb9⟩
      have A9 := hid (Boxed.on A8.out hb9)
      have B9 := hid (Blk.below B8.out hb9 (Blk.lt B8.out))
      have C9 := hid (Blk.below C8.out hb9 (Blk.lt C8.out))
      refine hK.out _ _ (by exact ⟨(cells2 B9.out).1, (cells2 C9.out).1⟩) (fun hHeld => ?_)
      clear hK K
      try simp only [Act.put, List.getElem_toArray, List.getElem_cons_zero, List.getElem_cons_succ, List.setIfInBounds_toArray, List.set_cons_zero, List.set_cons_succ]
      refine wpAnyH_take (i := 23) (oi := _) (v := ?_) rfl (by kernel_rfl) (by kernel_rfl) (by kernel_rfl) (fun _ _ _ h => h) (Or.inl ⟨by kernel_rfl, ?_⟩) hHeld ?_
      rotate_left 1
      focus (intro w' hSw; (try dsimp only at hSw); go_simp; try with_reducible rfl)
      try simp only [Act.put, List.getElem_toArray, List.getElem_cons_zero, List.getElem_cons_succ, List.setIfInBounds_toArray, List.set_cons_zero, List.set_cons_succ]
      refine wpAnyH_take (i := 24) (oi := _) (v := ?_) rfl (by kernel_rfl) (by kernel_rfl) (by kernel_rfl) (fun _ _ _ h => h) (Or.inl ⟨by kernel_rfl, ?_⟩) hHeld ?_
      rotate_left 1
      focus (intro w' hSw; (try dsimp only at hSw); go_simp; try with_reducible rfl)
      try simp only [Act.put, List.getElem_toArray, List.getElem_cons_zero, List.getElem_cons_succ, List.setIfInBounds_toArray, List.set_cons_zero, List.set_cons_succ]
      refine wpAnyH_take (i := 25) (oi := _) (v := ?_) rfl (by kernel_rfl) (by kernel_rfl) (by kernel_rfl) (fun _ _ _ h => h) (Or.inl ⟨by kernel_rfl, ?_⟩) hHeld ?_
      rotate_left 1
      focus (intro w' hSw; (try dsimp only at hSw); go_simp; try with_reducible rfl)
      try simp only [Act.put, List.getElem_toArray, List.getElem_cons_zero, List.getElem_cons_succ, List.setIfInBounds_toArray, List.set_cons_zero, List.set_cons_succ]
      refine wpAnyH_done (by kernel_rfl) ?_ _
      clear hHeld
      go_wp2
      go_ret
      exact ⟨rfl, A9.out.below⟩
  · obtain rfl := HU1.out rfl
    have EQ := fun w => eq_key F U F U w
    simp at EQ
    go_wp2_with fail
    clear EG EQ d0 d1 j0 j1 D5
    clear c0 c1 c2 c3 c4 c5 c6 c7 f0 f1 f2 f3 f4 f5 f6 f7
    obtain ⟨⟨b0, b1⟩, i0, i1⟩ := cells2 B5.out
    obtain ⟨⟨d0, d1⟩, j0, j1⟩ := cells2 C5.out
    have hyx := HYX.out
    cases x
    · simp only [Bool.false_or] at hyx
      subst hyx
      have hxx : (i == j) = false := HX.out
      have hyy : (y == y) = true := by simp
      have DA := hid A5.out.drew
      have DB := hid (Blk.drew B5.out)
      have DC := hid (Blk.drew C5.out)
      go_region_held3 (fun w' => (w'.cell? ⟨w.heap.size + 1, 0, none⟩ = some (.string a) ∧ w'.cell? ⟨w.heap.size + 1, 1, none⟩ = some (.int .u64 i)) ∧ (w'.cell? ⟨w.heap.size + 1 + 1, 0, none⟩ = some (.string b) ∧ w'.cell? ⟨w.heap.size + 1 + 1, 1, none⟩ = some (.int .u64 j)))
        (first | exact ⟨(cells2 B5.out).1, (cells2 C5.out).1⟩ | exact ⟨(cells2 DB.out).1, (cells2 DC.out).1⟩ | exact ⟨(cells2 B6.out).1, (cells2 C6.out).1⟩ | exact ⟨(cells2 B7.out).1, (cells2 C7.out).1⟩ | exact ⟨(cells2 B8.out).1, (cells2 C8.out).1⟩ | exact ⟨(cells2 B9.out).1, (cells2 C9.out).1⟩)
        (first
          | (go_at_call 24; (with_reducible refine (refoverlap_any a b _ ZK.out.1 ZK.out.2).mono ?_); rw [Z1.out]; rintro e w7 ⟨rfl, hb7⟩; have A7 := hid (Boxed.on A6.out hb7); have B7 := hid (Blk.below B6.out hb7 (Blk.lt B6.out)); have C7 := hid (Blk.below C6.out hb7 (Blk.lt C6.out)))
          | (go_at_call 23; (with_reducible refine (keyclash_any b j a i _ YK.out.2 YK.out.1).mono ?_); rw [Y2.out]; rintro e w9 ⟨rfl, hb9⟩; have A9 := hid (Boxed.on A8.out hb9); have B9 := hid (Blk.below B8.out hb9 (Blk.lt B8.out)); have C9 := hid (Blk.below C8.out hb9 (Blk.lt C8.out)))
          | (go_at_call 23; (with_reducible refine (keyclash_any a i b j _ YK.out.1 YK.out.2).mono ?_); rw [Y1.out]; rintro e w8 ⟨rfl, hb8⟩; have A8 := hid (Boxed.on A7.out hb8); have B8 := hid (Blk.below B7.out hb8 (Blk.lt B7.out)); have C8 := hid (Blk.below C7.out hb8 (Blk.lt C7.out)))
          | (go_at_call 23; (with_reducible refine (keyclash_any a i b j _ YK.out.1 YK.out.2).mono ?_); rw [Y1.out]; rintro e w6 ⟨rfl, hb6⟩; have A6 := hid (Boxed.on DA.out hb6); have B6 := hid (Blk.below DB.out hb6 (Blk.lt DB.out)); have C6 := hid (Blk.below DC.out hb6 (Blk.lt DC.out))))
      rename_i hHeld
      clear hHeld
      go_wp2
      go_ret
      exact ⟨rfl, A9.out.below⟩
    · simp only [Bool.true_or] at hyx
      subst hyx
      obtain rfl : i = j := by simpa using HX.out
      refine wp_region_held_drew (S := (fun w' => (w'.cell? ⟨w.heap.size + 1, 0, none⟩ = some (.string a) ∧ w'.cell? ⟨w.heap.size + 1, 1, none⟩ = some (.int .u64 i)) ∧ (w'.cell? ⟨w.heap.size + 1 + 1, 0, none⟩ = some (.string b) ∧ w'.cell? ⟨w.heap.size + 1 + 1, 1, none⟩ = some (.int .u64 i)))) (by kernel_rfl) (by exact ⟨(cells2 B5.out).1, (cells2 C5.out).1⟩) (fun hHeld => ?_)
      refine wpAnyH_take (i := 0) (oi := _) (v := ?_) rfl (by kernel_rfl) (by kernel_rfl) (by kernel_rfl) (fun _ _ _ h => h) (Or.inl ⟨by kernel_rfl, ?_⟩) hHeld ?_
      rotate_left 1
      focus (intro w' hSw; (try dsimp only at hSw); go_simp; try with_reducible rfl)
      try simp only [Act.put, List.getElem_toArray, List.getElem_cons_zero, List.getElem_cons_succ, List.setIfInBounds_toArray, List.set_cons_zero, List.set_cons_succ]
      refine wpAnyH_take (i := 1) (oi := _) (v := ?_) rfl (by kernel_rfl) (by kernel_rfl) (by kernel_rfl) (fun _ _ _ h => h) (Or.inl ⟨by kernel_rfl, ?_⟩) hHeld ?_
      rotate_left 1
      focus (intro w' hSw; (try dsimp only at hSw); go_simp; try with_reducible rfl)
      try simp only [Act.put, List.getElem_toArray, List.getElem_cons_zero, List.getElem_cons_succ, List.setIfInBounds_toArray, List.set_cons_zero, List.set_cons_succ]
      refine wpAnyH_take (i := 3) (oi := _) (v := ?_) rfl (by kernel_rfl) (by kernel_rfl) (by kernel_rfl) (fun _ _ _ h => h) (Or.inl ⟨by kernel_rfl, ?_⟩) hHeld ?_
      rotate_left 1
      focus (intro w' hSw; (try dsimp only at hSw); go_simp; try with_reducible rfl)
      try simp only [Act.put, List.getElem_toArray, List.getElem_cons_zero, List.getElem_cons_succ, List.setIfInBounds_toArray, List.set_cons_zero, List.set_cons_succ]
      refine wpAnyH_take (i := 4) (oi := _) (v := ?_) rfl (by kernel_rfl) (by kernel_rfl) (by kernel_rfl) (fun _ _ _ h => h) (Or.inl ⟨by kernel_rfl, ?_⟩) hHeld ?_
      rotate_left 1
      focus (intro w' hSw; (try dsimp only at hSw); go_simp; try with_reducible rfl)
      try simp only [Act.put, List.getElem_toArray, List.getElem_cons_zero, List.getElem_cons_succ, List.setIfInBounds_toArray, List.set_cons_zero, List.set_cons_succ]
      refine wpAnyH_take (i := 5) (oi := _) (v := ?_) rfl (by kernel_rfl) (by kernel_rfl) (by kernel_rfl) (fun _ _ _ h => h) (Or.inl ⟨by kernel_rfl, ?_⟩) hHeld ?_
      rotate_left 1
      focus (intro w' hSw; (try dsimp only at hSw); go_simp; try with_reducible rfl)
      try simp only [Act.put, List.getElem_toArray, List.getElem_cons_zero, List.getElem_cons_succ, List.setIfInBounds_toArray, List.set_cons_zero, List.set_cons_succ]
      refine wpAnyH_take (i := 6) (oi := _) (v := ?_) rfl (by kernel_rfl) (by kernel_rfl) (by kernel_rfl) (fun _ _ _ h => h) (Or.inl ⟨by kernel_rfl, ?_⟩) hHeld ?_
      rotate_left 1
      focus (intro w' hSw; (try dsimp only at hSw); go_simp; try with_reducible rfl)
      try simp only [Act.put, List.getElem_toArray, List.getElem_cons_zero, List.getElem_cons_succ, List.setIfInBounds_toArray, List.set_cons_zero, List.set_cons_succ]
      refine wpAnyH_take (i := 7) (oi := _) (v := ?_) rfl (by kernel_rfl) (by kernel_rfl) (by kernel_rfl) (fun _ _ _ h => h) (Or.inl ⟨by kernel_rfl, ?_⟩) hHeld ?_
      rotate_left 1
      focus (intro w' hSw; (try dsimp only at hSw); go_simp; try with_reducible rfl)
      try simp only [Act.put, List.getElem_toArray, List.getElem_cons_zero, List.getElem_cons_succ, List.setIfInBounds_toArray, List.set_cons_zero, List.set_cons_succ]
      refine wpAnyH_ready (rs := [2]) (by kernel_rfl) (by simp) ?_
      refine AllReadyH.cons (o := _) rfl (fun K hK => ?_) AllReadyH.nil
      go_simp
      go_at_call 23
      with_reducible refine (keyclash_any a i b i _ YK.out.1 YK.out.2).mono ?_
      rw [Y1.out]
      rintro e w6 ⟨rfl, hb6⟩
      have A6 := hid (Boxed.on (Boxed.drew A5.out) hb6)
      have B6 := hid (Blk.below (Blk.drew B5.out) hb6 (Blk.lt (Blk.drew B5.out)))
      have C6 := hid (Blk.below (Blk.drew C5.out) hb6 (Blk.lt (Blk.drew C5.out)))
      refine hK.out _ _ (by exact ⟨(cells2 B6.out).1, (cells2 C6.out).1⟩) (fun hHeld => ?_)
      clear hK K
      try simp only [Act.put, List.getElem_toArray, List.getElem_cons_zero, List.getElem_cons_succ, List.setIfInBounds_toArray, List.set_cons_zero, List.set_cons_succ]
      refine wpAnyH_take (i := 8) (oi := _) (v := ?_) rfl (by kernel_rfl) (by kernel_rfl) (by kernel_rfl) (fun _ _ _ h => h) (Or.inl ⟨by kernel_rfl, ?_⟩) hHeld ?_
      rotate_left 1
      focus (intro w' hSw; (try dsimp only at hSw); go_simp; try with_reducible rfl)
      try simp only [Act.put, List.getElem_toArray, List.getElem_cons_zero, List.getElem_cons_succ, List.setIfInBounds_toArray, List.set_cons_zero, List.set_cons_succ]
      refine wpAnyH_take (i := 9) (oi := _) (v := undef) rfl (by kernel_rfl) (by kernel_rfl) (by kernel_rfl) (fun _ _ _ h => h) (Or.inr ⟨by kernel_rfl, rfl⟩) hHeld ?_
      try simp only [Act.put, List.getElem_toArray, List.getElem_cons_zero, List.getElem_cons_succ, List.setIfInBounds_toArray, List.set_cons_zero, List.set_cons_succ]
      refine wpAnyH_take (i := 10) (oi := _) (v := undef) rfl (by kernel_rfl) (by kernel_rfl) (by kernel_rfl) (fun _ _ _ h => h) (Or.inr ⟨by kernel_rfl, rfl⟩) hHeld ?_
      try simp only [Act.put, List.getElem_toArray, List.getElem_cons_zero, List.getElem_cons_succ, List.setIfInBounds_toArray, List.set_cons_zero, List.set_cons_succ]
      refine wpAnyH_take (i := 11) (oi := _) (v := undef) rfl (by kernel_rfl) (by kernel_rfl) (by kernel_rfl) (fun _ _ _ h => h) (Or.inr ⟨by kernel_rfl, rfl⟩) hHeld ?_
      try simp only [Act.put, List.getElem_toArray, List.getElem_cons_zero, List.getElem_cons_succ, List.setIfInBounds_toArray, List.set_cons_zero, List.set_cons_succ]
      refine wpAnyH_take (i := 12) (oi := _) (v := undef) rfl (by kernel_rfl) (by kernel_rfl) (by kernel_rfl) (fun _ _ _ h => h) (Or.inr ⟨by kernel_rfl, rfl⟩) hHeld ?_
      try simp only [Act.put, List.getElem_toArray, List.getElem_cons_zero, List.getElem_cons_succ, List.setIfInBounds_toArray, List.set_cons_zero, List.set_cons_succ]
      refine wpAnyH_take (i := 13) (oi := _) (v := undef) rfl (by kernel_rfl) (by kernel_rfl) (by kernel_rfl) (fun _ _ _ h => h) (Or.inr ⟨by kernel_rfl, rfl⟩) hHeld ?_
      try simp only [Act.put, List.getElem_toArray, List.getElem_cons_zero, List.getElem_cons_succ, List.setIfInBounds_toArray, List.set_cons_zero, List.set_cons_succ]
      refine wpAnyH_take (i := 14) (oi := _) (v := ?_) rfl (by kernel_rfl) (by kernel_rfl) (by kernel_rfl) (fun _ _ _ h => h) (Or.inl ⟨by kernel_rfl, ?_⟩) hHeld ?_
      rotate_left 1
      focus (intro w' hSw; (try dsimp only at hSw); go_simp; try with_reducible rfl)
      try simp only [Act.put, List.getElem_toArray, List.getElem_cons_zero, List.getElem_cons_succ, List.setIfInBounds_toArray, List.set_cons_zero, List.set_cons_succ]
      refine wpAnyH_take (i := 15) (oi := _) (v := ?_) rfl (by kernel_rfl) (by kernel_rfl) (by kernel_rfl) (fun _ _ _ h => h) (Or.inl ⟨by kernel_rfl, ?_⟩) hHeld ?_
      rotate_left 1
      focus (intro w' hSw; (try dsimp only at hSw); go_simp; try with_reducible rfl)
      try simp only [Act.put, List.getElem_toArray, List.getElem_cons_zero, List.getElem_cons_succ, List.setIfInBounds_toArray, List.set_cons_zero, List.set_cons_succ]
      refine wpAnyH_take (i := 16) (oi := _) (v := ?_) rfl (by kernel_rfl) (by kernel_rfl) (by kernel_rfl) (fun _ _ _ h => h) (Or.inl ⟨by kernel_rfl, ?_⟩) hHeld ?_
      rotate_left 1
      focus (intro w' hSw; (try dsimp only at hSw); go_simp; try with_reducible rfl)
      try simp only [Act.put, List.getElem_toArray, List.getElem_cons_zero, List.getElem_cons_succ, List.setIfInBounds_toArray, List.set_cons_zero, List.set_cons_succ]
      refine wpAnyH_take (i := 17) (oi := _) (v := ?_) rfl (by kernel_rfl) (by kernel_rfl) (by kernel_rfl) (fun _ _ _ h => h) (Or.inl ⟨by kernel_rfl, ?_⟩) hHeld ?_
      rotate_left 1
      focus (intro w' hSw; (try dsimp only at hSw); go_simp; try with_reducible rfl)
      try simp only [Act.put, List.getElem_toArray, List.getElem_cons_zero, List.getElem_cons_succ, List.setIfInBounds_toArray, List.set_cons_zero, List.set_cons_succ]
      refine wpAnyH_take (i := 18) (oi := _) (v := ?_) rfl (by kernel_rfl) (by kernel_rfl) (by kernel_rfl) (fun _ _ _ h => h) (Or.inl ⟨by kernel_rfl, ?_⟩) hHeld ?_
      rotate_left 1
      focus (intro w' hSw; (try dsimp only at hSw); go_simp; try with_reducible rfl)
      try simp only [Act.put, List.getElem_toArray, List.getElem_cons_zero, List.getElem_cons_succ, List.setIfInBounds_toArray, List.set_cons_zero, List.set_cons_succ]
      refine wpAnyH_take (i := 20) (oi := _) (v := ?_) rfl (by kernel_rfl) (by kernel_rfl) (by kernel_rfl) (fun _ _ _ h => h) (Or.inl ⟨by kernel_rfl, ?_⟩) hHeld ?_
      rotate_left 1
      focus (intro w' hSw; (try dsimp only at hSw); go_simp; try with_reducible rfl)
      try simp only [Act.put, List.getElem_toArray, List.getElem_cons_zero, List.getElem_cons_succ, List.setIfInBounds_toArray, List.set_cons_zero, List.set_cons_succ]
      refine wpAnyH_take (i := 21) (oi := _) (v := ?_) rfl (by kernel_rfl) (by kernel_rfl) (by kernel_rfl) (fun _ _ _ h => h) (Or.inl ⟨by kernel_rfl, ?_⟩) hHeld ?_
      rotate_left 1
      focus (intro w' hSw; (try dsimp only at hSw); go_simp; try with_reducible rfl)
      try simp only [Act.put, List.getElem_toArray, List.getElem_cons_zero, List.getElem_cons_succ, List.setIfInBounds_toArray, List.set_cons_zero, List.set_cons_succ]
      refine wpAnyH_ready (rs := [19]) (by kernel_rfl) (by simp) ?_
      refine AllReadyH.cons (o := _) rfl (fun K hK => ?_) AllReadyH.nil
      go_simp
      go_at_call 23
      with_reducible refine (keyclash_any a i b i _ YK.out.1 YK.out.2).mono ?_
      rw [Y1.out]
      rintro e w8 ⟨rfl, hb8⟩
      have A8 := hid (Boxed.on A6.out hb8)
      have B8 := hid (Blk.below B6.out hb8 (Blk.lt B6.out))
      have C8 := hid (Blk.below C6.out hb8 (Blk.lt C6.out))
      refine hK.out _ _ (by exact ⟨(cells2 B8.out).1, (cells2 C8.out).1⟩) (fun hHeld => ?_)
      clear hK K
      try simp only [Act.put, List.getElem_toArray, List.getElem_cons_zero, List.getElem_cons_succ, List.setIfInBounds_toArray, List.set_cons_zero, List.set_cons_succ]
      refine wpAnyH_ready (rs := [22]) (by kernel_rfl) (by simp) ?_
      refine AllReadyH.cons (o := _) rfl (fun K hK => ?_) AllReadyH.nil
      go_simp
      go_at_call 23
      with_reducible refine (keyclash_any b i a i _ YK.out.2 YK.out.1).mono ?_
      rw [Y2.out]
      rintro e w9 ⟨rfl, hb9⟩
      have A9 := hid (Boxed.on A8.out hb9)
      have B9 := hid (Blk.below B8.out hb9 (Blk.lt B8.out))
      have C9 := hid (Blk.below C8.out hb9 (Blk.lt C8.out))
      refine hK.out _ _ (by exact ⟨(cells2 B9.out).1, (cells2 C9.out).1⟩) (fun hHeld => ?_)
      clear hK K
      try simp only [Act.put, List.getElem_toArray, List.getElem_cons_zero, List.getElem_cons_succ, List.setIfInBounds_toArray, List.set_cons_zero, List.set_cons_succ]
      refine wpAnyH_take (i := 23) (oi := _) (v := ?_) rfl (by kernel_rfl) (by kernel_rfl) (by kernel_rfl) (fun _ _ _ h => h) (Or.inl ⟨by kernel_rfl, ?_⟩) hHeld ?_
      rotate_left 1
      focus (intro w' hSw; (try dsimp only at hSw); go_simp; try with_reducible rfl)
      try simp only [Act.put, List.getElem_toArray, List.getElem_cons_zero, List.getElem_cons_succ, List.setIfInBounds_toArray, List.set_cons_zero, List.set_cons_succ]
      refine wpAnyH_take (i := 24) (oi := _) (v := ?_) rfl (by kernel_rfl) (by kernel_rfl) (by kernel_rfl) (fun _ _ _ h => h) (Or.inl ⟨by kernel_rfl, ?_⟩) hHeld ?_
      rotate_left 1
      focus (intro w' hSw; (try dsimp only at hSw); go_simp; try with_reducible rfl)
      try simp only [Act.put, List.getElem_toArray, List.getElem_cons_zero, List.getElem_cons_succ, List.setIfInBounds_toArray, List.set_cons_zero, List.set_cons_succ]
      refine wpAnyH_take (i := 25) (oi := _) (v := ?_) rfl (by kernel_rfl) (by kernel_rfl) (by kernel_rfl) (fun _ _ _ h => h) (Or.inl ⟨by kernel_rfl, ?_⟩) hHeld ?_
      rotate_left 1
      focus (intro w' hSw; (try dsimp only at hSw); go_simp; try with_reducible rfl)
      try simp only [Act.put, List.getElem_toArray, List.getElem_cons_zero, List.getElem_cons_succ, List.setIfInBounds_toArray, List.set_cons_zero, List.set_cons_succ]
      refine wpAnyH_done (by kernel_rfl) ?_ _
      clear hHeld
      go_wp2
      go_ret
      exact ⟨rfl, A9.out.below⟩

theorem walk (c : K) (a : ByteArray) (i : Int) (b : ByteArray) (j : Int) (hok : okK c) (w : World) (hP : PartsIs w) :
    Calls Tryd.prog 6 #[val c, keyV a i, keyV b j] w fun e w' => e = .returned (.bool true) ∧ Below w.heap.size w w' :=
  walk_k c.kind c.num c.foot c.req c.path c.mode c.n c.time a i b j w hok hP

end Go.Proofs.YtfdphcgfdodnoaaDoor.clashKeys
