/-
  The document's Ask: what comes ahead of a command, by the list.
-/
import Derived.Test.YtpdfakjopeldmaaDoorZDAskM
import Derived.Test.YtpdfakjopeldmaaDoorZDEntries
namespace Go.Proofs.YtpdfakjopeldmaaDoor
open Go.ChangeShapes Go.WideShapes Go.ChangeAt Go.RowKit Go.Maps Go.WideMaps
set_option linter.unusedVariables false
set_option linter.unusedSimpArgs false

theorem refask_boxes {w W : World} {cs : Array Value} {r s : Int} (h : (((w.alloc (.cells cs 57)).alloc (.cells #[.int .i64 r, .int .i64 s] 59)).alloc (.cells #[.int .i64 0, .int .i64 0, .int .i64 0, .int .i64 0, .int .i64 0, .int .i64 0, .int .i64 0, .int .i64 0] 51)).alloc (.cells #[.int .i64 0, .int .i64 0, .int .i64 0, .int .i64 0, .int .i64 0, .int .i64 0, .int .i64 0, .int .i64 0] 51) = W) :
    Hid (Blk W w.heap.size 57 cs) ∧ Hid (Blk W (w.heap.size + 1) 59 #[.int .i64 r, .int .i64 s]) ∧ Hid (Blk W (w.heap.size + 1 + 1) 51 (rowA fun _ => 0)) ∧ Hid (Blk W (w.heap.size + 1 + 1 + 1) 51 (rowA fun _ => 0)) ∧ Hid (Below w.heap.size w W) := by
  obtain ⟨V, hV⟩ : ∃ V, ((w.alloc (.cells cs 57)).alloc (.cells #[.int .i64 r, .int .i64 s] 59)).alloc (.cells #[.int .i64 0, .int .i64 0, .int .i64 0, .int .i64 0, .int .i64 0, .int .i64 0, .int .i64 0, .int .i64 0] 51) = V := ⟨_, rfl⟩
  rw [hV] at h
  have hs : V.heap.size = w.heap.size + 1 + 1 + 1 := by rw [← hV]; simp
  obtain ⟨k0, k1, k2, kB⟩ := three_new hV
  obtain ⟨j, jB⟩ := one_new h
  rw [hs] at j jB
  exact ⟨hid (k0.out.below jB.out (by omega)), hid (k1.out.below jB.out (by omega)), hid (k2.out.below jB.out (by omega)), j, hid (kB.out.trans (jB.out.mono (by omega)))⟩

/-- While the notes are gone through. -/
def AskAt (g : Nat) (w wr : World) (v : Value) (l : List Nt) (cs : Array Value) (r s : Int) (G : Nat → Int) : Prop :=
  DocB g wr v l ∧ Blk wr g 57 cs ∧ Blk wr (g + 1) 59 #[.int .i64 r, .int .i64 s] ∧ Blk wr (g + 1 + 1) 51 (rowA fun _ => 0) ∧ Blk wr (g + 1 + 1 + 1) 51 (rowA G) ∧ Below g w wr
theorem AskAt.lt {g : Nat} {w wr : World} {v : Value} {l : List Nt} {cs : Array Value} {r s : Int} {G : Nat → Int} (h : AskAt g w wr v l cs r s G) : g + 1 + 1 + 1 < wr.heap.size := h.2.2.2.2.1.lt
theorem AskAt.on {g : Nat} {w wr w' : World} {v : Value} {l : List Nt} {cs : Array Value} {r s : Int} {G : Nat → Int} (h : AskAt g w wr v l cs r s G) (hb : Below wr.heap.size wr w') : AskAt g w w' v l cs r s G := by
  have hlt := h.lt
  obtain ⟨h1, h2, h3, h4, h5, h6⟩ := h
  exact ⟨h1.below (hb.mono (by omega)), h2.below hb h2.lt, h3.below hb h3.lt, h4.below hb h4.lt, h5.below hb h5.lt, h6.trans (hb.mono (by omega))⟩
theorem AskAt.onb {g : Nat} {w wr w' : World} {v : Value} {l : List Nt} {cs : Array Value} {r s : Int} {G : Nat → Int} {p : Nat} (h : AskAt g w wr v l cs r s G) (hb : Below p wr w') (hp : g + 1 + 1 + 1 < p) : AskAt g w w' v l cs r s G := by
  obtain ⟨h1, h2, h3, h4, h5, h6⟩ := h
  exact ⟨h1.below (hb.mono (by omega)), h2.below hb (by omega), h3.below hb (by omega), h4.below hb (by omega), h5.below hb (by omega), h6.trans (hb.mono (by omega))⟩
theorem AskAt.turn {g : Nat} {w wr : World} {v : Value} {l : List Nt} {cs : Array Value} {r s : Int} {G : Nat → Int} (h : AskAt g w wr v l cs r s G) (H : Nat → Int) : AskAt g w (wr.setRow (g + 1 + 1 + 1) (rowA H)) v l cs r s H := by
  have hlt := h.lt
  obtain ⟨h1, h2, h3, h4, h5, h6⟩ := h
  exact ⟨h1.below (below_setRow_ (Below.refl _ _) (by omega)), h2.rowFar (by omega), h3.rowFar (by omega), h4.rowFar (by omega), h5.rowAt, below_setRow_ h6 (by omega)⟩
theorem AskAt.cells {g : Nat} {w wr : World} {A : Option Addr} {cap : Nat} {l : List Nt} {cs : Array Value} {r s : Int} {G : Nat → Int} {b i : Nat} (h : AskAt g w wr (.slice (some ⟨b, 0, none⟩) l.length cap) l cs r s G) (hi : i < l.length) : wr.rangeAt b (i * 10) (ntC l[i]) := own_at h.1.1 hi

theorem eight_store9 (F : Nat → Int) (w : World) : (storeCells ⟨w.heap.size, 0, none⟩ (rowA F).toList).run Tryd.prog (w.alloc (.cells #[.int .i64 0, .int .i64 0, .int .i64 0, .int .i64 0, .int .i64 0, .int .i64 0, .int .i64 0, .int .i64 0] 51)) = .ok () ((w.alloc (.cells #[.int .i64 0, .int .i64 0, .int .i64 0, .int .i64 0, .int .i64 0, .int .i64 0, .int .i64 0, .int .i64 0] 51)).setRow w.heap.size (rowA F)) :=
  store_cells (Blk.new w _ _) (rowA F) (by rw [rowA_size]; rfl) (rowA_one F)
theorem eight_box9 {w W : World} {z : Array Value} {F : Nat → Int} (h : (w.alloc (.cells z 51)).setRow w.heap.size (rowA F) = W) : Hid (Blk W w.heap.size 51 (rowA F)) ∧ Hid (Below w.heap.size w W) := by
  subst h
  exact ⟨hid (Blk.rowAt (Blk.new w _ z)), hid (below_setRow_ ((Below.refl _ w).alloc (Nat.le_refl _) _) (Nat.le_refl _))⟩
theorem AskAt.open {g : Nat} {w wr : World} {v : Value} {l : List Nt} {k u : Int} {f : ByteArray} {q : Int} {s' : ByteArray} {m n t r s : Int} {G : Nat → Int} {bv i : Nat} {f2 : ByteArray} {u2 : Int} {a2 : Nat → Int} (h : AskAt g w wr v l (cellsOf ⟨k, u, f, q, s', m, n, t⟩) r s G) (hr : wr.rangeAt bv (i * 10) (ntC ⟨f2, u2, a2⟩)) :
    (wr.cell? ⟨g + 1, 0, none⟩ = some (.int .i64 r) ∧ wr.cell? ⟨g + 1, 1, none⟩ = some (.int .i64 s)) ∧ wr.cell? ⟨g, 1, none⟩ = some (.int .u64 u) ∧ wr.cell? ⟨bv, i * 10, none⟩ = some (.string f2) ∧ wr.cell? ⟨bv, i * 10 + 1, none⟩ = some (.int .u64 u2) :=
  ⟨⟨(h.2.2.1.cell 0).trans rfl, (h.2.2.1.cell 1).trans rfl⟩, (h.2.1.cell 1).trans rfl, hr 0 _ rfl, hr 1 _ rfl⟩

set_option maxRecDepth 100000 in
set_option maxHeartbeats 8000000 in
theorem refask_any (v : Value) (l : List Nt) (c : K) (r s : Int) (w : World) (h : DocV w v l) (hl : AllFair l) (ho : okK c) (hf : c.foot.size < 200) (hp : c.path.size < 200) (hlen : l.length < 1000) :
    Calls Tryd.prog 15 #[v, val c, nm r s] w fun e w' => e = .returned (.agg (rowA (askF l c r s))) ∧ Below w.heap.size w w' := by
  have KO := hid (fun w => refoot_any c w ho (by omega) (by omega))
  have hz := keyF_size c 200 (by omega) (by omega)
  obtain ⟨F, hF⟩ : ∃ F, keyF c = F := ⟨_, rfl⟩
  obtain ⟨y, hy⟩ : ∃ y, nameB r s = y := ⟨_, rfl⟩
  obtain ⟨B, hB⟩ : ∃ B, keyed c = B := ⟨_, rfl⟩
  have e1 : (footK c).1 = F := hF
  have e2 : (footK c).2 = B := hB
  rw [e1, e2] at KO
  rw [hF] at hz
  have HN1 : Hid (B = true → keyN c = c.num) := hid (fun h => by unfold keyN; rw [e2, h]; rfl)
  have HNo : Hid (∀ (m : List Nt) (n : Nt), (B && y && clashF F (keyN c) n.foot n.num) = false → aheadC (m ++ [n]) c r s = aheadC m c r s) := hid (fun m n h => aheadC_snoc_no (by rw [hB, hy, hF]; exact h))
  have HYes : Hid (∀ (m : List Nt) (n : Nt), (B && y && clashF F (keyN c) n.foot n.num) = true → aheadC (m ++ [n]) c r s = mx (aheadC m c r s) (nextF n.att)) := hid (fun m n h => aheadC_snoc_yes (by rw [hB, hy, hF]; exact h))
  have HNil := hid (aheadC_nil c r s)
  have HOwn : Hid (askF l c r s = if y = true then upd (aheadC l c r s) (1 + r.toNat) s else aheadC l c r s) := hid (by unfold askF ownF; rw [hy])
  have HY := hid hy
  have HNm : Hid (y = true → ∃ a b : Nat, r = a ∧ s = b ∧ a < 7 ∧ b < 1024) := hid (fun h => by
    subst h; obtain ⟨a, b, h1, h2, h3, h4, _⟩ := name_in hy; exact ⟨a, b, h1, h2, h3, h4⟩)
  obtain ⟨ah, hah⟩ : ∃ f : List Nt → Nat → Int, (fun m => aheadC m c r s) = f := ⟨_, rfl⟩
  have e3 : ∀ m, aheadC m c r s = ah m := fun m => congrFun hah m
  simp only [e3] at HNo HYes HNil HOwn
  obtain ⟨R, hR⟩ : ∃ R, askF l c r s = R := ⟨_, rfl⟩
  rw [hR] at HOwn
  rw [hR]
  have HV := hid h.held
  have HFr := hid hl
  have HFz := hid hz
  obtain ⟨A, cap, rfl, hA0, hA1⟩ := own_slice_n h
  have HA0 := hid hA0
  have HA1 := hid hA1
  clear h hl ho hf hp hF hy hB e1 e2 e3 hah hz hR hA0 hA1
  obtain ⟨k, u, f, q', s', m', n, t⟩ := c
  go_enter Tryd.func15, Tryd.ntmps15
  go_upto_region 2 with fail
  obtain ⟨W, hW⟩ : ∃ W, (((w.alloc (.cells (cellsOf ⟨k, u, f, q', s', m', n, t⟩) 57)).alloc (.cells #[.int .i64 r, .int .i64 s] 59)).alloc (.cells #[.int .i64 0, .int .i64 0, .int .i64 0, .int .i64 0, .int .i64 0, .int .i64 0, .int .i64 0, .int .i64 0] 51)).alloc (.cells #[.int .i64 0, .int .i64 0, .int .i64 0, .int .i64 0, .int .i64 0, .int .i64 0, .int .i64 0, .int .i64 0] 51) = W := ⟨_, rfl⟩
  rw [hW]
  obtain ⟨K0, K1, K2, K3, KB⟩ := refask_boxes hW
  clear hW
  have KA : Hid (AskAt w.heap.size w W (.slice A l.length cap) l (cellsOf ⟨k, u, f, q', s', m', n, t⟩) r s (ah (l.take 0))) := hid ⟨HV.out.below KB.out, K0.out, K1.out, K2.out, by rw [List.take_zero, HNil.out]; exact K3.out, KB.out⟩
  clear K0 K1 K2 K3 KB HV HNil
  obtain ⟨g, hk⟩ : ∃ k, w.heap.size = k := ⟨_, rfl⟩
  rw [hk] at KA HA1
  rw [hk]
  have HK := hid hk
  clear hk
  obtain ⟨⟨c0, c1, c2, c3, c4, c5, c6, c7⟩, _⟩ := cells8 KA.out.2.1
  go_wp2_with fail
  with_reducible refine (KO.out _).mono ?_
  rintro e w1 ⟨rfl, hb⟩
  have DA := hid (KA.out.on hb)
  clear c0 c1 c2 c3 c4 c5 c6 c7 hb KA KO
  go_wp2_with fail
  go_loopw [10] (fun iv wr => ∃ i : Nat, i ≤ l.length ∧ iv = .int .i64 i ∧ Hid (AskAt g w wr (.slice A l.length cap) l (cellsOf ⟨k, u, f, q', s', m', n, t⟩) r s (ah (l.take i)))) (fun iv _ => l.length - (intOf iv).toNat)
  case atStart => exact ⟨0, Nat.zero_le _, rfl, DA⟩
  case round =>
    obtain ⟨i, hi, rfl, HE⟩ := hrel
    clear DA
    by_cases hlt : i < l.length
    · obtain ⟨bv, rfl, hbv⟩ : ∃ bv, A = some ⟨bv, 0, none⟩ ∧ bv < g := by
        cases A with
        | none => have := HA0.out rfl; omega
        | some a => obtain ⟨b, rfl, _, _, h⟩ := HA1.out a rfl; exact ⟨b, rfl, h⟩
      have HTk : Hid (l.take (i + 1) = l.take i ++ [l[i]]) := hid (List.take_succ_eq_append_getElem hlt)
      have HFn := hid (HFr.out l[i] (List.getElem_mem hlt))
      have RLw : Hid (∀ wx, AskAt g w wx (.slice (some ⟨bv, 0, none⟩) l.length cap) l (cellsOf ⟨k, u, f, q', s', m', n, t⟩) r s (ah (l.take i)) → wx.rangeAt bv (i * 10) (ntC l[i])) := hid (fun wx h => own_at h.1.1 hlt)
      obtain ⟨nt, hn⟩ : ∃ n, l[i] = n := ⟨_, rfl⟩
      rw [hn] at RLw HTk HFn
      clear hn
      obtain ⟨f2, u2, a2⟩ := nt
      obtain ⟨M, hM⟩ : ∃ M, l.take i = M := ⟨_, rfl⟩
      rw [hM] at RLw HTk HE
      clear hM
      have HNo1 := hid (HNo.out M ⟨f2, u2, a2⟩)
      have HYes1 := hid (HYes.out M ⟨f2, u2, a2⟩)
      have h2s : f2.size ≤ 200 := HFn.out.2.2.2.2
      have HOv := hid (fun w => refoverlap_any F f2 w (by have := HFz.out; omega) (by omega))
      have HU : Hid (clashF F u f2 u2 = ((u == u2) || overlap (L F) (L f2))) := hid rfl
      obtain ⟨o, hov⟩ : ∃ o, overlap (L F) (L f2) = o := ⟨_, rfl⟩
      rw [hov] at HOv HU
      clear hov h2s
      cases B
      · have HE2 := hid (HNo1.out rfl)
        go_wp2_with fail
        go_quiet (fail)
        go_wp2
        go_roundw
        case rel => exact ⟨i + 1, by omega, by go_num, hid (by rw [HTk.out, HE2.out]; exact HE.out.on (below_drewN (Below.refl _ _) _))⟩
        case measure => simp only [intOf]; omega
      rw [HN1.out rfl] at HNo1 HYes1
      have T0 := HE
      have T0d := hid (HE.out.on (below_drew (Below.refl _ _)))
      have O := hid (fun wx (h : AskAt g w wx (.slice (some ⟨bv, 0, none⟩) l.length cap) l (cellsOf ⟨k, u, f, q', s', m', n, t⟩) r s (ah M)) => h.open (RLw.out wx h))
      cases y
      · have HE2 := hid (HNo1.out rfl)
        go_wp2_with fail
        refine wp_region_held_drew (S := (fun w' => (w'.cell? ⟨g + 1, 0, none⟩ = some (.int .i64 r) ∧ w'.cell? ⟨g + 1, 1, none⟩ = some (.int .i64 s)) ∧ w'.cell? ⟨g, 1, none⟩ = some (.int .u64 u) ∧ w'.cell? ⟨bv, i * 10, none⟩ = some (.string f2) ∧ w'.cell? ⟨bv, i * 10 + 1, none⟩ = some (.int .u64 u2))) (by kernel_rfl) ?_ (fun hS => ?_)
        · exact O.out _ T0d.out
        refine wpAnyH_take (i := 0) (oi := { dst := some 24, op := Op.move (Operand.tmp 9), type := 4, pos := "ref.go:48", after := #[], guard := none }) (v := ?_) rfl (by kernel_rfl) (by kernel_rfl) (by kernel_rfl) (fun _ _ _ h => h) (Or.inl ⟨by rfl, ?_⟩) hS ?_
        rotate_left
        · intro w hSw; (try dsimp only at hSw); go_simp; try (with_reducible rfl)
        simp only [Act.put, List.setIfInBounds_toArray, List.set_cons_zero, List.set_cons_succ]
        refine wpAnyH_take (i := 1) (oi := { dst := some 25, op := Op.unOp UnOp.not 4 (Operand.tmp 24), type := 4, pos := "ref.go:48", after := #[{ on := 0, ground := Ground.data }], guard := none }) (v := ?_) rfl (by kernel_rfl) (by kernel_rfl) (by kernel_rfl) (fun _ _ _ h => h) (Or.inl ⟨by rfl, ?_⟩) hS ?_
        rotate_left
        · intro w hSw; (try dsimp only at hSw); go_simp; try (with_reducible rfl)
        simp only [Act.put, List.setIfInBounds_toArray, List.set_cons_zero, List.set_cons_succ]
        refine wpAnyH_take (i := 2) (oi := { dst := some 26, op := Op.move (Operand.tmp 25), type := 4, pos := "ref.go:48", after := #[{ on := 1, ground := Ground.data }], guard := none }) (v := ?_) rfl (by kernel_rfl) (by kernel_rfl) (by kernel_rfl) (fun _ _ _ h => h) (Or.inl ⟨by rfl, ?_⟩) hS ?_
        rotate_left
        · intro w hSw; (try dsimp only at hSw); go_simp; try (with_reducible rfl)
        simp only [Act.put, List.setIfInBounds_toArray, List.set_cons_zero, List.set_cons_succ]
        refine wpAnyH_take (i := 3) (oi := { dst := some 27, op := Op.load 59 (Operand.tmp 5), type := 59, pos := "ref.go:48", after := #[{ on := 2, ground := Ground.guard }], guard := some (2, false) }) (v := ?_) rfl (by kernel_rfl) (by kernel_rfl) (by kernel_rfl) (fun _ _ _ h => h) (Or.inl ⟨by rfl, ?_⟩) hS ?_
        rotate_left
        · intro w hSw; (try dsimp only at hSw); go_simp; try (with_reducible rfl)
        simp only [Act.put, List.setIfInBounds_toArray, List.set_cons_zero, List.set_cons_succ]
        refine wpAnyH_ready (rs := [4]) (by kernel_rfl) (by simp) ?_
        refine AllReadyH.cons (o := { dst := some 28, op := Op.call { callee := Callee.value (Operand.func 35), args := #[Operand.tmp 27], argTypes := #[59] }, type := 4, pos := "ref.go:48", after := #[{ on := 3, ground := Ground.data }, { on := 2, ground := Ground.chain }, { on := 2, ground := Ground.guard }], guard := some (2, false) }) rfl ?_ AllReadyH.nil
        intro K hK
        go_simp
        go_at_call 35
        with_reducible refine (nrefright_any r s _).mono ?_
        rw [HY.out]
        rintro e1 w3 ⟨rfl, b1⟩
        have T1 := hid (T0d.out.on b1)
        first | refine hK.out _ _ ?_ (fun hS => ?_) | (go_wp2_with fail; refine hK.out _ _ ?_ (fun hS => ?_))
        · exact O.out _ T1.out
        clear hK K
        try simp only [Act.put, List.setIfInBounds_toArray, List.set_cons_zero, List.set_cons_succ]
        refine wpAnyH_take (i := 5) (oi := { dst := some 29, op := Op.unOp UnOp.not 4 (Operand.tmp 28), type := 4, pos := "ref.go:48", after := #[{ on := 4, ground := Ground.data }, { on := 2, ground := Ground.guard }], guard := some (2, false) }) (v := ?_) rfl (by kernel_rfl) (by kernel_rfl) (by kernel_rfl) (fun _ _ _ h => h) (Or.inl ⟨by rfl, ?_⟩) hS ?_
        rotate_left
        · intro w hSw; (try dsimp only at hSw); go_simp; try (with_reducible rfl)
        simp only [Act.put, List.setIfInBounds_toArray, List.set_cons_zero, List.set_cons_succ]
        refine wpAnyH_take (i := 6) (oi := { dst := some 30, op := Op.pick (Operand.tmp 26) (Operand.const (Value.bool true)) (Operand.tmp 29), type := 4, pos := "ref.go:48", after := #[{ on := 2, ground := Ground.data }, { on := 5, ground := Ground.data }], guard := none }) (v := ?_) rfl (by kernel_rfl) (by kernel_rfl) (by kernel_rfl) (fun _ _ _ h => h) (Or.inl ⟨by rfl, ?_⟩) hS ?_
        rotate_left
        · intro w hSw; (try dsimp only at hSw); go_simp; try (with_reducible rfl)
        simp only [Act.put, List.setIfInBounds_toArray, List.set_cons_zero, List.set_cons_succ]
        refine wpAnyH_take (i := 7) (oi := { dst := some 31, op := Op.move (Operand.tmp 30), type := 4, pos := "ref.go:48", after := #[{ on := 6, ground := Ground.data }, { on := 4, ground := Ground.chain }], guard := none }) (v := ?_) rfl (by kernel_rfl) (by kernel_rfl) (by kernel_rfl) (fun _ _ _ h => h) (Or.inl ⟨by rfl, ?_⟩) hS ?_
        rotate_left
        · intro w hSw; (try dsimp only at hSw); go_simp; try (with_reducible rfl)
        simp only [Act.put, List.setIfInBounds_toArray, List.set_cons_zero, List.set_cons_succ]
        refine wpAnyH_take (i := 8) (oi := { dst := some 32, op := Op.fieldAddr 57 (Operand.tmp 4) 1, type := 0, pos := "ref.go:48", after := #[{ on := 7, ground := Ground.guard }], guard := some (7, false) }) (v := undef) rfl (by kernel_rfl) (by kernel_rfl) (by kernel_rfl) (fun _ _ _ h => h) (Or.inr ⟨by rfl, rfl⟩) hS ?_
        simp only [Act.put, List.setIfInBounds_toArray, List.set_cons_zero, List.set_cons_succ]
        refine wpAnyH_take (i := 9) (oi := { dst := some 33, op := Op.load 23 (Operand.tmp 32), type := 23, pos := "ref.go:48", after := #[{ on := 8, ground := Ground.data }, { on := 7, ground := Ground.guard }], guard := some (7, false) }) (v := undef) rfl (by kernel_rfl) (by kernel_rfl) (by kernel_rfl) (fun _ _ _ h => h) (Or.inr ⟨by rfl, rfl⟩) hS ?_
        simp only [Act.put, List.setIfInBounds_toArray, List.set_cons_zero, List.set_cons_succ]
        refine wpAnyH_take (i := 10) (oi := { dst := some 34, op := Op.move (Operand.tmp 0), type := 35, pos := "ref.go:48", after := #[{ on := 7, ground := Ground.guard }], guard := some (7, false) }) (v := undef) rfl (by kernel_rfl) (by kernel_rfl) (by kernel_rfl) (fun _ _ _ h => h) (Or.inr ⟨by rfl, rfl⟩) hS ?_
        simp only [Act.put, List.setIfInBounds_toArray, List.set_cons_zero, List.set_cons_succ]
        refine wpAnyH_take (i := 11) (oi := { dst := some 35, op := Op.move (Operand.tmp 10), type := 3, pos := "ref.go:48", after := #[{ on := 7, ground := Ground.guard }], guard := some (7, false) }) (v := undef) rfl (by kernel_rfl) (by kernel_rfl) (by kernel_rfl) (fun _ _ _ h => h) (Or.inr ⟨by rfl, rfl⟩) hS ?_
        simp only [Act.put, List.setIfInBounds_toArray, List.set_cons_zero, List.set_cons_succ]
        refine wpAnyH_take (i := 12) (oi := { dst := some 36, op := Op.indexAddr 35 (Operand.tmp 34) (Operand.tmp 35), type := 0, pos := "ref.go:48", after := #[{ on := 10, ground := Ground.data }, { on := 11, ground := Ground.data }, { on := 7, ground := Ground.guard }], guard := some (7, false) }) (v := undef) rfl (by kernel_rfl) (by kernel_rfl) (by kernel_rfl) (fun _ _ _ h => h) (Or.inr ⟨by rfl, rfl⟩) hS ?_
        simp only [Act.put, List.setIfInBounds_toArray, List.set_cons_zero, List.set_cons_succ]
        refine wpAnyH_take (i := 13) (oi := { dst := some 37, op := Op.fieldAddr 53 (Operand.tmp 36) 1, type := 0, pos := "ref.go:48", after := #[{ on := 12, ground := Ground.data }, { on := 7, ground := Ground.guard }], guard := some (7, false) }) (v := undef) rfl (by kernel_rfl) (by kernel_rfl) (by kernel_rfl) (fun _ _ _ h => h) (Or.inr ⟨by rfl, rfl⟩) hS ?_
        simp only [Act.put, List.setIfInBounds_toArray, List.set_cons_zero, List.set_cons_succ]
        refine wpAnyH_take (i := 14) (oi := { dst := some 38, op := Op.load 23 (Operand.tmp 37), type := 23, pos := "ref.go:48", after := #[{ on := 13, ground := Ground.data }, { on := 7, ground := Ground.guard }], guard := some (7, false) }) (v := undef) rfl (by kernel_rfl) (by kernel_rfl) (by kernel_rfl) (fun _ _ _ h => h) (Or.inr ⟨by rfl, rfl⟩) hS ?_
        simp only [Act.put, List.setIfInBounds_toArray, List.set_cons_zero, List.set_cons_succ]
        refine wpAnyH_take (i := 15) (oi := { dst := some 39, op := Op.binOp BinOp.neq 23 (Operand.tmp 33) (Operand.tmp 38) 23, type := 4, pos := "ref.go:48", after := #[{ on := 9, ground := Ground.data }, { on := 14, ground := Ground.data }, { on := 7, ground := Ground.guard }], guard := some (7, false) }) (v := undef) rfl (by kernel_rfl) (by kernel_rfl) (by kernel_rfl) (fun _ _ _ h => h) (Or.inr ⟨by rfl, rfl⟩) hS ?_
        simp only [Act.put, List.setIfInBounds_toArray, List.set_cons_zero, List.set_cons_succ]
        refine wpAnyH_take (i := 16) (oi := { dst := some 40, op := Op.move (Operand.tmp 39), type := 4, pos := "ref.go:48", after := #[{ on := 15, ground := Ground.data }, { on := 7, ground := Ground.chain }, { on := 7, ground := Ground.guard }], guard := some (7, false) }) (v := undef) rfl (by kernel_rfl) (by kernel_rfl) (by kernel_rfl) (fun _ _ _ h => h) (Or.inr ⟨by rfl, rfl⟩) hS ?_
        simp only [Act.put, List.setIfInBounds_toArray, List.set_cons_zero, List.set_cons_succ]
        refine wpAnyH_take (i := 17) (oi := { dst := some 41, op := Op.move (Operand.tmp 8), type := 9, pos := "ref.go:48", after := #[{ on := 16, ground := Ground.guard }], guard := some (16, true) }) (v := undef) rfl (by kernel_rfl) (by kernel_rfl) (by kernel_rfl) (fun _ _ _ h => h) (Or.inr ⟨by rfl, rfl⟩) hS ?_
        simp only [Act.put, List.setIfInBounds_toArray, List.set_cons_zero, List.set_cons_succ]
        refine wpAnyH_take (i := 18) (oi := { dst := some 42, op := Op.move (Operand.tmp 0), type := 35, pos := "ref.go:48", after := #[{ on := 16, ground := Ground.guard }], guard := some (16, true) }) (v := undef) rfl (by kernel_rfl) (by kernel_rfl) (by kernel_rfl) (fun _ _ _ h => h) (Or.inr ⟨by rfl, rfl⟩) hS ?_
        simp only [Act.put, List.setIfInBounds_toArray, List.set_cons_zero, List.set_cons_succ]
        refine wpAnyH_take (i := 19) (oi := { dst := some 43, op := Op.move (Operand.tmp 10), type := 3, pos := "ref.go:48", after := #[{ on := 16, ground := Ground.guard }], guard := some (16, true) }) (v := undef) rfl (by kernel_rfl) (by kernel_rfl) (by kernel_rfl) (fun _ _ _ h => h) (Or.inr ⟨by rfl, rfl⟩) hS ?_
        simp only [Act.put, List.setIfInBounds_toArray, List.set_cons_zero, List.set_cons_succ]
        refine wpAnyH_take (i := 20) (oi := { dst := some 44, op := Op.indexAddr 35 (Operand.tmp 42) (Operand.tmp 43), type := 0, pos := "ref.go:48", after := #[{ on := 18, ground := Ground.data }, { on := 19, ground := Ground.data }, { on := 16, ground := Ground.guard }], guard := some (16, true) }) (v := undef) rfl (by kernel_rfl) (by kernel_rfl) (by kernel_rfl) (fun _ _ _ h => h) (Or.inr ⟨by rfl, rfl⟩) hS ?_
        simp only [Act.put, List.setIfInBounds_toArray, List.set_cons_zero, List.set_cons_succ]
        refine wpAnyH_take (i := 21) (oi := { dst := some 45, op := Op.fieldAddr 53 (Operand.tmp 44) 0, type := 0, pos := "ref.go:48", after := #[{ on := 20, ground := Ground.data }, { on := 16, ground := Ground.guard }], guard := some (16, true) }) (v := undef) rfl (by kernel_rfl) (by kernel_rfl) (by kernel_rfl) (fun _ _ _ h => h) (Or.inr ⟨by rfl, rfl⟩) hS ?_
        simp only [Act.put, List.setIfInBounds_toArray, List.set_cons_zero, List.set_cons_succ]
        refine wpAnyH_take (i := 22) (oi := { dst := some 46, op := Op.load 9 (Operand.tmp 45), type := 9, pos := "ref.go:48", after := #[{ on := 21, ground := Ground.data }, { on := 16, ground := Ground.guard }], guard := some (16, true) }) (v := undef) rfl (by kernel_rfl) (by kernel_rfl) (by kernel_rfl) (fun _ _ _ h => h) (Or.inr ⟨by rfl, rfl⟩) hS ?_
        simp only [Act.put, List.setIfInBounds_toArray, List.set_cons_zero, List.set_cons_succ]
        refine wpAnyH_take (i := 23) (oi := { dst := some 47, op := Op.call { callee := Callee.value (Operand.func 36), args := #[Operand.tmp 41, Operand.tmp 46], argTypes := #[9, 9] }, type := 4, pos := "ref.go:48", after := #[{ on := 17, ground := Ground.data }, { on := 22, ground := Ground.data }, { on := 16, ground := Ground.chain }, { on := 16, ground := Ground.guard }], guard := some (16, true) }) (v := undef) rfl (by kernel_rfl) (by kernel_rfl) (by kernel_rfl) (fun _ _ _ h => h) (Or.inr ⟨by rfl, rfl⟩) hS ?_
        simp only [Act.put, List.setIfInBounds_toArray, List.set_cons_zero, List.set_cons_succ]
        refine wpAnyH_take (i := 24) (oi := { dst := some 48, op := Op.unOp UnOp.not 4 (Operand.tmp 47), type := 4, pos := "ref.go:48", after := #[{ on := 23, ground := Ground.data }, { on := 16, ground := Ground.guard }], guard := some (16, true) }) (v := undef) rfl (by kernel_rfl) (by kernel_rfl) (by kernel_rfl) (fun _ _ _ h => h) (Or.inr ⟨by rfl, rfl⟩) hS ?_
        simp only [Act.put, List.setIfInBounds_toArray, List.set_cons_zero, List.set_cons_succ]
        refine wpAnyH_take (i := 25) (oi := { dst := some 49, op := Op.pick (Operand.tmp 40) (Operand.tmp 48) (Operand.const (Value.bool false)), type := 4, pos := "ref.go:48", after := #[{ on := 16, ground := Ground.data }, { on := 24, ground := Ground.data }, { on := 7, ground := Ground.guard }], guard := some (7, false) }) (v := undef) rfl (by kernel_rfl) (by kernel_rfl) (by kernel_rfl) (fun _ _ _ h => h) (Or.inr ⟨by rfl, rfl⟩) hS ?_
        simp only [Act.put, List.setIfInBounds_toArray, List.set_cons_zero, List.set_cons_succ]
        refine wpAnyH_take (i := 26) (oi := { dst := some 50, op := Op.pick (Operand.tmp 31) (Operand.const (Value.bool true)) (Operand.tmp 49), type := 4, pos := "ref.go:48", after := #[{ on := 7, ground := Ground.data }, { on := 25, ground := Ground.data }], guard := none }) (v := ?_) rfl (by kernel_rfl) (by kernel_rfl) (by kernel_rfl) (fun _ _ _ h => h) (Or.inl ⟨by rfl, ?_⟩) hS ?_
        rotate_left
        · intro w hSw; (try dsimp only at hSw); go_simp; try (with_reducible rfl)
        simp only [Act.put, List.setIfInBounds_toArray, List.set_cons_zero, List.set_cons_succ]
        refine wpAnyH_done (by kernel_rfl) ?_ _
        clear hS
        go_wp2
        go_roundw
        case rel => exact ⟨i + 1, by omega, by go_num, hid (by rw [HTk.out, HE2.out]; exact T1.out)⟩
        case measure => simp only [intOf]; omega
      by_cases hu : u = u2
      · have hu1 : (u == u2) = true := by simpa using hu
        have hu2 : (u != u2) = false := by simpa using hu
        have hu3 : (!(u == u2)) = false := by rw [hu1]; rfl
        clear hu
        go_wp2_with fail
        refine wp_region_held_drew (S := (fun w' => (w'.cell? ⟨g + 1, 0, none⟩ = some (.int .i64 r) ∧ w'.cell? ⟨g + 1, 1, none⟩ = some (.int .i64 s)) ∧ w'.cell? ⟨g, 1, none⟩ = some (.int .u64 u) ∧ w'.cell? ⟨bv, i * 10, none⟩ = some (.string f2) ∧ w'.cell? ⟨bv, i * 10 + 1, none⟩ = some (.int .u64 u2))) (by kernel_rfl) ?_ (fun hS => ?_)
        · exact O.out _ T0d.out
        refine wpAnyH_take (i := 0) (oi := { dst := some 24, op := Op.move (Operand.tmp 9), type := 4, pos := "ref.go:48", after := #[], guard := none }) (v := ?_) rfl (by kernel_rfl) (by kernel_rfl) (by kernel_rfl) (fun _ _ _ h => h) (Or.inl ⟨by rfl, ?_⟩) hS ?_
        rotate_left
        · intro w hSw; (try dsimp only at hSw); go_simp; try (with_reducible rfl)
        simp only [Act.put, List.setIfInBounds_toArray, List.set_cons_zero, List.set_cons_succ]
        refine wpAnyH_take (i := 1) (oi := { dst := some 25, op := Op.unOp UnOp.not 4 (Operand.tmp 24), type := 4, pos := "ref.go:48", after := #[{ on := 0, ground := Ground.data }], guard := none }) (v := ?_) rfl (by kernel_rfl) (by kernel_rfl) (by kernel_rfl) (fun _ _ _ h => h) (Or.inl ⟨by rfl, ?_⟩) hS ?_
        rotate_left
        · intro w hSw; (try dsimp only at hSw); go_simp; try (with_reducible rfl)
        simp only [Act.put, List.setIfInBounds_toArray, List.set_cons_zero, List.set_cons_succ]
        refine wpAnyH_take (i := 2) (oi := { dst := some 26, op := Op.move (Operand.tmp 25), type := 4, pos := "ref.go:48", after := #[{ on := 1, ground := Ground.data }], guard := none }) (v := ?_) rfl (by kernel_rfl) (by kernel_rfl) (by kernel_rfl) (fun _ _ _ h => h) (Or.inl ⟨by rfl, ?_⟩) hS ?_
        rotate_left
        · intro w hSw; (try dsimp only at hSw); go_simp; try (with_reducible rfl)
        simp only [Act.put, List.setIfInBounds_toArray, List.set_cons_zero, List.set_cons_succ]
        refine wpAnyH_take (i := 3) (oi := { dst := some 27, op := Op.load 59 (Operand.tmp 5), type := 59, pos := "ref.go:48", after := #[{ on := 2, ground := Ground.guard }], guard := some (2, false) }) (v := ?_) rfl (by kernel_rfl) (by kernel_rfl) (by kernel_rfl) (fun _ _ _ h => h) (Or.inl ⟨by rfl, ?_⟩) hS ?_
        rotate_left
        · intro w hSw; (try dsimp only at hSw); go_simp; try (with_reducible rfl)
        simp only [Act.put, List.setIfInBounds_toArray, List.set_cons_zero, List.set_cons_succ]
        refine wpAnyH_ready (rs := [4]) (by kernel_rfl) (by simp) ?_
        refine AllReadyH.cons (o := { dst := some 28, op := Op.call { callee := Callee.value (Operand.func 35), args := #[Operand.tmp 27], argTypes := #[59] }, type := 4, pos := "ref.go:48", after := #[{ on := 3, ground := Ground.data }, { on := 2, ground := Ground.chain }, { on := 2, ground := Ground.guard }], guard := some (2, false) }) rfl ?_ AllReadyH.nil
        intro K hK
        go_simp
        go_at_call 35
        with_reducible refine (nrefright_any r s _).mono ?_
        rw [HY.out]
        rintro e1 w3 ⟨rfl, b1⟩
        have T1 := hid (T0d.out.on b1)
        first | refine hK.out _ _ ?_ (fun hS => ?_) | (go_wp2_with fail; refine hK.out _ _ ?_ (fun hS => ?_))
        · exact O.out _ T1.out
        clear hK K
        try simp only [Act.put, List.setIfInBounds_toArray, List.set_cons_zero, List.set_cons_succ]
        refine wpAnyH_take (i := 5) (oi := { dst := some 29, op := Op.unOp UnOp.not 4 (Operand.tmp 28), type := 4, pos := "ref.go:48", after := #[{ on := 4, ground := Ground.data }, { on := 2, ground := Ground.guard }], guard := some (2, false) }) (v := ?_) rfl (by kernel_rfl) (by kernel_rfl) (by kernel_rfl) (fun _ _ _ h => h) (Or.inl ⟨by rfl, ?_⟩) hS ?_
        rotate_left
        · intro w hSw; (try dsimp only at hSw); go_simp; try (with_reducible rfl)
        simp only [Act.put, List.setIfInBounds_toArray, List.set_cons_zero, List.set_cons_succ]
        refine wpAnyH_take (i := 6) (oi := { dst := some 30, op := Op.pick (Operand.tmp 26) (Operand.const (Value.bool true)) (Operand.tmp 29), type := 4, pos := "ref.go:48", after := #[{ on := 2, ground := Ground.data }, { on := 5, ground := Ground.data }], guard := none }) (v := ?_) rfl (by kernel_rfl) (by kernel_rfl) (by kernel_rfl) (fun _ _ _ h => h) (Or.inl ⟨by rfl, ?_⟩) hS ?_
        rotate_left
        · intro w hSw; (try dsimp only at hSw); go_simp; try (with_reducible rfl)
        simp only [Act.put, List.setIfInBounds_toArray, List.set_cons_zero, List.set_cons_succ]
        refine wpAnyH_take (i := 7) (oi := { dst := some 31, op := Op.move (Operand.tmp 30), type := 4, pos := "ref.go:48", after := #[{ on := 6, ground := Ground.data }, { on := 4, ground := Ground.chain }], guard := none }) (v := ?_) rfl (by kernel_rfl) (by kernel_rfl) (by kernel_rfl) (fun _ _ _ h => h) (Or.inl ⟨by rfl, ?_⟩) hS ?_
        rotate_left
        · intro w hSw; (try dsimp only at hSw); go_simp; try (with_reducible rfl)
        simp only [Act.put, List.setIfInBounds_toArray, List.set_cons_zero, List.set_cons_succ]
        refine wpAnyH_take (i := 8) (oi := { dst := some 32, op := Op.fieldAddr 57 (Operand.tmp 4) 1, type := 0, pos := "ref.go:48", after := #[{ on := 7, ground := Ground.guard }], guard := some (7, false) }) (v := ?_) rfl (by kernel_rfl) (by kernel_rfl) (by kernel_rfl) (fun _ _ _ h => h) (Or.inl ⟨by rfl, ?_⟩) hS ?_
        rotate_left
        · intro w hSw; (try dsimp only at hSw); go_simp; try (with_reducible rfl)
        simp only [Act.put, List.setIfInBounds_toArray, List.set_cons_zero, List.set_cons_succ]
        refine wpAnyH_take (i := 9) (oi := { dst := some 33, op := Op.load 23 (Operand.tmp 32), type := 23, pos := "ref.go:48", after := #[{ on := 8, ground := Ground.data }, { on := 7, ground := Ground.guard }], guard := some (7, false) }) (v := ?_) rfl (by kernel_rfl) (by kernel_rfl) (by kernel_rfl) (fun _ _ _ h => h) (Or.inl ⟨by rfl, ?_⟩) hS ?_
        rotate_left
        · intro w hSw; (try dsimp only at hSw); go_simp; try (with_reducible rfl)
        simp only [Act.put, List.setIfInBounds_toArray, List.set_cons_zero, List.set_cons_succ]
        refine wpAnyH_take (i := 10) (oi := { dst := some 34, op := Op.move (Operand.tmp 0), type := 35, pos := "ref.go:48", after := #[{ on := 7, ground := Ground.guard }], guard := some (7, false) }) (v := ?_) rfl (by kernel_rfl) (by kernel_rfl) (by kernel_rfl) (fun _ _ _ h => h) (Or.inl ⟨by rfl, ?_⟩) hS ?_
        rotate_left
        · intro w hSw; (try dsimp only at hSw); go_simp; try (with_reducible rfl)
        simp only [Act.put, List.setIfInBounds_toArray, List.set_cons_zero, List.set_cons_succ]
        refine wpAnyH_take (i := 11) (oi := { dst := some 35, op := Op.move (Operand.tmp 10), type := 3, pos := "ref.go:48", after := #[{ on := 7, ground := Ground.guard }], guard := some (7, false) }) (v := ?_) rfl (by kernel_rfl) (by kernel_rfl) (by kernel_rfl) (fun _ _ _ h => h) (Or.inl ⟨by rfl, ?_⟩) hS ?_
        rotate_left
        · intro w hSw; (try dsimp only at hSw); go_simp; try (with_reducible rfl)
        simp only [Act.put, List.setIfInBounds_toArray, List.set_cons_zero, List.set_cons_succ]
        refine wpAnyH_take (i := 12) (oi := { dst := some 36, op := Op.indexAddr 35 (Operand.tmp 34) (Operand.tmp 35), type := 0, pos := "ref.go:48", after := #[{ on := 10, ground := Ground.data }, { on := 11, ground := Ground.data }, { on := 7, ground := Ground.guard }], guard := some (7, false) }) (v := ?_) rfl (by kernel_rfl) (by kernel_rfl) (by kernel_rfl) (fun _ _ _ h => h) (Or.inl ⟨by rfl, ?_⟩) hS ?_
        rotate_left
        · intro w hSw; (try dsimp only at hSw); go_simp; try (with_reducible rfl)
        simp only [Act.put, List.setIfInBounds_toArray, List.set_cons_zero, List.set_cons_succ]
        refine wpAnyH_take (i := 13) (oi := { dst := some 37, op := Op.fieldAddr 53 (Operand.tmp 36) 1, type := 0, pos := "ref.go:48", after := #[{ on := 12, ground := Ground.data }, { on := 7, ground := Ground.guard }], guard := some (7, false) }) (v := ?_) rfl (by kernel_rfl) (by kernel_rfl) (by kernel_rfl) (fun _ _ _ h => h) (Or.inl ⟨by rfl, ?_⟩) hS ?_
        rotate_left
        · intro w hSw; (try dsimp only at hSw); go_simp; try (with_reducible rfl)
        simp only [Act.put, List.setIfInBounds_toArray, List.set_cons_zero, List.set_cons_succ]
        refine wpAnyH_take (i := 14) (oi := { dst := some 38, op := Op.load 23 (Operand.tmp 37), type := 23, pos := "ref.go:48", after := #[{ on := 13, ground := Ground.data }, { on := 7, ground := Ground.guard }], guard := some (7, false) }) (v := ?_) rfl (by kernel_rfl) (by kernel_rfl) (by kernel_rfl) (fun _ _ _ h => h) (Or.inl ⟨by rfl, ?_⟩) hS ?_
        rotate_left
        · intro w hSw; (try dsimp only at hSw); go_simp; try (with_reducible rfl)
        simp only [Act.put, List.setIfInBounds_toArray, List.set_cons_zero, List.set_cons_succ]
        refine wpAnyH_take (i := 15) (oi := { dst := some 39, op := Op.binOp BinOp.neq 23 (Operand.tmp 33) (Operand.tmp 38) 23, type := 4, pos := "ref.go:48", after := #[{ on := 9, ground := Ground.data }, { on := 14, ground := Ground.data }, { on := 7, ground := Ground.guard }], guard := some (7, false) }) (v := ?_) rfl (by kernel_rfl) (by kernel_rfl) (by kernel_rfl) (fun _ _ _ h => h) (Or.inl ⟨by rfl, ?_⟩) hS ?_
        rotate_left
        · intro w hSw; (try dsimp only at hSw); go_simp; try (with_reducible rfl)
        simp only [Act.put, List.setIfInBounds_toArray, List.set_cons_zero, List.set_cons_succ]
        refine wpAnyH_take (i := 16) (oi := { dst := some 40, op := Op.move (Operand.tmp 39), type := 4, pos := "ref.go:48", after := #[{ on := 15, ground := Ground.data }, { on := 7, ground := Ground.chain }, { on := 7, ground := Ground.guard }], guard := some (7, false) }) (v := ?_) rfl (by kernel_rfl) (by kernel_rfl) (by kernel_rfl) (fun _ _ _ h => h) (Or.inl ⟨by rfl, ?_⟩) hS ?_
        rotate_left
        · intro w hSw; (try dsimp only at hSw); go_simp; try (with_reducible rfl)
        simp only [Act.put, List.setIfInBounds_toArray, List.set_cons_zero, List.set_cons_succ]
        refine wpAnyH_take (i := 17) (oi := { dst := some 41, op := Op.move (Operand.tmp 8), type := 9, pos := "ref.go:48", after := #[{ on := 16, ground := Ground.guard }], guard := some (16, true) }) (v := undef) rfl (by kernel_rfl) (by kernel_rfl) (by kernel_rfl) (fun _ _ _ h => h) (Or.inr ⟨by rfl, rfl⟩) hS ?_
        simp only [Act.put, List.setIfInBounds_toArray, List.set_cons_zero, List.set_cons_succ]
        refine wpAnyH_take (i := 18) (oi := { dst := some 42, op := Op.move (Operand.tmp 0), type := 35, pos := "ref.go:48", after := #[{ on := 16, ground := Ground.guard }], guard := some (16, true) }) (v := undef) rfl (by kernel_rfl) (by kernel_rfl) (by kernel_rfl) (fun _ _ _ h => h) (Or.inr ⟨by rfl, rfl⟩) hS ?_
        simp only [Act.put, List.setIfInBounds_toArray, List.set_cons_zero, List.set_cons_succ]
        refine wpAnyH_take (i := 19) (oi := { dst := some 43, op := Op.move (Operand.tmp 10), type := 3, pos := "ref.go:48", after := #[{ on := 16, ground := Ground.guard }], guard := some (16, true) }) (v := undef) rfl (by kernel_rfl) (by kernel_rfl) (by kernel_rfl) (fun _ _ _ h => h) (Or.inr ⟨by rfl, rfl⟩) hS ?_
        simp only [Act.put, List.setIfInBounds_toArray, List.set_cons_zero, List.set_cons_succ]
        refine wpAnyH_take (i := 20) (oi := { dst := some 44, op := Op.indexAddr 35 (Operand.tmp 42) (Operand.tmp 43), type := 0, pos := "ref.go:48", after := #[{ on := 18, ground := Ground.data }, { on := 19, ground := Ground.data }, { on := 16, ground := Ground.guard }], guard := some (16, true) }) (v := undef) rfl (by kernel_rfl) (by kernel_rfl) (by kernel_rfl) (fun _ _ _ h => h) (Or.inr ⟨by rfl, rfl⟩) hS ?_
        simp only [Act.put, List.setIfInBounds_toArray, List.set_cons_zero, List.set_cons_succ]
        refine wpAnyH_take (i := 21) (oi := { dst := some 45, op := Op.fieldAddr 53 (Operand.tmp 44) 0, type := 0, pos := "ref.go:48", after := #[{ on := 20, ground := Ground.data }, { on := 16, ground := Ground.guard }], guard := some (16, true) }) (v := undef) rfl (by kernel_rfl) (by kernel_rfl) (by kernel_rfl) (fun _ _ _ h => h) (Or.inr ⟨by rfl, rfl⟩) hS ?_
        simp only [Act.put, List.setIfInBounds_toArray, List.set_cons_zero, List.set_cons_succ]
        refine wpAnyH_take (i := 22) (oi := { dst := some 46, op := Op.load 9 (Operand.tmp 45), type := 9, pos := "ref.go:48", after := #[{ on := 21, ground := Ground.data }, { on := 16, ground := Ground.guard }], guard := some (16, true) }) (v := undef) rfl (by kernel_rfl) (by kernel_rfl) (by kernel_rfl) (fun _ _ _ h => h) (Or.inr ⟨by rfl, rfl⟩) hS ?_
        simp only [Act.put, List.setIfInBounds_toArray, List.set_cons_zero, List.set_cons_succ]
        refine wpAnyH_take (i := 23) (oi := { dst := some 47, op := Op.call { callee := Callee.value (Operand.func 36), args := #[Operand.tmp 41, Operand.tmp 46], argTypes := #[9, 9] }, type := 4, pos := "ref.go:48", after := #[{ on := 17, ground := Ground.data }, { on := 22, ground := Ground.data }, { on := 16, ground := Ground.chain }, { on := 16, ground := Ground.guard }], guard := some (16, true) }) (v := undef) rfl (by kernel_rfl) (by kernel_rfl) (by kernel_rfl) (fun _ _ _ h => h) (Or.inr ⟨by rfl, rfl⟩) hS ?_
        simp only [Act.put, List.setIfInBounds_toArray, List.set_cons_zero, List.set_cons_succ]
        refine wpAnyH_take (i := 24) (oi := { dst := some 48, op := Op.unOp UnOp.not 4 (Operand.tmp 47), type := 4, pos := "ref.go:48", after := #[{ on := 23, ground := Ground.data }, { on := 16, ground := Ground.guard }], guard := some (16, true) }) (v := undef) rfl (by kernel_rfl) (by kernel_rfl) (by kernel_rfl) (fun _ _ _ h => h) (Or.inr ⟨by rfl, rfl⟩) hS ?_
        simp only [Act.put, List.setIfInBounds_toArray, List.set_cons_zero, List.set_cons_succ]
        refine wpAnyH_take (i := 25) (oi := { dst := some 49, op := Op.pick (Operand.tmp 40) (Operand.tmp 48) (Operand.const (Value.bool false)), type := 4, pos := "ref.go:48", after := #[{ on := 16, ground := Ground.data }, { on := 24, ground := Ground.data }, { on := 7, ground := Ground.guard }], guard := some (7, false) }) (v := ?_) rfl (by kernel_rfl) (by kernel_rfl) (by kernel_rfl) (fun _ _ _ h => h) (Or.inl ⟨by rfl, ?_⟩) hS ?_
        rotate_left
        · intro w hSw; (try dsimp only at hSw); go_simp; try (with_reducible rfl)
        simp only [Act.put, List.setIfInBounds_toArray, List.set_cons_zero, List.set_cons_succ]
        refine wpAnyH_take (i := 26) (oi := { dst := some 50, op := Op.pick (Operand.tmp 31) (Operand.const (Value.bool true)) (Operand.tmp 49), type := 4, pos := "ref.go:48", after := #[{ on := 7, ground := Ground.data }, { on := 25, ground := Ground.data }], guard := none }) (v := ?_) rfl (by kernel_rfl) (by kernel_rfl) (by kernel_rfl) (fun _ _ _ h => h) (Or.inl ⟨by rfl, ?_⟩) hS ?_
        rotate_left
        · intro w hSw; (try dsimp only at hSw); go_simp; try (with_reducible rfl)
        simp only [Act.put, List.setIfInBounds_toArray, List.set_cons_zero, List.set_cons_succ]
        refine wpAnyH_done (by kernel_rfl) ?_ _
        clear hS
        have T := hid (T1.out)
        have HE2 := hid (HYes1.out (by rw [HU.out, hu1]; rfl))
        have RR := hid (range_att (RLw.out _ T.out))
        clear T0 T0d O T1 b1 HE hu2 hu3
        have L8 := hid (len_refa8 a2)
        have hst := eight_store9 a2 w3
        go_upto_region 8 with (first
          | (with_reducible refine wpList_load_mid (op := ⟨some 55, _, _, _, _, _⟩) rfl 51 (.tmp 54) rfl bv (i * 10 + 2) rfl (rowA a2).toList _ RR.out Tryd.underlying51 rfl (by have h := L8.out; simpa using h) ?_))
        obtain ⟨W3, hW3⟩ : ∃ W3, (w3.alloc (.cells #[.int .i64 0, .int .i64 0, .int .i64 0, .int .i64 0, .int .i64 0, .int .i64 0, .int .i64 0, .int .i64 0] 51)).setRow w3.heap.size (rowA a2) = W3 := ⟨_, rfl⟩
        rw [hW3]
        obtain ⟨Q0, KB⟩ := eight_box9 hW3
        have T3 := hid (T.out.on KB.out)
        have hpg : Hid (g + 1 + 1 + 1 < w3.heap.size) := hid T.out.lt
        clear hW3 hst KB T RR
        obtain ⟨p, hp⟩ : ∃ p, w3.heap.size = p := ⟨_, rfl⟩
        rw [hp] at Q0 hpg
        rw [hp]
        clear hp
        have hb0 := HFn.out.at 0
        obtain ⟨x0, hx0⟩ : ∃ x, a2 0 = x := ⟨_, rfl⟩
        have c0 := Q0.out.att (i := 0) (by decide)
        have fr := Q0.out.frozen 0
        have HC := hid (fun w => refcut_any (x0 + 1) w)
        have HNx : Hid (nextF a2 = upd a2 0 (cutS (x0 + 1))) := hid (by unfold nextF; rw [hx0])
        simp only [hx0] at c0 hb0
        obtain ⟨cu, hcu⟩ : ∃ cu, cutS (x0 + 1) = cu := ⟨_, rfl⟩
        rw [hcu] at HC HNx
        clear hx0 hcu
        go_wp2_with fail
        with_reducible refine (HC.out _).mono ?_
        rintro e5 w5 ⟨rfl, rfl⟩
        go_upto_region 9 with fail
        obtain ⟨W4, hW4⟩ : ∃ W4, W3.setCell ⟨p, 0, none⟩ (.int .i64 cu) = W4 := ⟨_, rfl⟩
        rw [hW4]
        have Q1 : Hid (Blk W4 p 51 (rowA (nextF a2))) := hid (by rw [← hW4, HNx.out]; exact Q0.out.attSet 0 _)
        have T4 : Hid (AskAt g w W4 (.slice (some ⟨bv, 0, none⟩) l.length cap) l (cellsOf ⟨k, u, f, q', s', m', n, t⟩) r s (ah M)) := hid (by rw [← hW4]; exact T3.out.onb ((Below.refl p W3).setCell (p := ⟨p, 0, none⟩) (Nat.le_refl _) _) hpg.out)
        clear hW4 c0 fr Q0 T3 HNx HC
        have La := hid (len_refa8 (ah M))
        have Lb := hid (len_refa8 (nextF a2))
        have Ja := hid T4.out.2.2.2.2.1
        go_wp2_with (first
          | (with_reducible refine wpList_load_row (o := ⟨some 61, _, _, _, _, _⟩) rfl 51 (.tmp 7) rfl (g + 1 + 1 + 1) rfl 51 (rowA (ah M)) (0, 0) _ Ja.out.heap Tryd.underlying51 rfl La.out ?_)
          | (with_reducible refine wpList_load_row (o := ⟨some 62, _, _, _, _, _⟩) rfl 51 (.tmp 11) rfl p rfl 51 (rowA (nextF a2)) (0, 0) _ Q1.out.heap Tryd.underlying51 rfl Lb.out ?_))
        with_reducible refine (refmerge_any (ah M) (nextF a2) _).mono ?_
        rintro e6 w6 ⟨rfl, hb6⟩
        have T5 := hid (T4.out.on hb6)
        clear hb6 Q1 T4 Ja La Lb
        have HE3 : Hid (ah (M ++ [⟨f2, u2, a2⟩]) = mx (ah M) (nextF a2)) := HE2
        obtain ⟨H, hH⟩ : ∃ H, mx (ah M) (nextF a2) = H := ⟨_, rfl⟩
        rw [hH] at HE3
        rw [hH]
        clear hH HE2
        have T6 := hid (T5.out.turn H)
        have Jb := hid T5.out.2.2.2.2.1
        have L1 := hid (len_refa8 H)
        have L2 := hid (show (rowA (ah M)).size = (rowA H).size by rw [rowA_size, rowA_size])
        have L3 := hid (rowA_one H)
        go_wp2_with (first
          | (with_reducible refine wpList_store_row (o := ⟨none, _, _, _, _, _⟩) rfl 51 (.tmp 7) (.tmp 63) rfl (g + 1 + 1 + 1) (rowA H) rfl rfl 51 _ Jb.out.heap L1.out L2.out L3.out ?_))
        go_roundw
        case rel => exact ⟨i + 1, by omega, by go_num, hid (by rw [HTk.out, HE3.out]; exact T6.out)⟩
        case measure => simp only [intOf]; omega
      have hu1 : (u == u2) = false := by simpa using hu
      have hu2 : (u != u2) = true := by simpa using hu
      have hu3 : (!(u == u2)) = true := by rw [hu1]; rfl
      cases o
      · have HE2 := hid (HNo1.out (by rw [HU.out, hu1]; rfl))
        go_wp2_with fail
        refine wp_region_held_drew (S := (fun w' => (w'.cell? ⟨g + 1, 0, none⟩ = some (.int .i64 r) ∧ w'.cell? ⟨g + 1, 1, none⟩ = some (.int .i64 s)) ∧ w'.cell? ⟨g, 1, none⟩ = some (.int .u64 u) ∧ w'.cell? ⟨bv, i * 10, none⟩ = some (.string f2) ∧ w'.cell? ⟨bv, i * 10 + 1, none⟩ = some (.int .u64 u2))) (by kernel_rfl) ?_ (fun hS => ?_)
        · exact O.out _ T0d.out
        refine wpAnyH_take (i := 0) (oi := { dst := some 24, op := Op.move (Operand.tmp 9), type := 4, pos := "ref.go:48", after := #[], guard := none }) (v := ?_) rfl (by kernel_rfl) (by kernel_rfl) (by kernel_rfl) (fun _ _ _ h => h) (Or.inl ⟨by rfl, ?_⟩) hS ?_
        rotate_left
        · intro w hSw; (try dsimp only at hSw); go_simp; try (with_reducible rfl)
        simp only [Act.put, List.setIfInBounds_toArray, List.set_cons_zero, List.set_cons_succ]
        refine wpAnyH_take (i := 1) (oi := { dst := some 25, op := Op.unOp UnOp.not 4 (Operand.tmp 24), type := 4, pos := "ref.go:48", after := #[{ on := 0, ground := Ground.data }], guard := none }) (v := ?_) rfl (by kernel_rfl) (by kernel_rfl) (by kernel_rfl) (fun _ _ _ h => h) (Or.inl ⟨by rfl, ?_⟩) hS ?_
        rotate_left
        · intro w hSw; (try dsimp only at hSw); go_simp; try (with_reducible rfl)
        simp only [Act.put, List.setIfInBounds_toArray, List.set_cons_zero, List.set_cons_succ]
        refine wpAnyH_take (i := 2) (oi := { dst := some 26, op := Op.move (Operand.tmp 25), type := 4, pos := "ref.go:48", after := #[{ on := 1, ground := Ground.data }], guard := none }) (v := ?_) rfl (by kernel_rfl) (by kernel_rfl) (by kernel_rfl) (fun _ _ _ h => h) (Or.inl ⟨by rfl, ?_⟩) hS ?_
        rotate_left
        · intro w hSw; (try dsimp only at hSw); go_simp; try (with_reducible rfl)
        simp only [Act.put, List.setIfInBounds_toArray, List.set_cons_zero, List.set_cons_succ]
        refine wpAnyH_take (i := 3) (oi := { dst := some 27, op := Op.load 59 (Operand.tmp 5), type := 59, pos := "ref.go:48", after := #[{ on := 2, ground := Ground.guard }], guard := some (2, false) }) (v := ?_) rfl (by kernel_rfl) (by kernel_rfl) (by kernel_rfl) (fun _ _ _ h => h) (Or.inl ⟨by rfl, ?_⟩) hS ?_
        rotate_left
        · intro w hSw; (try dsimp only at hSw); go_simp; try (with_reducible rfl)
        simp only [Act.put, List.setIfInBounds_toArray, List.set_cons_zero, List.set_cons_succ]
        refine wpAnyH_ready (rs := [4]) (by kernel_rfl) (by simp) ?_
        refine AllReadyH.cons (o := { dst := some 28, op := Op.call { callee := Callee.value (Operand.func 35), args := #[Operand.tmp 27], argTypes := #[59] }, type := 4, pos := "ref.go:48", after := #[{ on := 3, ground := Ground.data }, { on := 2, ground := Ground.chain }, { on := 2, ground := Ground.guard }], guard := some (2, false) }) rfl ?_ AllReadyH.nil
        intro K hK
        go_simp
        go_at_call 35
        with_reducible refine (nrefright_any r s _).mono ?_
        rw [HY.out]
        rintro e1 w3 ⟨rfl, b1⟩
        have T1 := hid (T0d.out.on b1)
        first | refine hK.out _ _ ?_ (fun hS => ?_) | (go_wp2_with fail; refine hK.out _ _ ?_ (fun hS => ?_))
        · exact O.out _ T1.out
        clear hK K
        try simp only [Act.put, List.setIfInBounds_toArray, List.set_cons_zero, List.set_cons_succ]
        refine wpAnyH_take (i := 5) (oi := { dst := some 29, op := Op.unOp UnOp.not 4 (Operand.tmp 28), type := 4, pos := "ref.go:48", after := #[{ on := 4, ground := Ground.data }, { on := 2, ground := Ground.guard }], guard := some (2, false) }) (v := ?_) rfl (by kernel_rfl) (by kernel_rfl) (by kernel_rfl) (fun _ _ _ h => h) (Or.inl ⟨by rfl, ?_⟩) hS ?_
        rotate_left
        · intro w hSw; (try dsimp only at hSw); go_simp; try (with_reducible rfl)
        simp only [Act.put, List.setIfInBounds_toArray, List.set_cons_zero, List.set_cons_succ]
        refine wpAnyH_take (i := 6) (oi := { dst := some 30, op := Op.pick (Operand.tmp 26) (Operand.const (Value.bool true)) (Operand.tmp 29), type := 4, pos := "ref.go:48", after := #[{ on := 2, ground := Ground.data }, { on := 5, ground := Ground.data }], guard := none }) (v := ?_) rfl (by kernel_rfl) (by kernel_rfl) (by kernel_rfl) (fun _ _ _ h => h) (Or.inl ⟨by rfl, ?_⟩) hS ?_
        rotate_left
        · intro w hSw; (try dsimp only at hSw); go_simp; try (with_reducible rfl)
        simp only [Act.put, List.setIfInBounds_toArray, List.set_cons_zero, List.set_cons_succ]
        refine wpAnyH_take (i := 7) (oi := { dst := some 31, op := Op.move (Operand.tmp 30), type := 4, pos := "ref.go:48", after := #[{ on := 6, ground := Ground.data }, { on := 4, ground := Ground.chain }], guard := none }) (v := ?_) rfl (by kernel_rfl) (by kernel_rfl) (by kernel_rfl) (fun _ _ _ h => h) (Or.inl ⟨by rfl, ?_⟩) hS ?_
        rotate_left
        · intro w hSw; (try dsimp only at hSw); go_simp; try (with_reducible rfl)
        simp only [Act.put, List.setIfInBounds_toArray, List.set_cons_zero, List.set_cons_succ]
        refine wpAnyH_take (i := 8) (oi := { dst := some 32, op := Op.fieldAddr 57 (Operand.tmp 4) 1, type := 0, pos := "ref.go:48", after := #[{ on := 7, ground := Ground.guard }], guard := some (7, false) }) (v := ?_) rfl (by kernel_rfl) (by kernel_rfl) (by kernel_rfl) (fun _ _ _ h => h) (Or.inl ⟨by rfl, ?_⟩) hS ?_
        rotate_left
        · intro w hSw; (try dsimp only at hSw); go_simp; try (with_reducible rfl)
        simp only [Act.put, List.setIfInBounds_toArray, List.set_cons_zero, List.set_cons_succ]
        refine wpAnyH_take (i := 9) (oi := { dst := some 33, op := Op.load 23 (Operand.tmp 32), type := 23, pos := "ref.go:48", after := #[{ on := 8, ground := Ground.data }, { on := 7, ground := Ground.guard }], guard := some (7, false) }) (v := ?_) rfl (by kernel_rfl) (by kernel_rfl) (by kernel_rfl) (fun _ _ _ h => h) (Or.inl ⟨by rfl, ?_⟩) hS ?_
        rotate_left
        · intro w hSw; (try dsimp only at hSw); go_simp; try (with_reducible rfl)
        simp only [Act.put, List.setIfInBounds_toArray, List.set_cons_zero, List.set_cons_succ]
        refine wpAnyH_take (i := 10) (oi := { dst := some 34, op := Op.move (Operand.tmp 0), type := 35, pos := "ref.go:48", after := #[{ on := 7, ground := Ground.guard }], guard := some (7, false) }) (v := ?_) rfl (by kernel_rfl) (by kernel_rfl) (by kernel_rfl) (fun _ _ _ h => h) (Or.inl ⟨by rfl, ?_⟩) hS ?_
        rotate_left
        · intro w hSw; (try dsimp only at hSw); go_simp; try (with_reducible rfl)
        simp only [Act.put, List.setIfInBounds_toArray, List.set_cons_zero, List.set_cons_succ]
        refine wpAnyH_take (i := 11) (oi := { dst := some 35, op := Op.move (Operand.tmp 10), type := 3, pos := "ref.go:48", after := #[{ on := 7, ground := Ground.guard }], guard := some (7, false) }) (v := ?_) rfl (by kernel_rfl) (by kernel_rfl) (by kernel_rfl) (fun _ _ _ h => h) (Or.inl ⟨by rfl, ?_⟩) hS ?_
        rotate_left
        · intro w hSw; (try dsimp only at hSw); go_simp; try (with_reducible rfl)
        simp only [Act.put, List.setIfInBounds_toArray, List.set_cons_zero, List.set_cons_succ]
        refine wpAnyH_take (i := 12) (oi := { dst := some 36, op := Op.indexAddr 35 (Operand.tmp 34) (Operand.tmp 35), type := 0, pos := "ref.go:48", after := #[{ on := 10, ground := Ground.data }, { on := 11, ground := Ground.data }, { on := 7, ground := Ground.guard }], guard := some (7, false) }) (v := ?_) rfl (by kernel_rfl) (by kernel_rfl) (by kernel_rfl) (fun _ _ _ h => h) (Or.inl ⟨by rfl, ?_⟩) hS ?_
        rotate_left
        · intro w hSw; (try dsimp only at hSw); go_simp; try (with_reducible rfl)
        simp only [Act.put, List.setIfInBounds_toArray, List.set_cons_zero, List.set_cons_succ]
        refine wpAnyH_take (i := 13) (oi := { dst := some 37, op := Op.fieldAddr 53 (Operand.tmp 36) 1, type := 0, pos := "ref.go:48", after := #[{ on := 12, ground := Ground.data }, { on := 7, ground := Ground.guard }], guard := some (7, false) }) (v := ?_) rfl (by kernel_rfl) (by kernel_rfl) (by kernel_rfl) (fun _ _ _ h => h) (Or.inl ⟨by rfl, ?_⟩) hS ?_
        rotate_left
        · intro w hSw; (try dsimp only at hSw); go_simp; try (with_reducible rfl)
        simp only [Act.put, List.setIfInBounds_toArray, List.set_cons_zero, List.set_cons_succ]
        refine wpAnyH_take (i := 14) (oi := { dst := some 38, op := Op.load 23 (Operand.tmp 37), type := 23, pos := "ref.go:48", after := #[{ on := 13, ground := Ground.data }, { on := 7, ground := Ground.guard }], guard := some (7, false) }) (v := ?_) rfl (by kernel_rfl) (by kernel_rfl) (by kernel_rfl) (fun _ _ _ h => h) (Or.inl ⟨by rfl, ?_⟩) hS ?_
        rotate_left
        · intro w hSw; (try dsimp only at hSw); go_simp; try (with_reducible rfl)
        simp only [Act.put, List.setIfInBounds_toArray, List.set_cons_zero, List.set_cons_succ]
        refine wpAnyH_take (i := 15) (oi := { dst := some 39, op := Op.binOp BinOp.neq 23 (Operand.tmp 33) (Operand.tmp 38) 23, type := 4, pos := "ref.go:48", after := #[{ on := 9, ground := Ground.data }, { on := 14, ground := Ground.data }, { on := 7, ground := Ground.guard }], guard := some (7, false) }) (v := ?_) rfl (by kernel_rfl) (by kernel_rfl) (by kernel_rfl) (fun _ _ _ h => h) (Or.inl ⟨by rfl, ?_⟩) hS ?_
        rotate_left
        · intro w hSw; (try dsimp only at hSw); go_simp; try (with_reducible rfl)
        simp only [Act.put, List.setIfInBounds_toArray, List.set_cons_zero, List.set_cons_succ]
        refine wpAnyH_take (i := 16) (oi := { dst := some 40, op := Op.move (Operand.tmp 39), type := 4, pos := "ref.go:48", after := #[{ on := 15, ground := Ground.data }, { on := 7, ground := Ground.chain }, { on := 7, ground := Ground.guard }], guard := some (7, false) }) (v := ?_) rfl (by kernel_rfl) (by kernel_rfl) (by kernel_rfl) (fun _ _ _ h => h) (Or.inl ⟨by rfl, ?_⟩) hS ?_
        rotate_left
        · intro w hSw; (try dsimp only at hSw); go_simp; try (with_reducible rfl)
        simp only [Act.put, List.setIfInBounds_toArray, List.set_cons_zero, List.set_cons_succ]
        refine wpAnyH_take (i := 17) (oi := { dst := some 41, op := Op.move (Operand.tmp 8), type := 9, pos := "ref.go:48", after := #[{ on := 16, ground := Ground.guard }], guard := some (16, true) }) (v := ?_) rfl (by kernel_rfl) (by kernel_rfl) (by kernel_rfl) (fun _ _ _ h => h) (Or.inl ⟨by rfl, ?_⟩) hS ?_
        rotate_left
        · intro w hSw; (try dsimp only at hSw); go_simp; try (with_reducible rfl)
        simp only [Act.put, List.setIfInBounds_toArray, List.set_cons_zero, List.set_cons_succ]
        refine wpAnyH_take (i := 18) (oi := { dst := some 42, op := Op.move (Operand.tmp 0), type := 35, pos := "ref.go:48", after := #[{ on := 16, ground := Ground.guard }], guard := some (16, true) }) (v := ?_) rfl (by kernel_rfl) (by kernel_rfl) (by kernel_rfl) (fun _ _ _ h => h) (Or.inl ⟨by rfl, ?_⟩) hS ?_
        rotate_left
        · intro w hSw; (try dsimp only at hSw); go_simp; try (with_reducible rfl)
        simp only [Act.put, List.setIfInBounds_toArray, List.set_cons_zero, List.set_cons_succ]
        refine wpAnyH_take (i := 19) (oi := { dst := some 43, op := Op.move (Operand.tmp 10), type := 3, pos := "ref.go:48", after := #[{ on := 16, ground := Ground.guard }], guard := some (16, true) }) (v := ?_) rfl (by kernel_rfl) (by kernel_rfl) (by kernel_rfl) (fun _ _ _ h => h) (Or.inl ⟨by rfl, ?_⟩) hS ?_
        rotate_left
        · intro w hSw; (try dsimp only at hSw); go_simp; try (with_reducible rfl)
        simp only [Act.put, List.setIfInBounds_toArray, List.set_cons_zero, List.set_cons_succ]
        refine wpAnyH_take (i := 20) (oi := { dst := some 44, op := Op.indexAddr 35 (Operand.tmp 42) (Operand.tmp 43), type := 0, pos := "ref.go:48", after := #[{ on := 18, ground := Ground.data }, { on := 19, ground := Ground.data }, { on := 16, ground := Ground.guard }], guard := some (16, true) }) (v := ?_) rfl (by kernel_rfl) (by kernel_rfl) (by kernel_rfl) (fun _ _ _ h => h) (Or.inl ⟨by rfl, ?_⟩) hS ?_
        rotate_left
        · intro w hSw; (try dsimp only at hSw); go_simp; try (with_reducible rfl)
        simp only [Act.put, List.setIfInBounds_toArray, List.set_cons_zero, List.set_cons_succ]
        refine wpAnyH_take (i := 21) (oi := { dst := some 45, op := Op.fieldAddr 53 (Operand.tmp 44) 0, type := 0, pos := "ref.go:48", after := #[{ on := 20, ground := Ground.data }, { on := 16, ground := Ground.guard }], guard := some (16, true) }) (v := ?_) rfl (by kernel_rfl) (by kernel_rfl) (by kernel_rfl) (fun _ _ _ h => h) (Or.inl ⟨by rfl, ?_⟩) hS ?_
        rotate_left
        · intro w hSw; (try dsimp only at hSw); go_simp; try (with_reducible rfl)
        simp only [Act.put, List.setIfInBounds_toArray, List.set_cons_zero, List.set_cons_succ]
        refine wpAnyH_take (i := 22) (oi := { dst := some 46, op := Op.load 9 (Operand.tmp 45), type := 9, pos := "ref.go:48", after := #[{ on := 21, ground := Ground.data }, { on := 16, ground := Ground.guard }], guard := some (16, true) }) (v := ?_) rfl (by kernel_rfl) (by kernel_rfl) (by kernel_rfl) (fun _ _ _ h => h) (Or.inl ⟨by rfl, ?_⟩) hS ?_
        rotate_left
        · intro w hSw; (try dsimp only at hSw); go_simp; try (with_reducible rfl)
        simp only [Act.put, List.setIfInBounds_toArray, List.set_cons_zero, List.set_cons_succ]
        refine wpAnyH_ready (rs := [23]) (by kernel_rfl) (by simp) ?_
        refine AllReadyH.cons (o := { dst := some 47, op := Op.call { callee := Callee.value (Operand.func 36), args := #[Operand.tmp 41, Operand.tmp 46], argTypes := #[9, 9] }, type := 4, pos := "ref.go:48", after := #[{ on := 17, ground := Ground.data }, { on := 22, ground := Ground.data }, { on := 16, ground := Ground.chain }, { on := 16, ground := Ground.guard }], guard := some (16, true) }) rfl ?_ AllReadyH.nil
        intro K hK
        go_simp
        go_at_call 36
        with_reducible refine (HOv.out _).mono ?_
        rintro e2 w4 ⟨rfl, b2⟩
        have T2 := hid (T1.out.on b2)
        first | refine hK.out _ _ ?_ (fun hS => ?_) | (go_wp2_with fail; refine hK.out _ _ ?_ (fun hS => ?_))
        · exact O.out _ T2.out
        clear hK K
        try simp only [Act.put, List.setIfInBounds_toArray, List.set_cons_zero, List.set_cons_succ]
        refine wpAnyH_take (i := 24) (oi := { dst := some 48, op := Op.unOp UnOp.not 4 (Operand.tmp 47), type := 4, pos := "ref.go:48", after := #[{ on := 23, ground := Ground.data }, { on := 16, ground := Ground.guard }], guard := some (16, true) }) (v := ?_) rfl (by kernel_rfl) (by kernel_rfl) (by kernel_rfl) (fun _ _ _ h => h) (Or.inl ⟨by rfl, ?_⟩) hS ?_
        rotate_left
        · intro w hSw; (try dsimp only at hSw); go_simp; try (with_reducible rfl)
        simp only [Act.put, List.setIfInBounds_toArray, List.set_cons_zero, List.set_cons_succ]
        refine wpAnyH_take (i := 25) (oi := { dst := some 49, op := Op.pick (Operand.tmp 40) (Operand.tmp 48) (Operand.const (Value.bool false)), type := 4, pos := "ref.go:48", after := #[{ on := 16, ground := Ground.data }, { on := 24, ground := Ground.data }, { on := 7, ground := Ground.guard }], guard := some (7, false) }) (v := ?_) rfl (by kernel_rfl) (by kernel_rfl) (by kernel_rfl) (fun _ _ _ h => h) (Or.inl ⟨by rfl, ?_⟩) hS ?_
        rotate_left
        · intro w hSw; (try dsimp only at hSw); go_simp; try (with_reducible rfl)
        simp only [Act.put, List.setIfInBounds_toArray, List.set_cons_zero, List.set_cons_succ]
        refine wpAnyH_take (i := 26) (oi := { dst := some 50, op := Op.pick (Operand.tmp 31) (Operand.const (Value.bool true)) (Operand.tmp 49), type := 4, pos := "ref.go:48", after := #[{ on := 7, ground := Ground.data }, { on := 25, ground := Ground.data }], guard := none }) (v := ?_) rfl (by kernel_rfl) (by kernel_rfl) (by kernel_rfl) (fun _ _ _ h => h) (Or.inl ⟨by rfl, ?_⟩) hS ?_
        rotate_left
        · intro w hSw; (try dsimp only at hSw); go_simp; try (with_reducible rfl)
        simp only [Act.put, List.setIfInBounds_toArray, List.set_cons_zero, List.set_cons_succ]
        refine wpAnyH_done (by kernel_rfl) ?_ _
        clear hS
        go_wp2
        go_roundw
        case rel => exact ⟨i + 1, by omega, by go_num, hid (by rw [HTk.out, HE2.out]; exact T2.out)⟩
        case measure => simp only [intOf]; omega
      · go_wp2_with fail
        refine wp_region_held_drew (S := (fun w' => (w'.cell? ⟨g + 1, 0, none⟩ = some (.int .i64 r) ∧ w'.cell? ⟨g + 1, 1, none⟩ = some (.int .i64 s)) ∧ w'.cell? ⟨g, 1, none⟩ = some (.int .u64 u) ∧ w'.cell? ⟨bv, i * 10, none⟩ = some (.string f2) ∧ w'.cell? ⟨bv, i * 10 + 1, none⟩ = some (.int .u64 u2))) (by kernel_rfl) ?_ (fun hS => ?_)
        · exact O.out _ T0d.out
        refine wpAnyH_take (i := 0) (oi := { dst := some 24, op := Op.move (Operand.tmp 9), type := 4, pos := "ref.go:48", after := #[], guard := none }) (v := ?_) rfl (by kernel_rfl) (by kernel_rfl) (by kernel_rfl) (fun _ _ _ h => h) (Or.inl ⟨by rfl, ?_⟩) hS ?_
        rotate_left
        · intro w hSw; (try dsimp only at hSw); go_simp; try (with_reducible rfl)
        simp only [Act.put, List.setIfInBounds_toArray, List.set_cons_zero, List.set_cons_succ]
        refine wpAnyH_take (i := 1) (oi := { dst := some 25, op := Op.unOp UnOp.not 4 (Operand.tmp 24), type := 4, pos := "ref.go:48", after := #[{ on := 0, ground := Ground.data }], guard := none }) (v := ?_) rfl (by kernel_rfl) (by kernel_rfl) (by kernel_rfl) (fun _ _ _ h => h) (Or.inl ⟨by rfl, ?_⟩) hS ?_
        rotate_left
        · intro w hSw; (try dsimp only at hSw); go_simp; try (with_reducible rfl)
        simp only [Act.put, List.setIfInBounds_toArray, List.set_cons_zero, List.set_cons_succ]
        refine wpAnyH_take (i := 2) (oi := { dst := some 26, op := Op.move (Operand.tmp 25), type := 4, pos := "ref.go:48", after := #[{ on := 1, ground := Ground.data }], guard := none }) (v := ?_) rfl (by kernel_rfl) (by kernel_rfl) (by kernel_rfl) (fun _ _ _ h => h) (Or.inl ⟨by rfl, ?_⟩) hS ?_
        rotate_left
        · intro w hSw; (try dsimp only at hSw); go_simp; try (with_reducible rfl)
        simp only [Act.put, List.setIfInBounds_toArray, List.set_cons_zero, List.set_cons_succ]
        refine wpAnyH_take (i := 3) (oi := { dst := some 27, op := Op.load 59 (Operand.tmp 5), type := 59, pos := "ref.go:48", after := #[{ on := 2, ground := Ground.guard }], guard := some (2, false) }) (v := ?_) rfl (by kernel_rfl) (by kernel_rfl) (by kernel_rfl) (fun _ _ _ h => h) (Or.inl ⟨by rfl, ?_⟩) hS ?_
        rotate_left
        · intro w hSw; (try dsimp only at hSw); go_simp; try (with_reducible rfl)
        simp only [Act.put, List.setIfInBounds_toArray, List.set_cons_zero, List.set_cons_succ]
        refine wpAnyH_ready (rs := [4]) (by kernel_rfl) (by simp) ?_
        refine AllReadyH.cons (o := { dst := some 28, op := Op.call { callee := Callee.value (Operand.func 35), args := #[Operand.tmp 27], argTypes := #[59] }, type := 4, pos := "ref.go:48", after := #[{ on := 3, ground := Ground.data }, { on := 2, ground := Ground.chain }, { on := 2, ground := Ground.guard }], guard := some (2, false) }) rfl ?_ AllReadyH.nil
        intro K hK
        go_simp
        go_at_call 35
        with_reducible refine (nrefright_any r s _).mono ?_
        rw [HY.out]
        rintro e1 w3 ⟨rfl, b1⟩
        have T1 := hid (T0d.out.on b1)
        first | refine hK.out _ _ ?_ (fun hS => ?_) | (go_wp2_with fail; refine hK.out _ _ ?_ (fun hS => ?_))
        · exact O.out _ T1.out
        clear hK K
        try simp only [Act.put, List.setIfInBounds_toArray, List.set_cons_zero, List.set_cons_succ]
        refine wpAnyH_take (i := 5) (oi := { dst := some 29, op := Op.unOp UnOp.not 4 (Operand.tmp 28), type := 4, pos := "ref.go:48", after := #[{ on := 4, ground := Ground.data }, { on := 2, ground := Ground.guard }], guard := some (2, false) }) (v := ?_) rfl (by kernel_rfl) (by kernel_rfl) (by kernel_rfl) (fun _ _ _ h => h) (Or.inl ⟨by rfl, ?_⟩) hS ?_
        rotate_left
        · intro w hSw; (try dsimp only at hSw); go_simp; try (with_reducible rfl)
        simp only [Act.put, List.setIfInBounds_toArray, List.set_cons_zero, List.set_cons_succ]
        refine wpAnyH_take (i := 6) (oi := { dst := some 30, op := Op.pick (Operand.tmp 26) (Operand.const (Value.bool true)) (Operand.tmp 29), type := 4, pos := "ref.go:48", after := #[{ on := 2, ground := Ground.data }, { on := 5, ground := Ground.data }], guard := none }) (v := ?_) rfl (by kernel_rfl) (by kernel_rfl) (by kernel_rfl) (fun _ _ _ h => h) (Or.inl ⟨by rfl, ?_⟩) hS ?_
        rotate_left
        · intro w hSw; (try dsimp only at hSw); go_simp; try (with_reducible rfl)
        simp only [Act.put, List.setIfInBounds_toArray, List.set_cons_zero, List.set_cons_succ]
        refine wpAnyH_take (i := 7) (oi := { dst := some 31, op := Op.move (Operand.tmp 30), type := 4, pos := "ref.go:48", after := #[{ on := 6, ground := Ground.data }, { on := 4, ground := Ground.chain }], guard := none }) (v := ?_) rfl (by kernel_rfl) (by kernel_rfl) (by kernel_rfl) (fun _ _ _ h => h) (Or.inl ⟨by rfl, ?_⟩) hS ?_
        rotate_left
        · intro w hSw; (try dsimp only at hSw); go_simp; try (with_reducible rfl)
        simp only [Act.put, List.setIfInBounds_toArray, List.set_cons_zero, List.set_cons_succ]
        refine wpAnyH_take (i := 8) (oi := { dst := some 32, op := Op.fieldAddr 57 (Operand.tmp 4) 1, type := 0, pos := "ref.go:48", after := #[{ on := 7, ground := Ground.guard }], guard := some (7, false) }) (v := ?_) rfl (by kernel_rfl) (by kernel_rfl) (by kernel_rfl) (fun _ _ _ h => h) (Or.inl ⟨by rfl, ?_⟩) hS ?_
        rotate_left
        · intro w hSw; (try dsimp only at hSw); go_simp; try (with_reducible rfl)
        simp only [Act.put, List.setIfInBounds_toArray, List.set_cons_zero, List.set_cons_succ]
        refine wpAnyH_take (i := 9) (oi := { dst := some 33, op := Op.load 23 (Operand.tmp 32), type := 23, pos := "ref.go:48", after := #[{ on := 8, ground := Ground.data }, { on := 7, ground := Ground.guard }], guard := some (7, false) }) (v := ?_) rfl (by kernel_rfl) (by kernel_rfl) (by kernel_rfl) (fun _ _ _ h => h) (Or.inl ⟨by rfl, ?_⟩) hS ?_
        rotate_left
        · intro w hSw; (try dsimp only at hSw); go_simp; try (with_reducible rfl)
        simp only [Act.put, List.setIfInBounds_toArray, List.set_cons_zero, List.set_cons_succ]
        refine wpAnyH_take (i := 10) (oi := { dst := some 34, op := Op.move (Operand.tmp 0), type := 35, pos := "ref.go:48", after := #[{ on := 7, ground := Ground.guard }], guard := some (7, false) }) (v := ?_) rfl (by kernel_rfl) (by kernel_rfl) (by kernel_rfl) (fun _ _ _ h => h) (Or.inl ⟨by rfl, ?_⟩) hS ?_
        rotate_left
        · intro w hSw; (try dsimp only at hSw); go_simp; try (with_reducible rfl)
        simp only [Act.put, List.setIfInBounds_toArray, List.set_cons_zero, List.set_cons_succ]
        refine wpAnyH_take (i := 11) (oi := { dst := some 35, op := Op.move (Operand.tmp 10), type := 3, pos := "ref.go:48", after := #[{ on := 7, ground := Ground.guard }], guard := some (7, false) }) (v := ?_) rfl (by kernel_rfl) (by kernel_rfl) (by kernel_rfl) (fun _ _ _ h => h) (Or.inl ⟨by rfl, ?_⟩) hS ?_
        rotate_left
        · intro w hSw; (try dsimp only at hSw); go_simp; try (with_reducible rfl)
        simp only [Act.put, List.setIfInBounds_toArray, List.set_cons_zero, List.set_cons_succ]
        refine wpAnyH_take (i := 12) (oi := { dst := some 36, op := Op.indexAddr 35 (Operand.tmp 34) (Operand.tmp 35), type := 0, pos := "ref.go:48", after := #[{ on := 10, ground := Ground.data }, { on := 11, ground := Ground.data }, { on := 7, ground := Ground.guard }], guard := some (7, false) }) (v := ?_) rfl (by kernel_rfl) (by kernel_rfl) (by kernel_rfl) (fun _ _ _ h => h) (Or.inl ⟨by rfl, ?_⟩) hS ?_
        rotate_left
        · intro w hSw; (try dsimp only at hSw); go_simp; try (with_reducible rfl)
        simp only [Act.put, List.setIfInBounds_toArray, List.set_cons_zero, List.set_cons_succ]
        refine wpAnyH_take (i := 13) (oi := { dst := some 37, op := Op.fieldAddr 53 (Operand.tmp 36) 1, type := 0, pos := "ref.go:48", after := #[{ on := 12, ground := Ground.data }, { on := 7, ground := Ground.guard }], guard := some (7, false) }) (v := ?_) rfl (by kernel_rfl) (by kernel_rfl) (by kernel_rfl) (fun _ _ _ h => h) (Or.inl ⟨by rfl, ?_⟩) hS ?_
        rotate_left
        · intro w hSw; (try dsimp only at hSw); go_simp; try (with_reducible rfl)
        simp only [Act.put, List.setIfInBounds_toArray, List.set_cons_zero, List.set_cons_succ]
        refine wpAnyH_take (i := 14) (oi := { dst := some 38, op := Op.load 23 (Operand.tmp 37), type := 23, pos := "ref.go:48", after := #[{ on := 13, ground := Ground.data }, { on := 7, ground := Ground.guard }], guard := some (7, false) }) (v := ?_) rfl (by kernel_rfl) (by kernel_rfl) (by kernel_rfl) (fun _ _ _ h => h) (Or.inl ⟨by rfl, ?_⟩) hS ?_
        rotate_left
        · intro w hSw; (try dsimp only at hSw); go_simp; try (with_reducible rfl)
        simp only [Act.put, List.setIfInBounds_toArray, List.set_cons_zero, List.set_cons_succ]
        refine wpAnyH_take (i := 15) (oi := { dst := some 39, op := Op.binOp BinOp.neq 23 (Operand.tmp 33) (Operand.tmp 38) 23, type := 4, pos := "ref.go:48", after := #[{ on := 9, ground := Ground.data }, { on := 14, ground := Ground.data }, { on := 7, ground := Ground.guard }], guard := some (7, false) }) (v := ?_) rfl (by kernel_rfl) (by kernel_rfl) (by kernel_rfl) (fun _ _ _ h => h) (Or.inl ⟨by rfl, ?_⟩) hS ?_
        rotate_left
        · intro w hSw; (try dsimp only at hSw); go_simp; try (with_reducible rfl)
        simp only [Act.put, List.setIfInBounds_toArray, List.set_cons_zero, List.set_cons_succ]
        refine wpAnyH_take (i := 16) (oi := { dst := some 40, op := Op.move (Operand.tmp 39), type := 4, pos := "ref.go:48", after := #[{ on := 15, ground := Ground.data }, { on := 7, ground := Ground.chain }, { on := 7, ground := Ground.guard }], guard := some (7, false) }) (v := ?_) rfl (by kernel_rfl) (by kernel_rfl) (by kernel_rfl) (fun _ _ _ h => h) (Or.inl ⟨by rfl, ?_⟩) hS ?_
        rotate_left
        · intro w hSw; (try dsimp only at hSw); go_simp; try (with_reducible rfl)
        simp only [Act.put, List.setIfInBounds_toArray, List.set_cons_zero, List.set_cons_succ]
        refine wpAnyH_take (i := 17) (oi := { dst := some 41, op := Op.move (Operand.tmp 8), type := 9, pos := "ref.go:48", after := #[{ on := 16, ground := Ground.guard }], guard := some (16, true) }) (v := ?_) rfl (by kernel_rfl) (by kernel_rfl) (by kernel_rfl) (fun _ _ _ h => h) (Or.inl ⟨by rfl, ?_⟩) hS ?_
        rotate_left
        · intro w hSw; (try dsimp only at hSw); go_simp; try (with_reducible rfl)
        simp only [Act.put, List.setIfInBounds_toArray, List.set_cons_zero, List.set_cons_succ]
        refine wpAnyH_take (i := 18) (oi := { dst := some 42, op := Op.move (Operand.tmp 0), type := 35, pos := "ref.go:48", after := #[{ on := 16, ground := Ground.guard }], guard := some (16, true) }) (v := ?_) rfl (by kernel_rfl) (by kernel_rfl) (by kernel_rfl) (fun _ _ _ h => h) (Or.inl ⟨by rfl, ?_⟩) hS ?_
        rotate_left
        · intro w hSw; (try dsimp only at hSw); go_simp; try (with_reducible rfl)
        simp only [Act.put, List.setIfInBounds_toArray, List.set_cons_zero, List.set_cons_succ]
        refine wpAnyH_take (i := 19) (oi := { dst := some 43, op := Op.move (Operand.tmp 10), type := 3, pos := "ref.go:48", after := #[{ on := 16, ground := Ground.guard }], guard := some (16, true) }) (v := ?_) rfl (by kernel_rfl) (by kernel_rfl) (by kernel_rfl) (fun _ _ _ h => h) (Or.inl ⟨by rfl, ?_⟩) hS ?_
        rotate_left
        · intro w hSw; (try dsimp only at hSw); go_simp; try (with_reducible rfl)
        simp only [Act.put, List.setIfInBounds_toArray, List.set_cons_zero, List.set_cons_succ]
        refine wpAnyH_take (i := 20) (oi := { dst := some 44, op := Op.indexAddr 35 (Operand.tmp 42) (Operand.tmp 43), type := 0, pos := "ref.go:48", after := #[{ on := 18, ground := Ground.data }, { on := 19, ground := Ground.data }, { on := 16, ground := Ground.guard }], guard := some (16, true) }) (v := ?_) rfl (by kernel_rfl) (by kernel_rfl) (by kernel_rfl) (fun _ _ _ h => h) (Or.inl ⟨by rfl, ?_⟩) hS ?_
        rotate_left
        · intro w hSw; (try dsimp only at hSw); go_simp; try (with_reducible rfl)
        simp only [Act.put, List.setIfInBounds_toArray, List.set_cons_zero, List.set_cons_succ]
        refine wpAnyH_take (i := 21) (oi := { dst := some 45, op := Op.fieldAddr 53 (Operand.tmp 44) 0, type := 0, pos := "ref.go:48", after := #[{ on := 20, ground := Ground.data }, { on := 16, ground := Ground.guard }], guard := some (16, true) }) (v := ?_) rfl (by kernel_rfl) (by kernel_rfl) (by kernel_rfl) (fun _ _ _ h => h) (Or.inl ⟨by rfl, ?_⟩) hS ?_
        rotate_left
        · intro w hSw; (try dsimp only at hSw); go_simp; try (with_reducible rfl)
        simp only [Act.put, List.setIfInBounds_toArray, List.set_cons_zero, List.set_cons_succ]
        refine wpAnyH_take (i := 22) (oi := { dst := some 46, op := Op.load 9 (Operand.tmp 45), type := 9, pos := "ref.go:48", after := #[{ on := 21, ground := Ground.data }, { on := 16, ground := Ground.guard }], guard := some (16, true) }) (v := ?_) rfl (by kernel_rfl) (by kernel_rfl) (by kernel_rfl) (fun _ _ _ h => h) (Or.inl ⟨by rfl, ?_⟩) hS ?_
        rotate_left
        · intro w hSw; (try dsimp only at hSw); go_simp; try (with_reducible rfl)
        simp only [Act.put, List.setIfInBounds_toArray, List.set_cons_zero, List.set_cons_succ]
        refine wpAnyH_ready (rs := [23]) (by kernel_rfl) (by simp) ?_
        refine AllReadyH.cons (o := { dst := some 47, op := Op.call { callee := Callee.value (Operand.func 36), args := #[Operand.tmp 41, Operand.tmp 46], argTypes := #[9, 9] }, type := 4, pos := "ref.go:48", after := #[{ on := 17, ground := Ground.data }, { on := 22, ground := Ground.data }, { on := 16, ground := Ground.chain }, { on := 16, ground := Ground.guard }], guard := some (16, true) }) rfl ?_ AllReadyH.nil
        intro K hK
        go_simp
        go_at_call 36
        with_reducible refine (HOv.out _).mono ?_
        rintro e2 w4 ⟨rfl, b2⟩
        have T2 := hid (T1.out.on b2)
        first | refine hK.out _ _ ?_ (fun hS => ?_) | (go_wp2_with fail; refine hK.out _ _ ?_ (fun hS => ?_))
        · exact O.out _ T2.out
        clear hK K
        try simp only [Act.put, List.setIfInBounds_toArray, List.set_cons_zero, List.set_cons_succ]
        refine wpAnyH_take (i := 24) (oi := { dst := some 48, op := Op.unOp UnOp.not 4 (Operand.tmp 47), type := 4, pos := "ref.go:48", after := #[{ on := 23, ground := Ground.data }, { on := 16, ground := Ground.guard }], guard := some (16, true) }) (v := ?_) rfl (by kernel_rfl) (by kernel_rfl) (by kernel_rfl) (fun _ _ _ h => h) (Or.inl ⟨by rfl, ?_⟩) hS ?_
        rotate_left
        · intro w hSw; (try dsimp only at hSw); go_simp; try (with_reducible rfl)
        simp only [Act.put, List.setIfInBounds_toArray, List.set_cons_zero, List.set_cons_succ]
        refine wpAnyH_take (i := 25) (oi := { dst := some 49, op := Op.pick (Operand.tmp 40) (Operand.tmp 48) (Operand.const (Value.bool false)), type := 4, pos := "ref.go:48", after := #[{ on := 16, ground := Ground.data }, { on := 24, ground := Ground.data }, { on := 7, ground := Ground.guard }], guard := some (7, false) }) (v := ?_) rfl (by kernel_rfl) (by kernel_rfl) (by kernel_rfl) (fun _ _ _ h => h) (Or.inl ⟨by rfl, ?_⟩) hS ?_
        rotate_left
        · intro w hSw; (try dsimp only at hSw); go_simp; try (with_reducible rfl)
        simp only [Act.put, List.setIfInBounds_toArray, List.set_cons_zero, List.set_cons_succ]
        refine wpAnyH_take (i := 26) (oi := { dst := some 50, op := Op.pick (Operand.tmp 31) (Operand.const (Value.bool true)) (Operand.tmp 49), type := 4, pos := "ref.go:48", after := #[{ on := 7, ground := Ground.data }, { on := 25, ground := Ground.data }], guard := none }) (v := ?_) rfl (by kernel_rfl) (by kernel_rfl) (by kernel_rfl) (fun _ _ _ h => h) (Or.inl ⟨by rfl, ?_⟩) hS ?_
        rotate_left
        · intro w hSw; (try dsimp only at hSw); go_simp; try (with_reducible rfl)
        simp only [Act.put, List.setIfInBounds_toArray, List.set_cons_zero, List.set_cons_succ]
        refine wpAnyH_done (by kernel_rfl) ?_ _
        clear hS
        have T := hid (T2.out)
        have HE2 := hid (HYes1.out (by rw [HU.out, hu1]; rfl))
        have RR := hid (range_att (RLw.out _ T.out))
        clear T0 T0d O T1 T2 b1 b2 HE hu2 hu3
        have L8 := hid (len_refa8 a2)
        have hst := eight_store9 a2 w4
        go_upto_region 8 with (first
          | (with_reducible refine wpList_load_mid (op := ⟨some 55, _, _, _, _, _⟩) rfl 51 (.tmp 54) rfl bv (i * 10 + 2) rfl (rowA a2).toList _ RR.out Tryd.underlying51 rfl (by have h := L8.out; simpa using h) ?_))
        obtain ⟨W3, hW3⟩ : ∃ W3, (w4.alloc (.cells #[.int .i64 0, .int .i64 0, .int .i64 0, .int .i64 0, .int .i64 0, .int .i64 0, .int .i64 0, .int .i64 0] 51)).setRow w4.heap.size (rowA a2) = W3 := ⟨_, rfl⟩
        rw [hW3]
        obtain ⟨Q0, KB⟩ := eight_box9 hW3
        have T3 := hid (T.out.on KB.out)
        have hpg : Hid (g + 1 + 1 + 1 < w4.heap.size) := hid T.out.lt
        clear hW3 hst KB T RR
        obtain ⟨p, hp⟩ : ∃ p, w4.heap.size = p := ⟨_, rfl⟩
        rw [hp] at Q0 hpg
        rw [hp]
        clear hp
        have hb0 := HFn.out.at 0
        obtain ⟨x0, hx0⟩ : ∃ x, a2 0 = x := ⟨_, rfl⟩
        have c0 := Q0.out.att (i := 0) (by decide)
        have fr := Q0.out.frozen 0
        have HC := hid (fun w => refcut_any (x0 + 1) w)
        have HNx : Hid (nextF a2 = upd a2 0 (cutS (x0 + 1))) := hid (by unfold nextF; rw [hx0])
        simp only [hx0] at c0 hb0
        obtain ⟨cu, hcu⟩ : ∃ cu, cutS (x0 + 1) = cu := ⟨_, rfl⟩
        rw [hcu] at HC HNx
        clear hx0 hcu
        go_wp2_with fail
        with_reducible refine (HC.out _).mono ?_
        rintro e5 w5 ⟨rfl, rfl⟩
        go_upto_region 9 with fail
        obtain ⟨W4, hW4⟩ : ∃ W4, W3.setCell ⟨p, 0, none⟩ (.int .i64 cu) = W4 := ⟨_, rfl⟩
        rw [hW4]
        have Q1 : Hid (Blk W4 p 51 (rowA (nextF a2))) := hid (by rw [← hW4, HNx.out]; exact Q0.out.attSet 0 _)
        have T4 : Hid (AskAt g w W4 (.slice (some ⟨bv, 0, none⟩) l.length cap) l (cellsOf ⟨k, u, f, q', s', m', n, t⟩) r s (ah M)) := hid (by rw [← hW4]; exact T3.out.onb ((Below.refl p W3).setCell (p := ⟨p, 0, none⟩) (Nat.le_refl _) _) hpg.out)
        clear hW4 c0 fr Q0 T3 HNx HC
        have La := hid (len_refa8 (ah M))
        have Lb := hid (len_refa8 (nextF a2))
        have Ja := hid T4.out.2.2.2.2.1
        go_wp2_with (first
          | (with_reducible refine wpList_load_row (o := ⟨some 61, _, _, _, _, _⟩) rfl 51 (.tmp 7) rfl (g + 1 + 1 + 1) rfl 51 (rowA (ah M)) (0, 0) _ Ja.out.heap Tryd.underlying51 rfl La.out ?_)
          | (with_reducible refine wpList_load_row (o := ⟨some 62, _, _, _, _, _⟩) rfl 51 (.tmp 11) rfl p rfl 51 (rowA (nextF a2)) (0, 0) _ Q1.out.heap Tryd.underlying51 rfl Lb.out ?_))
        with_reducible refine (refmerge_any (ah M) (nextF a2) _).mono ?_
        rintro e6 w6 ⟨rfl, hb6⟩
        have T5 := hid (T4.out.on hb6)
        clear hb6 Q1 T4 Ja La Lb
        have HE3 : Hid (ah (M ++ [⟨f2, u2, a2⟩]) = mx (ah M) (nextF a2)) := HE2
        obtain ⟨H, hH⟩ : ∃ H, mx (ah M) (nextF a2) = H := ⟨_, rfl⟩
        rw [hH] at HE3
        rw [hH]
        clear hH HE2
        have T6 := hid (T5.out.turn H)
        have Jb := hid T5.out.2.2.2.2.1
        have L1 := hid (len_refa8 H)
        have L2 := hid (show (rowA (ah M)).size = (rowA H).size by rw [rowA_size, rowA_size])
        have L3 := hid (rowA_one H)
        go_wp2_with (first
          | (with_reducible refine wpList_store_row (o := ⟨none, _, _, _, _, _⟩) rfl 51 (.tmp 7) (.tmp 63) rfl (g + 1 + 1 + 1) (rowA H) rfl rfl 51 _ Jb.out.heap L1.out L2.out L3.out ?_))
        go_roundw
        case rel => exact ⟨i + 1, by omega, by go_num, hid (by rw [HTk.out, HE3.out]; exact T6.out)⟩
        case measure => simp only [intOf]; omega
    · have hi2 : i = l.length := by omega
      subst hi2
      rw [List.take_length] at HE
      obtain ⟨G, hG⟩ : ∃ G, ah l = G := ⟨_, rfl⟩
      rw [hG] at HE HOwn
      clear hG HNo HYes HFr
      obtain ⟨⟨i0, i1⟩, _, _⟩ := blkn HE.out.2.2.1
      go_wp2_with fail
      with_reducible refine (nrefright_any r s _).mono ?_
      rw [HY.out]
      rintro e w2 ⟨rfl, hb⟩
      have T1 := hid (HE.out.on hb)
      clear i0 i1 hb HE
      cases y
      · have HV2 : Hid (R = G) := hid (by rw [HOwn.out]; simp)
        have L1 := hid (len_refa8 G)
        have L2 := hid (show (rowA fun _ => (0 : Int)).size = (rowA G).size by rw [rowA_size, rowA_size])
        have L3 := hid (rowA_one G)
        have J1 := hid T1.out.2.2.2.2.1
        have J2 := hid T1.out.2.2.2.1
        go_wp2_with (first
          | (with_reducible refine wpList_load_row (o := ⟨some 72, _, _, _, _, _⟩) rfl 51 (.tmp 7) rfl (g + 1 + 1 + 1) rfl 51 (rowA G) (0, 0) _ J1.out.heap Tryd.underlying51 rfl L1.out ?_)
          | (with_reducible refine wpList_store_row (o := ⟨none, _, _, _, _, _⟩) rfl 51 (.tmp 6) (.tmp 72) rfl (g + 1 + 1) (rowA G) rfl rfl 51 _ J2.out.heap L1.out L2.out L3.out ?_))
        exact bodyPost_ret (v := .agg (rowA G)) (results_cell_row (p := 6) (ty := 51) (by kernel_rfl) _ _ (g + 1 + 1) 51 (rowA G) (0, 0) _ rfl (setRow_heap w2 (g + 1 + 1) _ (rowA G) _ _ J2.out.heap) Tryd.underlying51 rfl L1.out) rfl ⟨by rw [HV2.out], by rw [HK.out]; exact below_setRow_ T1.out.2.2.2.2.2 (by omega)⟩
      · obtain ⟨a, b, rfl, rfl, ha, hb⟩ := HNm.out rfl
        have HV2 : Hid (R = upd G (1 + a) b) := hid (by rw [HOwn.out]; simp)
        have ha' : (a : Int) < 7 := by omega
        have Q0 := hid T1.out.2.2.2.2.1
        have J2 := hid T1.out.2.2.2.1
        have JB := hid T1.out.2.2.2.2.2
        obtain ⟨⟨c0, c1⟩, _, _⟩ := blkn T1.out.2.2.1
        have g0 := Q0.out.att (i := 1 + a) (by omega)
        have f0 := Q0.out.frozen (1 + a)
        go_upto_region 12 with fail
        obtain ⟨W2, hW2⟩ : ∃ W2, w2.setCell ⟨g + 1 + 1 + 1, 1 + a, none⟩ (.int .i64 (b : Int)) = W2 := ⟨_, rfl⟩
        rw [hW2]
        have E0 : Hid (Blk W2 (g + 1 + 1 + 1) 51 (rowA (upd G (1 + a) b))) := hid (by rw [← hW2]; exact Q0.out.attSet _ _)
        have E2 : Hid (Blk W2 (g + 1 + 1) 51 (rowA fun _ => 0)) := hid (by rw [← hW2]; exact J2.out.far (by simp <;> omega) _)
        have EB : Hid (Below g w W2) := hid (by rw [← hW2]; exact JB.out.setCell (by simp; omega) _)
        clear hW2 c0 c1 g0 f0 Q0 J2 JB T1 HOwn
        obtain ⟨H, hH⟩ : ∃ H, upd G (1 + a) b = H := ⟨_, rfl⟩
        rw [hH] at E0 HV2
        clear hH
        have L1 := hid (len_refa8 H)
        have L2 := hid (show (rowA fun _ => (0 : Int)).size = (rowA H).size by rw [rowA_size, rowA_size])
        have L3 := hid (rowA_one H)
        go_wp2_with (first
          | (with_reducible refine wpList_load_row (o := ⟨some 72, _, _, _, _, _⟩) rfl 51 (.tmp 7) rfl (g + 1 + 1 + 1) rfl 51 (rowA H) (0, 0) _ E0.out.heap Tryd.underlying51 rfl L1.out ?_)
          | (with_reducible refine wpList_store_row (o := ⟨none, _, _, _, _, _⟩) rfl 51 (.tmp 6) (.tmp 72) rfl (g + 1 + 1) (rowA H) rfl rfl 51 _ E2.out.heap L1.out L2.out L3.out ?_))
        exact bodyPost_ret (v := .agg (rowA H)) (results_cell_row (p := 6) (ty := 51) (by kernel_rfl) _ _ (g + 1 + 1) 51 (rowA H) (0, 0) _ rfl (setRow_heap W2 (g + 1 + 1) _ (rowA H) _ _ E2.out.heap) Tryd.underlying51 rfl L1.out) rfl ⟨by rw [HV2.out], by rw [HK.out]; exact below_setRow_ EB.out (by omega)⟩

end Go.Proofs.YtpdfakjopeldmaaDoor
