/-
  A message is guessed off a text (package msg).
-/
import Derived.Test.YtohffiehmmcgbaaGreatDoorXYuShow
namespace Go.Proofs.YtohffiehmmcgbaaGreatDoor
open Go.ChangeShapes Go.WideShapes Go.ChangeAt Go.RowKit Go.Lib
set_option linter.unusedVariables false
set_option linter.unusedSimpArgs false
abbrev mrowZ : Array Value := #[.int .i64 0, .int .i64 0, .int .i64 0, .int .i64 0, .int .i64 0, .int .u32 0, .bool false, .int .i64 0, .int .i64 0, .int .i64 0, .int .u32 0, .int .u32 0, .bool false, .int .i64 0, .int .u64 0, .string ⟨#[]⟩, .int .u64 0, .string ⟨#[]⟩, .int .i64 0, .int .u64 0, .int .i64 0, .int .i64 0, .int .i64 0, .int .i64 0, .int .i64 0, .int .i64 0, .int .i64 0, .int .i64 0, .int .i64 0]
theorem mrowZ_is : mrowZ = rowM zeroM := rfl
abbrev sixZ : Array Value := #[.string ⟨#[]⟩, .string ⟨#[]⟩, .string ⟨#[]⟩, .string ⟨#[]⟩, .string ⟨#[]⟩, .string ⟨#[]⟩]
def sixP (P : List ByteArray) : Array Value := #[.string (pB P 0), .string (pB P 1), .string (pB P 2), .string (pB P 3), .string (pB P 4), .string (pB P 5)]
theorem six_put : ∀ (P : List ByteArray), P.length ≤ 6 → putAtJ sixZ 0 (P.map Value.string) = sixP P
  | [], _ => rfl
  | [_], _ => rfl
  | [_, _], _ => rfl
  | [_, _, _], _ => rfl
  | [_, _, _, _], _ => rfl
  | [_, _, _, _, _], _ => rfl
  | [_, _, _, _, _, _], _ => rfl
  | _ :: _ :: _ :: _ :: _ :: _ :: _ :: _, h => by simp only [List.length_cons] at h; omega
theorem put_knownU (k a b r s bal : Int) (ok : Bool) (x y : J) : putAtJ (rowM ⟨k, a, b, r, s, bal, ok, x⟩) 7 (lsJ y) = rowM ⟨k, a, b, r, s, bal, ok, y⟩ := by
  simp only [putAtJ, rowM, lsJ, List.setIfInBounds_toArray, List.set_cons_zero, List.set_cons_succ]
theorem splitn6 (t : ByteArray) (m : Int) (w : World) (hz : t.size ≤ 100000) (hm : w.cell? ⟨4, 0, none⟩ = some (.int .i64 m)) :
    Calls Tryz.prog 116 #[.string t, .string ⟨#[32]⟩, .int .i64 6] w fun e w' =>
      e = .returned (.slice (some ⟨w.heap.size, 0, none⟩) (wordsM t).length (min 6 (t.size + 1))) ∧ w' = w.alloc (.cells (Lib.cellsOf (wordsM t) (min 6 (t.size + 1))) 9) := Tryz.strings_SplitN t ⟨#[32]⟩ 6 m w (by omega) hm (by decide) (by decide) (by decide)
theorem atoi11 (s : ByteArray) (w : World) (hs : s.size ≤ 100000) (hL : Laid w) : Calls Tryz.prog 136 #[.string s] w fun e w' => (∃ (v : Int) (er : Value), e = .returned (.tuple #[.int .i64 v, er]) ∧ ∀ x, atoiAll (Sb s) = .ok x → v = x) ∧ Below w.heap.size w w' := by
  refine (atoi_any s w (by omega) hL).mono ?_
  rintro e w1 ⟨hb, ⟨v, hv, rfl⟩ | ⟨hv, v, N, rfl⟩⟩
  · exact ⟨⟨v, _, rfl, fun x hx => by rw [hv] at hx; injection hx⟩, hb⟩
  · exact ⟨⟨v, _, rfl, fun x hx => absurd hx (hv x)⟩, hb⟩
theorem cut_sizesM {c : UInt8} {l x y : List UInt8} (h : cutN c l = (x, y)) : x.length ≤ l.length ∧ y.length ≤ l.length := by
  rcases cutN_index c l with ⟨_, h2⟩ | ⟨k, _, _, h2⟩
  · rw [h] at h2
    injection h2 with h3 h4
    subst h3 h4
    exact ⟨Nat.le_refl _, Nat.zero_le _⟩
  · rw [h] at h2
    injection h2 with h3 h4
    subst h3 h4
    simp only [List.length_take, List.length_drop]
    omega
theorem jread_known (t : ByteArray) (w : World) (hz : t.size ≤ 100000) (hL : All10 w) :
    Calls Tryz.prog 23 #[.string t] w fun e w' => (∃ (y : J) (er : Int), e = .returned (.tuple #[.agg (rowJ y), .int .i64 er]) ∧ KnownJ t y) ∧ Below w.heap.size w w' := by
  refine (jread_any t w hz hL).mono ?_
  rintro e w1 ⟨⟨x, hg, ⟨h1, h2, rfl⟩ | ⟨hn, rfl⟩⟩, hb⟩
  · exact ⟨⟨x, 0, rfl, x, hg, .inl ⟨h1, h2, rfl⟩⟩, hb⟩
  · exact ⟨⟨zeroJ, 10, rfl, x, hg, .inr ⟨hn, rfl⟩⟩, hb⟩
theorem cut_two {l x y : List UInt8} (h : cutN 62 l = (x, y)) (a b : Nat) (ha : a ≤ 6) (hb : b ≤ 6) (hl : l = toT a b) : atoiAll x = .ok (a : Int) ∧ atoiAll y = .ok (b : Int) := by
  subst hl
  unfold toT at h
  rw [cutN_app 62 _ _ (itoa_none (a : Int) 62 (by decide) (by decide))] at h
  injection h with h1 h2
  subst h1 h2
  exact ⟨atoi_itoa _ (by omega) (by omega), atoi_itoa _ (by omega) (by omega)⟩
def GuM0 (w0 : World) (k n : Nat) (w : World) (P : List ByteArray) : Prop := Blk w n 173 (sixP P) ∧ Blk w k 64 (rowM zeroM) ∧ Below k w0 w ∧ (All11 w0 ∧ w0.heap.size = k) ∧ k < n
def GuM (w0 : World) (k n m : Nat) (w : World) (P : List ByteArray) (x : Ms) : Prop := GuM0 w0 k n w P ∧ Blk w m 64 (rowM x) ∧ n < m
section
variable {w0 w w' : World} {k n m : Nat} {P : List ByteArray} {x : Ms}
theorem GuM0.on (h : GuM0 w0 k n w P) (hb : Below w.heap.size w w') : GuM0 w0 k n w' P := by
  obtain ⟨h1, h2, h4, h5, h6⟩ := h
  exact ⟨h1.below hb h1.lt, h2.below hb h2.lt, below_pay h4 (by have := h2.lt; omega) hb, h5, h6⟩
theorem GuM0.drew (h : GuM0 w0 k n w P) : GuM0 w0 k n w.drew P := ⟨h.1.drew, h.2.1.drew, below_drew h.2.2.1, h.2.2.2⟩
theorem GuM0.all (h : GuM0 w0 k n w P) : All11 w := h.2.2.2.1.1.below (by rw [h.2.2.2.1.2]; exact h.2.2.1)
theorem GuM0.word (h : GuM0 w0 k n w P) (i : Nat) {v : Value} (hv : (sixP P)[i]? = some v) : w.cell? ⟨n, i, none⟩ = some v := (h.1.cell i).trans hv
theorem GuM0.sets (h : GuM0 w0 k n w P) (hm : n < m) (o : Nat) (ds : List Value) : GuM0 w0 k n (w.setCells m o ds) P := by
  obtain ⟨h1, h2, h4, h5, h6⟩ := h
  exact ⟨Blk.setsFarJ (by omega) ds w o h1, Blk.setsFarJ (by omega) ds w o h2, below_setsJ (by omega) ds w o h4, h5, h6⟩
theorem GuM0.row (h : GuM0 w0 k n w P) (hm : n < m) (cs : Array Value) : GuM0 w0 k n (w.setRow m cs) P := by
  obtain ⟨h1, h2, h4, h5, h6⟩ := h
  exact ⟨h1.rowFar (by omega) _, h2.rowFar (by omega) _, below_setRow_ h4 (by omega), h5, h6⟩
theorem GuM0.lt (h : GuM0 w0 k n w P) : n < w.heap.size := h.1.lt
theorem GuM.on (h : GuM w0 k n m w P x) (hb : Below w.heap.size w w') : GuM w0 k n m w' P x := ⟨h.1.on hb, h.2.1.below hb h.2.1.lt, h.2.2⟩
theorem GuM.res (h : GuM w0 k n m w P x) : Blk w k 64 (rowM zeroM) := h.1.2.1
theorem GuM.box (h : GuM w0 k n m w P x) : Blk w m 64 (rowM x) := h.2.1
theorem GuM.bel (h : GuM w0 k n m w P x) : Below k w0 w := h.1.2.2.1
theorem GuM.all (h : GuM w0 k n m w P x) : All11 w := h.1.all
theorem GuM.word (h : GuM w0 k n m w P x) (i : Nat) {v : Value} (hv : (sixP P)[i]? = some v) : w.cell? ⟨n, i, none⟩ = some v := h.1.word i hv
theorem GuM.sets (h : GuM w0 k n m w P x) (o : Nat) (ds : List Value) {y : Ms} (hd : putAtJ (rowM x) o ds = rowM y) : GuM w0 k n m (w.setCells m o ds) P y := ⟨h.1.sets h.2.2 o ds, hd ▸ Blk.setsJ ds w _ o h.2.1, h.2.2⟩
theorem GuM.set_ (h : GuM w0 k n m w P x) (i : Nat) (u : Value) {y : Ms} (hd : (rowM x).setIfInBounds i u = rowM y) : GuM w0 k n m (w.setCell ⟨m, i, none⟩ u) P y := h.sets i [u] hd
end
set_option maxRecDepth 100000 in
set_option maxHeartbeats 8000000 in
theorem mguess_any (t : ByteArray) (w : World) (hz : t.size ≤ 100000) (hL : All11 w) :
    Calls Tryz.prog 88 #[.string t] w fun e w' => (∃ m : Ms, e = .returned (.agg (rowM m)) ∧ GuessM (wordsM t) m) ∧ Below w.heap.size w w' := by
  obtain ⟨mx, hmx⟩ := hL.ten.max
  have HL := hid hL
  have HW := hid (wordsM_len t)
  obtain ⟨P, hP⟩ : ∃ P, wordsM t = P := ⟨_, rfl⟩
  have HPS : Hid (∀ i, (pB P i).size ≤ t.size) := hid (fun i => by rw [← hP]; exact pM_size t i)
  have HPW := hid hP
  rw [hP] at HW ⊢
  obtain ⟨N, hN⟩ : ∃ N, min 6 (t.size + 1) = N := ⟨_, rfl⟩
  rw [hN] at HW
  have hN7 : N ≤ 6 := by omega
  have hP7 : P.length ≤ 6 := by have := HW.out; omega
  have HNN := hid hN
  clear hL hP hN
  go_enter Tryz.func88, Tryz.ntmps88
  go_upto_region 2 with fail
  obtain ⟨W, hW⟩ : ∃ W, (w.alloc (.cells mrowZ 64)).alloc (.cells sixZ 173) = W := ⟨_, rfl⟩
  rw [hW]
  obtain ⟨K0, K1, KB⟩ := two_new hW
  rw [mrowZ_is] at K0
  have LW := hid (HL.out.below KB.out)
  have MW : W.cell? ⟨4, 0, none⟩ = some (.int .i64 mx) := cell_later KB.out hmx
  clear hW hmx
  obtain ⟨k, hk⟩ : ∃ k, w.heap.size = k := ⟨_, rfl⟩
  rw [hk] at K0 K1 KB
  rw [hk]
  have HK := hid hk
  clear hk
  obtain ⟨q, hq⟩ : ∃ q, W.heap.size = q := ⟨_, rfl⟩
  have hkq : k + 1 < q := by have := K1.out.lt; omega
  refine wp_region_held_drew (S := (fun _ => True)) (by kernel_rfl) (by exact trivial) (fun hHeld => ?_)
  refine wpAnyH_take (i := 0) (oi := _) (v := ?_) rfl (by kernel_rfl) (by kernel_rfl) (by kernel_rfl) (fun _ _ _ h => h) (Or.inl ⟨by kernel_rfl, ?_⟩) hHeld ?_
  rotate_left 1
  focus (intro w' hSw; (try dsimp only at hSw); go_simp; try with_reducible rfl)
  try simp only [Act.put, List.getElem_toArray, List.getElem_cons_zero, List.getElem_cons_succ, List.setIfInBounds_toArray, List.set_cons_zero, List.set_cons_succ]
  refine wpAnyH_take (i := 1) (oi := _) (v := ?_) rfl (by kernel_rfl) (by kernel_rfl) (by kernel_rfl) (fun _ _ _ h => h) (Or.inl ⟨by kernel_rfl, ?_⟩) hHeld ?_
  rotate_left 1
  focus (intro w' hSw; (try dsimp only at hSw); go_simp; try with_reducible rfl)
  try simp only [Act.put, List.getElem_toArray, List.getElem_cons_zero, List.getElem_cons_succ, List.setIfInBounds_toArray, List.set_cons_zero, List.set_cons_succ]
  refine wpAnyH_ready (rs := [2]) (by kernel_rfl) (by simp) ?_
  refine AllReadyH.cons (o := _) rfl (fun K hK => ?_) AllReadyH.nil
  go_simp
  go_at_call 116
  with_reducible refine (splitn6 t mx W.drew hz (by simpa using MW)).mono ?_
  rw [HPW.out, HNN.out]
  rintro e w1 ⟨rfl, hw1⟩
  have hqd : W.drew.heap.size = q := hq
  rw [hqd]
  have E0 : Hid (Blk w1 k 64 (rowM zeroM)) := hid (by rw [hw1]; exact K0.out.drew.alloc _)
  have E1 : Hid (Blk w1 (k + 1) 173 sixZ) := hid (by rw [hw1]; exact K1.out.drew.alloc _)
  have EB : Hid (Below k w w1) := hid (by rw [hw1]; exact (below_drew KB.out).trans ((Below.refl k W.drew).alloc (by omega) _))
  have EC : Hid (∀ (j : Nat) (u : Value), (P.map Value.string)[j]? = some u → w1.cell? ⟨q, j, none⟩ = some u) := hid (by
        intro j u hj
        rw [hw1, ← hqd]
        have h1 := (Blk.new W.drew 9 (Lib.cellsOf P N)).cell j
        rw [h1]
        unfold Lib.cellsOf
        have hlt : j < (P.map Value.string).length := (List.getElem?_eq_some_iff.1 hj).1
        rw [List.getElem?_toArray, List.getElem?_append_left hlt]
        exact hj)
  have EZ : Hid (w1.heap.size = q + 1) := hid (by rw [hw1]; simp; omega)
  clear hw1
  refine hK.out _ _ (by exact trivial) (fun hHeld => ?_)
  clear hK K
  try simp only [Act.put, List.getElem_toArray, List.getElem_cons_zero, List.getElem_cons_succ, List.setIfInBounds_toArray, List.set_cons_zero, List.set_cons_succ]
  refine wpAnyH_ready (rs := [3]) (by kernel_rfl) (by simp) ?_
  refine AllReadyH.cons (o := _) rfl (fun K hK => ?_) AllReadyH.nil
  have RC := run_copy_cells (P := Tryz.prog) w1 100 100 3 9 (k + 1) 0 6 6 ⟨q, 0, none⟩ P.length N (P.map Value.string) Tryz.underlying100 (by kernel_rfl) (by rw [List.length_map]; exact (Nat.min_eq_left hP7).symm) (by intro j u hj; have h := EC.out j u hj; by_cases h0 : j = 0; { subst h0; simpa [Addr.add] using h }; { simpa [Addr.add, h0] using h }) (fun j hj => by rw [Nat.zero_add]; exact (E1.out.thereJ (o := 0) (m := 6) (by decide) j (by simp at hj; omega)).1 |> fun h => by simpa using h) (fun j hj => by exact E1.out.frozen _) (by intro u hu; obtain ⟨p, _, rfl⟩ := List.mem_map.1 hu; rfl)
  go_simp
  refine hK.out _ _ (by exact trivial) (fun hHeld => ?_)
  clear hK K
  try simp only [Act.put, List.getElem_toArray, List.getElem_cons_zero, List.getElem_cons_succ, List.setIfInBounds_toArray, List.set_cons_zero, List.set_cons_succ]
  refine wpAnyH_done (by kernel_rfl) ?_ _
  clear hHeld
  obtain ⟨W2, hW2⟩ : ∃ W2, w1.setCells (k + 1) 0 (P.map Value.string) = W2 := ⟨_, rfl⟩
  rw [hW2]
  have F1 : Hid (Blk W2 (k + 1) 173 (sixP P)) := hid (by rw [← hW2, ← six_put P hP7]; exact Blk.setsJ (P.map Value.string) w1 sixZ 0 E1.out)
  have F0 : Hid (Blk W2 k 64 (rowM zeroM)) := hid (by rw [← hW2]; exact Blk.setsFarJ (by omega) (P.map Value.string) w1 0 E0.out)
  have FB : Hid (Below k w W2) := hid (by rw [← hW2]; exact below_setsJ (by omega) (P.map Value.string) w1 0 EB.out)
  have G0 : Hid (GuM0 w k (k + 1) W2 P) := hid ⟨F1.out, F0.out, FB.out, ⟨HL.out, HK.out⟩, by omega⟩
  clear hW2 E0 E1 EB EC EZ K0 K1 KB LW MW hq hkq F1 F0 FB HL hqd
  obtain ⟨p0, hp0⟩ : ∃ p, pB P 0 = p := ⟨_, rfl⟩
  obtain ⟨p1, hp1⟩ : ∃ p, pB P 1 = p := ⟨_, rfl⟩
  obtain ⟨p2, hp2⟩ : ∃ p, pB P 2 = p := ⟨_, rfl⟩
  obtain ⟨p3, hp3⟩ : ∃ p, pB P 3 = p := ⟨_, rfl⟩
  obtain ⟨p4, hp4⟩ : ∃ p, pB P 4 = p := ⟨_, rfl⟩
  obtain ⟨p5, hp5⟩ : ∃ p, pB P 5 = p := ⟨_, rfl⟩
  have HQ : Hid (sixP P = #[.string p0, .string p1, .string p2, .string p3, .string p4, .string p5]) := hid (by unfold sixP; rw [hp0, hp1, hp2, hp3, hp4, hp5])
  have Z0 : Hid (p0.size ≤ t.size) := hid (hp0 ▸ HPS.out 0)
  have HP0 := hid hp0
  have Z1 : Hid (p1.size ≤ t.size) := hid (hp1 ▸ HPS.out 1)
  have HP1 := hid hp1
  have Z2 : Hid (p2.size ≤ t.size) := hid (hp2 ▸ HPS.out 2)
  have HP2 := hid hp2
  have Z3 : Hid (p3.size ≤ t.size) := hid (hp3 ▸ HPS.out 3)
  have HP3 := hid hp3
  have Z4 : Hid (p4.size ≤ t.size) := hid (hp4 ▸ HPS.out 4)
  have HP4 := hid hp4
  have Z5 : Hid (p5.size ≤ t.size) := hid (hp5 ▸ HPS.out 5)
  have HP5 := hid hp5
  clear hp0 hp1 hp2 hp3 hp4 hp5
  obtain ⟨kk, hkk⟩ : ∃ x, kindM (Sb p0) = x := ⟨_, rfl⟩
  have KI := hid hkk
  obtain ⟨ok, hok⟩ : ∃ b, decide (p4 = ⟨#[121, 101, 115]⟩) = b := ⟨_, rfl⟩
  have OK := hid hok
  have hq4 : (p4.toList == [121, 101, 115]) = ok := by
    rw [show ([121, 101, 115] : List UInt8) = (⟨#[121, 101, 115]⟩ : ByteArray).toList by rw [ByteArray.toList_eq], Sb_eq, ← hok]
    congr 1
    exact propext Sb_inj
  clear hok hkk
  have C0 : Hid (∀ w', GuM0 w k (k + 1) w' P → w'.cell? ⟨k + 1, 0, none⟩ = some (.string p0)) := hid (fun w' h => h.word 0 (by rw [HQ.out]; rfl))
  have C4 : Hid (∀ w', GuM0 w k (k + 1) w' P → w'.cell? ⟨k + 1, 4, none⟩ = some (.string p4)) := hid (fun w' h => h.word 4 (by rw [HQ.out]; rfl))
  have N1 := hid (len_msg ⟨kk, 0, 0, 0, 0, 0, ok, zeroJ⟩)
  have N3 := hid (rowM_one ⟨kk, 0, 0, 0, 0, 0, ok, zeroJ⟩)
  go_upto_region 3 with fail
  refine wp_region_held_drew (S := (fun w' => GuM0 w k (k + 1) w' P)) (by kernel_rfl) (by exact G0.out.drew) (fun hHeld => ?_)
  refine wpAnyH_take (i := 0) (oi := _) (v := ?_) rfl (by kernel_rfl) (by kernel_rfl) (by kernel_rfl) (fun _ _ _ h => h) (Or.inl ⟨by kernel_rfl, ?_⟩) hHeld ?_
  rotate_left 1
  focus (intro w' hSw; (try dsimp only at hSw); go_simp; try with_reducible rfl)
  try simp only [Act.put, List.getElem_toArray, List.getElem_cons_zero, List.getElem_cons_succ, List.setIfInBounds_toArray, List.set_cons_zero, List.set_cons_succ]
  refine wpAnyH_take (i := 1) (oi := _) (v := ?_) rfl (by kernel_rfl) (by kernel_rfl) (by kernel_rfl) (fun _ _ _ h => h) (Or.inl ⟨by kernel_rfl, ?_⟩) hHeld ?_
  rotate_left 1
  focus (intro w' hSw; (try dsimp only at hSw); have q0 := C0.out _ hSw; go_simp; try with_reducible rfl)
  try simp only [Act.put, List.getElem_toArray, List.getElem_cons_zero, List.getElem_cons_succ, List.setIfInBounds_toArray, List.set_cons_zero, List.set_cons_succ]
  refine wpAnyH_take (i := 3) (oi := _) (v := ?_) rfl (by kernel_rfl) (by kernel_rfl) (by kernel_rfl) (fun _ _ _ h => h) (Or.inl ⟨by kernel_rfl, ?_⟩) hHeld ?_
  rotate_left 1
  focus (intro w' hSw; (try dsimp only at hSw); go_simp; try with_reducible rfl)
  try simp only [Act.put, List.getElem_toArray, List.getElem_cons_zero, List.getElem_cons_succ, List.setIfInBounds_toArray, List.set_cons_zero, List.set_cons_succ]
  refine wpAnyH_take (i := 4) (oi := _) (v := ?_) rfl (by kernel_rfl) (by kernel_rfl) (by kernel_rfl) (fun _ _ _ h => h) (Or.inl ⟨by kernel_rfl, ?_⟩) hHeld ?_
  rotate_left 1
  focus (intro w' hSw; (try dsimp only at hSw); have q0 := C4.out _ hSw; go_simp; try with_reducible rfl)
  try simp only [Act.put, List.getElem_toArray, List.getElem_cons_zero, List.getElem_cons_succ, List.setIfInBounds_toArray, List.set_cons_zero, List.set_cons_succ]
  refine wpAnyH_take (i := 5) (oi := _) (v := ?_) rfl (by kernel_rfl) (by kernel_rfl) (by kernel_rfl) (fun _ _ _ h => h) (Or.inl ⟨by kernel_rfl, ?_⟩) hHeld ?_
  rotate_left 1
  focus (intro w' hSw; (try dsimp only at hSw); go_simp; try with_reducible rfl)
  try simp only [Act.put, List.getElem_toArray, List.getElem_cons_zero, List.getElem_cons_succ, List.setIfInBounds_toArray, List.set_cons_zero, List.set_cons_succ]
  refine wpAnyH_ready (rs := [2, 7]) (by kernel_rfl) (by simp) ?_
  refine AllReadyH.cons (o := _) rfl (fun K hK => ?_) (AllReadyH.cons (o := _) rfl (fun K hK => ?_) AllReadyH.nil)
  · go_simp
    go_at_call 134
    with_reducible refine (kindof11 p0 _ G0.out.drew.all.msgs).mono ?_
    rw [show L p0 = Sb p0 from rfl, KI.out]
    rintro e w3 ⟨rfl, hb⟩
    have G1 := hid (G0.out.drew.on hb)
    clear hb G0
    refine hK.out _ _ (by exact G1.out) (fun hHeld => ?_)
    clear hK K
    try simp only [Act.put, List.getElem_toArray, List.getElem_cons_zero, List.getElem_cons_succ, List.setIfInBounds_toArray, List.set_cons_zero, List.set_cons_succ]
    refine wpAnyH_take (i := 6) (oi := _) (v := ?_) rfl (by kernel_rfl) (by kernel_rfl) (by kernel_rfl) (fun _ _ _ h => h) (Or.inl ⟨by kernel_rfl, ?_⟩) hHeld ?_
    rotate_left 1
    focus (intro w' hSw; (try dsimp only at hSw); go_simp; try with_reducible rfl)
    try simp only [Act.put, List.getElem_toArray, List.getElem_cons_zero, List.getElem_cons_succ, List.setIfInBounds_toArray, List.set_cons_zero, List.set_cons_succ]
    refine wpAnyH_ready (rs := [7]) (by kernel_rfl) (by simp) ?_
    refine AllReadyH.cons (o := _) rfl (fun K hK => ?_) AllReadyH.nil
    go_simp
    have G2 := hid (G1.out.on ((Below.refl _ w3).alloc (Nat.le_refl _) (.cells mrowZ 64)))
    refine hK.out _ _ (by exact G2.out) (fun hHeld => ?_)
    clear hK K
    try simp only [Act.put, List.getElem_toArray, List.getElem_cons_zero, List.getElem_cons_succ, List.setIfInBounds_toArray, List.set_cons_zero, List.set_cons_succ]
    have E0 : Hid (Blk (w3.alloc (.cells mrowZ 64)) w3.heap.size 64 mrowZ) := hid (Blk.new w3 64 mrowZ)
    have hkw : k + 1 < w3.heap.size := G1.out.lt
    obtain ⟨WA, hWA⟩ : ∃ WA, w3.alloc (.cells mrowZ 64) = WA := ⟨_, rfl⟩
    obtain ⟨m, hm⟩ : ∃ m, w3.heap.size = m := ⟨_, rfl⟩
    rw [hWA] at E0 G2 hHeld
    rw [hm] at E0 hkw
    rw [hWA, hm]
    clear hWA hm G1
    refine wpAnyH_ready (rs := [8]) (by kernel_rfl) (by simp) ?_
    refine AllReadyH.cons (o := _) rfl (fun K hK => ?_) AllReadyH.nil
    have G3 : Hid (GuM0 w k (k + 1) (World.setRow WA m (rowM ⟨kk, 0, 0, 0, 0, 0, ok, zeroJ⟩)) P) := hid (G2.out.row hkw _)
    refine ready_row (by kernel_rfl) 64 (.tmp 4) (.tmp 18) rfl m (rowM ⟨kk, 0, 0, 0, 0, 0, ok, zeroJ⟩) rfl rfl 64 mrowZ E0.out.heap N1.out rfl N3.out ?_
    refine hK.out _ _ (by exact G3.out) (fun hHeld => ?_)
    clear hK K
    try simp only [Act.put, List.getElem_toArray, List.getElem_cons_zero, List.getElem_cons_succ, List.setIfInBounds_toArray, List.set_cons_zero, List.set_cons_succ]
    refine wpAnyH_done (by kernel_rfl) ?_ _
    clear hHeld
    obtain ⟨W4, hW4⟩ : ∃ W4, World.setRow WA m (rowM ⟨kk, 0, 0, 0, 0, 0, ok, zeroJ⟩) = W4 := ⟨_, rfl⟩
    rw [hW4] at G3
    have A0 : Hid (GuM w k (k + 1) m W4 P ⟨kk, 0, 0, 0, 0, 0, ok, zeroJ⟩) := hid ⟨G3.out, by rw [← hW4]; exact E0.out.row _, hkw⟩
    rw [hW4]
    clear hW4 E0 G2 G3 hq4 C0 C4
    have c1 : W4.cell? ⟨k + 1, 1, none⟩ = some (.string p1) := A0.out.word 1 (by rw [HQ.out]; rfl)
    go_wp2_with fail
    with_reducible refine (cut9 62 p1 _ (by have := Z1.out; omega)).mono ?_
    rintro e w5 ⟨sa, sb, fl, rfl, hc, hb⟩
    have HC := hid hc
    have A1 := hid (A0.out.on hb)
    have ZZ := cut_sizesM hc
    rw [Sb_length, Sb_length, Sb_length] at ZZ
    have ZA := hid (show sa.size ≤ 100000 by have := Z1.out; omega)
    have ZB := hid (show sb.size ≤ 100000 by have := Z1.out; omega)
    clear hb hc c1 A0 ZZ
    go_wp2_with fail
    with_reducible refine (atoi11 sa _ ZA.out A1.out.all.ten.laid).mono ?_
    rintro e w6 ⟨⟨va, ea, rfl, hva⟩, hb⟩
    have VA := hid hva
    have A2 := hid (A1.out.on hb)
    clear hb hva A1
    have d1 := A2.out.box.m1
    have f1 := A2.out.box.frozen 1
    have A3 : Hid (GuM w k (k + 1) m (w6.setCell ⟨m, 1, none⟩ (.int .i64 va)) P ⟨kk, va, 0, 0, 0, 0, ok, zeroJ⟩) := hid (A2.out.set_ 1 (.int .i64 va) rfl)
    go_upto_region 6 with fail
    obtain ⟨W7, hW7⟩ : ∃ W7, w6.setCell ⟨m, 1, none⟩ (.int .i64 va) = W7 := ⟨_, rfl⟩
    rw [hW7] at A3
    rw [hW7]
    clear hW7 d1 f1 A2
    go_wp2_with fail
    with_reducible refine (atoi11 sb _ ZB.out A3.out.all.ten.laid).mono ?_
    rintro e w8 ⟨⟨vb, eb, rfl, hvb⟩, hb⟩
    have VB := hid hvb
    have A4 := hid (A3.out.on hb)
    clear hb hvb A3
    have d2 := A4.out.box.m2
    have f2 := A4.out.box.frozen 2
    have A5 : Hid (GuM w k (k + 1) m (w8.setCell ⟨m, 2, none⟩ (.int .i64 vb)) P ⟨kk, va, vb, 0, 0, 0, ok, zeroJ⟩) := hid (A4.out.set_ 2 (.int .i64 vb) rfl)
    go_upto_region 7 with fail
    obtain ⟨W9, hW9⟩ : ∃ W9, w8.setCell ⟨m, 2, none⟩ (.int .i64 vb) = W9 := ⟨_, rfl⟩
    rw [hW9] at A5
    rw [hW9]
    clear hW9 d2 f2 A4
    rcases hnm : nameOf (Sb p2) with ⟨⟨r, s⟩, er⟩
    have NM := hid hnm
    rcases hbl : ballotOf (Sb p3) with ⟨v, ev⟩
    have BL := hid hbl
    have VL : Hid (v < 4294967296) := hid (by have := ballotOf_lt (Sb p3); rw [hbl] at this; exact this)
    clear hnm hbl
    have c2 : W9.cell? ⟨k + 1, 2, none⟩ = some (.string p2) := A5.out.word 2 (by rw [HQ.out]; rfl)
    go_wp2_with fail
    with_reducible refine (readid_any p2 r s er _ (by have := Z2.out; omega) A5.out.all.ten.laid NM.out).mono ?_
    rintro e w10 ⟨rfl, hb⟩
    have A6 := hid (A5.out.on hb)
    clear hb c2 A5
    have TH := hid (show World.there w10 m 3 (#[.int .i64 r, .int .i64 s] : Array Value).size from A6.out.box.thereJ (o := 3) (m := 2) (by rw [rowM_size]; decide))
    have TL := hid (show (Tryz.prog.info? 25).map (·.size) = some (#[.int .i64 r, .int .i64 s] : Array Value).size by kernel_rfl)
    have TO := hid (show (#[.int .i64 r, .int .i64 s] : Array Value).all (·.oneCell') = true by simp [Value.oneCell'])
    have A7 : Hid (GuM w k (k + 1) m (w10.setCells m 3 [.int .i64 r, .int .i64 s]) P ⟨kk, va, vb, r, s, 0, ok, zeroJ⟩) := hid (A6.out.sets 3 [.int .i64 r, .int .i64 s] rfl)
    go_upto_region 8 with ((with_reducible refine wpList_store_mid (op := ⟨none, _, _, _, _, _⟩) rfl 25 (.tmp 44) (.tmp 42) rfl m 3 #[.int .i64 r, .int .i64 s] rfl ?hy TH.out TL.out TO.out ?_); (case hy => rfl))
    obtain ⟨W11, hW11⟩ : ∃ W11, w10.setCells m 3 [.int .i64 r, .int .i64 s] = W11 := ⟨_, rfl⟩
    rw [hW11] at A7
    rw [hW11]
    clear hW11 TH TL TO A6
    have c3 : W11.cell? ⟨k + 1, 3, none⟩ = some (.string p3) := A7.out.word 3 (by rw [HQ.out]; rfl)
    go_wp2_with fail
    with_reducible refine (readballot_any p3 v ev _ (by have := Z3.out; omega) A7.out.all.ten.laid BL.out).mono ?_
    rintro e w12 ⟨rfl, hb⟩
    have A8 := hid (A7.out.on hb)
    clear hb c3 A7
    have d5 := A8.out.box.m5
    have f5 := A8.out.box.frozen 5
    have A9 : Hid (GuM w k (k + 1) m (w12.setCell ⟨m, 5, none⟩ (.int .u32 (v : Int))) P ⟨kk, va, vb, r, s, (v : Int), ok, zeroJ⟩) := hid (A8.out.set_ 5 (.int .u32 (v : Int)) rfl)
    go_upto_region 9 with fail
    obtain ⟨W13, hW13⟩ : ∃ W13, w12.setCell ⟨m, 5, none⟩ (.int .u32 (v : Int)) = W13 := ⟨_, rfl⟩
    rw [hW13] at A9
    rw [hW13]
    clear hW13 d5 f5 A8
    have c5 : W13.cell? ⟨k + 1, 5, none⟩ = some (.string p5) := A9.out.word 5 (by rw [HQ.out]; rfl)
    go_wp2_with fail
    with_reducible refine (jread_known p5 _ (by have := Z5.out; omega) A9.out.all.ten).mono ?_
    rintro e w14 ⟨⟨y, ey, rfl, hy⟩, hb⟩
    have HY := hid hy
    have B0 := hid (A9.out.on hb)
    clear hb hy c5 A9
    have TH := hid (show World.there w14 m 7 (rowJ y).size from B0.out.box.thereJ (o := 7) (m := 22) (by rw [rowM_size]; decide))
    have TL := hid (len_inst y)
    have TO := hid (rowJ_one y)
    have B1 : Hid (GuM w k (k + 1) m (w14.setCells m 7 (rowJ y).toList) P ⟨kk, va, vb, r, s, (v : Int), ok, y⟩) := hid (B0.out.sets 7 (rowJ y).toList (put_knownU _ _ _ _ _ _ _ _ y))
    go_upto_region 10 with ((with_reducible refine wpList_store_mid (op := ⟨none, _, _, _, _, _⟩) rfl 37 (.tmp 58) (.tmp 56) rfl m 7 (rowJ y) rfl ?hy TH.out TL.out TO.out ?_); (case hy => rfl))
    obtain ⟨W15, hW15⟩ : ∃ W15, w14.setCells m 7 (rowJ y).toList = W15 := ⟨_, rfl⟩
    rw [hW15] at B1
    rw [hW15]
    clear hW15 TH TL TO B0
    have N1 := hid (len_msg ⟨kk, va, vb, r, s, (v : Int), ok, y⟩)
    have N3 := hid (rowM_one ⟨kk, va, vb, r, s, (v : Int), ok, y⟩)
    have TF : Hid (Below k w (W15.setRow k (rowM ⟨kk, va, vb, r, s, (v : Int), ok, y⟩))) := hid (below_setRow_ B1.out.bel (Nat.le_refl _))
    have HG : Hid (GuessM P ⟨kk, va, vb, r, s, (v : Int), ok, y⟩) := hid ⟨⟨by simp only; omega, by simp only; have := VL.out; omega⟩, by rw [HP0.out]; exact KI.out.symm, by rw [HP4.out]; exact OK.out.symm, fun a b ha hb h => by
      rw [HP1.out] at h
      obtain ⟨h1, h2⟩ := cut_two HC.out a b ha hb h
      exact ⟨VA.out _ h1, VB.out _ h2⟩, by rw [HP2.out, NM.out], by rw [HP3.out, BL.out], by rw [HP5.out]; exact HY.out⟩
    go_wp2_with (first
      | (with_reducible refine wpList_load_row (o := ⟨some 59, _, _, _, _, _⟩) rfl 64 (.tmp 4) rfl m rfl 64 (rowM ⟨kk, va, vb, r, s, (v : Int), ok, y⟩) (0, 0) _ B1.out.box.heap Tryz.underlying64 rfl N1.out ?_)
      | (with_reducible refine wpList_store_row (o := ⟨none, _, _, _, _, _⟩) rfl 64 (.tmp 2) (.tmp 59) rfl k (rowM ⟨kk, va, vb, r, s, (v : Int), ok, y⟩) rfl rfl 64 (rowM zeroM) B1.out.res.heap N1.out (size_msg _ _) N3.out ?_))
    exact bodyPost_ret (v := .agg (rowM ⟨kk, va, vb, r, s, (v : Int), ok, y⟩)) (results_cell_row (p := 2) (ty := 64) (by kernel_rfl) _ _ k 64 (rowM ⟨kk, va, vb, r, s, (v : Int), ok, y⟩) (0, 0) _ rfl (setRow_heap W15 k _ _ _ _ B1.out.res.heap) Tryz.underlying64 rfl N1.out) rfl ⟨⟨_, rfl, HG.out⟩, by rw [HK.out]; exact TF.out⟩
  · go_simp
    have G1 := hid (G0.out.drew.on ((Below.refl _ W2.drew).alloc (Nat.le_refl _) (.cells mrowZ 64)))
    refine hK.out _ _ (by exact G1.out) (fun hHeld => ?_)
    clear hK K
    try simp only [Act.put, List.getElem_toArray, List.getElem_cons_zero, List.getElem_cons_succ, List.setIfInBounds_toArray, List.set_cons_zero, List.set_cons_succ]
    have E1 : Hid (Blk (W2.drew.alloc (.cells mrowZ 64)) W2.drew.heap.size 64 mrowZ) := hid (Blk.new W2.drew 64 mrowZ)
    have hkw : k + 1 < W2.drew.heap.size := G0.out.drew.lt
    obtain ⟨WB, hWB⟩ : ∃ WB, W2.drew.alloc (.cells mrowZ 64) = WB := ⟨_, rfl⟩
    obtain ⟨m, hm⟩ : ∃ m, W2.drew.heap.size = m := ⟨_, rfl⟩
    rw [hWB] at E1
    replace G1 : Hid (GuM0 w k (k + 1) WB P) := hid (by rw [← hWB]; exact G1.out)
    replace hHeld : GuM0 w k (k + 1) WB P := G1.out
    rw [hm] at E1 hkw
    first | rw [hWB, hm] | (have hWB' : (W2.alloc (.cells mrowZ 64)).drew = WB := hWB; have hm' : W2.heap.size = m := hm; rw [hWB', hm'])
    clear hWB hm G0
    refine wpAnyH_ready (rs := [2]) (by kernel_rfl) (by simp) ?_
    refine AllReadyH.cons (o := _) rfl (fun K hK => ?_) AllReadyH.nil
    go_simp
    go_at_call 134
    with_reducible refine (kindof11 p0 _ G1.out.all.msgs).mono ?_
    rw [show L p0 = Sb p0 from rfl, KI.out]
    rintro e w3 ⟨rfl, hb⟩
    have G2 := hid (G1.out.on hb)
    have E0 := hid (E1.out.below hb E1.out.lt)
    clear hb G1 E1
    refine hK.out _ _ (by exact G2.out) (fun hHeld => ?_)
    clear hK K
    try simp only [Act.put, List.getElem_toArray, List.getElem_cons_zero, List.getElem_cons_succ, List.setIfInBounds_toArray, List.set_cons_zero, List.set_cons_succ]
    refine wpAnyH_take (i := 6) (oi := _) (v := ?_) rfl (by kernel_rfl) (by kernel_rfl) (by kernel_rfl) (fun _ _ _ h => h) (Or.inl ⟨by kernel_rfl, ?_⟩) hHeld ?_
    rotate_left 1
    focus (intro w' hSw; (try dsimp only at hSw); go_simp; try with_reducible rfl)
    try simp only [Act.put, List.getElem_toArray, List.getElem_cons_zero, List.getElem_cons_succ, List.setIfInBounds_toArray, List.set_cons_zero, List.set_cons_succ]
    obtain ⟨WA, hWA⟩ : ∃ WA, w3 = WA := ⟨_, rfl⟩
    subst hWA
    refine wpAnyH_ready (rs := [8]) (by kernel_rfl) (by simp) ?_
    refine AllReadyH.cons (o := _) rfl (fun K hK => ?_) AllReadyH.nil
    have G3 : Hid (GuM0 w k (k + 1) (World.setRow w3 m (rowM ⟨kk, 0, 0, 0, 0, 0, ok, zeroJ⟩)) P) := hid (G2.out.row hkw _)
    refine ready_row (by kernel_rfl) 64 (.tmp 4) (.tmp 18) rfl m (rowM ⟨kk, 0, 0, 0, 0, 0, ok, zeroJ⟩) rfl rfl 64 mrowZ E0.out.heap N1.out rfl N3.out ?_
    refine hK.out _ _ (by exact G3.out) (fun hHeld => ?_)
    clear hK K
    try simp only [Act.put, List.getElem_toArray, List.getElem_cons_zero, List.getElem_cons_succ, List.setIfInBounds_toArray, List.set_cons_zero, List.set_cons_succ]
    refine wpAnyH_done (by kernel_rfl) ?_ _
    clear hHeld
    obtain ⟨W4, hW4⟩ : ∃ W4, World.setRow w3 m (rowM ⟨kk, 0, 0, 0, 0, 0, ok, zeroJ⟩) = W4 := ⟨_, rfl⟩
    rw [hW4] at G3
    have A0 : Hid (GuM w k (k + 1) m W4 P ⟨kk, 0, 0, 0, 0, 0, ok, zeroJ⟩) := hid ⟨G3.out, by rw [← hW4]; exact E0.out.row _, hkw⟩
    rw [hW4]
    clear hW4 E0 G2 G3 hq4 C0 C4
    have c1 : W4.cell? ⟨k + 1, 1, none⟩ = some (.string p1) := A0.out.word 1 (by rw [HQ.out]; rfl)
    go_wp2_with fail
    with_reducible refine (cut9 62 p1 _ (by have := Z1.out; omega)).mono ?_
    rintro e w5 ⟨sa, sb, fl, rfl, hc, hb⟩
    have HC := hid hc
    have A1 := hid (A0.out.on hb)
    have ZZ := cut_sizesM hc
    rw [Sb_length, Sb_length, Sb_length] at ZZ
    have ZA := hid (show sa.size ≤ 100000 by have := Z1.out; omega)
    have ZB := hid (show sb.size ≤ 100000 by have := Z1.out; omega)
    clear hb hc c1 A0 ZZ
    go_wp2_with fail
    with_reducible refine (atoi11 sa _ ZA.out A1.out.all.ten.laid).mono ?_
    rintro e w6 ⟨⟨va, ea, rfl, hva⟩, hb⟩
    have VA := hid hva
    have A2 := hid (A1.out.on hb)
    clear hb hva A1
    have d1 := A2.out.box.m1
    have f1 := A2.out.box.frozen 1
    have A3 : Hid (GuM w k (k + 1) m (w6.setCell ⟨m, 1, none⟩ (.int .i64 va)) P ⟨kk, va, 0, 0, 0, 0, ok, zeroJ⟩) := hid (A2.out.set_ 1 (.int .i64 va) rfl)
    go_upto_region 6 with fail
    obtain ⟨W7, hW7⟩ : ∃ W7, w6.setCell ⟨m, 1, none⟩ (.int .i64 va) = W7 := ⟨_, rfl⟩
    rw [hW7] at A3
    rw [hW7]
    clear hW7 d1 f1 A2
    go_wp2_with fail
    with_reducible refine (atoi11 sb _ ZB.out A3.out.all.ten.laid).mono ?_
    rintro e w8 ⟨⟨vb, eb, rfl, hvb⟩, hb⟩
    have VB := hid hvb
    have A4 := hid (A3.out.on hb)
    clear hb hvb A3
    have d2 := A4.out.box.m2
    have f2 := A4.out.box.frozen 2
    have A5 : Hid (GuM w k (k + 1) m (w8.setCell ⟨m, 2, none⟩ (.int .i64 vb)) P ⟨kk, va, vb, 0, 0, 0, ok, zeroJ⟩) := hid (A4.out.set_ 2 (.int .i64 vb) rfl)
    go_upto_region 7 with fail
    obtain ⟨W9, hW9⟩ : ∃ W9, w8.setCell ⟨m, 2, none⟩ (.int .i64 vb) = W9 := ⟨_, rfl⟩
    rw [hW9] at A5
    rw [hW9]
    clear hW9 d2 f2 A4
    rcases hnm : nameOf (Sb p2) with ⟨⟨r, s⟩, er⟩
    have NM := hid hnm
    rcases hbl : ballotOf (Sb p3) with ⟨v, ev⟩
    have BL := hid hbl
    have VL : Hid (v < 4294967296) := hid (by have := ballotOf_lt (Sb p3); rw [hbl] at this; exact this)
    clear hnm hbl
    have c2 : W9.cell? ⟨k + 1, 2, none⟩ = some (.string p2) := A5.out.word 2 (by rw [HQ.out]; rfl)
    go_wp2_with fail
    with_reducible refine (readid_any p2 r s er _ (by have := Z2.out; omega) A5.out.all.ten.laid NM.out).mono ?_
    rintro e w10 ⟨rfl, hb⟩
    have A6 := hid (A5.out.on hb)
    clear hb c2 A5
    have TH := hid (show World.there w10 m 3 (#[.int .i64 r, .int .i64 s] : Array Value).size from A6.out.box.thereJ (o := 3) (m := 2) (by rw [rowM_size]; decide))
    have TL := hid (show (Tryz.prog.info? 25).map (·.size) = some (#[.int .i64 r, .int .i64 s] : Array Value).size by kernel_rfl)
    have TO := hid (show (#[.int .i64 r, .int .i64 s] : Array Value).all (·.oneCell') = true by simp [Value.oneCell'])
    have A7 : Hid (GuM w k (k + 1) m (w10.setCells m 3 [.int .i64 r, .int .i64 s]) P ⟨kk, va, vb, r, s, 0, ok, zeroJ⟩) := hid (A6.out.sets 3 [.int .i64 r, .int .i64 s] rfl)
    go_upto_region 8 with ((with_reducible refine wpList_store_mid (op := ⟨none, _, _, _, _, _⟩) rfl 25 (.tmp 44) (.tmp 42) rfl m 3 #[.int .i64 r, .int .i64 s] rfl ?hy TH.out TL.out TO.out ?_); (case hy => rfl))
    obtain ⟨W11, hW11⟩ : ∃ W11, w10.setCells m 3 [.int .i64 r, .int .i64 s] = W11 := ⟨_, rfl⟩
    rw [hW11] at A7
    rw [hW11]
    clear hW11 TH TL TO A6
    have c3 : W11.cell? ⟨k + 1, 3, none⟩ = some (.string p3) := A7.out.word 3 (by rw [HQ.out]; rfl)
    go_wp2_with fail
    with_reducible refine (readballot_any p3 v ev _ (by have := Z3.out; omega) A7.out.all.ten.laid BL.out).mono ?_
    rintro e w12 ⟨rfl, hb⟩
    have A8 := hid (A7.out.on hb)
    clear hb c3 A7
    have d5 := A8.out.box.m5
    have f5 := A8.out.box.frozen 5
    have A9 : Hid (GuM w k (k + 1) m (w12.setCell ⟨m, 5, none⟩ (.int .u32 (v : Int))) P ⟨kk, va, vb, r, s, (v : Int), ok, zeroJ⟩) := hid (A8.out.set_ 5 (.int .u32 (v : Int)) rfl)
    go_upto_region 9 with fail
    obtain ⟨W13, hW13⟩ : ∃ W13, w12.setCell ⟨m, 5, none⟩ (.int .u32 (v : Int)) = W13 := ⟨_, rfl⟩
    rw [hW13] at A9
    rw [hW13]
    clear hW13 d5 f5 A8
    have c5 : W13.cell? ⟨k + 1, 5, none⟩ = some (.string p5) := A9.out.word 5 (by rw [HQ.out]; rfl)
    go_wp2_with fail
    with_reducible refine (jread_known p5 _ (by have := Z5.out; omega) A9.out.all.ten).mono ?_
    rintro e w14 ⟨⟨y, ey, rfl, hy⟩, hb⟩
    have HY := hid hy
    have B0 := hid (A9.out.on hb)
    clear hb hy c5 A9
    have TH := hid (show World.there w14 m 7 (rowJ y).size from B0.out.box.thereJ (o := 7) (m := 22) (by rw [rowM_size]; decide))
    have TL := hid (len_inst y)
    have TO := hid (rowJ_one y)
    have B1 : Hid (GuM w k (k + 1) m (w14.setCells m 7 (rowJ y).toList) P ⟨kk, va, vb, r, s, (v : Int), ok, y⟩) := hid (B0.out.sets 7 (rowJ y).toList (put_knownU _ _ _ _ _ _ _ _ y))
    go_upto_region 10 with ((with_reducible refine wpList_store_mid (op := ⟨none, _, _, _, _, _⟩) rfl 37 (.tmp 58) (.tmp 56) rfl m 7 (rowJ y) rfl ?hy TH.out TL.out TO.out ?_); (case hy => rfl))
    obtain ⟨W15, hW15⟩ : ∃ W15, w14.setCells m 7 (rowJ y).toList = W15 := ⟨_, rfl⟩
    rw [hW15] at B1
    rw [hW15]
    clear hW15 TH TL TO B0
    have N1 := hid (len_msg ⟨kk, va, vb, r, s, (v : Int), ok, y⟩)
    have N3 := hid (rowM_one ⟨kk, va, vb, r, s, (v : Int), ok, y⟩)
    have TF : Hid (Below k w (W15.setRow k (rowM ⟨kk, va, vb, r, s, (v : Int), ok, y⟩))) := hid (below_setRow_ B1.out.bel (Nat.le_refl _))
    have HG : Hid (GuessM P ⟨kk, va, vb, r, s, (v : Int), ok, y⟩) := hid ⟨⟨by simp only; omega, by simp only; have := VL.out; omega⟩, by rw [HP0.out]; exact KI.out.symm, by rw [HP4.out]; exact OK.out.symm, fun a b ha hb h => by
      rw [HP1.out] at h
      obtain ⟨h1, h2⟩ := cut_two HC.out a b ha hb h
      exact ⟨VA.out _ h1, VB.out _ h2⟩, by rw [HP2.out, NM.out], by rw [HP3.out, BL.out], by rw [HP5.out]; exact HY.out⟩
    go_wp2_with (first
      | (with_reducible refine wpList_load_row (o := ⟨some 59, _, _, _, _, _⟩) rfl 64 (.tmp 4) rfl m rfl 64 (rowM ⟨kk, va, vb, r, s, (v : Int), ok, y⟩) (0, 0) _ B1.out.box.heap Tryz.underlying64 rfl N1.out ?_)
      | (with_reducible refine wpList_store_row (o := ⟨none, _, _, _, _, _⟩) rfl 64 (.tmp 2) (.tmp 59) rfl k (rowM ⟨kk, va, vb, r, s, (v : Int), ok, y⟩) rfl rfl 64 (rowM zeroM) B1.out.res.heap N1.out (size_msg _ _) N3.out ?_))
    exact bodyPost_ret (v := .agg (rowM ⟨kk, va, vb, r, s, (v : Int), ok, y⟩)) (results_cell_row (p := 2) (ty := 64) (by kernel_rfl) _ _ k 64 (rowM ⟨kk, va, vb, r, s, (v : Int), ok, y⟩) (0, 0) _ rfl (setRow_heap W15 k _ _ _ _ B1.out.res.heap) Tryz.underlying64 rfl N1.out) rfl ⟨⟨_, rfl, HG.out⟩, by rw [HK.out]; exact TF.out⟩
end Go.Proofs.YtohffiehmmcgbaaGreatDoor
