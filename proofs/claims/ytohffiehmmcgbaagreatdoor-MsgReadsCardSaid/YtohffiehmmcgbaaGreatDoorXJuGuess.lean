/-
  What is read off a state's text: its words, and the contract of guess (package inst).
-/
import Derived.Test.YtohffiehmmcgbaaGreatDoorXJuShowB
import Derived.Test.YtohffiehmmcgbaaGreatDoorXD
import Derived.Test.YtohffiehmmcgbaaGreatDoorXC
import Derived.Laws.IdiomCopy
import Derived.Lib.SplitLaws
namespace Go.Proofs.YtohffiehmmcgbaaGreatDoor
open Go.ChangeShapes Go.WideShapes Go.ChangeAt Go.RowKit Go.Lib
set_option linter.unusedVariables false
set_option linter.unusedSimpArgs false
def wordsJ (s : ByteArray) : List ByteArray := splitB ⟨#[32]⟩ 0 (min 7 (s.size + 1) - 1) s
def pB (P : List ByteArray) (i : Nat) : ByteArray := (P[i]?).getD ⟨#[]⟩
theorem splitB_size (sep : ByteArray) : ∀ (k : Nat) (s : ByteArray), ∀ p ∈ splitB sep 0 k s, p.size ≤ s.size
  | 0, s => by intro p hp; simp [splitB] at hp; subst hp; exact Nat.le_refl _
  | k + 1, s => by
    intro p hp
    unfold splitB at hp
    split at hp
    · simp at hp; subst hp; exact Nat.le_refl _
    · rcases List.mem_cons.1 hp with rfl | h
      · rw [← Sb_length, ← Sb_length, Sb_cut]; simp only [List.length_take, List.length_drop]; omega
      · have h1 := splitB_size sep k _ p h
        have h2 : (s.extract ((indexB s sep).toNat + sep.size) s.size).size ≤ s.size := by
          have e := congrArg List.length (Sb_tail s ((indexB s sep).toNat + sep.size))
          rw [List.length_drop, Sb_length, Sb_length] at e
          omega
        omega
theorem wordsJ_len (s : ByteArray) : (wordsJ s).length ≤ min 7 (s.size + 1) := by
  have h := splitB_length_le ⟨#[32]⟩ 0 (min 7 (s.size + 1) - 1) s
  unfold wordsJ
  omega
theorem pB_size (s : ByteArray) (i : Nat) : (pB (wordsJ s) i).size ≤ s.size := by
  unfold pB
  cases h : (wordsJ s)[i]? with
  | none => exact Nat.zero_le _
  | some p => exact splitB_size _ _ s p (List.mem_of_getElem? h)
theorem wordsJ_sb (s : ByteArray) : (wordsJ s).map Sb = splitK [32] 0 (min 7 (s.size + 1) - 1) (Sb s) := splitB_data ⟨#[32]⟩ 0 _ s
theorem pB_sb (P : List ByteArray) (i : Nat) : Sb (pB P i) = ((P.map Sb)[i]?).getD [] := by
  unfold pB
  rw [List.getElem?_map]
  cases P[i]? <;> rfl
def putAtJ (cs : Array Value) : Nat → List Value → Array Value
  | _, [] => cs
  | o, d :: ds => putAtJ (cs.setIfInBounds o d) (o + 1) ds
theorem Blk.setsJ {g : Nat} {T : TypeId} : ∀ (ds : List Value) (w : World) (cs : Array Value) (o : Nat), Blk w g T cs → Blk (w.setCells g o ds) g T (putAtJ cs o ds)
  | [], _, _, _, h => h
  | d :: ds, w, cs, o, h => Blk.setsJ ds (w.setCell ⟨g, o, none⟩ d) (cs.setIfInBounds o d) (o + 1) (h.set_ o d)
theorem Blk.setsFarJ {g q : Nat} {T : TypeId} {cs : Array Value} (hne : g ≠ q) : ∀ (ds : List Value) (w : World) (o : Nat), Blk w g T cs → Blk (w.setCells q o ds) g T cs
  | [], _, _, h => h
  | d :: ds, w, o, h => Blk.setsFarJ hne ds (w.setCell ⟨q, o, none⟩ d) (o + 1) (h.far (p := ⟨q, o, none⟩) hne d)
theorem below_setsJ {k q : Nat} {w0 : World} (hq : k ≤ q) : ∀ (ds : List Value) (w : World) (o : Nat), Below k w0 w → Below k w0 (w.setCells q o ds)
  | [], _, _, h => h
  | d :: ds, w, o, h => below_setsJ hq ds (w.setCell ⟨q, o, none⟩ d) (o + 1) (h.setCell (p := ⟨q, o, none⟩) hq d)
theorem Blk.thereJ {w : World} {g : Nat} {T : TypeId} {cs : Array Value} (h : Blk w g T cs) {o m : Nat} (hs : o + m ≤ cs.size) : w.there g o m := fun j hj => by
  refine ⟨?_, h.frozen _⟩
  rw [h.cell, Array.getElem?_eq_getElem (by omega)]
  rfl
abbrev sevenZ : Array Value := #[.string ⟨#[]⟩, .string ⟨#[]⟩, .string ⟨#[]⟩, .string ⟨#[]⟩, .string ⟨#[]⟩, .string ⟨#[]⟩, .string ⟨#[]⟩]
def sevenP (P : List ByteArray) : Array Value := #[.string (pB P 0), .string (pB P 1), .string (pB P 2), .string (pB P 3), .string (pB P 4), .string (pB P 5), .string (pB P 6)]
theorem seven_put : ∀ (P : List ByteArray), P.length ≤ 7 → putAtJ sevenZ 0 (P.map Value.string) = sevenP P
  | [], _ => rfl
  | [a], _ => rfl
  | [a, b], _ => rfl
  | [a, b, c], _ => rfl
  | [a, b, c, d], _ => rfl
  | [a, b, c, d, e], _ => rfl
  | [a, b, c, d, e, f], _ => rfl
  | [a, b, c, d, e, f, g], _ => rfl
  | a :: b :: c :: d :: e :: f :: g :: i :: t, h => absurd h (by simp only [List.length_cons]; omega)
theorem put_att (r s st bal vote : Int) (same : Bool) (c : K) (f V : Nat → Int) : putAtJ (rowJ ⟨r, s, st, bal, vote, same, c, f⟩) 14 (ls8 V) = rowJ ⟨r, s, st, bal, vote, same, c, V⟩ := by
  simp only [rowJ, putAtJ, List.setIfInBounds_toArray, List.set_cons_zero, List.set_cons_succ]
theorem put_cmd (r s st bal vote : Int) (same : Bool) (c d : K) (f : Nat → Int) : putAtJ (rowJ ⟨r, s, st, bal, vote, same, c, f⟩) 6 (cellsOf d).toList = rowJ ⟨r, s, st, bal, vote, same, d, f⟩ := by
  simp only [rowJ, cellsOf, putAtJ, List.setIfInBounds_toArray, List.set_cons_zero, List.set_cons_succ]
theorem ballotOf_lt (l : List UInt8) : (ballotOf l).1 < 4294967296 := by
  unfold ballotOf
  split
  · split
    · rename_i a b _ h
      obtain ⟨n, k, rfl, rfl, h1, h2⟩ := parts_nat h
      simp only [Int.toNat_natCast]
      omega
    · decide
  · decide
theorem statOf_in (l : List UInt8) : -1 ≤ statOf l ∧ statOf l < 4 := by
  unfold statOf
  repeat' split
  all_goals omega
theorem splitn8 (t : ByteArray) (m : Int) (w : World) (hz : t.size ≤ 100000) (hm : w.cell? ⟨4, 0, none⟩ = some (.int .i64 m)) :
    Calls Tryz.prog 116 #[.string t, .string ⟨#[32]⟩, .int .i64 7] w fun e w' =>
      e = .returned (.slice (some ⟨w.heap.size, 0, none⟩) (wordsJ t).length (min 7 (t.size + 1))) ∧ w' = w.alloc (.cells (Lib.cellsOf (wordsJ t) (min 7 (t.size + 1))) 9) := Tryz.strings_SplitN t ⟨#[32]⟩ 7 m w (by omega) hm (by decide) (by decide) (by decide)
def GuessJ (P : List ByteArray) (x : J) : Prop :=
  okJ x ∧ okK x.c ∧ (x.c.foot.size ≤ 100000 ∧ x.c.path.size ≤ 100000) ∧ (x.r, x.s) = (nameOf (Sb (pB P 0))).1 ∧ x.bal = ((ballotOf (Sb (pB P 1))).1 : Nat) ∧ x.st = statOf (Sb (pB P 2)) ∧
  (x.st = 0 → x.vote = 0 ∧ x.same = false ∧ x.c = zeroK ∧ x.f = fun _ => 0) ∧
  (x.st ≠ 0 → x.vote = ((ballotOf (Sb (pB P 3))).1 : Nat) ∧ x.same = decide (pB P 4 = ⟨#[115, 97, 109, 101]⟩) ∧ (∀ f, okB f = true → textA f = Sb (pB P 5) → eqA x.f f = true) ∧ x.c = (if readOK (L (pB P 6)) then gOf (L (pB P 6)) else noK))
theorem fits_self {V : Nat → Int} (h : okB V = true) : Fits V (textA V) 8 := by
  obtain ⟨⟨x0, x1⟩, hb⟩ := ok_bounds h
  intro i hi x hx
  rw [piece_text V hi] at hx
  have hbd : -9223372036854775808 ≤ V i ∧ V i ≤ 9223372036854775807 := by
    cases i with
    | zero => omega
    | succ j => have := hb j (by omega); rw [Nat.add_comm] at this; omega
  rw [atoi_itoa (V i) hbd.1 hbd.2] at hx
  injection hx
theorem aread8 (s : ByteArray) (w : World) (hs : s.size ≤ 100000) (hL : Laid w) :
    Calls Tryz.prog 120 #[.string s] w fun e w' => (∃ (V : Nat → Int) (er : Int), e = .returned (.tuple #[.agg (ls8 V).toArray, .int .i64 er]) ∧ ∀ f, okB f = true → textA f = Sb s → eqA V f = true) ∧ Below w.heap.size w w' := by
  refine (read_any9 s w hs hL).mono ?_
  rintro e w' ⟨hb, ⟨V, hV, ht, rfl⟩ | ⟨hn, rfl⟩⟩
  · refine ⟨⟨V, 0, rfl, fun f hf h => ?_⟩, hb⟩
    rw [eqA_iff]
    have hft := fits_text (f := f) (V := V) hf (by rw [h, ← ht]; exact fits_self hV)
    exact fun i hi => hft i hi
  · exact ⟨⟨fun _ => 0, 10, rfl, fun f hf h => absurd h (hn f hf)⟩, hb⟩
theorem cread8 (s : ByteArray) (w : World) (hL : Laid7 w) (hz : s.size ≤ 100000) :
    Calls Tryz.prog 121 #[.string s] w fun e w' => (∃ (c : K) (er : Int), e = .returned (.tuple #[.agg (cellsOf c), .int .i64 er]) ∧ c = (if readOK (L s) then gOf (L s) else noK)) ∧ Below w.heap.size w w' := by
  refine (readcmd_any s w hL hz).mono ?_
  rintro e w' ⟨rfl, hb⟩
  exact ⟨⟨_, _, rfl, rfl⟩, hb⟩
theorem cread_ok (s : ByteArray) (hz : s.size ≤ 100000) : okK (if readOK (L s) then gOf (L s) else noK) ∧ (if readOK (L s) then gOf (L s) else noK).foot.size ≤ 100000 ∧ (if readOK (L s) then gOf (L s) else noK).path.size ≤ 100000 := by
  split
  · have h := gOf_small (L s)
    rw [L_length] at h
    exact ⟨gOf_ok _, by omega, by omega⟩
  · exact ⟨zeroK_ok, by decide, by decide⟩
def GueJ (w0 : World) (k n m : Nat) (w : World) (P : List ByteArray) (x : J) : Prop := Blk w n 156 (sevenP P) ∧ Blk w k 37 (rowJ zeroJ) ∧ Blk w m 37 (rowJ x) ∧ Below k w0 w ∧ (All10 w0 ∧ w0.heap.size = k) ∧ k < n ∧ n < m
section
variable {w0 w w' : World} {k n m : Nat} {P : List ByteArray} {x : J}
theorem GueJ.on (h : GueJ w0 k n m w P x) (hb : Below w.heap.size w w') : GueJ w0 k n m w' P x := by
  obtain ⟨h1, h2, h3, h4, h5, h6, h7⟩ := h
  exact ⟨h1.below hb h1.lt, h2.below hb h2.lt, h3.below hb h3.lt, below_pay h4 (by have := h2.lt; omega) hb, h5, h6, h7⟩
theorem GueJ.words (h : GueJ w0 k n m w P x) : Blk w n 156 (sevenP P) := h.1
theorem GueJ.res (h : GueJ w0 k n m w P x) : Blk w k 37 (rowJ zeroJ) := h.2.1
theorem GueJ.box (h : GueJ w0 k n m w P x) : Blk w m 37 (rowJ x) := h.2.2.1
theorem GueJ.bel (h : GueJ w0 k n m w P x) : Below k w0 w := h.2.2.2.1
theorem GueJ.all (h : GueJ w0 k n m w P x) : All10 w := h.2.2.2.2.1.1.below (by rw [h.2.2.2.2.1.2]; exact h.2.2.2.1)
theorem GueJ.sets (h : GueJ w0 k n m w P x) (o : Nat) (ds : List Value) {y : J} (hd : putAtJ (rowJ x) o ds = rowJ y) : GueJ w0 k n m (w.setCells m o ds) P y := by
  obtain ⟨h1, h2, h3, h4, h5, h6, h7⟩ := h
  exact ⟨Blk.setsFarJ (by omega) ds w o h1, Blk.setsFarJ (by omega) ds w o h2, hd ▸ Blk.setsJ ds w _ o h3, below_setsJ (by omega) ds w o h4, h5, h6, h7⟩
theorem GueJ.set_ (h : GueJ w0 k n m w P x) (i : Nat) (u : Value) {y : J} (hd : (rowJ x).setIfInBounds i u = rowJ y) : GueJ w0 k n m (w.setCell ⟨m, i, none⟩ u) P y := h.sets i [u] hd
theorem GueJ.word (h : GueJ w0 k n m w P x) (i : Nat) {v : Value} (hv : (sevenP P)[i]? = some v) : w.cell? ⟨n, i, none⟩ = some v := (h.words.cell i).trans hv
end
set_option maxRecDepth 100000 in
set_option maxHeartbeats 8000000 in
theorem jguess_any (t : ByteArray) (w : World) (hz : t.size ≤ 100000) (hL : All10 w) :
    Calls Tryz.prog 65 #[.string t] w fun e w' => (∃ x : J, e = .returned (.agg (rowJ x)) ∧ GuessJ (wordsJ t) x) ∧ Below w.heap.size w w' := by
  obtain ⟨mx, hmx⟩ := hL.max
  have HL := hid hL
  have HW := hid (wordsJ_len t)
  obtain ⟨P, hP⟩ : ∃ P, wordsJ t = P := ⟨_, rfl⟩
  have HPS : Hid (∀ i, (pB P i).size ≤ t.size) := hid (fun i => by rw [← hP]; exact pB_size t i)
  have HPW := hid hP
  rw [hP] at HW ⊢
  obtain ⟨N, hN⟩ : ∃ N, min 7 (t.size + 1) = N := ⟨_, rfl⟩
  rw [hN] at HW
  have hN7 : N ≤ 7 := by omega
  have hP7 : P.length ≤ 7 := by have := HW.out; omega
  have HNN := hid hN
  clear hL hP hN
  go_enter Tryz.func65, Tryz.ntmps65
  go_upto_region 2 with fail
  obtain ⟨W, hW⟩ : ∃ W, (w.alloc (.cells zrow 37)).alloc (.cells sevenZ 156) = W := ⟨_, rfl⟩
  rw [hW]
  obtain ⟨K0, K1, KB⟩ := two_new hW
  rw [zrow_is] at K0
  have LW := hid (HL.out.below KB.out)
  have MW : W.cell? ⟨4, 0, none⟩ = some (.int .i64 mx) := cell_later KB.out hmx
  clear hW hmx
  obtain ⟨k, hk⟩ : ∃ k, w.heap.size = k := ⟨_, rfl⟩
  rw [hk] at K0 K1 KB
  rw [hk]
  have HK := hid hk
  clear hk
  obtain ⟨q, hq⟩ : ∃ q, W.heap.size = q := ⟨_, rfl⟩
  have hkq : k + 1 < q := by have := K1.out.lt; omega
  refine wp_region_held_drew (S := (fun _ => True)) (by kernel_rfl) (by exact trivial) (fun hHeld => ?_)
  refine wpAnyH_take (i := 0) (oi := _) (v := ?_) rfl (by kernel_rfl) (by kernel_rfl) (by kernel_rfl) (fun _ _ _ h => h) (Or.inl ⟨by kernel_rfl, ?_⟩) hHeld ?_
  rotate_left 1
  focus (intro w' hSw; (try dsimp only at hSw); go_simp; try with_reducible rfl)
  try simp only [Act.put, List.getElem_toArray, List.getElem_cons_zero, List.getElem_cons_succ, List.setIfInBounds_toArray, List.set_cons_zero, List.set_cons_succ]
  refine wpAnyH_take (i := 1) (oi := _) (v := ?_) rfl (by kernel_rfl) (by kernel_rfl) (by kernel_rfl) (fun _ _ _ h => h) (Or.inl ⟨by kernel_rfl, ?_⟩) hHeld ?_
  rotate_left 1
  focus (intro w' hSw; (try dsimp only at hSw); go_simp; try with_reducible rfl)
  try simp only [Act.put, List.getElem_toArray, List.getElem_cons_zero, List.getElem_cons_succ, List.setIfInBounds_toArray, List.set_cons_zero, List.set_cons_succ]
  refine wpAnyH_ready (rs := [2]) (by kernel_rfl) (by simp) ?_
  refine AllReadyH.cons (o := _) rfl (fun K hK => ?_) AllReadyH.nil
  go_simp
  go_at_call 116
  with_reducible refine (splitn8 t mx W.drew hz (by simpa using MW)).mono ?_
  rw [HPW.out, HNN.out]
  rintro e w1 ⟨rfl, hw1⟩
  have hqd : W.drew.heap.size = q := hq
  rw [hqd]
  have E0 : Hid (Blk w1 k 37 (rowJ zeroJ)) := hid (by rw [hw1]; exact K0.out.drew.alloc _)
  have E1 : Hid (Blk w1 (k + 1) 156 sevenZ) := hid (by rw [hw1]; exact K1.out.drew.alloc _)
  have EB : Hid (Below k w w1) := hid (by rw [hw1]; exact (below_drew KB.out).trans ((Below.refl k W.drew).alloc (by omega) _))
  have EC : Hid (∀ (j : Nat) (u : Value), (P.map Value.string)[j]? = some u → w1.cell? ⟨q, j, none⟩ = some u) := hid (by
        intro j u hj
        rw [hw1, ← hqd]
        have h1 := (Blk.new W.drew 9 (Lib.cellsOf P N)).cell j
        rw [h1]
        unfold Lib.cellsOf
        have hlt : j < (P.map Value.string).length := (List.getElem?_eq_some_iff.1 hj).1
        rw [List.getElem?_toArray, List.getElem?_append_left hlt]
        exact hj)
  have EZ : Hid (w1.heap.size = q + 1) := hid (by rw [hw1]; simp; omega)
  clear hw1
  refine hK.out _ _ (by exact trivial) (fun hHeld => ?_)
  clear hK K
  try simp only [Act.put, List.getElem_toArray, List.getElem_cons_zero, List.getElem_cons_succ, List.setIfInBounds_toArray, List.set_cons_zero, List.set_cons_succ]
  refine wpAnyH_ready (rs := [3]) (by kernel_rfl) (by simp) ?_
  refine AllReadyH.cons (o := _) rfl (fun K hK => ?_) AllReadyH.nil
  have RC := run_copy_cells (P := Tryz.prog) w1 100 100 3 9 (k + 1) 0 7 7 ⟨q, 0, none⟩ P.length N (P.map Value.string) Tryz.underlying100 (by kernel_rfl) (by rw [List.length_map]; exact (Nat.min_eq_left hP7).symm) (by intro j u hj; have h := EC.out j u hj; by_cases h0 : j = 0; { subst h0; simpa [Addr.add] using h }; { simpa [Addr.add, h0] using h }) (fun j hj => by rw [Nat.zero_add]; exact (E1.out.thereJ (o := 0) (m := 7) (by decide) j (by simp at hj; omega)).1 |> fun h => by simpa using h) (fun j hj => by exact E1.out.frozen _) (by intro u hu; obtain ⟨p, _, rfl⟩ := List.mem_map.1 hu; rfl)
  go_simp
  refine hK.out _ _ (by exact trivial) (fun hHeld => ?_)
  clear hK K
  try simp only [Act.put, List.getElem_toArray, List.getElem_cons_zero, List.getElem_cons_succ, List.setIfInBounds_toArray, List.set_cons_zero, List.set_cons_succ]
  refine wpAnyH_done (by kernel_rfl) ?_ _
  clear hHeld
  obtain ⟨W2, hW2⟩ : ∃ W2, w1.setCells (k + 1) 0 (P.map Value.string) = W2 := ⟨_, rfl⟩
  rw [hW2]
  have F1 : Hid (Blk W2 (k + 1) 156 (sevenP P)) := hid (by rw [← hW2, ← seven_put P hP7]; exact Blk.setsJ (P.map Value.string) w1 sevenZ 0 E1.out)
  have F0 : Hid (Blk W2 k 37 (rowJ zeroJ)) := hid (by rw [← hW2]; exact Blk.setsFarJ (by omega) (P.map Value.string) w1 0 E0.out)
  have FB : Hid (Below k w W2) := hid (by rw [← hW2]; exact below_setsJ (by omega) (P.map Value.string) w1 0 EB.out)
  clear hW2 E0 E1 EB EC EZ K0 K1 KB LW MW hq hqd hkq
  have AL : Hid (∀ W', Below k w W' → All10 W') := hid (fun W' h => HL.out.below (by rw [HK.out]; exact h))
  obtain ⟨p0, hp0⟩ : ∃ p, pB P 0 = p := ⟨_, rfl⟩
  obtain ⟨p1, hp1⟩ : ∃ p, pB P 1 = p := ⟨_, rfl⟩
  obtain ⟨p2, hp2⟩ : ∃ p, pB P 2 = p := ⟨_, rfl⟩
  obtain ⟨p3, hp3⟩ : ∃ p, pB P 3 = p := ⟨_, rfl⟩
  obtain ⟨p4, hp4⟩ : ∃ p, pB P 4 = p := ⟨_, rfl⟩
  obtain ⟨p5, hp5⟩ : ∃ p, pB P 5 = p := ⟨_, rfl⟩
  obtain ⟨p6, hp6⟩ : ∃ p, pB P 6 = p := ⟨_, rfl⟩
  have HQ : Hid (sevenP P = #[.string p0, .string p1, .string p2, .string p3, .string p4, .string p5, .string p6]) := hid (by unfold sevenP; rw [hp0, hp1, hp2, hp3, hp4, hp5, hp6])
  have Z0 : Hid (p0.size ≤ t.size) := hid (hp0 ▸ HPS.out 0)
  have Z1 : Hid (p1.size ≤ t.size) := hid (hp1 ▸ HPS.out 1)
  have Z2 : Hid (p2.size ≤ t.size) := hid (hp2 ▸ HPS.out 2)
  have Z3 : Hid (p3.size ≤ t.size) := hid (hp3 ▸ HPS.out 3)
  have Z5 : Hid (p5.size ≤ t.size) := hid (hp5 ▸ HPS.out 5)
  have Z6 : Hid (p6.size ≤ t.size) := hid (hp6 ▸ HPS.out 6)
  have HP0 := hid hp0
  have HP1 := hid hp1
  have HP2 := hid hp2
  have HP3 := hid hp3
  have HP4 := hid hp4
  have HP5 := hid hp5
  have HP6 := hid hp6
  clear hp0 hp1 hp2 hp3 hp4 hp5 hp6
  rcases hnm : nameOf (Sb p0) with ⟨⟨r, s⟩, er⟩
  rcases hbl : ballotOf (Sb p1) with ⟨v, ev⟩
  obtain ⟨st, hst⟩ : ∃ x, statOf (Sb p2) = x := ⟨_, rfl⟩
  have NM := hid hnm
  have BL := hid hbl
  have ST := hid hst
  have VL : Hid (v < 4294967296) := hid (by have := ballotOf_lt (Sb p1); rw [hbl] at this; exact this)
  have SI : Hid (-1 ≤ st ∧ st < 4) := hid (by rw [← hst]; exact statOf_in _)
  clear hnm hbl hst
  have c0 : W2.cell? ⟨k + 1, 0, none⟩ = some (.string p0) := (F1.out.cell 0).trans (by rw [HQ.out]; rfl)
  go_wp2_with fail
  with_reducible refine (readid_any p0 r s er _ (by have := Z0.out; omega) (AL.out _ FB.out).laid NM.out).mono ?_
  rintro e w3 ⟨rfl, hb⟩
  have G0 := hid (F0.out.below hb F0.out.lt)
  have G1 := hid (F1.out.below hb F1.out.lt)
  have GB := hid (below_pay FB.out (by have := F0.out.lt; omega) hb)
  clear hb c0 F0 F1 FB
  obtain ⟨y, hy⟩ : ∃ y, w3.heap.size = y := ⟨_, rfl⟩
  go_upto_region 4 with fail
  obtain ⟨W4, hW4⟩ : ∃ W4, w3.alloc (.cells #[.int .i64 r, .int .i64 s] 25) = W4 := ⟨_, rfl⟩
  rw [hW4]
  have H0 : Hid (Blk W4 k 37 (rowJ zeroJ)) := hid (by rw [← hW4]; exact G0.out.alloc _)
  have H1 : Hid (Blk W4 (k + 1) 156 (sevenP P)) := hid (by rw [← hW4]; exact G1.out.alloc _)
  have HB : Hid (Below k w W4) := hid (by rw [← hW4]; exact GB.out.trans ((Below.refl _ w3).alloc (by have := G0.out.lt; omega) _))
  have H2 : Hid (Blk W4 y 25 #[.int .i64 r, .int .i64 s]) := hid (by rw [← hW4, ← hy]; exact Blk.new _ _ _)
  clear hW4 hy G0 G1 GB
  obtain ⟨⟨c0, c1⟩, _⟩ := blkn H2.out
  go_wp2_with fail
  with_reducible refine (new_any r s _).mono ?_
  rintro e w5 ⟨rfl, hb⟩
  have G0 := hid (H0.out.below hb H0.out.lt)
  have G1 := hid (H1.out.below hb H1.out.lt)
  have GB := hid (below_pay HB.out (by have := H0.out.lt; omega) hb)
  clear hb c0 c1 H0 H1 H2 HB
  obtain ⟨m, hm⟩ : ∃ m, w5.heap.size = m := ⟨_, rfl⟩
  have hkm : k + 1 < m := by have := G1.out.lt; omega
  have E0 : Hid (Blk (w5.alloc (.cells zrow 37)) m 37 zrow) := hid (by rw [← hm]; exact Blk.new w5 37 zrow)
  have N1 := hid (len_inst (newJ r s))
  have N3 := hid (rowJ_one (newJ r s))
  go_upto_region 5 with (refine wpList_store_row (o := ⟨none, _, _, _, _, _⟩) rfl 37 (.tmp 6) (.tmp 18) rfl m (rowJ (newJ r s)) rfl rfl 37 zrow E0.out.heap N1.out rfl N3.out ?_)
  obtain ⟨W6, hW6⟩ : ∃ W6, (w5.alloc (.cells zrow 37)).setRow m (rowJ (newJ r s)) = W6 := ⟨_, rfl⟩
  have A0 : Hid (GueJ w k (k + 1) m W6 P ⟨r, s, 0, 0, 0, false, zeroK, fun _ => 0⟩) := hid (by
    rw [← hW6]
    exact ⟨(G1.out.alloc _).rowFar (by omega) _, (G0.out.alloc _).rowFar (by omega) _, E0.out.row _, below_setRow_ (GB.out.trans ((Below.refl _ w5).alloc (by omega) _)) (by omega), ⟨HL.out, HK.out⟩, by omega, hkm⟩)
  rw [hW6]
  clear hW6 hm E0 G0 G1 GB N1 N3
  have c1 : W6.cell? ⟨k + 1, 1, none⟩ = some (.string p1) := A0.out.word 1 (by rw [HQ.out]; rfl)
  go_wp2_with fail
  with_reducible refine (readballot_any p1 v ev _ (by have := Z1.out; omega) A0.out.all.laid BL.out).mono ?_
  rintro e w7 ⟨rfl, hb⟩
  have A1 := hid (A0.out.on hb)
  clear hb c1 A0 W6
  have d3 := A1.out.box.j3
  have f3 := A1.out.box.frozen 3
  have A2 : Hid (GueJ w k (k + 1) m (w7.setCell ⟨m, 3, none⟩ (.int .u32 (v : Int))) P ⟨r, s, 0, (v : Int), 0, false, zeroK, fun _ => 0⟩) := hid (A1.out.set_ 3 (.int .u32 (v : Int)) rfl)
  have c2 : w7.cell? ⟨k + 1, 2, none⟩ = some (.string p2) := A1.out.word 2 (by rw [HQ.out]; rfl)
  go_upto_region 6 with fail
  obtain ⟨W8, hW8⟩ : ∃ W8, w7.setCell ⟨m, 3, none⟩ (.int .u32 (v : Int)) = W8 := ⟨_, rfl⟩
  rw [hW8] at A2
  rw [hW8]
  clear hW8 d3 f3 c2 A1
  have c2 : W8.cell? ⟨k + 1, 2, none⟩ = some (.string p2) := A2.out.word 2 (by rw [HQ.out]; rfl)
  go_wp2_with fail
  with_reducible refine (statusof_any p2 _ A2.out.all.stats).mono ?_
  rw [show L p2 = Sb p2 from rfl, ST.out]
  rintro e w9 ⟨rfl, hb⟩
  have A3 := hid (A2.out.on hb)
  clear hb c2 A2
  have d2 := A3.out.box.j2
  have f2 := A3.out.box.frozen 2
  have A4 : Hid (GueJ w k (k + 1) m (w9.setCell ⟨m, 2, none⟩ (.int .i64 st)) P ⟨r, s, st, (v : Int), 0, false, zeroK, fun _ => 0⟩) := hid (A3.out.set_ 2 (.int .i64 st) rfl)
  go_upto_region 7 with fail
  obtain ⟨W10, hW10⟩ : ∃ W10, w9.setCell ⟨m, 2, none⟩ (.int .i64 st) = W10 := ⟨_, rfl⟩
  rw [hW10] at A4
  rw [hW10]
  clear hW10 d2 f2 A3
  have d2 := A4.out.box.j2
  by_cases h0 : st = 0
  · have h0b : (st == 0) = true := beq_iff_eq.2 h0
    have N1 := hid (len_inst ⟨r, s, st, (v : Int), 0, false, zeroK, fun _ => 0⟩)
    have N3 := hid (rowJ_one ⟨r, s, st, (v : Int), 0, false, zeroK, fun _ => 0⟩)
    have TF : Hid (Below k w (W10.setRow k (rowJ ⟨r, s, st, (v : Int), 0, false, zeroK, fun _ => 0⟩))) := hid (below_setRow_ A4.out.bel (Nat.le_refl _))
    have HG : Hid (GuessJ P ⟨r, s, st, (v : Int), 0, false, zeroK, fun _ => 0⟩) := hid ⟨⟨by simp only; have := VL.out; omega, by simp⟩, zeroK_ok, ⟨Nat.zero_le _, Nat.zero_le _⟩, by rw [HP0.out, NM.out], by rw [HP1.out, BL.out], by rw [HP2.out]; exact ST.out.symm, fun _ => ⟨rfl, rfl, rfl, rfl⟩, fun h => absurd h0 h⟩
    have H0' := hid h0
    clear h0
    go_wp2_with (first
      | (with_reducible refine wpList_load_row (o := ⟨some 58, _, _, _, _, _⟩) rfl 37 (.tmp 6) rfl m rfl 37 (rowJ ⟨r, s, st, (v : Int), 0, false, zeroK, fun _ => 0⟩) (0, 0) _ A4.out.box.heap Tryz.underlying37 rfl N1.out ?_)
      | (with_reducible refine wpList_store_row (o := ⟨none, _, _, _, _, _⟩) rfl 37 (.tmp 2) (.tmp 58) rfl k (rowJ ⟨r, s, st, (v : Int), 0, false, zeroK, fun _ => 0⟩) rfl rfl 37 (rowJ zeroJ) A4.out.res.heap N1.out (size_inst _ _) N3.out ?_))
    exact bodyPost_ret (v := .agg (rowJ ⟨r, s, st, (v : Int), 0, false, zeroK, fun _ => 0⟩)) (results_cell_row (p := 2) (ty := 37) (by kernel_rfl) _ _ k 37 (rowJ ⟨r, s, st, (v : Int), 0, false, zeroK, fun _ => 0⟩) (0, 0) _ rfl (setRow_heap W10 k _ _ _ _ A4.out.res.heap) Tryz.underlying37 rfl N1.out) rfl ⟨⟨_, rfl, HG.out⟩, by rw [HK.out]; exact TF.out⟩
  have h0b : (st == 0) = false := beq_eq_false_iff_ne.2 h0
  have H0 := hid h0
  clear h0
  rcases hvt : ballotOf (Sb p3) with ⟨vt, et⟩
  have VT := hid hvt
  have VTL : Hid (vt < 4294967296) := hid (by have := ballotOf_lt (Sb p3); rw [hvt] at this; exact this)
  clear hvt
  have c3 : W10.cell? ⟨k + 1, 3, none⟩ = some (.string p3) := A4.out.word 3 (by rw [HQ.out]; rfl)
  go_wp2_with fail
  with_reducible refine (readballot_any p3 vt et _ (by have := Z3.out; omega) A4.out.all.laid VT.out).mono ?_
  rintro e w11 ⟨rfl, hb⟩
  have A5 := hid (A4.out.on hb)
  clear hb c3 d2 h0b A4
  have d4 := A5.out.box.j4
  have f4 := A5.out.box.frozen 4
  have A6 : Hid (GueJ w k (k + 1) m (w11.setCell ⟨m, 4, none⟩ (.int .u32 (vt : Int))) P ⟨r, s, st, (v : Int), (vt : Int), false, zeroK, fun _ => 0⟩) := hid (A5.out.set_ 4 (.int .u32 (vt : Int)) rfl)
  go_upto_region 9 with fail
  obtain ⟨W12, hW12⟩ : ∃ W12, w11.setCell ⟨m, 4, none⟩ (.int .u32 (vt : Int)) = W12 := ⟨_, rfl⟩
  rw [hW12] at A6
  rw [hW12]
  clear hW12 d4 f4 A5
  have c4 : W12.cell? ⟨k + 1, 4, none⟩ = some (.string p4) := A6.out.word 4 (by rw [HQ.out]; rfl)
  have d5 := A6.out.box.j5
  have f5 := A6.out.box.frozen 5
  obtain ⟨sm, hsm⟩ : ∃ b, decide (p4 = ⟨#[115, 97, 109, 101]⟩) = b := ⟨_, rfl⟩
  have SM := hid hsm
  have A7 : Hid (GueJ w k (k + 1) m (W12.setCell ⟨m, 5, none⟩ (.bool sm)) P ⟨r, s, st, (v : Int), (vt : Int), sm, zeroK, fun _ => 0⟩) := hid (A6.out.set_ 5 (.bool sm) rfl)
  have hq4 : (p4.toList == [115, 97, 109, 101]) = sm := by
    rw [show ([115, 97, 109, 101] : List UInt8) = (⟨#[115, 97, 109, 101]⟩ : ByteArray).toList by rw [ByteArray.toList_eq], Sb_eq, ← hsm]
    congr 1
    exact propext Sb_inj
  clear hsm
  go_upto_region 10 with fail
  obtain ⟨W13, hW13⟩ : ∃ W13, W12.setCell ⟨m, 5, none⟩ (.bool sm) = W13 := ⟨_, rfl⟩
  rw [hW13] at A7
  rw [hW13]
  clear hW13 d5 f5 c4 hq4 A6
  have c5 : W13.cell? ⟨k + 1, 5, none⟩ = some (.string p5) := A7.out.word 5 (by rw [HQ.out]; rfl)
  go_wp2_with fail
  with_reducible refine (aread8 p5 _ (by have := Z5.out; omega) A7.out.all.laid).mono ?_
  rintro e w14 ⟨⟨V, ea, rfl, hV⟩, hb⟩
  have HV := hid hV
  have A8 := hid (A7.out.on hb)
  clear hb hV c5 A7
  have TH := hid (show World.there w14 m 14 ((ls8 V).toArray).size from A8.out.box.thereJ (o := 14) (m := 8) (by rw [rowJ_size]; decide))
  have TL := hid (show (Tryz.prog.info? 35).map (·.size) = some ((ls8 V).toArray).size from info_att8 V)
  have TO := hid (show ((ls8 V).toArray).all (·.oneCell') = true by simp [Value.oneCell'])
  have A9 : Hid (GueJ w k (k + 1) m (w14.setCells m 14 (ls8 V)) P ⟨r, s, st, (v : Int), (vt : Int), sm, zeroK, V⟩) := hid (A8.out.sets 14 (ls8 V) (put_att _ _ _ _ _ _ _ _ V))
  go_upto_region 11 with ((with_reducible refine wpList_store_mid (op := ⟨none, _, _, _, _, _⟩) rfl 35 (.tmp 50) (.tmp 48) rfl m 14 (ls8 V).toArray rfl ?hy TH.out TL.out TO.out ?_); (case hy => rfl))
  obtain ⟨W15, hW15⟩ : ∃ W15, w14.setCells m 14 (ls8 V) = W15 := ⟨_, rfl⟩
  rw [hW15] at A9
  rw [hW15]
  clear hW15 TH TL TO A8
  have c6 : W15.cell? ⟨k + 1, 6, none⟩ = some (.string p6) := A9.out.word 6 (by rw [HQ.out]; rfl)
  go_wp2_with fail
  with_reducible refine (cread8 p6 _ A9.out.all.seven (by have := Z6.out; omega)).mono ?_
  rintro e w16 ⟨⟨c, ec, rfl, hc⟩, hb⟩
  have HC := hid hc
  have B0 := hid (A9.out.on hb)
  clear hb hc c6 A9
  have TH := hid (show World.there w16 m 6 (cellsOf c).size from B0.out.box.thereJ (o := 6) (m := 8) (by rw [rowJ_size]; decide))
  have TL := hid (show (Tryz.prog.info? 32).map (·.size) = some (cellsOf c).size from info_cmd8 c)
  have TO := hid (show (cellsOf c).all (·.oneCell') = true by simp [cellsOf, Value.oneCell'])
  have B1 : Hid (GueJ w k (k + 1) m (w16.setCells m 6 (cellsOf c).toList) P ⟨r, s, st, (v : Int), (vt : Int), sm, c, V⟩) := hid (B0.out.sets 6 (cellsOf c).toList (put_cmd _ _ _ _ _ _ _ c _))
  go_upto_region 12 with ((with_reducible refine wpList_store_mid (op := ⟨none, _, _, _, _, _⟩) rfl 32 (.tmp 57) (.tmp 55) rfl m 6 (cellsOf c) rfl ?hy TH.out TL.out TO.out ?_); (case hy => rfl))
  obtain ⟨W17, hW17⟩ : ∃ W17, w16.setCells m 6 (cellsOf c).toList = W17 := ⟨_, rfl⟩
  rw [hW17] at B1
  rw [hW17]
  clear hW17 TH TL TO B0
  have N1 := hid (len_inst ⟨r, s, st, (v : Int), (vt : Int), sm, c, V⟩)
  have N3 := hid (rowJ_one ⟨r, s, st, (v : Int), (vt : Int), sm, c, V⟩)
  have TF : Hid (Below k w (W17.setRow k (rowJ ⟨r, s, st, (v : Int), (vt : Int), sm, c, V⟩))) := hid (below_setRow_ B1.out.bel (Nat.le_refl _))
  have KO := cread_ok p6 (by have := Z6.out; omega)
  rw [← HC.out] at KO
  have HG : Hid (GuessJ P ⟨r, s, st, (v : Int), (vt : Int), sm, c, V⟩) := hid ⟨⟨by simp only; have := VL.out; omega, by simp only; have := VTL.out; omega⟩, KO.1, KO.2, by rw [HP0.out, NM.out], by rw [HP1.out, BL.out], by rw [HP2.out]; exact ST.out.symm, fun h => absurd h H0.out, fun _ => ⟨by rw [HP3.out, VT.out], by rw [HP4.out]; exact SM.out.symm, by rw [HP5.out]; exact HV.out, by rw [HP6.out]; exact HC.out⟩⟩
  clear KO
  go_wp2_with (first
    | (with_reducible refine wpList_load_row (o := ⟨some 58, _, _, _, _, _⟩) rfl 37 (.tmp 6) rfl m rfl 37 (rowJ ⟨r, s, st, (v : Int), (vt : Int), sm, c, V⟩) (0, 0) _ B1.out.box.heap Tryz.underlying37 rfl N1.out ?_)
    | (with_reducible refine wpList_store_row (o := ⟨none, _, _, _, _, _⟩) rfl 37 (.tmp 2) (.tmp 58) rfl k (rowJ ⟨r, s, st, (v : Int), (vt : Int), sm, c, V⟩) rfl rfl 37 (rowJ zeroJ) B1.out.res.heap N1.out (size_inst _ _) N3.out ?_))
  exact bodyPost_ret (v := .agg (rowJ ⟨r, s, st, (v : Int), (vt : Int), sm, c, V⟩)) (results_cell_row (p := 2) (ty := 37) (by kernel_rfl) _ _ k 37 (rowJ ⟨r, s, st, (v : Int), (vt : Int), sm, c, V⟩) (0, 0) _ rfl (setRow_heap W17 k _ _ _ _ B1.out.res.heap) Tryz.underlying37 rfl N1.out) rfl ⟨⟨_, rfl, HG.out⟩, by rw [HK.out]; exact TF.out⟩
end Go.Proofs.YtohffiehmmcgbaaGreatDoor
