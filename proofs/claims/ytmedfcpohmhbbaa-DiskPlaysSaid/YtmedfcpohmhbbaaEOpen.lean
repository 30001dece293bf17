/-
  A list of steps among the arguments: a slice of structs with a slice of bytes in each.
-/
import Derived.Test.YtmedfcpohmhbbaaEAnchor
import Derived.Deep.Slices
import Derived.ChangeSlices
namespace Go.Proofs.Ytmedfcpohmhbbaa
open Go.ChangeShapes Go.WideShapes Go.ChangeAt Go.RowKit Go.Deep
set_option linter.unusedVariables false
set_option linter.unusedSimpArgs false

/-- A step. -/
structure OpV where
  kd : Int
  f : Int
  n : Int
  A : Option Addr
  l : List Nat
  c : Nat
def opV (o : OpV) : Array Value := opC o.kd o.f o.n o.A o.l.length o.c
/-- As it may be. -/
structure MadeP (o : OpV) : Prop where
  bare : o.A = none → o.c = 0
  room : o.l.length ≤ o.c
  most : o.c ≤ maxLen
  num : o.n ≤ 9223372036854775807
/-- A slice that reads as a list of steps, all of it below a block. -/
def SeesP (N : Nat) (w : World) (A : Option Addr) (os : List OpV) : Prop := ∀ (j : Nat) (h : j < os.length), ∃ b o, A = some ⟨b, o, none⟩ ∧ b < N ∧
  (w.cell? ⟨b, o + j * 4, none⟩ = some (.int .i64 os[j].kd) ∧ w.cell? ⟨b, o + j * 4 + 1, none⟩ = some (.int .i64 os[j].f) ∧ w.cell? ⟨b, o + j * 4 + 2, none⟩ = some (.int .i64 os[j].n) ∧ w.cell? ⟨b, o + j * 4 + 3, none⟩ = some (.slice os[j].A os[j].l.length os[j].c)) ∧ Held N w os[j].A os[j].l
theorem SeesP.below {N : Nat} {w w' : World} {A : Option Addr} {os : List OpV} (h : SeesP N w A os) (k : Below N w w') : SeesP N w' A os := fun j hj => by
  obtain ⟨b, o, h1, h2, ⟨c0, c1, c2, c3⟩, h3⟩ := h j hj
  exact ⟨b, o, h1, h2, ⟨(k.cell (by exact h2)).trans c0, (k.cell (by exact h2)).trans c1, (k.cell (by exact h2)).trans c2, (k.cell (by exact h2)).trans c3⟩, h3.below k⟩

/-- A guarded load of a whole row that is wanted. -/
theorem wpList_load_rowgE {P : Program} {ops : Array Oper} {rest : List Oper} {o : Oper} {a : Act} {w : World} {Q : Exit → Act → World → Prop} (hw : Region.wanted o (yielded ops a.tmps) = true) (ty : TypeId) (x : Operand) (ho : o.op = .load ty x)
    (g : Nat) (hx : a.eval x = .pointer (some ⟨g, 0, none⟩)) (t : TypeId) (cs : Array Value) (fr : Nat × Nat) (d : TypeDesc) (hg : w.heap[g]? = some (.cells cs t fr))
    (hu : P.underlying ty = some d) (hd : (match d with | .struct _ | .array _ _ => true | _ => false) = true) (hi : (P.info? ty).map (·.size) = some cs.size)
    (h : wpList P ops Q rest (a.put o.dst (.agg cs)) w) : wpList P ops Q (o :: rest) a w :=
  wpList_step fun K hK => by simp only [hw, if_true]; exact wp_load_row ty x ho g hx t cs fr d hg hu hd hi (hK _ _ h)

theorem list4 {α : Type} {l : List α} (h : l.length = 4) : ∃ a b c d, l = [a, b, c, d] := by
  match l, h with
  | [a, b, c, d], _ => exact ⟨a, b, c, d, rfl⟩

/-- A slice of bytes in a cell. -/
theorem open_bytes {H : Type} {enc : TypeId × Value → H} {P : Program} {W : World} {base fuel : Nat} {held : Bool} {t e : TypeId} {v : Value} {x : DataW H × List MemPlace} (ht : P.underlying t = some (.slice e)) (he : P.underlying e = some (.int .u8)) (hc : P.cellsOf e = 1)
    (hf : DataW.trod enc P W base (fun _ => true) held fuel t [v] = some x) {N : Nat} (hlt : ∀ y ∈ x.2, y.block < N) :
    ∃ A c, ∃ l : List Nat, v = .slice A l.length c ∧ (A = none → c = 0) ∧ l.length ≤ c ∧ c ≤ maxLen ∧ Held N W A l := by
  rcases open_ints ht he hc hf with ⟨hcs, _⟩ | ⟨a, len, cap, zs, hcs, _, hl, hm, hz, hx, hcell, hwz⟩
  · simp at hcs
    exact ⟨none, 0, [], hcs, fun _ => rfl, Nat.le_refl _, by simp [maxLen], Held.nil _ _ _⟩
  · simp at hcs
    subst hcs
    subst hx
    simp only [if_true] at hz
    have hpos : ∀ n ∈ zs, 0 ≤ n := fun n hn => u8_pos n (hwz n hn)
    have hll : ((zs.take len).map Int.toNat).length = len := by simp; omega
    refine ⟨some a, cap, (zs.take len).map Int.toNat, by rw [hll], fun h => (by cases h), by omega, hm, ?_⟩
    intro j x hj
    have hjl : j < len := by have := (List.getElem?_eq_some_iff.1 hj).1; omega
    have hjz : j < zs.length := by omega
    have hx : x = (zs[j]).toNat := by
      rw [List.getElem?_map, List.getElem?_take, if_pos hjl, List.getElem?_eq_getElem hjz] at hj
      simp at hj
      exact hj.symm
    obtain ⟨b, off, spot⟩ := a
    have hspot : spot = none := by simpa [Addr.add] using World.cell?_spot (hcell 0 (by omega))
    subst hspot
    have hbW : b < N := hlt (.cell b off) (MemPlace.mem_row.2 ⟨0, by omega, by simp⟩)
    refine ⟨b, off, rfl, hbW, ?_⟩
    rw [← add_plain, hcell j hjz, hx]
    have h0 := hpos _ (List.getElem_mem hjz)
    rw [List.getD_eq_getElem?_getD, List.getElem?_eq_getElem hjz]
    simp only [Option.getD_some]
    rw [Int.toNat_of_nonneg h0]

set_option maxRecDepth 100000 in
set_option maxHeartbeats 2000000 in
theorem open_op4 {H : Type} {enc : TypeId × Value → H} {w : World} {base : Nat} {held : Bool} {d : DataW H} {p : List MemPlace} {fuel : Nat} {cs : List Value} (hlen : cs.length = 4)
    (hf : DataW.trod enc Try.prog w base (fun _ => true) held fuel 30 cs = some (d, p)) {N : Nat} (hlt : ∀ y ∈ p, y.block < N) : ∃ o : OpV, cs = (opV o).toList ∧ MadeP o ∧ Held N w o.A o.l := by
  obtain ⟨a0, a1, a2, a3, rfl⟩ := list4 hlen
  obtain ⟨xs, n, _, hp, _, hl, hfs⟩ := DataW.trod_struct Try.underlying30 hf
  have c1 : Try.prog.cellsOf 3 = 1 := by kernel_rfl
  have c2 : Try.prog.cellsOf 28 = 1 := by kernel_rfl
  have c3 : Try.prog.cellsOf 5 = 1 := by kernel_rfl
  have e0 := hfs 0 _ rfl
  have e1 := hfs 1 _ rfl
  have e2 := hfs 2 _ rfl
  have e3 := hfs 3 _ rfl
  simp [c1, c2] at e0 e1 e2 e3
  have hx : xs.length = 4 := hl
  have at_ : ∀ i, i < 4 → ∃ y, xs[i]? = some y := fun i hi => ⟨xs[i]'(by omega), List.getElem?_eq_getElem (by omega)⟩
  obtain ⟨y0, z0⟩ := at_ 0 (by omega)
  obtain ⟨y1, z1⟩ := at_ 1 (by omega)
  obtain ⟨y2, z2⟩ := at_ 2 (by omega)
  obtain ⟨y3, z3⟩ := at_ 3 (by omega)
  have hm3 : y3 ∈ xs := List.mem_of_getElem? z3
  rw [z0] at e0
  rw [z1] at e1
  rw [z2] at e2
  rw [z3] at e3
  simp only [Prod.mk.injEq] at hp
  obtain ⟨kd, hkd, _, wk⟩ := DataW.trod_int Try.underlying3 e0
  obtain ⟨f, hf', _, wf⟩ := DataW.trod_int Try.underlying3 e1
  obtain ⟨m, hm, _, wm⟩ := DataW.trod_int Try.underlying3 e2
  obtain ⟨A, c, l, hv, h1, h2, h3, h4⟩ := open_bytes Try.underlying28 Try.underlying5 c3 e3 (N := N) (fun y hy => hlt y (by rw [hp.2]; exact List.mem_flatMap.2 ⟨y3, hm3, hy⟩))
  simp only [List.cons.injEq, and_true] at hkd hf' hm
  subst hkd hf' hm hv
  exact ⟨⟨kd, f, m, A, l, c⟩, rfl, ⟨h1, h2, h3, i64_le m wm⟩, h4⟩

theorem array_two {α : Type} {cs : Array α} (h : cs.size = 2) : ∃ a b, cs = #[a, b] := by
  obtain ⟨l⟩ := cs
  match l, h with
  | [a, b], _ => exact ⟨a, b, rfl⟩
theorem okWide_arrayE {P : Program} {w : World} {r : Reach} {base : Nat} {t : TypeId} {v : Value} {n : Nat} {e : TypeId} (ht : P.underlying t = some (.array n e)) (h : Value.okWide P w r base t v) : ∃ cs, v = .agg cs ∧ cs.size = P.cellsOf t := by
  simp only [Value.okWide, ht] at h
  obtain ⟨cs, h1, h2, _⟩ := h
  exact ⟨cs, h1, h2⟩
set_option maxRecDepth 100000 in
/-- Two numbers among the arguments, an array by value. -/
theorem open_two {H : Type} {enc : TypeId × Value → H} {w : World} {base b0 : Nat} {spare : Nat → Bool} {held : Bool} {r : Reach} {v : Value} {d : DataW H} {p : List MemPlace}
    (hv : Value.okWide Try.prog w r b0 32 v) (h : DataW.Trod enc Try.prog w base spare held 32 v d p) : ∃ a b : Int, v = .agg #[.int .i64 a, .int .i64 b] := by
  obtain ⟨cs, rfl, hsz⟩ := okWide_arrayE Try.underlying32 hv
  obtain ⟨a0, a1, rfl⟩ := array_two (hsz.trans (show Try.prog.cellsOf 32 = 2 by kernel_rfl))
  obtain ⟨fuel, hf⟩ := h
  have c1 : Try.prog.cellsOf 3 = 1 := by kernel_rfl
  obtain ⟨ys, m, _, _, _, hm, hgs⟩ := DataW.trod_array Try.underlying32 hf
  rw [c1] at hgs
  have at_ : ∀ i, i < 2 → ∃ y, ys[i]? = some y := fun i hi => ⟨ys[i]'(by omega), List.getElem?_eq_getElem (by omega)⟩
  have one : ∀ (i : Nat) (a : Value), i < 2 → (([a0, a1] : List Value).drop (i * 1)).take 1 = [a] → ∃ n : Int, a = .int .i64 n := by
    intro i a hi ha
    obtain ⟨y, hy⟩ := at_ i hi
    have hg := hgs i hi
    have hc : (Value.agg #[a0, a1]).cells.toList = [a0, a1] := rfl
    rw [hc, ha, hy] at hg
    obtain ⟨n, hn, _, _⟩ := DataW.trod_int Try.underlying3 hg
    simp at hn
    exact ⟨n, hn⟩
  obtain ⟨n0, rfl⟩ := one 0 a0 (by omega) rfl
  obtain ⟨n1, rfl⟩ := one 1 a1 (by omega) rfl
  exact ⟨n0, n1, rfl⟩

theorem pick_allP {α : Type} (d : α) {m : Nat} {p : Nat → α → Prop} (h : ∀ i, i < m → ∃ x, p i x) : ∃ F : Nat → α, ∀ i, i < m → p i (F i) := by
  classical
  exact ⟨fun i => if hi : i < m then Classical.choose (h i hi) else d, fun i hi => by simp only [dif_pos hi]; exact Classical.choose_spec (h i hi)⟩

set_option maxRecDepth 100000 in
/-- A slice of steps among the arguments. -/
theorem open_steps13 {H : Type} {enc : TypeId × Value → H} {W : World} {base : Nat} {v : Value} {d : DataW H} {p : List MemPlace} (hval : Value.okWide Try.prog W .any base 22 v) (hd : DataW.Trod enc Try.prog W 0 (fun _ => true) true 22 v d p) (hlt : ∀ x ∈ p, x.block < W.heap.size) :
    ∃ A cap, ∃ l : List OpV, v = .slice A l.length cap ∧ SeesP W.heap.size W A l ∧ (∀ o ∈ l, MadeP o) ∧ l.length ≤ 9223372036854775807 := by
  have hC : Try.prog.cellsOf 30 = 4 := by kernel_rfl
  obtain ⟨a0, len, cap, rfl⟩ := okWide_slice Try.underlying22 hval
  obtain ⟨fuel, hf⟩ := hd
  rcases open_slice Try.underlying22 hf with ⟨hcs, _⟩ | ⟨a, len', cap', m, n', D, Pl, hcs, _, hl, hcm, hm, hx, hall⟩
  · simp [Value.cells] at hcs
    obtain ⟨rfl, rfl, rfl⟩ := hcs
    exact ⟨none, 0, [], rfl, fun j h => absurd h (by simp), fun c h => absurd h (by simp), Nat.zero_le _⟩
  · simp [Value.cells] at hcs
    obtain ⟨rfl, rfl, rfl⟩ := hcs
    simp only [if_true] at hm
    subst hm
    rw [hC] at hall hx
    simp only [Prod.mk.injEq] at hx
    obtain ⟨F, hF⟩ := pick_allP (⟨0, 0, 0, none, [], 0⟩ : OpV) (m := m) (p := fun i (o : OpV) => (MadeP o ∧ Held W.heap.size W o.A o.l) ∧ W.cells? 0 (a.add (i * 4)) 4 = some (opV o).toList)
      (fun i hi => by
        obtain ⟨cs', hc, ht⟩ := hall i hi
        obtain ⟨_, hlen, _⟩ := World.cells?_some hc
        obtain ⟨o, rfl, hok, hh⟩ := open_op4 (d := D i) (p := Pl i) hlen ht (N := W.heap.size) (fun y hy => hlt y (by rw [hx.2]; exact List.mem_append_right _ (List.mem_flatMap.2 ⟨i, List.mem_range.2 hi, hy⟩)))
        exact ⟨o, ⟨hok, hh⟩, hc⟩)
    refine ⟨some a, m, (List.range len).map F, by simp, ?_, ?_, ?_⟩
    · intro j hj
      have hjl : j < len := by simpa using hj
      obtain ⟨⟨_, hh⟩, hc⟩ := hF j (by omega)
      obtain ⟨_, hlen, hat⟩ := World.cells?_some hc
      have he : ((List.range len).map F)[j] = F j := by simp
      rw [he]
      obtain ⟨b, off, spot⟩ := a
      have hspot : spot = none := by
        obtain ⟨_, hc0⟩ := hF 0 (by omega)
        obtain ⟨_, _, hat0⟩ := World.cells?_some hc0
        simpa [Addr.add] using World.cell?_spot (hat0 0 (by omega))
      subst hspot
      have hb : b < W.heap.size := hlt (.cell b off) (by rw [hx.2]; exact List.mem_append_left _ (MemPlace.mem_row.2 ⟨0, by omega, by simp⟩))
      have one : ∀ i u, i < 4 → (opV (F j)).toList[i]? = some u → W.cell? ⟨b, off + j * 4 + i, none⟩ = some u := fun i u hi hu => by
        have h2 := hat i (by omega)
        simp only [add_plain] at h2
        rw [h2]
        exact hu
      exact ⟨b, off, rfl, hb, ⟨one 0 _ (by omega) rfl, one 1 _ (by omega) rfl, one 2 _ (by omega) rfl, one 3 _ (by omega) rfl⟩, hh⟩
    · intro c hc
      obtain ⟨i, hi, rfl⟩ := List.mem_map.1 hc
      exact (hF i (by have := List.mem_range.1 hi; omega)).1.1
    · simp
      unfold maxLen at hcm
      omega

end Go.Proofs.Ytmedfcpohmhbbaa
