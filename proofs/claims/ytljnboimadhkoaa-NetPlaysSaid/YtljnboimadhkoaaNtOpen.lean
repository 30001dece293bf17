/-
  A frame among the arguments; a list of a net's steps.
-/
import Derived.Test.YtljnboimadhkoaaNtBase
import Derived.Deep.Slices
import Derived.ChangeSlices
namespace Go.Proofs.Ytljnboimadhkoaa
open Go.ChangeShapes Go.WideShapes Go.ChangeAt Go.RowKit Go.Deep
set_option linter.unusedVariables false
set_option linter.unusedSimpArgs false

/-- A slice of bytes in a cell. -/
theorem open_bytesN {H : Type} {enc : TypeId × Value → H} {P : Program} {W : World} {base fuel : Nat} {held : Bool} {t e : TypeId} {v : Value} {x : DataW H × List MemPlace} (ht : P.underlying t = some (.slice e)) (he : P.underlying e = some (.int .u8)) (hc : P.cellsOf e = 1)
    (hf : DataW.trod enc P W base (fun _ => true) held fuel t [v] = some x) {N : Nat} (hlt : ∀ y ∈ x.2, y.block < N) :
    ∃ A c, ∃ l : List Nat, v = .slice A l.length c ∧ (A = none → c = 0) ∧ l.length ≤ c ∧ c ≤ maxLen ∧ Held N W A l ∧ ∀ x ∈ l, x < 256 := by
  rcases open_ints ht he hc hf with ⟨hcs, _⟩ | ⟨a, len, cap, zs, hcs, _, hl, hm, hz, hx, hcell, hwz⟩
  · simp at hcs
    exact ⟨none, 0, [], hcs, fun _ => rfl, Nat.le_refl _, by simp [maxLen], Held.nil _ _ _, fun x h => by simp at h⟩
  · simp at hcs
    subst hcs
    subst hx
    simp only [if_true] at hz
    have hpos : ∀ n ∈ zs, 0 ≤ n := fun n hn => u8_pos n (hwz n hn)
    have hll : ((zs.take len).map Int.toNat).length = len := by simp; omega
    refine ⟨some a, cap, (zs.take len).map Int.toNat, by rw [hll], fun h => (by cases h), by omega, hm, ?_, ?_⟩
    · intro j x hj
      have hjl : j < len := by have := (List.getElem?_eq_some_iff.1 hj).1; omega
      have hjz : j < zs.length := by omega
      have hx : x = (zs[j]).toNat := by
        rw [List.getElem?_map, List.getElem?_take, if_pos hjl, List.getElem?_eq_getElem hjz] at hj
        simp at hj
        exact hj.symm
      obtain ⟨b, off, spot⟩ := a
      have hspot : spot = none := by simpa [Addr.add] using World.cell?_spot (hcell 0 (by omega))
      subst hspot
      have hbW : b < N := hlt (.cell b off) (MemPlace.mem_row.2 ⟨0, by omega, by simp⟩)
      refine ⟨b, off, rfl, hbW, ?_⟩
      rw [← add_plain, hcell j hjz, hx]
      have h0 := hpos _ (List.getElem_mem hjz)
      rw [List.getD_eq_getElem?_getD, List.getElem?_eq_getElem hjz]
      simp only [Option.getD_some]
      rw [Int.toNat_of_nonneg h0]
    · intro x hx
      obtain ⟨n, hn, rfl⟩ := List.mem_map.1 hx
      have hn' := List.mem_of_mem_take hn
      have h1 := hpos n hn'
      have h2 := u8_lt n (hwz n hn')
      omega
/-- What a frame among the arguments is. -/
structure MadeF (N : Nat) (w : World) (f : FrL) (A : Option Addr) (c : Nat) : Prop where
  bare : A = none → c = 0
  room : f.d.length ≤ c
  most : c ≤ maxLen
  byte : ∀ x ∈ f.d, x < 256
  held : Held N w A f.d
theorem list3N {α : Type} {l : List α} (h : l.length = 3) : ∃ a b c, l = [a, b, c] := by
  match l, h with
  | [a, b, c], _ => exact ⟨a, b, c, rfl⟩
set_option maxRecDepth 100000 in
set_option maxHeartbeats 2000000 in
theorem open_fr3 {H : Type} {enc : TypeId × Value → H} {w : World} {base : Nat} {held : Bool} {d : DataW H} {p : List MemPlace} {fuel : Nat} {cs : List Value} (hlen : cs.length = 3)
    (hf : DataW.trod enc Try.prog w base (fun _ => true) held fuel 32 cs = some (d, p)) {N : Nat} (hlt : ∀ y ∈ p, y.block < N) : ∃ (f : FrL) (A : Option Addr) (c : Nat), cs = frC (f, .slice A f.d.length c) ∧ MadeF N w f A c := by
  obtain ⟨a0, a1, a2, rfl⟩ := list3N hlen
  obtain ⟨xs, n, _, hp, _, hl, hfs⟩ := DataW.trod_struct Try.underlying32 hf
  have c1 : Try.prog.cellsOf 3 = 1 := by kernel_rfl
  have c2 : Try.prog.cellsOf 30 = 1 := by kernel_rfl
  have c3 : Try.prog.cellsOf 5 = 1 := by kernel_rfl
  have e0 := hfs 0 _ rfl
  have e1 := hfs 1 _ rfl
  have e2 := hfs 2 _ rfl
  simp [c1, c2] at e0 e1 e2
  have hx : xs.length = 3 := hl
  have at_ : ∀ i, i < 3 → ∃ y, xs[i]? = some y := fun i hi => ⟨xs[i]'(by omega), List.getElem?_eq_getElem (by omega)⟩
  obtain ⟨y0, z0⟩ := at_ 0 (by omega)
  obtain ⟨y1, z1⟩ := at_ 1 (by omega)
  obtain ⟨y2, z2⟩ := at_ 2 (by omega)
  have hm2 : y2 ∈ xs := List.mem_of_getElem? z2
  rw [z0] at e0
  rw [z1] at e1
  rw [z2] at e2
  simp only [Prod.mk.injEq] at hp
  obtain ⟨fr, hfr, _, _⟩ := DataW.trod_int Try.underlying3 e0
  obtain ⟨to, hto, _, _⟩ := DataW.trod_int Try.underlying3 e1
  obtain ⟨A, c, l, hv, h1, h2, h3, h4, h5⟩ := open_bytesN Try.underlying30 Try.underlying5 c3 e2 (N := N) (fun y hy => hlt y (by rw [hp.2]; exact List.mem_flatMap.2 ⟨y2, hm2, hy⟩))
  simp only [List.cons.injEq, and_true] at hfr hto
  subst hfr hto hv
  exact ⟨⟨fr, to, l⟩, A, c, rfl, h1, h2, h3, h5, h4⟩
theorem okWide_structN {P : Program} {w : World} {r : Reach} {base : Nat} {t : TypeId} {v : Value} {fs : Array Field} (ht : P.underlying t = some (.struct fs)) (h : Value.okWide P w r base t v) : ∃ cs, v = .agg cs ∧ cs.size = P.cellsOf t := by
  simp only [Value.okWide, ht] at h
  obtain ⟨cs, h1, h2, _⟩ := h
  exact ⟨cs, h1, h2⟩
set_option maxRecDepth 100000 in
/-- A frame among the arguments, by value. -/
theorem open_frame19 {H : Type} {enc : TypeId × Value → H} {w : World} {base b0 : Nat} {held : Bool} {r : Reach} {v : Value} {d : DataW H} {p : List MemPlace}
    (hv : Value.okWide Try.prog w r b0 32 v) (h : DataW.Trod enc Try.prog w base (fun _ => true) held 32 v d p) {N : Nat} (hlt : ∀ y ∈ p, y.block < N) : ∃ (f : FrL) (A : Option Addr) (c : Nat), v = frV (f, .slice A f.d.length c) ∧ MadeF N w f A c := by
  obtain ⟨cs, rfl, hsz⟩ := okWide_structN Try.underlying32 hv
  obtain ⟨fuel, hf⟩ := h
  have h3 : cs.size = 3 := hsz.trans (show Try.prog.cellsOf 32 = 3 by kernel_rfl)
  obtain ⟨f, A, c, hc, hm⟩ := open_fr3 (by simpa [Value.cells] using h3) hf hlt
  refine ⟨f, A, c, ?_, hm⟩
  have : cs.toList = frC (f, .slice A f.d.length c) := hc
  obtain ⟨l⟩ := cs
  simp only at this
  subst this
  rfl
end Go.Proofs.Ytljnboimadhkoaa
