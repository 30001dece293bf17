/-
  Records among the arguments; rows that still read so; the first bytes of a slice.
-/
import Derived.Test.YtilocedppkmikaaGRefScan
import Derived.Deep.Matrix
namespace Go.Proofs.Ytilocedppkmikaa
open Go.ChangeShapes Go.WideShapes Go.ChangeAt Go.RowKit
set_option linter.unusedVariables false

/-- A slice of slices of bytes among the arguments. -/
theorem open_rows {H : Type} {enc : TypeId × Value → H} {P : Program} {W : World} {base : Nat} {t e q : TypeId} {v : Value} {d : DataW H} {p : List MemPlace} (ht : P.underlying t = some (.slice e)) (he : P.underlying e = some (.slice q)) (hq : P.underlying q = some (.int .u8))
    (ce : P.cellsOf e = 1) (cq : P.cellsOf q = 1) (hval : Value.okWide P W .any base t v) (hd : DataW.Trod enc P W 0 (fun _ => true) true t v d p) (hlt : ∀ x ∈ p, x.block < W.heap.size) :
    ∃ A cap, ∃ ls : List (List Nat), v = .slice A ls.length cap ∧ ls.length ≤ 9223372036854775807 ∧ SeesRows W A ls ∧ NilBare W A ls.length ∧ (∀ x ∈ ls.flatten, x < 256) := by
  obtain ⟨a0, len, cap, rfl⟩ := okWide_slice ht hval
  obtain ⟨fuel, hf⟩ := hd
  rcases Go.Deep.open_int_rows ht he hq ce cq hf with ⟨hcs, _⟩ | ⟨a, len', cap', A, L, C, Z, hcs, _, hl, hm, hx, hr⟩
  · simp [Value.cells] at hcs
    obtain ⟨rfl, rfl, rfl⟩ := hcs
    exact ⟨none, 0, [], rfl, by simp, SeesRows.nil _ _, fun j b o B n c hj => by simp at hj, by simp⟩
  · simp [Value.cells] at hcs
    obtain ⟨rfl, rfl, rfl⟩ := hcs
    simp only [Prod.mk.injEq] at hx
    obtain ⟨rfl, rfl⟩ := hx
    obtain ⟨ls, hls⟩ : ∃ ls : List (List Nat), ls = (List.range len).map fun r => ((Z r).take (L r)).map Int.toNat := ⟨_, rfl⟩
    have hlen : ls.length = len := by rw [hls]; simp
    have hget : ∀ j l, ls[j]? = some l → j < len ∧ l = ((Z j).take (L j)).map Int.toNat := by
      intro j l hj
      have hjl : j < len := by have := (List.getElem?_eq_some_iff.1 hj).1; omega
      rw [hls, List.getElem?_map, List.getElem?_range hjl] at hj
      injection hj with hj
      exact ⟨hjl, hj.symm⟩
    have hbyte : ∀ r, r < cap → ∀ x ∈ ((Z r).take (L r)).map Int.toNat, x < 256 := by
      intro r hrc x hx
      obtain ⟨n, hn, rfl⟩ := List.mem_map.1 hx
      have hw := (hr r hrc).2.2.2.2.1 n (List.mem_of_mem_take hn)
      have h1 := u8_pos n hw
      have h2 := u8_lt n hw
      omega
    obtain ⟨ab, ao, asp⟩ := a
    have hspot : 0 < cap → asp = none := fun h => by
      have := (hr 0 h).1
      simpa [Addr.add] using World.cell?_spot this
    refine ⟨some ⟨ab, ao, asp⟩, cap, ls, by rw [hlen], by unfold maxLen at hm; omega, ?_, ?_, ?_⟩
    · intro j l hj
      obtain ⟨hjl, rfl⟩ := hget j l hj
      obtain ⟨h1, h2, h3, h4, h5, h6, h7⟩ := hr j (by omega)
      have hs := hspot (by omega)
      subst hs
      have hll : (((Z j).take (L j)).map Int.toNat).length = L j := by rw [List.length_map, List.length_take]; omega
      refine ⟨ab, ao, A j, C j, rfl, hlt (.cell ab ao) (List.mem_append_left _ (MemPlace.mem_row.2 ⟨0, by omega, by simp⟩)), ?_, by rw [hll]; unfold maxLen at h3; omega, hbyte j (by omega), ?_⟩
      · rw [hll, ← add_plain]
        exact h1
      · intro i x hi
        have hil : i < L j := by have := (List.getElem?_eq_some_iff.1 hi).1; omega
        have hiz : i < (Z j).length := by omega
        have hx : x = ((Z j)[i]).toNat := by
          rw [List.getElem?_map, List.getElem?_take, if_pos hil, List.getElem?_eq_getElem hiz] at hi
          simp at hi
          exact hi.symm
        cases hA : A j with
        | none => have := h6 hA; omega
        | some aj =>
          obtain ⟨bj, oj, sj⟩ := aj
          have h8 := h7 _ hA
          have hsp : sj = none := by simpa [Addr.add] using World.cell?_spot (h8.2 0 (by omega))
          subst hsp
          have hbl : bj < W.heap.size := by
            have hc := h8.2 0 (by omega)
            exact World.block_lt_of_cell? W _ hc
          refine ⟨bj, oj, rfl, hbl, ?_⟩
          rw [← add_plain, h8.2 i (by omega), hx, List.getD_eq_getElem?_getD, List.getElem?_eq_getElem hiz]
          simp only [Option.getD_some]
          rw [Int.toNat_of_nonneg (u8_pos _ (h5 _ (List.getElem_mem hiz)))]
    · intro j b o B n c hj he hc hB
      rw [hlen] at hj
      injection he with he
      have hs := hspot (by omega)
      subst hs
      injection he with he1 he2
      subst he1; subst he2
      obtain ⟨h1, h2, h3, h4, h5, h6, h7⟩ := hr j (by omega)
      rw [add_plain, hc] at h1
      simp at h1
      obtain ⟨e1, e2, e3⟩ := h1
      rw [e3]
      exact h6 (by rw [← e1]; exact hB)
    · intro x hx
      obtain ⟨l, h1, h2⟩ := List.mem_flatten.1 hx
      obtain ⟨j, hj⟩ := List.getElem?_of_mem h1
      obtain ⟨hjl, rfl⟩ := hget j l hj
      exact hbyte j (by omega) x h2

theorem rows_below {w w' : World} {A : Option Addr} {ls : List (List Nat)} (h : SeesRows w A ls) (hb : Below w.heap.size w w') : SeesRows w' A ls := by
  intro j l hj
  obtain ⟨b, o, B, c, hA, hlt, hc, hn, hx, hs⟩ := h j l hj
  exact ⟨b, o, B, c, hA, Nat.lt_of_lt_of_le hlt hb.size, (hb.cell (by exact hlt)).trans hc, hn, hx, hs.below hb⟩
theorem bare_below {w w' : World} {A : Option Addr} {ls : List (List Nat)} (hs : SeesRows w A ls) (h : NilBare w A ls.length) (hb : Below w.heap.size w w') : NilBare w' A ls.length := by
  intro j b o B n c hj he hc hB
  obtain ⟨b', o', B', c', hA, hlt, hc', _⟩ := hs j ls[j] (List.getElem?_eq_getElem hj)
  rw [he] at hA
  injection hA with hA
  injection hA with e1 e2
  subst e1; subst e2
  rw [hb.cell (by exact hlt)] at hc
  exact h j b o B n c hj he hc hB

/-- The first k bytes, with whatever room. -/
theorem cut_head {w0 : World} {A : Option Addr} {l : List Nat} {n c k : Nat} (hk : k ≤ n) (hc : n ≤ c) (h : Sees .u8 w0 A l) (hA : A = none → c = 0) :
    ∃ A1, (∀ w, (Instr.slice 22 (.slice A n c) none (some (.int .i64 (k : Int))) none).run Try.prog w = .ok (.slice A1 k c) w) ∧ (A1 = none → c = 0) ∧ Sees .u8 w0 A1 (l.take k) := by
  obtain ⟨i0, hi, hz0, hz1, hz2⟩ := info_parts info_u8
  have he : Try.prog.elem 22 = 5 := by simp [Program.elem, Try.underlying22]
  have hsz : ∀ w, (sizeOf (Try.prog.elem 22)).run Try.prog w = .ok i0.size w := fun w => by rw [he]; simp [sizeOf, typeInfo, hi]
  refine ⟨if c = 0 then A else A.map (·.add (0 * i0.size)), fun w => ?_, fun hn' => ?_, ?_⟩
  · rw [run_slice_h (P := Try.prog) w 22 A n c (by rw [Try.underlying22, he]) .i64 (k : Int) (by omega) (by omega), hsz]
    simp [Result.andThen, sliced]
  · by_cases h0 : c = 0
    · exact h0
    · rw [if_neg h0] at hn'
      cases A with
      | none => exact hA rfl
      | some a => cases hn'
  · have e : (if c = 0 then A else A.map (·.add (0 * i0.size))) = A := by
      split
      · rfl
      · rw [Nat.zero_mul]; cases A <;> simp [Addr.add]
    rw [e]
    exact h.take k

end Go.Proofs.Ytilocedppkmikaa
