/-
  A list of a net's steps among the arguments.
-/
import Derived.Test.YtljnboimadhkoaaNtStepZ
namespace Go.Proofs.Ytljnboimadhkoaa
open Go.ChangeShapes Go.WideShapes Go.ChangeAt Go.RowKit Go.Deep
set_option linter.unusedVariables false
set_option linter.unusedSimpArgs false

theorem pick_allN {α : Type} (d : α) {m : Nat} {p : Nat → α → Prop} (h : ∀ i, i < m → ∃ x, p i x) : ∃ F : Nat → α, ∀ i, i < m → p i (F i) := by
  classical
  exact ⟨fun i => if hi : i < m then Classical.choose (h i hi) else d, fun i hi => by simp only [dif_pos hi]; exact Classical.choose_spec (h i hi)⟩
set_option maxRecDepth 100000 in
/-- A slice of steps among the arguments. -/
theorem open_ops19 {H : Type} {enc : TypeId × Value → H} {W : World} {base : Nat} {v : Value} {d : DataW H} {p : List MemPlace} (hval : Value.okWide Try.prog W .any base 22 v) (hd : DataW.Trod enc Try.prog W 0 (fun _ => true) true 22 v d p) (hlt : ∀ x ∈ p, x.block < W.heap.size) :
    ∃ A cap, ∃ l : List OpN, v = .slice A l.length cap ∧ SeesO W.heap.size W A l ∧ l.length ≤ 9223372036854775807 := by
  have hC : Try.prog.cellsOf 34 = 6 := by kernel_rfl
  obtain ⟨a0, len, cap, rfl⟩ := okWide_slice Try.underlying22 hval
  obtain ⟨fuel, hf⟩ := hd
  rcases open_slice Try.underlying22 hf with ⟨hcs, _⟩ | ⟨a, len', cap', m, n', D, Pl, hcs, _, hl, hcm, hm, hx, hall⟩
  · simp [Value.cells] at hcs
    obtain ⟨rfl, rfl, rfl⟩ := hcs
    exact ⟨none, 0, [], rfl, fun j o h => by simp at h, Nat.zero_le _⟩
  · simp [Value.cells] at hcs
    obtain ⟨rfl, rfl, rfl⟩ := hcs
    simp only [if_true] at hm
    subst hm
    rw [hC] at hall hx
    simp only [Prod.mk.injEq] at hx
    obtain ⟨F, hF⟩ := pick_allN (⟨0, 0, 0, ⟨0, 0, []⟩, none, 0⟩ : OpN) (m := m) (p := fun i (o : OpN) => MadeO W.heap.size W o ∧ W.cells? 0 (a.add (i * 6)) 6 = some (opNC o).toList)
      (fun i hi => by
        obtain ⟨cs', hc, ht⟩ := hall i hi
        obtain ⟨_, hlen, _⟩ := World.cells?_some hc
        obtain ⟨o, rfl, hok⟩ := open_op6 (d := D i) (p := Pl i) hlen ht (N := W.heap.size) (fun y hy => hlt y (by rw [hx.2]; exact List.mem_append_right _ (List.mem_flatMap.2 ⟨i, List.mem_range.2 hi, hy⟩)))
        exact ⟨o, hok, hc⟩)
    refine ⟨some a, m, (List.range len).map F, by simp, ?_, ?_⟩
    · intro j o hj
      obtain ⟨hj1, hj2⟩ := List.getElem?_eq_some_iff.1 hj
      have hjl : j < len := by simpa using hj1
      obtain ⟨hh, hc⟩ := hF j (by omega)
      obtain ⟨_, hlen, hat⟩ := World.cells?_some hc
      have he : F j = o := by rw [← hj2]; simp
      rw [he] at hh hat hlen
      obtain ⟨b, off, spot⟩ := a
      have hspot : spot = none := by
        obtain ⟨_, hc0⟩ := hF 0 (by omega)
        obtain ⟨_, _, hat0⟩ := World.cells?_some hc0
        simpa [Addr.add] using World.cell?_spot (hat0 0 (by omega))
      subst hspot
      have hb : b < W.heap.size := hlt (.cell b off) (by rw [hx.2]; exact List.mem_append_left _ (MemPlace.mem_row.2 ⟨0, by omega, by simp⟩))
      have one : ∀ i u, i < 6 → (opNC o).toList[i]? = some u → W.cell? ⟨b, off + j * 6 + i, none⟩ = some u := fun i u hi hu => by
        have h2 := hat i (by omega)
        simp only [add_plain] at h2
        rw [h2]
        exact hu
      exact ⟨b, off, rfl, hb, ⟨one 0 _ (by omega) rfl, one 1 _ (by omega) rfl, one 2 _ (by omega) rfl, one 3 _ (by omega) rfl, one 4 _ (by omega) rfl, one 5 _ (by omega) rfl⟩, hh⟩
    · simp
      unfold maxLen at hcm
      omega
end Go.Proofs.Ytljnboimadhkoaa
