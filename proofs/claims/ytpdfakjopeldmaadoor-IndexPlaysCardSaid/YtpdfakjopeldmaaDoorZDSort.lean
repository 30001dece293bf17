/-
  The sort of entries, at this program.
-/
import Derived.Test.YtpdfakjopeldmaaDoorZDOrdS
import Derived.Test.YtpdfakjopeldmaaDoorMgE
import Derived.Test.YtpdfakjopeldmaaDoorSort
import Derived.Lib.OwnBridge
namespace Go.Proofs.YtpdfakjopeldmaaDoor
open Go.ChangeShapes Go.WideShapes Go.ChangeAt Go.RowKit Go.Maps Go.WideMaps Go.Shelf Go.Sort
set_option linter.unusedVariables false

theorem flat_get (l : List Nt) (ks : List KeyT) {j : Nat} (hj : j < ks.length * 10) : (flatN (ks.map (mkE l)))[j]? = some ((flatK (encE l) 10 ks.toArray)[j]!) := by
  have hd : j / 10 < ks.length := by omega
  have e : j / 10 * 10 + j % 10 = j := by omega
  rw [get_flatK _ _ _ _ (by simpa using hj)]
  have h1 := flatN_get (l := ks.map (mkE l)) (j := j / 10) (i := j % 10) (by simpa using hd) (by omega)
  rw [e] at h1
  rw [h1, List.getElem_map]
  have h2 : ks.toArray[j / 10]! = ks[j / 10] := by rw [getElem!_pos _ _ (by simpa using hd)]; simp
  rw [h2]
  have h3 : j % 10 < (encE l ks[j / 10]).length := by show j % 10 < 10; omega
  rw [getElem!_pos (encE l ks[j / 10]) (j % 10) h3]
  exact List.getElem?_eq_getElem h3

theorem below_grow {B : Nat} {a w : World} (h : Below B a w) (hB : B ≤ w.heap.size) (os : Array Obj) : Below B a (grow w os) :=
  ⟨h.os, h.tape, h.output, by have := h.size; simp [grow]; omega, fun k hk => by
    rw [← h.block k hk]
    show (w.heap ++ os)[k]? = w.heap[k]?
    rw [Array.getElem?_append_left (by omega)]⟩

set_option maxRecDepth 100000 in
set_option maxHeartbeats 2000000 in
theorem list_sorted {w : World} {g N : Nat} {l : List Nt} {ks : List KeyT} (hn : ks.Nodup) (hR : w.ownsRow g 42 10 (.slice (some ⟨g, 0, none⟩) ks.length N) ks.length (flatN (ks.map (mkE l)))) (hlen : ks.length < 100000) :
    Calls Tryd.prog 30 #[.slice (some ⟨g, 0, none⟩) ks.length N, .func (.func 31) #[] #[]] w fun e w' => e = .returned (.tuple #[]) ∧ ∃ ds : List KeyT, ds.length = ks.length ∧ Rises ds ∧ (∀ x, x ∈ ds ↔ x ∈ ks) ∧
      (∀ j v, (flatN (ds.map (mkE l)))[j]? = some v → w'.cell? ⟨g, j, none⟩ = some v) ∧ Below g w w' ∧ g < w'.heap.size := by
  have hg : g < w.heap.size := (hR.lt g rfl).2
  have eg : ∀ args w, (callFunc 31 args).run Tryd.prog w = .ok (.enter 31 args) w := enters_of Tryd.func31 (by kernel_rfl) rfl
  have hH : HoldsK (encE l) 10 w g 0 ks.toArray := fun j hj => by
    rw [size_flatK] at hj
    have hj' : j < ks.length * 10 := by simpa using hj
    rw [Nat.zero_add]
    exact ⟨by rw [hR.cellAt j hj', flat_get l ks hj']; rfl, hR.frozenAt j⟩
  have hcmp : CmpLays Tryd.prog 31 #[] (encE l) 10 cmpP g 0 ks.toArray.size w := fun m os dk _ x y => ixcompare_any x.1 x.2 (attOf l x.1 x.2) y.1 y.2 (attOf l y.1 y.2) _
  have hcon := AnyQ.slices_SortFunc Tryd.sortE 10 Tryd.isAgg42 Tryd.sizeOf42 (encE l) (fun _ => rfl) (fun x v hv => ntC_one _ v hv) cmpP swoK 31 #[] g 0 N ks.toArray w eg hcmp hH hg (by simp; omega)
  have hcon2 : Calls Tryd.prog 30 #[.slice (some ⟨g, 0, none⟩) ks.length N, .func (.func 31) #[] #[]] w _ := hcon
  refine hcon2.mono fun e w' ⟨he, d, n, os, h1, h2, hw⟩ => ⟨he, d.toList, ?_, ?_, ?_, ?_, ?_, ?_⟩
  · have := h1.1
    simpa using this
  · exact (rises_of_sorted hn h1 h2).1
  · exact (rises_of_sorted hn h1 h2).2
  · intro j v hv
    have hs : d.size = ks.toArray.size := h1.1
    have hH2 : HoldsK (encE l) 10 w' g 0 d := by rw [hw]; exact holdsK_sortWorldK_c (encE l) 10 w g 0 ks.toArray d n os hH hg hs
    have hj : j < d.toList.length * 10 := by
      have := (List.getElem?_eq_some_iff.1 hv).1
      rw [flatN_len] at this
      simpa using this
    rw [flat_get l d.toList hj] at hv
    have h3 := (hH2 j (by rw [size_flatK]; simpa using hj)).1
    rw [Nat.zero_add] at h3
    rw [h3]
    exact hv
  · rw [hw]
    exact below_grow (Lib.below_putRow (Below.refl g w) (Nat.le_refl _)) (by show g ≤ (putRow _ _ _ _ _).heap.size; rw [Sort.size_putRow]; exact Nat.le_of_lt hg) os
  · rw [hw]
    show g < (grow (putRow _ _ _ _ _) os).heap.size
    simp [grow]
    have : (Sort.ahead w n).heap.size = w.heap.size := rfl
    omega

end Go.Proofs.YtpdfakjopeldmaaDoor
