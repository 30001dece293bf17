/-
  The order of keys, as a sort asks for it.
-/
import Derived.Test.YtpdfakjopeldmaaDoorZDOrd
import Derived.Shelf.SlSortCmp.WholeK
namespace Go.Proofs.YtpdfakjopeldmaaDoor
open Go.ChangeShapes Go.WideShapes Go.ChangeAt Go.RowKit Go.Maps Go.WideMaps Go.Shelf Go.Sort
set_option linter.unusedVariables false

theorem lt_cmpP (x y : KeyT) : ltOf cmpP x y = decide (cmpP x y < 0) := rfl
theorem swoK : SWO (ltOf cmpP) where
  irrefl x := by rw [lt_cmpP, cmpP_self]; rfl
  trans x y z h1 h2 := by
    rw [lt_cmpP, decide_eq_true_iff] at *
    exact cmpP_lt h1 h2
  ntrans x y z h1 h2 := by
    rw [lt_cmpP, decide_eq_false_iff_not] at *
    have a := cmpP_cmp.swap x y
    have b := cmpP_cmp.swap y z
    have c := cmpP_cmp.swap x z
    have d := cmpP_cmp.trans z y x (by omega) (by omega)
    omega

/-- What a sort leaves, of keys that are all unlike. -/
theorem rises_of_sorted {es : List KeyT} (hn : es.Nodup) {d : Array KeyT} (h1 : PermIn 0 es.toArray.size es.toArray d) (h2 : SortedIn (ltOf cmpP) 0 es.toArray.size d) : Rises d.toList ∧ ∀ x, x ∈ d.toList ↔ x ∈ es := by
  obtain ⟨hs, _, hp⟩ := h1
  have hs' : d.size = es.length := by simpa using hs
  have hp2 : d.toList.Perm es := by
    have e1 : (d.extract 0 es.toArray.size).toList = d.toList := by simp [← hs']
    have e2 : (es.toArray.extract 0 es.toArray.size).toList = es := by simp
    rw [e1, e2] at hp
    exact hp
  refine ⟨?_, fun x => hp2.mem_iff⟩
  have hnd : d.toList.Nodup := hp2.nodup_iff.2 hn
  unfold Rises
  rw [List.pairwise_iff_getElem]
  intro i j hi hj hij
  have h3 := h2 i j (Nat.zero_le _) hij (by simpa [hs'] using hj)
  have ei : d[i]! = d.toList[i] := by simp at hi; rw [getElem!_pos d i hi]; rfl
  have ej : d[j]! = d.toList[j] := by simp at hj; rw [getElem!_pos d j hj]; rfl
  rw [ei, ej, lt_cmpP, decide_eq_false_iff_not] at h3
  have h4 : d.toList[i] ≠ d.toList[j] := (List.pairwise_iff_getElem.1 hnd) i j hi hj hij
  have h5 := cmpP_cmp.swap d.toList[i] d.toList[j]
  have h6 := cmpP_cmp.same d.toList[i] d.toList[j]
  have h7 := cmpP_cmp.three d.toList[i] d.toList[j]
  have h8 : cmpP d.toList[i] d.toList[j] ≠ 0 := fun e => h4 (h6.1 e)
  omega

end Go.Proofs.YtpdfakjopeldmaaDoor
