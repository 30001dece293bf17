/-
  A list that holds one note of each key tells as much as the notes themselves. No program in it.
-/
import Derived.Test.YtpdfakjopeldmaaGreatDoorZDEntM
import Derived.Test.YtpdfakjopeldmaaGreatDoorMgF
namespace Go.Proofs.YtpdfakjopeldmaaGreatDoor
open Go.ChangeShapes Go.WideShapes Go.ChangeAt Go.RowKit
set_option linter.unusedVariables false

theorem told_list {l : List Nt} {ks : List KeyT} (h : EntK l ks) (f : ByteArray) (u : Int) : told (ks.map (mkE l)) f u = told l f u := by
  rw [Bool.eq_iff_iff, told_iff, ← h.2 (f, u)]
  constructor
  · rintro ⟨n, hn, h1, h2⟩
    obtain ⟨y, hy, rfl⟩ := List.mem_map.1 hn
    have e : y = (f, u) := Prod.ext h1 h2
    rw [← e]; exact hy
  · intro hy
    exact ⟨mkE l (f, u), List.mem_map.2 ⟨_, hy, rfl⟩, rfl, rfl⟩
theorem attOf_list {l : List Nt} {ks : List KeyT} (h : EntK l ks) (f : ByteArray) (u : Int) : attOf (ks.map (mkE l)) f u = attOf l f u := by
  cases ht : told l f u with
  | false => rw [attOf_none ht, attOf_none (by rw [told_list h, ht])]
  | true =>
    have hy := (h.2 (f, u)).2 ht
    funext i
    refine Int.le_antisymm (sup_le (sup_nonneg _ _ _) fun n hn hp => ?_) (le_sup (g := fun n => n.att i) (List.mem_map.2 ⟨(f, u), hy, rfl⟩ : mkE l (f, u) ∈ ks.map (mkE l)) (ofKey_iff.2 ⟨rfl, rfl⟩))
    obtain ⟨y, hy2, rfl⟩ := List.mem_map.1 hn
    obtain ⟨h1, h2⟩ := ofKey_iff.1 hp
    have e : y = (f, u) := Prod.ext h1 h2
    rw [e]
    exact Int.le_refl _
theorem mkE_list {l : List Nt} {ks : List KeyT} (h : EntK l ks) (y : KeyT) : mkE (ks.map (mkE l)) y = mkE l y := by
  show (⟨y.1, y.2, attOf (ks.map (mkE l)) y.1 y.2⟩ : Nt) = ⟨y.1, y.2, attOf l y.1 y.2⟩
  rw [attOf_list h]
theorem aheadF_list {l : List Nt} {ks : List KeyT} (h : EntK l ks) (hl : AllFair l) (f : ByteArray) (u : Int) : aheadF (clashes f u) (ks.map (mkE l)) = aheadF (clashes f u) l := by
  funext i
  refine Int.le_antisymm (sup_le (sup_nonneg _ _ _) fun n hn hp => ?_) (sup_le (sup_nonneg _ _ _) fun n hn hp => ?_)
  · obtain ⟨y, hy, rfl⟩ := List.mem_map.1 hn
    show nextF (attOf l y.1 y.2) i ≤ _
    rw [next_attOf hl ((h.2 y).1 hy)]
    refine sup_mono fun m hm hk => ⟨hm, ?_, Int.le_refl _⟩
    obtain ⟨h1, h2⟩ := ofKey_iff.1 hk
    unfold clashes at hp ⊢
    rw [h1, h2]
    exact hp
  · have hy : ((n.foot, n.num) : KeyT) ∈ ks := (h.2 _).2 (told_iff.2 ⟨n, hn, rfl, rfl⟩)
    have h1 : nextF n.att i ≤ nextF (attOf l n.foot n.num) i := nextF_mono (fun j => le_sup (g := fun n => n.att j) hn (ofKey_self n)) i
    refine Int.le_trans h1 ?_
    exact le_sup (g := fun n => nextF n.att i) (List.mem_map.2 ⟨_, hy, rfl⟩ : mkE l (n.foot, n.num) ∈ ks.map (mkE l)) hp
theorem askF_list {l : List Nt} {ks : List KeyT} (h : EntK l ks) (hl : AllFair l) (c : K) (r s : Int) : askF (ks.map (mkE l)) c r s = askF l c r s := by
  unfold askF aheadC
  rw [aheadF_list h hl]
theorem mkE_fair {l : List Nt} (hl : AllFair l) {y : KeyT} (hy : told l y.1 y.2 = true) : Fair (mkE l y) := by
  obtain ⟨nt, hm, e1, e2⟩ := told_iff.1 hy
  obtain ⟨_, _, a, b, c⟩ := hl nt hm
  rw [e1] at c
  rw [e2] at a b
  exact ⟨attOf_ok hl _ _, fun i hi => attOf_zero hl _ _ hi, a, b, c⟩

end Go.Proofs.YtpdfakjopeldmaaGreatDoor
