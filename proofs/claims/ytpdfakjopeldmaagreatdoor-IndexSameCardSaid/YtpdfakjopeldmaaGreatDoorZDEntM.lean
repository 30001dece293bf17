/-
  The entries in their order, with one more note. No program in it.
-/
import Derived.Test.YtpdfakjopeldmaaGreatDoorZDOrd
import Derived.Test.YtpdfakjopeldmaaGreatDoorPPart
namespace Go.Proofs.YtpdfakjopeldmaaGreatDoor
open Go.ChangeShapes Go.WideShapes Go.ChangeAt Go.RowKit
set_option linter.unusedVariables false

theorem less_lex : ∀ a b : List UInt8, Op.bytesLess a b = decide (textC a b < 0)
  | [], [] => rfl
  | _ :: _, [] => rfl
  | [], _ :: _ => rfl
  | a :: x, b :: y => by
    unfold textC
    rw [lexC_cons byteC_cmp]
    simp only [Op.bytesLess]
    by_cases h : a = b
    · subst h
      rw [if_pos rfl, less_lex x y, beq_self_eq_true, decide_eq_false (UInt8.lt_irrefl a), Bool.false_or, Bool.true_and]
      exact decide_eq_decide.2 Iff.rfl
    · rw [if_neg h]
      have hb : (a == b) = false := by simpa using h
      rw [hb]
      unfold byteC
      by_cases h1 : a < b
      · rw [if_pos h1]; simp [h1]
      · rw [if_neg h1]
        have h2 : b < a := by
          rw [UInt8.lt_iff_toNat_lt] at h1 ⊢
          rcases Nat.lt_or_ge b.toNat a.toNat with h3 | h3
          · exact h3
          · exact absurd (UInt8.toNat_inj.1 (by omega)) h
        rw [if_pos h2]; simp [h1]
theorem bytes_ext {a b : ByteArray} (h : a.toList = b.toList) : a = b := by
  rw [ByteArray.toList_eq, ByteArray.toList_eq] at h
  cases a; cases b; simp at h; rw [h]
theorem cmpP_eq (f g : ByteArray) (u v : Int) : cmpP (f, u) (g, v) = if textC f.toList g.toList = 0 then Lib.compareInt u v else textC f.toList g.toList := by
  show orK (Lib.compareBytes _ _) _ = _
  rw [compareBytes_eq, ByteArray.toList_eq, ByteArray.toList_eq]
  rfl
theorem ahead_less {f g : ByteArray} {u v : Int} (h : Op.bytesLess f.toList g.toList = true) : cmpP (f, u) (g, v) < 0 := by
  rw [less_lex, decide_eq_true_iff] at h
  rw [cmpP_eq, if_neg (by omega)]
  exact h
theorem ahead_num {f g : ByteArray} {u v : Int} (h : (f.toList == g.toList) = true) (k : u < v) : cmpP (f, u) (g, v) < 0 := by
  have e : f.toList = g.toList := by simpa using h
  rw [cmpP_eq, if_pos ((textC_cmp.same _ _).2 e)]
  unfold Lib.compareInt
  rw [if_pos k]
  decide
theorem ahead_not_num {f g : ByteArray} {u v : Int} (h : (f.toList == g.toList) = true) (k : ¬ u < v) : ¬ cmpP (f, u) (g, v) < 0 := by
  have e : f.toList = g.toList := by simpa using h
  rw [cmpP_eq, if_pos ((textC_cmp.same _ _).2 e)]
  unfold Lib.compareInt
  rw [if_neg k]
  split <;> decide
theorem ahead_not {f g : ByteArray} {u v : Int} (h : Op.bytesLess f.toList g.toList = false) (k : (f.toList == g.toList) = false) : ¬ cmpP (f, u) (g, v) < 0 := by
  rw [less_lex, decide_eq_false_iff_not] at h
  have e : f.toList ≠ g.toList := by simpa using k
  have h0 : textC f.toList g.toList ≠ 0 := fun h0 => e ((textC_cmp.same _ _).1 h0)
  rw [cmpP_eq, if_neg h0]
  exact h
theorem less_self (f : ByteArray) : Op.bytesLess f.toList f.toList = false := by
  rw [less_lex, (textC_cmp.same _ _).2 rfl]
  rfl

/-- Keys that rise, and are those that are told of. -/
def EntK (l : List Nt) (ks : List KeyT) : Prop := Rises ks ∧ ∀ y : KeyT, y ∈ ks ↔ told l y.1 y.2 = true
theorem EntK.nil : EntK [] [] := ⟨List.Pairwise.nil, fun y => by simp [told]⟩
theorem ofKey_self (n : Nt) : ofKey n.foot n.num n = true := ofKey_iff.2 ⟨rfl, rfl⟩
theorem told_more (l : List Nt) (n : Nt) (y : KeyT) : told (l ++ [n]) y.1 y.2 = true ↔ told l y.1 y.2 = true ∨ y = (n.foot, n.num) := by
  rw [told_snoc, Bool.or_eq_true, ofKey_iff]
  constructor
  · rintro (h | ⟨h1, h2⟩)
    · exact Or.inl h
    · exact Or.inr (Prod.ext h1.symm h2.symm)
  · rintro (h | rfl)
    · exact Or.inl h
    · exact Or.inr ⟨rfl, rfl⟩
theorem EntK.same {l : List Nt} {ks : List KeyT} (h : EntK l ks) {n : Nt} (hk : (n.foot, n.num) ∈ ks) : EntK (l ++ [n]) ks := ⟨h.1, fun y => by
  rw [told_more]
  constructor
  · intro hy; exact Or.inl ((h.2 y).1 hy)
  · rintro (hy | rfl)
    · exact (h.2 y).2 hy
    · exact hk⟩
/-- A key that comes just behind the first k. -/
def Place (ks : List KeyT) (y : KeyT) (k : Nat) : Prop := k ≤ ks.length ∧ (∀ x ∈ ks.take k, cmpP x y < 0)
theorem Place.zero (ks : List KeyT) (y : KeyT) : Place ks y 0 := ⟨Nat.zero_le _, fun x hx => by simp at hx⟩
theorem Place.succ {ks : List KeyT} {y : KeyT} {k : Nat} (h : Place ks y k) (hk : k < ks.length) (hc : cmpP ks[k] y < 0) : Place ks y (k + 1) := ⟨hk, fun x hx => by
  rw [List.take_succ_eq_append_getElem hk, List.mem_append] at hx
  rcases hx with hx | hx
  · exact h.2 x hx
  · rw [List.mem_singleton.1 hx]; exact hc⟩
theorem cmpP_pos {x y : KeyT} (h : ¬ cmpP x y < 0) (hne : x ≠ y) : cmpP y x < 0 := by
  have h1 := cmpP_cmp.swap x y
  have h2 : cmpP x y ≠ 0 := fun e => hne ((cmpP_cmp.same x y).1 e)
  omega
theorem place_split {ks : List KeyT} {k : Nat} (hr : Rises ks) : Rises (ks.take k) ∧ Rises (ks.drop k) ∧ ∀ a ∈ ks.take k, ∀ b ∈ ks.drop k, cmpP a b < 0 := by
  have h := hr
  unfold Rises at h
  rw [← List.take_append_drop k ks, List.pairwise_append] at h
  exact h
theorem place_drop {ks : List KeyT} {k : Nat} {y : KeyT} (hr : Rises ks) (hk : ∀ h : k < ks.length, ¬ cmpP ks[k] y < 0 ∧ ks[k] ≠ y) : ∀ x ∈ ks.drop k, cmpP y x < 0 := by
  intro x hx
  by_cases hlt : k < ks.length
  · obtain ⟨h1, h2⟩ := hk hlt
    have h3 := cmpP_pos h1 h2
    rw [List.drop_eq_getElem_cons hlt] at hx
    rcases List.mem_cons.1 hx with rfl | hx
    · exact h3
    · have h4 := (place_split (k := k) hr).2.1
      unfold Rises at h4
      rw [List.drop_eq_getElem_cons hlt, List.pairwise_cons] at h4
      exact cmpP_lt h3 (h4.1 x hx)
  · rw [List.drop_eq_nil_of_le (by omega)] at hx
    simp at hx
theorem place_not {ks : List KeyT} {k : Nat} {y : KeyT} (hr : Rises ks) (hp : Place ks y k) (hk : ∀ h : k < ks.length, ¬ cmpP ks[k] y < 0 ∧ ks[k] ≠ y) : y ∉ ks := by
  intro hy
  rw [← List.take_append_drop k ks, List.mem_append] at hy
  rcases hy with hy | hy
  · have := hp.2 y hy
    rw [cmpP_self] at this
    omega
  · have := place_drop hr hk y hy
    rw [cmpP_self] at this
    omega
theorem EntK.new {l : List Nt} {ks : List KeyT} (h : EntK l ks) {n : Nt} {k : Nat} (hp : Place ks (n.foot, n.num) k) (hk : ∀ h : k < ks.length, ¬ cmpP ks[k] (n.foot, n.num) < 0 ∧ ks[k] ≠ (n.foot, n.num)) :
    EntK (l ++ [n]) (ks.take k ++ [(n.foot, n.num)] ++ ks.drop k) := by
  have hd := place_drop h.1 hk
  obtain ⟨h1, h2, h3⟩ := place_split (k := k) h.1
  refine ⟨?_, fun y => ?_⟩
  · unfold Rises at *
    rw [List.append_assoc, List.pairwise_append]
    refine ⟨h1, ?_, ?_⟩
    · rw [List.singleton_append, List.pairwise_cons]
      exact ⟨hd, h2⟩
    · intro a ha b hb
      rw [List.singleton_append] at hb
      rcases List.mem_cons.1 hb with rfl | hb
      · exact hp.2 a ha
      · exact h3 a ha b hb
  · rw [told_more, ← h.2 y]
    simp only [List.mem_append, List.mem_singleton]
    have hsplit : y ∈ ks ↔ y ∈ ks.take k ∨ y ∈ ks.drop k := by rw [← List.mem_append, List.take_append_drop]
    rw [hsplit]
    constructor
    · rintro ((h | h) | h)
      · exact Or.inl (Or.inl h)
      · exact Or.inr h
      · exact Or.inl (Or.inr h)
    · rintro ((h | h) | h)
      · exact Or.inl (Or.inl h)
      · exact Or.inr h
      · exact Or.inl (Or.inr h)

theorem mkE_other {l : List Nt} {n : Nt} {y : KeyT} (h : y ≠ (n.foot, n.num)) : mkE (l ++ [n]) y = mkE l y := by
  unfold mkE
  rw [attOf_snoc_other l n y.1 y.2 (by
    cases hc : ofKey y.1 y.2 n with
    | false => rfl
    | true => obtain ⟨h1, h2⟩ := ofKey_iff.1 hc; exact absurd (Prod.ext h1.symm h2.symm) h)]
theorem mkE_self (l : List Nt) (n : Nt) : mkE (l ++ [n]) (n.foot, n.num) = ⟨n.foot, n.num, mx (attOf l n.foot n.num) n.att⟩ := by
  unfold mkE
  rw [attOf_snoc_same l n n.foot n.num (ofKey_self n)]
theorem map_other {l : List Nt} {n : Nt} {ks : List KeyT} (h : (n.foot, n.num) ∉ ks) : ks.map (mkE (l ++ [n])) = ks.map (mkE l) :=
  List.map_congr_left fun y hy => mkE_other fun e => h (by rw [← e]; exact hy)
/-- A key that is there: what its notes tell is merged. -/
theorem ent_same {l : List Nt} {n : Nt} {ks : List KeyT} (hr : Rises ks) {k : Nat} (hk : k < ks.length) (he : ks[k] = (n.foot, n.num)) :
    ks.map (mkE (l ++ [n])) = (ks.map (mkE l)).set k ⟨n.foot, n.num, mx (attOf l n.foot n.num) n.att⟩ := by
  apply List.ext_getElem (by simp)
  intro i h1 h2
  simp at h1
  rw [List.getElem_map, List.getElem_set]
  by_cases hi : k = i
  · subst hi
    rw [if_pos rfl, he, mkE_self]
  · rw [if_neg hi, List.getElem_map]
    refine mkE_other fun e => ?_
    rw [← he] at e
    unfold Rises at hr
    rw [List.pairwise_iff_getElem] at hr
    rcases Nat.lt_or_ge k i with h | h
    · have := hr k i hk h1 h
      rw [e, cmpP_self] at this
      omega
    · have := hr i k h1 hk (by omega)
      rw [e, cmpP_self] at this
      omega
/-- A new key. -/
theorem ent_new {l : List Nt} {n : Nt} {ks : List KeyT} (h : EntK l ks) {k : Nat} (hn : (n.foot, n.num) ∉ ks) (h0 : ∀ i, 0 ≤ n.att i) :
    (ks.take k ++ [(n.foot, n.num)] ++ ks.drop k).map (mkE (l ++ [n])) = (ks.map (mkE l)).take k ++ [n] ++ (ks.map (mkE l)).drop k := by
  have ht : told l n.foot n.num = false := by
    cases hc : told l n.foot n.num with
    | false => rfl
    | true => exact absurd ((h.2 _).2 hc) hn
  have e : mkE (l ++ [n]) (n.foot, n.num) = n := by
    rw [mkE_self, attOf_none ht]
    have : mx (fun _ => 0) n.att = n.att := by
      funext i
      have := h0 i
      show (if (0 : Int) < n.att i then n.att i else 0) = n.att i
      split <;> omega
    rw [this]
  rw [List.map_append, List.map_append, List.map_cons, List.map_nil, e, ← List.map_take, ← List.map_drop, map_other (fun hm => hn (List.mem_of_mem_take hm)), map_other (fun hm => hn (List.mem_of_mem_drop hm))]

end Go.Proofs.YtpdfakjopeldmaaGreatDoor
