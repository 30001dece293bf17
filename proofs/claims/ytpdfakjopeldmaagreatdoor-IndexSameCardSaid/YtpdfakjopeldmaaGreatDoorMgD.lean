/-
  The mathematics of an index: notes (a key's footprint, its number, attributes), what a list of them tells of a key, what comes ahead of a key, the entries in their order. No program in it.
-/
import Derived.Test.YtpdfakjopeldmaaGreatDoorPMathC
import Derived.Test.YtpdfakjopeldmaaGreatDoorMgA
import Derived.Test.YtpdfakjopeldmaaGreatDoorPMath
import Derived.Test.YtpdfakjopeldmaaGreatDoorQBase
import Derived.Maps.OwnSet
import Derived.Maps.RangeWalk
import Derived.Maps.Views
import Derived.Maps.Ext
import Derived.DeepKeys4
import Derived.WalkKit
import Derived.WalkArith
import Derived.Test.YtpdfakjopeldmaaGreatDoorZQRef
namespace Go.Proofs.YtpdfakjopeldmaaGreatDoor

/-- Something that was noted of a key. -/
structure Nt where
  foot : ByteArray
  num : Int
  att : Nat → Int

/-- The greatest of what those give that p takes; at least nought. -/
def sup (p : Nt → Bool) (g : Nt → Int) : List Nt → Int
  | [] => 0
  | n :: l => if p n then (if g n < sup p g l then sup p g l else g n) else sup p g l

theorem sup_nonneg (p : Nt → Bool) (g : Nt → Int) : ∀ l, 0 ≤ sup p g l
  | [] => Int.le_refl _
  | n :: l => by
    have := sup_nonneg p g l
    unfold sup
    split
    · split <;> omega
    · exact this
theorem le_sup {p : Nt → Bool} {g : Nt → Int} : ∀ {l : List Nt} {n : Nt}, n ∈ l → p n = true → g n ≤ sup p g l
  | m :: l, n, h, hp => by
    unfold sup
    rcases List.mem_cons.1 h with rfl | h
    · rw [if_pos hp]; split <;> omega
    · have := le_sup (g := g) h hp
      split
      · split <;> omega
      · exact this
theorem sup_le {p : Nt → Bool} {g : Nt → Int} {b : Int} (h0 : 0 ≤ b) : ∀ {l : List Nt}, (∀ n ∈ l, p n = true → g n ≤ b) → sup p g l ≤ b
  | [], _ => h0
  | n :: l, h => by
    have h1 := sup_le (p := p) (g := g) h0 (l := l) (fun m hm => h m (by simp [hm]))
    unfold sup
    split
    · next hp =>
      have := h n (by simp) hp
      split <;> omega
    · exact h1
theorem sup_mono {p q : Nt → Bool} {g k : Nt → Int} {l m : List Nt} (h : ∀ n ∈ l, p n = true → n ∈ m ∧ q n = true ∧ g n ≤ k n) : sup p g l ≤ sup q k m :=
  sup_le (sup_nonneg _ _ _) fun n hn hp => by
    obtain ⟨h1, h2, h3⟩ := h n hn hp
    exact Int.le_trans h3 (le_sup (g := k) h1 h2)
theorem sup_same {p : Nt → Bool} {g : Nt → Int} {l m : List Nt} (h : ∀ n, n ∈ l ↔ n ∈ m) : sup p g l = sup p g m :=
  Int.le_antisymm (sup_mono fun n hn hp => ⟨(h n).1 hn, hp, Int.le_refl _⟩) (sup_mono fun n hn hp => ⟨(h n).2 hn, hp, Int.le_refl _⟩)
theorem sup_snoc (p : Nt → Bool) (g : Nt → Int) (n : Nt) : ∀ l, sup p g (l ++ [n]) = if p n then (if sup p g l < g n then g n else sup p g l) else sup p g l
  | [] => by
    show (if p n = true then (if g n < 0 then 0 else g n) else 0) = if p n = true then (if 0 < g n then g n else 0) else 0
    by_cases h : p n = true
    · rw [if_pos h, if_pos h]
      by_cases h1 : g n < 0
      · rw [if_pos h1, if_neg (by omega)]
      · rw [if_neg h1]
        by_cases h2 : 0 < g n
        · rw [if_pos h2]
        · rw [if_neg h2]; omega
    · rw [if_neg h, if_neg h]
  | m :: l => by
    have ih := sup_snoc p g n l
    simp only [List.cons_append, sup]
    rw [ih]
    by_cases h : p n = true
    · simp only [if_pos h]
      by_cases h2 : p m = true
      · simp only [if_pos h2]
        split <;> split <;> (try split) <;> (try split) <;> omega
      · simp only [if_neg h2]
    · simp only [if_neg h]

/-- Is a note of a key? -/
def ofKey (f : ByteArray) (u : Int) (n : Nt) : Bool := decide (n.foot = f ∧ n.num = u)
theorem ofKey_iff {f : ByteArray} {u : Int} {n : Nt} : ofKey f u n = true ↔ n.foot = f ∧ n.num = u := by simp [ofKey]
/-- What all notes of a key tell together. -/
def attOf (l : List Nt) (f : ByteArray) (u : Int) : Nat → Int := fun i => sup (ofKey f u) (fun n => n.att i) l
/-- Is there a note of a key? -/
def told (l : List Nt) (f : ByteArray) (u : Int) : Bool := l.any (ofKey f u)
theorem told_iff {l : List Nt} {f : ByteArray} {u : Int} : told l f u = true ↔ ∃ n ∈ l, n.foot = f ∧ n.num = u := by
  simp [told, List.any_eq_true, ofKey_iff]
theorem told_snoc (l : List Nt) (n : Nt) (f : ByteArray) (u : Int) : told (l ++ [n]) f u = (told l f u || ofKey f u n) := by simp [told]

/-- A note that may be: attributes that may be, nothing behind the eighth place. -/
def Fair (n : Nt) : Prop := okB n.att = true ∧ (∀ i, 8 ≤ i → n.att i = 0) ∧ 0 ≤ n.num ∧ n.num < 18446744073709551616 ∧ n.foot.size ≤ 200
def AllFair (l : List Nt) : Prop := ∀ n ∈ l, Fair n
theorem AllFair.snoc {l : List Nt} {n : Nt} (h : AllFair l) (hn : Fair n) : AllFair (l ++ [n]) := fun m hm => by
  rcases List.mem_append.1 hm with h1 | h1
  · exact h m h1
  · rw [List.mem_singleton.1 h1]; exact hn
theorem AllFair.nil : AllFair [] := fun _ h => absurd h (by simp)
theorem Fair.at {n : Nt} (h : Fair n) (i : Nat) : 0 ≤ n.att i ∧ n.att i ≤ 1073741824 := by
  obtain ⟨h1, h2, _⟩ := h
  obtain ⟨h3, h4⟩ := okB_iff.1 h1
  by_cases hi : 8 ≤ i
  · rw [h2 i hi]; omega
  · cases i with
    | zero => exact h3
    | succ i => have := h4 i (by omega); omega
theorem attOf_zero {l : List Nt} (h : AllFair l) (f : ByteArray) (u : Int) {i : Nat} (hi : 8 ≤ i) : attOf l f u i = 0 :=
  Int.le_antisymm (sup_le (Int.le_refl _) fun n hn _ => by rw [(h n hn).2.1 i hi]; exact Int.le_refl _) (sup_nonneg _ _ _)
theorem attOf_ok {l : List Nt} (h : AllFair l) (f : ByteArray) (u : Int) : okB (attOf l f u) = true := by
  refine okB_iff.2 ⟨⟨sup_nonneg _ _ _, sup_le (by omega) fun n hn _ => ((h n hn).at 0).2⟩, fun i hi => ⟨sup_nonneg _ _ _, sup_le (by omega) fun n hn _ => ?_⟩⟩
  exact ((okB_iff.1 (h n hn).1).2 i hi).2
theorem attOf_le {l : List Nt} (h : AllFair l) (f : ByteArray) (u : Int) (i : Nat) : 0 ≤ attOf l f u i ∧ attOf l f u i ≤ 1073741824 :=
  ⟨sup_nonneg _ _ _, sup_le (by omega) fun n hn _ => ((h n hn).at i).2⟩
theorem attOf_snoc_same (l : List Nt) (n : Nt) (f : ByteArray) (u : Int) (h : ofKey f u n = true) : attOf (l ++ [n]) f u = mx (attOf l f u) n.att := by
  funext i
  unfold attOf mx
  rw [sup_snoc, if_pos h]
theorem attOf_snoc_other (l : List Nt) (n : Nt) (f : ByteArray) (u : Int) (h : ofKey f u n = false) : attOf (l ++ [n]) f u = attOf l f u := by
  funext i
  unfold attOf
  rw [sup_snoc, if_neg (by rw [h]; simp)]
theorem attOf_none {l : List Nt} {f : ByteArray} {u : Int} (h : told l f u = false) : attOf l f u = fun _ => 0 := by
  funext i
  refine Int.le_antisymm (sup_le (Int.le_refl _) fun n hn hp => ?_) (sup_nonneg _ _ _)
  have : told l f u = true := told_iff.2 ⟨n, hn, ofKey_iff.1 hp⟩
  rw [h] at this
  cases this
theorem attOf_same {l m : List Nt} (h : ∀ n, n ∈ l ↔ n ∈ m) (f : ByteArray) (u : Int) : attOf l f u = attOf m f u := funext fun _ => sup_same h
theorem told_same {l m : List Nt} (h : ∀ n, n ∈ l ↔ n ∈ m) (f : ByteArray) (u : Int) : told l f u = told m f u := by
  rw [Bool.eq_iff_iff, told_iff, told_iff]
  exact ⟨fun ⟨n, hn, hk⟩ => ⟨n, (h n).1 hn, hk⟩, fun ⟨n, hn, hk⟩ => ⟨n, (h n).2 hn, hk⟩⟩

/-- A number from 0 to the greatest. -/
def cutS (s : Int) : Int := if s < 0 then 0 else if s > 1073741824 then 1073741824 else s
/-- With a sequence number of one more. -/
def nextF (f : Nat → Int) : Nat → Int := upd f 0 (cutS (f 0 + 1))
theorem nextF_mono {f g : Nat → Int} (h : ∀ i, f i ≤ g i) (i : Nat) : nextF f i ≤ nextF g i := by
  have h0 := h 0
  have hi := h i
  unfold nextF upd cutS
  split
  · split <;> split <;> (try split) <;> (try split) <;> omega
  · exact hi
theorem nextF_nonneg {f : Nat → Int} (h : ∀ i, 0 ≤ f i) (i : Nat) : 0 ≤ nextF f i := by
  have hi := h i
  unfold nextF upd cutS
  split
  · split
    · omega
    · split <;> omega
  · exact hi
/-- What comes ahead of what clashes by p: of each note, with one more. -/
def aheadF (p : Nt → Bool) (l : List Nt) : Nat → Int := fun i => sup p (fun n => nextF n.att i) l
theorem aheadF_snoc (p : Nt → Bool) (l : List Nt) (n : Nt) (h : p n = true) : aheadF p (l ++ [n]) = mx (aheadF p l) (nextF n.att) := by
  funext i
  unfold aheadF mx
  rw [sup_snoc, if_pos h]
theorem aheadF_snoc_not (p : Nt → Bool) (l : List Nt) (n : Nt) (h : p n = false) : aheadF p (l ++ [n]) = aheadF p l := by
  funext i
  unfold aheadF
  rw [sup_snoc, if_neg (by rw [h]; simp)]
theorem aheadF_same {p : Nt → Bool} {l m : List Nt} (h : ∀ n, n ∈ l ↔ n ∈ m) : aheadF p l = aheadF p m := funext fun _ => sup_same h

/-- A number that is the greatest of a key's notes is one of them's, or nought. -/
theorem sup_is (p : Nt → Bool) (g : Nt → Int) : ∀ l, sup p g l = 0 ∨ ∃ n ∈ l, p n = true ∧ g n = sup p g l
  | [] => Or.inl rfl
  | m :: l => by
    have ih := sup_is p g l
    unfold sup
    by_cases hp : p m = true
    · rw [if_pos hp]
      by_cases h : g m < sup p g l
      · rw [if_pos h]
        rcases ih with h0 | ⟨n, hn, hk⟩
        · exact Or.inl h0
        · exact Or.inr ⟨n, by simp [hn], hk⟩
      · rw [if_neg h]
        exact Or.inr ⟨m, by simp, hp, rfl⟩
    · rw [if_neg hp]
      rcases ih with h0 | ⟨n, hn, hk⟩
      · exact Or.inl h0
      · exact Or.inr ⟨n, by simp [hn], hk⟩

/-- One more than what a key's notes tell together: it is of one of them. -/
theorem next_attOf {l : List Nt} (h : AllFair l) {f : ByteArray} {u : Int} (ht : told l f u = true) (i : Nat) : nextF (attOf l f u) i = sup (ofKey f u) (fun n => nextF n.att i) l := by
  refine Int.le_antisymm ?_ (sup_le ?_ fun n hn hp => nextF_mono (fun j => le_sup (g := fun n => n.att j) hn hp) i)
  · obtain ⟨n0, hn0, hk0⟩ := told_iff.1 ht
    have hk0 := ofKey_iff.2 hk0
    by_cases hi : i = 0
    · subst hi
      have key : ∃ n ∈ l, ofKey f u n = true ∧ n.att 0 = attOf l f u 0 := by
        rcases sup_is (ofKey f u) (fun n => n.att 0) l with h0 | ⟨n, hn, hk, he⟩
        · refine ⟨n0, hn0, hk0, ?_⟩
          have h1 := le_sup (g := fun n => n.att 0) hn0 hk0
          have h2 := ((h n0 hn0).at 0).1
          show n0.att 0 = sup _ _ _
          rw [h0] at h1 ⊢
          exact Int.le_antisymm h1 h2
        · exact ⟨n, hn, hk, he⟩
      obtain ⟨n, hn, hk, he⟩ := key
      have h1 := le_sup (g := fun n => nextF n.att 0) hn hk
      refine Int.le_trans ?_ h1
      show nextF _ 0 ≤ nextF n.att 0
      unfold nextF upd
      rw [if_pos rfl, if_pos rfl, he]
      exact Int.le_refl _
    · have e : ∀ f : Nat → Int, nextF f i = f i := fun f => by unfold nextF upd; rw [if_neg hi]
      rw [e]
      show sup _ _ _ ≤ sup _ _ _
      refine sup_mono fun n hn hp => ⟨hn, hp, ?_⟩
      show n.att i ≤ nextF n.att i
      rw [e]
      exact Int.le_refl _
  · exact nextF_nonneg (fun j => sup_nonneg _ _ _) i

/-- The number of the past's greatest. -/
theorem past_next {f : Nat → Int} (h0 : 0 ≤ f 0) (h1 : f 0 ≤ 1073741824) : (if f 0 < min (f 0) 1073741823 + 1 then min (f 0) 1073741823 + 1 else f 0) = cutS (f 0 + 1) := by
  unfold cutS
  split <;> split <;> (try split) <;> omega

theorem sup_none {p : Nt → Bool} {g : Nt → Int} {l : List Nt} (h : ∀ n ∈ l, p n = false) : sup p g l = 0 :=
  Int.le_antisymm (sup_le (Int.le_refl _) fun n hn hp => by rw [h n hn] at hp; cases hp) (sup_nonneg _ _ _)
theorem sup_congr {p q : Nt → Bool} {g : Nt → Int} {l : List Nt} (h : ∀ n ∈ l, p n = q n) : sup p g l = sup q g l :=
  Int.le_antisymm (sup_mono fun n hn hp => ⟨hn, by rw [← h n hn]; exact hp, Int.le_refl _⟩) (sup_mono fun n hn hp => ⟨hn, by rw [h n hn]; exact hp, Int.le_refl _⟩)
theorem sup_or (p q : Nt → Bool) (g : Nt → Int) (l : List Nt) : sup (fun n => p n || q n) g l = if sup p g l < sup q g l then sup q g l else sup p g l := by
  have h1 : sup p g l ≤ sup (fun n => p n || q n) g l := sup_mono fun n hn hp => ⟨hn, by simp [hp], Int.le_refl _⟩
  have h2 : sup q g l ≤ sup (fun n => p n || q n) g l := sup_mono fun n hn hp => ⟨hn, by simp [hp], Int.le_refl _⟩
  have h3 : sup (fun n => p n || q n) g l ≤ (if sup p g l < sup q g l then sup q g l else sup p g l) := by
    refine sup_le ?_ fun n hn hp => ?_
    · have := sup_nonneg p g l
      have := sup_nonneg q g l
      split <;> omega
    · rw [Bool.or_eq_true] at hp
      rcases hp with hp | hp
      · have := le_sup (g := g) hn hp
        split <;> omega
      · have := le_sup (g := g) hn hp
        split <;> omega
  refine Int.le_antisymm h3 ?_
  split <;> assumption

end Go.Proofs.YtpdfakjopeldmaaGreatDoor

/-
  The map of an index: keys (a footprint and a number) to attributes, told by a list of notes; a look-up and a store in it, its length, a range over it.
-/
namespace Go.Proofs.YtpdfakjopeldmaaGreatDoor
open Go.ChangeShapes Go.WideShapes Go.ChangeAt Go.RowKit Go.Maps Go.WideMaps
set_option linter.unusedVariables false

theorem laid_out : laidOutB Tryz.prog = true := by kernel_rfl
theorem row_key : (36 : TypeId) < Tryz.prog.types.size := of_decide_eq_true (by kernel_rfl)
theorem wide_key : (match Tryz.prog.underlying 36 with | some (.array _ _) | some (.struct _) => true | _ => false) = true := by kernel_rfl
set_option maxRecDepth 100000 in
theorem law_key : Keyed Tryz.prog 36 := Keyed.of_law (deep_law_laid laid_out (m := 3) (by omega) row_key (by kernel_rfl) wide_key)

/-- What a key reads as. -/
def klit (f : ByteArray) (u : Int) : Lit := .string (keyBytes [.string f.data.toList, .int .u64 u])
theorem cells_key : Tryz.prog.cellsOf 36 = 2 := by kernel_rfl
theorem type_key : Tryz.prog.keyType 36 = true := by kernel_rfl
theorem depth_key : ∃ n, Tryz.prog.types.size + 1 = n + 2 := by
  obtain ⟨s, hs⟩ : ∃ s : Nat, Tryz.prog.types.size = s := ⟨_, rfl⟩
  have h : (36 : Nat) < s := hs ▸ row_key
  rw [hs]
  exact ⟨s - 1, by omega⟩
theorem cells_text : Tryz.prog.cellsOf 9 = 1 := by kernel_rfl
theorem cells_num : Tryz.prog.cellsOf 23 = 1 := by kernel_rfl

theorem lits_key (n : Nat) (v0 v1 : Value) : Tryz.prog.keyLits (n + 2) 36 [v0, v1] =
    (match v0 with | .string s => if s.size ≤ maxLen then (match v1 with | .int q u => if q = .u64 ∧ (Lit.int .u64 u).wf = true then some [.string s.data.toList, .int .u64 u] else none | _ => none) else none | _ => none) := by
  unfold Program.keyLits
  rw [Tryz.underlying36]
  simp only [cells_key, List.length_cons, List.length_nil]
  rw [if_pos ⟨by decide, by simp⟩]
  simp [List.mapM_cons, cells_text, cells_num, Program.keyLits, Tryz.underlying9, Tryz.underlying23]
  cases v0 <;> simp
  split
  · cases v1 <;> simp
    split <;> simp
  · simp

theorem keyof_key {f : ByteArray} {u : Int} (hf : f.size ≤ maxLen) (hu : 0 ≤ u ∧ u < 18446744073709551616) : keyOf Tryz.prog 36 (keyV f u) = some (klit f u) := by
  obtain ⟨n, hn⟩ := depth_key
  unfold keyOf
  rw [Tryz.underlying36]
  simp only
  rw [if_pos (by rw [type_key]; simp [Value.formed, Tryz.underlying36, cells_key]), hn]
  show (Tryz.prog.keyLits (n + 2) 36 [.string f, .int .u64 u]).map _ = _
  rw [lits_key]
  show (if f.size ≤ maxLen then (if IntKind.u64 = .u64 ∧ (Lit.int .u64 u).wf = true then some [Lit.string f.data.toList, Lit.int .u64 u] else none) else none).map (fun ls => Lit.string (keyBytes ls)) = some (klit f u)
  rw [if_pos hf, if_pos ⟨rfl, WalkArith.wf_u64 (by omega)⟩]
  rfl
set_option maxRecDepth 100000 in
theorem keyof_key_inv {v : Value} {kl : Lit} (h : keyOf Tryz.prog 36 v = some kl) : ∃ f u, v = keyV f u ∧ f.size ≤ maxLen ∧ (0 ≤ u ∧ u < 18446744073709551616) ∧ kl = klit f u := by
  obtain ⟨n, hn⟩ := depth_key
  unfold keyOf at h
  rw [Tryz.underlying36] at h
  simp only at h
  split at h
  · next hc =>
    simp only [Bool.and_eq_true] at hc
    have h2 := hc.2
    cases v <;> simp [Value.formed, Tryz.underlying36, cells_key] at h2
    rename_i cs
    obtain ⟨l⟩ := cs
    match l, h2 with
    | [v0, v1], _ =>
      rw [hn] at h
      change (Tryz.prog.keyLits (n + 2) 36 [v0, v1]).map _ = _ at h
      rw [lits_key] at h
      cases v0 with
      | string s =>
        cases v1 with
        | int q u =>
          simp at h
          obtain ⟨ls, ⟨h1, ⟨rfl, h3⟩, rfl⟩, rfl⟩ := h
          refine ⟨s, u, rfl, h1, ?_, rfl⟩
          simp [Lit.wf, IntKind.min, IntKind.max, IntKind.bits, IntKind.signed] at h3
          omega
        | _ => simp at h
      | _ => simp at h
  · cases h
theorem klit_inj {f g : ByteArray} {u v : Int} (hf : f.size ≤ maxLen) (hu : 0 ≤ u ∧ u < 18446744073709551616) (hg : g.size ≤ maxLen) (hv : 0 ≤ v ∧ v < 18446744073709551616) (h : klit f u = klit g v) : f = g ∧ u = v := by
  have h1 := keyof_key hf hu
  have h2 := keyof_key hg hv
  rw [h] at h1
  have h3 := law_key.inj h1 h2
  simp at h3
  exact h3

/-- What attributes read as. -/
def datA (f : Nat → Int) : DataW Unit := .agg ((List.range 8).map fun i => .lit (.int .i64 (f i)))
theorem datA_inj {f g : Nat → Int} (h : datA f = datA g) : rowA f = rowA g := by
  unfold datA at h
  injection h with h
  refine rowA_congr fun i hi => ?_
  have h1 : ((List.range 8).map fun i => (DataW.lit (.int .i64 (f i)) : DataW Unit))[i]? = ((List.range 8).map fun i => (DataW.lit (.int .i64 (g i)) : DataW Unit))[i]? := by rw [h]
  simp [List.getElem?_range hi] at h1
  exact h1
open Classical in
/-- How an element reads. -/
noncomputable def attR (v : Value) : Option (DataW Unit × List MemPlace) := if h : ∃ f : Nat → Int, v = .agg (rowA f) then some (datA h.choose, []) else none
theorem attR_mk (f : Nat → Int) : attR (.agg (rowA f)) = some (datA f, []) := by
  have h : ∃ g : Nat → Int, Value.agg (rowA f) = .agg (rowA g) := ⟨f, rfl⟩
  unfold attR
  rw [dif_pos h]
  have h1 := h.choose_spec
  injection h1 with h1
  have : datA h.choose = datA f := by
    unfold datA
    congr 1
    refine List.map_congr_left fun i hi => ?_
    rw [rowA_inj h1 (List.mem_range.1 hi)]
  rw [this]
theorem attR_inv {v : Value} {y : DataW Unit × List MemPlace} (h : attR v = some y) : ∃ f : Nat → Int, v = .agg (rowA f) ∧ y = (datA f, []) := by
  unfold attR at h
  split at h
  · next hc =>
    injection h with h
    exact ⟨_, hc.choose_spec, h.symm⟩
  · cases h

/-- Block b is the map that the notes tell. -/
def Knows (w : World) (b n : Nat) (l : List Nt) : Prop :=
  ∃ D : DataW Unit, w.ownsMap Tryz.prog 36 attR b n D ∧ (∀ f u, f.size ≤ 200 → 0 ≤ u → u < 18446744073709551616 → Maps.has D (klit f u) = told l f u ∧ (told l f u = true → ∀ z, D.atKey (klit f u) z = datA (attOf l f u))) ∧
    ∀ kl, Maps.has D kl = true → ∃ nt ∈ l, kl = klit nt.foot nt.num

theorem Knows.made (w : World) : Knows (w.alloc (.map #[] 0)) w.heap.size 0 [] :=
  ⟨.map [], World.ownsMap_made _ _ _ _, fun _ _ _ _ _ => ⟨rfl, fun h => by simp [told] at h⟩, fun _ h => by simp [Maps.has] at h⟩
theorem Knows.lt {w : World} {b n : Nat} {l : List Nt} (h : Knows w b n l) : b < w.heap.size := by
  obtain ⟨D, h1, _⟩ := h; exact h1.lt
theorem Knows.same {w w' : World} {b n : Nat} {l : List Nt} (h : Knows w b n l) (he : w'.heap[b]? = w.heap[b]?) : Knows w' b n l := by
  obtain ⟨D, ⟨es, clock, hb, hr⟩, h2⟩ := h
  exact ⟨D, ⟨es, clock, he.trans hb, hr⟩, h2⟩
theorem Knows.mono {w : World} {b n n' : Nat} {l : List Nt} (h : Knows w b n l) (hn : n ≤ n') : Knows w b n' l := by
  obtain ⟨D, h1, h2⟩ := h; exact ⟨D, h1.mono hn, h2⟩

theorem zero_a (w : World) : (zeroValue 39).run Tryz.prog w = .ok (.agg (rowA fun _ => 0)) w := by kernel_rfl

set_option maxRecDepth 100000 in
/-- A look-up: what the notes tell of the key, or noughts. -/
theorem Knows.look {w : World} {b n : Nat} {l : List Nt} (h : Knows w b n l) {f : ByteArray} {u : Int} (hf : f.size ≤ 200) (hu : 0 ≤ u ∧ u < 18446744073709551616) :
    (Instr.lookup 64 (.map (some b)) (keyV f u) false).run Tryz.prog w = .ok (.agg (rowA (attOf l f u))) w := by
  obtain ⟨D, h1, h2, _⟩ := h
  obtain ⟨h3, h4⟩ := h2 f u hf hu.1 hu.2
  obtain ⟨v, ps, hrun, hv⟩ := h1.lookup law_key Tryz.underlying64 (zero_a w) (attR_mk fun _ => 0) (keyof_key (f := f) (by unfold maxLen; omega) hu)
  have hd : D.atKey (klit f u) (datA fun _ => 0) = datA (attOf l f u) := by
    cases ht : told l f u with
    | true => exact h4 ht _
    | false => rw [atKey_of_not_has (by rw [h3, ht]), attOf_none ht]
  rw [hd] at hv
  obtain ⟨g, rfl, hg⟩ := attR_inv hv
  injection hg with hg _
  rw [hrun, datA_inj hg]

set_option maxRecDepth 100000 in
/-- A store: one note more. -/
theorem Knows.put {w : World} {b n : Nat} {l : List Nt} (h : Knows w b n l) (hn : n < maxLen) (nt : Nt) (hl : AllFair l) (hnt : Fair nt) :
    ∃ w', (Instr.mapUpdate 64 (.map (some b)) (keyV nt.foot nt.num) (.agg (rowA (mx (attOf l nt.foot nt.num) nt.att)))).run Tryz.prog w = .ok () w' ∧ Knows w' b (n + 1) (l ++ [nt]) ∧ w.grownBy w' (some b) := by
  obtain ⟨D, h1, h2, h5⟩ := h
  have hs : ∀ m ∈ l, m.foot.size ≤ maxLen ∧ (0 ≤ m.num ∧ m.num < 18446744073709551616) := fun m hm => by
    obtain ⟨_, _, a, b, c⟩ := hl m hm
    exact ⟨by unfold maxLen; omega, a, b⟩
  obtain ⟨_, _, a1, a2, a3⟩ := hnt
  have hs0 : nt.foot.size ≤ maxLen := by unfold maxLen; omega
  obtain ⟨w', hrun, h3, h4⟩ := h1.update law_key Tryz.underlying64 hn (keyof_key hs0 ⟨a1, a2⟩) (attR_mk (mx (attOf l nt.foot nt.num) nt.att))
  refine ⟨w', hrun, ⟨_, h3, fun f u hf hu1 hu2 => ?_, fun kl hk => ?_⟩, h4⟩
  · have hk : WideAt.IsKeyLit (klit nt.foot nt.num) := law_key.key (keyof_key hs0 ⟨a1, a2⟩)
    by_cases e : klit f u = klit nt.foot nt.num
    · obtain ⟨rfl, rfl⟩ := klit_inj (by unfold maxLen; omega) ⟨hu1, hu2⟩ hs0 ⟨a1, a2⟩ e
      have ho : ofKey nt.foot nt.num nt = true := ofKey_iff.2 ⟨rfl, rfl⟩
      refine ⟨by rw [has_put_same h1.isMap hk, told_snoc, ho]; simp, fun _ z => ?_⟩
      rw [atKey_put_same h1.isMap hk, attOf_snoc_same _ _ _ _ ho]
    · have ho : ofKey f u nt = false := by
        cases hc : ofKey f u nt
        · rfl
        · obtain ⟨rfl, rfl⟩ := ofKey_iff.1 hc
          exact absurd rfl e
      obtain ⟨k1, k2⟩ := h2 f u hf hu1 hu2
      refine ⟨by rw [has_put_other e, told_snoc, ho, k1]; simp, fun ht z => ?_⟩
      rw [told_snoc, ho, Bool.or_false] at ht
      rw [atKey_put_other e, attOf_snoc_other _ _ _ _ ho]
      exact k2 ht z
  · by_cases e : kl = klit nt.foot nt.num
    · exact ⟨nt, by simp, e⟩
    · rw [has_put_other e] at hk
      obtain ⟨m, hm, hk⟩ := h5 kl hk
      exact ⟨m, by simp [hm], hk⟩

/-- Two maps that tell the same of each key are one. -/
theorem tells_same {w w' : World} {b b' n n' : Nat} {l m : List Nt} (h : Knows w b n l) (h' : Knows w' b' n' m) (hl : AllFair l) (hm : AllFair m) (he : ∀ x, x ∈ l ↔ x ∈ m) :
    ∃ D : DataW Unit, w.ownsMap Tryz.prog 36 attR b n D ∧ w'.ownsMap Tryz.prog 36 attR b' n' D := by
  obtain ⟨D, h1, h2, h3⟩ := h
  obtain ⟨E, k1, k2, k3⟩ := h'
  have key : ∀ (l : List Nt), AllFair l → ∀ nt ∈ l, nt.foot.size ≤ 200 ∧ 0 ≤ nt.num ∧ nt.num < 18446744073709551616 := fun l hl nt hn => by
    obtain ⟨_, _, a, b, c⟩ := hl nt hn
    exact ⟨c, a, b⟩
  have hh : ∀ kl, Maps.has D kl = Maps.has E kl := fun kl => by
    rw [Bool.eq_iff_iff]
    constructor
    · intro hk
      obtain ⟨nt, hn, rfl⟩ := h3 kl hk
      obtain ⟨a, b, c⟩ := key l hl nt hn
      rw [(k2 _ _ a b c).1, ← told_same he, ← (h2 _ _ a b c).1]
      exact hk
    · intro hk
      obtain ⟨nt, hn, rfl⟩ := k3 kl hk
      obtain ⟨a, b, c⟩ := key m hm nt hn
      rw [(h2 _ _ a b c).1, told_same he, ← (k2 _ _ a b c).1]
      exact hk
  have e : D = E := Maps.ext (h1.canon law_key) (k1.canon law_key) hh fun kl z hk => by
    obtain ⟨nt, hn, rfl⟩ := h3 kl hk
    obtain ⟨a, b, c⟩ := key l hl nt hn
    have t1 : told l nt.foot nt.num = true := told_iff.2 ⟨nt, hn, rfl, rfl⟩
    rw [(h2 _ _ a b c).2 t1, (k2 _ _ a b c).2 (by rw [← told_same he]; exact t1), attOf_same he]
  subst e
  exact ⟨D, h1, k1⟩

end Go.Proofs.YtpdfakjopeldmaaGreatDoor

/-
  An index: its box, its map, the notes that tell it. The contracts of package index's New, merge, Count.
-/
namespace Go.Proofs.YtpdfakjopeldmaaGreatDoor
open Go.ChangeShapes Go.WideShapes Go.ChangeAt Go.RowKit Go.Maps Go.WideMaps
set_option linter.unusedVariables false
set_option linter.unusedSimpArgs false

/-- Box x leads to map m, which the notes tell. -/
def Ix (w : World) (x m : Nat) (l : List Nt) : Prop := Blk w x 66 #[.map (some m)] ∧ Knows w m l.length l ∧ AllFair l ∧ 1 < m
theorem Ix.lt {w : World} {x m : Nat} {l : List Nt} (h : Ix w x m l) : x < w.heap.size ∧ m < w.heap.size := ⟨h.1.lt, h.2.1.lt⟩
theorem Ix.ne {w : World} {x m : Nat} {l : List Nt} (h : Ix w x m l) : x ≠ m := by
  rintro rfl
  obtain ⟨h1, ⟨D, ⟨es, clock, hb, _⟩, _⟩, _⟩ := h
  unfold Blk at h1
  rw [h1] at hb
  cases hb
theorem Ix.on {w w' : World} {x m : Nat} {l : List Nt} (h : Ix w x m l) (hb : Below w.heap.size w w') : Ix w' x m l :=
  ⟨h.1.below hb h.1.lt, h.2.1.same (hb.block m h.2.1.lt), h.2.2⟩
theorem Ix.on2 {w w' : World} {B x m : Nat} {l : List Nt} (h : Ix w x m l) (hb : Below B w w') (hx : x < B) (hm : m < B) : Ix w' x m l :=
  ⟨h.1.below hb hx, h.2.1.same (hb.block m hm), h.2.2⟩
theorem Ix.alloc {w : World} {x m : Nat} {l : List Nt} (h : Ix w x m l) (o : Obj) : Ix (w.alloc o) x m l := h.on ((Below.refl _ _).alloc (Nat.le_refl _) o)
theorem Ix.drew {w : World} {x m : Nat} {l : List Nt} (h : Ix w x m l) : Ix w.drew x m l := h
theorem Ix.cell {w : World} {x m : Nat} {l : List Nt} (h : Ix w x m l) : w.cell? ⟨x, 0, none⟩ = some (.map (some m)) := (h.1.cell 0).trans rfl
/-- Another index's map is turned. -/
theorem Ix.apart {w w' : World} {x m y n : Nat} {l k : List Nt} (h : Ix w x m l) (h' : Ix w y n k) (hne : m ≠ n) (hg : w.grownBy w' (some n)) : Ix w' x m l := by
  have h1 : x ≠ n := by
    rintro rfl
    obtain ⟨a1, _⟩ := h
    obtain ⟨_, ⟨D, ⟨es, clock, hb, _⟩, _⟩, _⟩ := h'
    unfold Blk at a1
    rw [a1] at hb
    cases hb
  exact ⟨h.1.grown hg (by simpa using h1), h.2.1.same (hg.block m h.2.1.lt (by simpa using hne)), h.2.2⟩

theorem ix_var_grown {P : Program} {w w' : World} {n : String} {cs : Array Value} {g : Nat} {row : Option Nat} (hg : P.globalNamed n = some g) (h : w.var? P n = some cs) (hlt : g < w.heap.size) (hne : some g ≠ row) (hb : w.grownBy w' row) : w'.var? P n = some cs := by
  unfold World.var? at h ⊢
  rw [hg] at h ⊢
  simp only [Option.bind_some] at h ⊢
  rw [hb.block g hlt hne]; exact h
/-- The table of kinds stays. -/
theorem Ix.parts {w w' : World} {x m : Nat} {l : List Nt} (h : Ix w x m l) (hP : PartsIs w) (hg : w.grownBy w' (some m)) : PartsIs w' := by
  have := h.2.2.2
  have := h.2.1.lt
  exact ix_var_grown (g := 1) (by kernel_rfl) hP (by omega) (by simp; omega) hg

theorem attOf_row {l : List Nt} {f : ByteArray} {u : Int} : (Value.agg (rowA (attOf l f u))) = .agg #[.int .i64 (attOf l f u 0), .int .i64 (attOf l f u 1), .int .i64 (attOf l f u 2), .int .i64 (attOf l f u 3), .int .i64 (attOf l f u 4), .int .i64 (attOf l f u 5), .int .i64 (attOf l f u 6), .int .i64 (attOf l f u 7)] := rfl

/-- A store, in whatever world holds the map. -/
theorem Knows.put_all {w : World} {b n : Nat} {l : List Nt} (h : Knows w b n l) (hn : n < maxLen) (nt : Nt) (hl : AllFair l) (hnt : Fair nt) :
    ∃ U : World → World, ∀ w', w'.heap[b]? = w.heap[b]? → (Instr.mapUpdate 64 (.map (some b)) (keyV nt.foot nt.num) (.agg #[.int .i64 (mx (attOf l nt.foot nt.num) nt.att 0), .int .i64 (mx (attOf l nt.foot nt.num) nt.att 1), .int .i64 (mx (attOf l nt.foot nt.num) nt.att 2), .int .i64 (mx (attOf l nt.foot nt.num) nt.att 3), .int .i64 (mx (attOf l nt.foot nt.num) nt.att 4), .int .i64 (mx (attOf l nt.foot nt.num) nt.att 5), .int .i64 (mx (attOf l nt.foot nt.num) nt.att 6), .int .i64 (mx (attOf l nt.foot nt.num) nt.att 7)])).run Tryz.prog w' = .ok () (U w') ∧ Knows (U w') b (n + 1) (l ++ [nt]) ∧ w'.grownBy (U w') (some b) := by
  have H : ∀ w', w'.heap[b]? = w.heap[b]? → ∃ w'', (Instr.mapUpdate 64 (.map (some b)) (keyV nt.foot nt.num) (.agg #[.int .i64 (mx (attOf l nt.foot nt.num) nt.att 0), .int .i64 (mx (attOf l nt.foot nt.num) nt.att 1), .int .i64 (mx (attOf l nt.foot nt.num) nt.att 2), .int .i64 (mx (attOf l nt.foot nt.num) nt.att 3), .int .i64 (mx (attOf l nt.foot nt.num) nt.att 4), .int .i64 (mx (attOf l nt.foot nt.num) nt.att 5), .int .i64 (mx (attOf l nt.foot nt.num) nt.att 6), .int .i64 (mx (attOf l nt.foot nt.num) nt.att 7)])).run Tryz.prog w' = .ok () w'' ∧ Knows w'' b (n + 1) (l ++ [nt]) ∧ w'.grownBy w'' (some b) :=
    fun w' e => (h.same e).put hn nt hl hnt
  classical
  exact ⟨fun w' => if e : w'.heap[b]? = w.heap[b]? then (H w' e).choose else w', fun w' e => by
    have := (H w' e).choose_spec
    simp only [dif_pos e]
    exact this⟩

theorem heap_drew (w : World) : w.drew.heap = w.heap := rfl
theorem heap_drewN (w : World) (n : Nat) : (w.drewN n).heap = w.heap := rfl
theorem entry_new {w W : World} {f : ByteArray} {u : Int} {a : Nat → Int} (h : w.alloc (.cells (#[.string f, .int .u64 u, .int .i64 (a 0), .int .i64 (a 1), .int .i64 (a 2), .int .i64 (a 3), .int .i64 (a 4), .int .i64 (a 5), .int .i64 (a 6), .int .i64 (a 7)]) 41) = W) :
    Hid (Blk W w.heap.size 41 (#[.string f, .int .u64 u, .int .i64 (a 0), .int .i64 (a 1), .int .i64 (a 2), .int .i64 (a 3), .int .i64 (a 4), .int .i64 (a 5), .int .i64 (a 6), .int .i64 (a 7)])) ∧ Hid (Below w.heap.size w W) := one_new h
theorem entry_cells {w' : World} {g : Nat} {T : TypeId} {f : ByteArray} {u : Int} {a : Nat → Int} (h : Blk w' g T (#[.string f, .int .u64 u, .int .i64 (a 0), .int .i64 (a 1), .int .i64 (a 2), .int .i64 (a 3), .int .i64 (a 4), .int .i64 (a 5), .int .i64 (a 6), .int .i64 (a 7)])) : (w'.cell? ⟨g, 0, none⟩ = some (.string f) ∧ w'.cell? ⟨g, 1, none⟩ = some (.int .u64 u) ∧ w'.cell? ⟨g, 2, none⟩ = some (.int .i64 (a 0)) ∧ w'.cell? ⟨g, 3, none⟩ = some (.int .i64 (a 1)) ∧ w'.cell? ⟨g, 4, none⟩ = some (.int .i64 (a 2)) ∧ w'.cell? ⟨g, 5, none⟩ = some (.int .i64 (a 3)) ∧ w'.cell? ⟨g, 6, none⟩ = some (.int .i64 (a 4)) ∧ w'.cell? ⟨g, 7, none⟩ = some (.int .i64 (a 5)) ∧ w'.cell? ⟨g, 8, none⟩ = some (.int .i64 (a 6)) ∧ w'.cell? ⟨g, 9, none⟩ = some (.int .i64 (a 7))) :=
  ⟨(h.cell 0).trans rfl, (h.cell 1).trans rfl, (h.cell 2).trans rfl, (h.cell 3).trans rfl, (h.cell 4).trans rfl, (h.cell 5).trans rfl, (h.cell 6).trans rfl, (h.cell 7).trans rfl, (h.cell 8).trans rfl, (h.cell 9).trans rfl⟩

/-- What the region that merges sees. -/
def SeesM (w' : World) (x m k : Nat) (f : ByteArray) (u : Int) (a : Nat → Int) : Prop := w'.cell? ⟨x, 0, none⟩ = some (.map (some m)) ∧ (w'.cell? ⟨k, 0, none⟩ = some (.string f) ∧ w'.cell? ⟨k, 1, none⟩ = some (.int .u64 u) ∧ w'.cell? ⟨k, 2, none⟩ = some (.int .i64 (a 0)) ∧ w'.cell? ⟨k, 3, none⟩ = some (.int .i64 (a 1)) ∧ w'.cell? ⟨k, 4, none⟩ = some (.int .i64 (a 2)) ∧ w'.cell? ⟨k, 5, none⟩ = some (.int .i64 (a 3)) ∧ w'.cell? ⟨k, 6, none⟩ = some (.int .i64 (a 4)) ∧ w'.cell? ⟨k, 7, none⟩ = some (.int .i64 (a 5)) ∧ w'.cell? ⟨k, 8, none⟩ = some (.int .i64 (a 6)) ∧ w'.cell? ⟨k, 9, none⟩ = some (.int .i64 (a 7)))
theorem sees_m {w' : World} {x m k : Nat} {f : ByteArray} {u : Int} {a : Nat → Int} {T U : TypeId} (h : Blk w' x U #[.map (some m)]) (hk : Blk w' k T (#[.string f, .int .u64 u, .int .i64 (a 0), .int .i64 (a 1), .int .i64 (a 2), .int .i64 (a 3), .int .i64 (a 4), .int .i64 (a 5), .int .i64 (a 6), .int .i64 (a 7)])) : SeesM w' x m k f u a := ⟨(h.cell 0).trans rfl, entry_cells hk⟩

set_option maxRecDepth 100000 in
set_option maxHeartbeats 4000000 in
theorem ixmerge_any (x m : Nat) (l : List Nt) (nt : Nt) (w : World) (h : Ix w x m l) (hnt : Fair nt) (hlen : l.length < 1000) :
    Calls Tryz.prog 32 #[.pointer (some ⟨x, 0, none⟩), .agg #[.string nt.foot, .int .u64 nt.num, .int .i64 (nt.att 0), .int .i64 (nt.att 1), .int .i64 (nt.att 2), .int .i64 (nt.att 3), .int .i64 (nt.att 4), .int .i64 (nt.att 5), .int .i64 (nt.att 6), .int .i64 (nt.att 7)]] w fun e w' => e = .returned (.tuple #[]) ∧ Ix w' x m (l ++ [nt]) ∧ w.grownBy w' (some m) := by
  obtain ⟨B, hB⟩ : ∃ B, w.heap[m]? = B := ⟨_, rfl⟩
  obtain ⟨U, hU⟩ := h.2.1.put_all (by unfold maxLen; omega) nt h.2.2.1 hnt
  have hL : ∀ w', w'.heap[m]? = B → (Instr.lookup 64 (.map (some m)) (keyV nt.foot nt.num) false).run Tryz.prog w' = .ok (.agg #[.int .i64 (attOf l nt.foot nt.num 0), .int .i64 (attOf l nt.foot nt.num 1), .int .i64 (attOf l nt.foot nt.num 2), .int .i64 (attOf l nt.foot nt.num 3), .int .i64 (attOf l nt.foot nt.num 4), .int .i64 (attOf l nt.foot nt.num 5), .int .i64 (attOf l nt.foot nt.num 6), .int .i64 (attOf l nt.foot nt.num 7)]) w' := fun w' e => by
    obtain ⟨_, _, a1, a2, a3⟩ := hnt
    exact (h.2.1.same (e.trans hB.symm)).look a3 ⟨a1, a2⟩
  obtain ⟨C, hC⟩ : ∃ C, attOf l nt.foot nt.num = C := ⟨_, rfl⟩
  rw [hC] at hU hL
  rw [hB] at hU
  have hR : ∀ w', Knows (U w') m (l.length + 1) (l ++ [nt]) → Blk (U w') x 66 #[.map (some m)] → Ix (U w') x m (l ++ [nt]) := fun w' h1 h2 => ⟨h2, by simpa using h1, h.2.2.1.snoc hnt, h.2.2.2⟩
  obtain ⟨f, u, a⟩ := nt
  obtain ⟨M, hM⟩ : ∃ M, mx C a = M := ⟨_, rfl⟩
  simp only at hU hL hR
  rw [hM] at hU
  have HM := hid (fun w => merge8 C a w)
  rw [hM] at HM
  have hE : ∀ w', w'.heap[m]? = B → (Instr.mapUpdate 64 (.map (some m)) (keyV f u) (.agg #[.int .i64 (M 0), .int .i64 (M 1), .int .i64 (M 2), .int .i64 (M 3), .int .i64 (M 4), .int .i64 (M 5), .int .i64 (M 6), .int .i64 (M 7)])).run Tryz.prog w' = .ok () (U w') := fun w' e => (hU w' e).1
  have HU := hid hU
  have HR := hid hR
  have HX := hid h
  have HB := hid hB
  clear hU hR h hB hnt hC hM
  go_enter Tryz.func32, Tryz.ntmps32
  go_upto_region 1 with fail
  obtain ⟨W, hW⟩ : ∃ W, w.alloc (.cells (#[.string f, .int .u64 u, .int .i64 (a 0), .int .i64 (a 1), .int .i64 (a 2), .int .i64 (a 3), .int .i64 (a 4), .int .i64 (a 5), .int .i64 (a 6), .int .i64 (a 7)]) 41) = W := ⟨_, rfl⟩
  rw [hW]
  obtain ⟨K0, KB⟩ := entry_new hW
  clear hW
  have KX := hid (HX.out.on KB.out)
  have KM : Hid (W.heap[m]? = B) := hid ((KB.out.block m HX.out.lt.2).trans HB.out)
  obtain ⟨k, hk⟩ : ∃ k, w.heap.size = k := ⟨_, rfl⟩
  rw [hk] at K0 KB
  rw [hk]
  have HK := hid hk
  clear hk
  have hL0 := hL W KM.out
  have hL1 := hL W.drew KM.out
  have hne1 : Hid (x ≠ m) := hid KX.out.ne
  have hne2 : Hid (k ≠ m) := hid (by have := HX.out.lt.2; have := HK.out; omega)
  clear hL
  have HE := hid hE
  clear hE
  go_region_held3 (fun w' => w'.cell? ⟨x, 0, none⟩ = some (.map (some m)) ∧ (w'.cell? ⟨k, 0, none⟩ = some (.string f) ∧ w'.cell? ⟨k, 1, none⟩ = some (.int .u64 u) ∧ w'.cell? ⟨k, 2, none⟩ = some (.int .i64 (a 0)) ∧ w'.cell? ⟨k, 3, none⟩ = some (.int .i64 (a 1)) ∧ w'.cell? ⟨k, 4, none⟩ = some (.int .i64 (a 2)) ∧ w'.cell? ⟨k, 5, none⟩ = some (.int .i64 (a 3)) ∧ w'.cell? ⟨k, 6, none⟩ = some (.int .i64 (a 4)) ∧ w'.cell? ⟨k, 7, none⟩ = some (.int .i64 (a 5)) ∧ w'.cell? ⟨k, 8, none⟩ = some (.int .i64 (a 6)) ∧ w'.cell? ⟨k, 9, none⟩ = some (.int .i64 (a 7))))
    (first | exact sees_m KX.out.1 K0.out | exact sees_m KX.out.1.drew K0.out.drew | exact sees_m D1.out.1 D0.out | exact sees_m E1.out E0.out)
    (first
      | (go_at_call 58; (with_reducible refine (HM.out _).mono ?_); rintro e w3 ⟨rfl, g3⟩; have D1 := hid (KX.out.drew.on g3); have D0 := hid (K0.out.drew.below g3 K0.out.lt); have DM := hid ((g3.block m KX.out.lt.2).trans KM.out); have hE3 := HE.out _ DM.out; have E1 := hid (D1.out.1.grown (HU.out _ DM.out).2.2 (by simpa using hne1.out)); have E0 := hid (D0.out.grown (HU.out _ DM.out).2.2 (by simpa using hne2.out))))
  have KB2 : Hid (Below w.heap.size w W.drew) := hid (by rw [HK.out]; exact below_drew KB.out)
  have G3 : Hid (w.grownBy (U w3) (some m)) := hid (World.grownBy.trans (only_of_below (KB2.out.trans (g3.mono KB2.out.size)) _) (HU.out _ DM.out).2.2)
  have R3 := hid (HR.out _ (HU.out _ DM.out).2.1 E1.out)
  rename_i hHeld
  clear hHeld g3 hE3
  go_end0
  exact ⟨rfl, R3.out, G3.out⟩
end Go.Proofs.YtpdfakjopeldmaaGreatDoor

/-
  The contracts of package index's New, Count and Note.
-/
namespace Go.Proofs.YtpdfakjopeldmaaGreatDoor
open Go.ChangeShapes Go.WideShapes Go.ChangeAt Go.RowKit Go.Maps Go.WideMaps
set_option linter.unusedVariables false
set_option linter.unusedSimpArgs false

set_option maxRecDepth 100000 in
set_option maxHeartbeats 1000000 in
theorem ixnew_any (w : World) (hg : 1 < w.heap.size) :
    Calls Tryz.prog 7 #[] w fun e w' => ∃ x m, e = .returned (.pointer (some ⟨x, 0, none⟩)) ∧ Ix w' x m [] ∧ Below w.heap.size w w' ∧ w.heap.size ≤ m := by
  have hmm := @run_makeMap Tryz.prog
  go_enter Tryz.func7, Tryz.ntmps7
  go_wp2
  go_ret
  have h1 : Knows (w.alloc (.map #[] 0)) w.heap.size 0 [] := Knows.made w
  have h2 : Blk ((w.alloc (.map #[] 0)).alloc (.cells #[.map (some w.heap.size)] 66)) (w.heap.size + 1) 66 #[.map (some w.heap.size)] := by
    have h := Blk.new (w.alloc (.map #[] 0)) 66 #[.map (some w.heap.size)]
    simpa using h
  refine ⟨_, _, rfl, ⟨h2, h1.same ?_, AllFair.nil, hg⟩, ((Below.refl _ _).alloc (Nat.le_refl _) _).alloc (by simp) _, Nat.le_refl _⟩
  exact ((Below.refl (w.heap.size + 1) (w.alloc (.map #[] 0))).alloc (by simp) _).block w.heap.size (by omega)

set_option maxRecDepth 100000 in
set_option maxHeartbeats 1000000 in
theorem ixcount_any (x m n : Nat) (D : DataW Unit) (w : World) (h : w.cell? ⟨x, 0, none⟩ = some (.map (some m))) (hD : w.ownsMap Tryz.prog 36 attR m n D) :
    Calls Tryz.prog 22 #[.pointer (some ⟨x, 0, none⟩)] w fun e w' => e = .returned (.int .i64 (Maps.size D : Nat)) ∧ w = w' := by
  have HD := hid hD
  clear hD
  go_enter Tryz.func22, Tryz.ntmps22
  go_wp2_with (first | (at_len; with_reducible refine wpList_len_own _ rfl _ 64 rfl 36 39 Tryz.underlying64 attR m n D rfl HD.out ?_))
  go_ret
  exact ⟨rfl, rfl⟩

/-- What a noting notes. -/
def noteF (c : K) (r s q : Int) : Nt := ⟨keyF c, keyN c, upd (upd (fun _ => 0) 0 (cutS q)) (1 + r.toNat) (s + 1)⟩
def noteL (l : List Nt) (c : K) (r s q : Int) : List Nt := if keyed c && nameB r s then l ++ [noteF c r s q] else l
theorem note_fair {c : K} {r s q : Int} (hn : nameB r s = true) (hf : c.foot.size < 200) (hp : c.path.size < 200) (hu : 0 ≤ c.num ∧ c.num < 18446744073709551616) : Fair (noteF c r s q) := by
  obtain ⟨a, b, rfl, rfl, ha, hb, _⟩ := name_in hn
  have hq : 0 ≤ cutS q ∧ cutS q ≤ 1073741824 := by unfold cutS; split <;> (try split) <;> omega
  refine ⟨okB_iff.2 ⟨?_, fun i hi => ?_⟩, fun i hi => ?_, ?_, ?_, keyF_size c 200 (by omega) (by omega)⟩
  · show 0 ≤ (upd (upd (fun _ => 0) 0 (cutS q)) (1 + (a : Int).toNat) ((b : Int) + 1)) 0 ∧ (upd (upd (fun _ => 0) 0 (cutS q)) (1 + (a : Int).toNat) ((b : Int) + 1)) 0 ≤ 1073741824
    unfold upd
    rw [if_neg (by omega), if_pos rfl]
    exact hq
  · show 0 ≤ (upd (upd (fun _ => 0) 0 (cutS q)) (1 + (a : Int).toNat) ((b : Int) + 1)) (i + 1) ∧ (upd (upd (fun _ => 0) 0 (cutS q)) (1 + (a : Int).toNat) ((b : Int) + 1)) (i + 1) ≤ 1024
    unfold upd
    split
    · omega
    · rw [if_neg (by omega)]; exact ⟨Int.le_refl 0, (by decide : (0 : Int) ≤ 1024)⟩
  · show (upd (upd (fun _ => 0) 0 (cutS q)) (1 + (a : Int).toNat) ((b : Int) + 1)) i = 0
    unfold upd
    rw [if_neg (by omega), if_neg (by omega)]
  · show 0 ≤ keyN c
    unfold keyN; split
    · exact hu.1
    · exact Int.le_refl _
  · show keyN c < 18446744073709551616
    unfold keyN; split
    · exact hu.2
    · decide

theorem cut_of (q mx : Int) (h : (if q < 0 then 0 else q) = mx) : min mx 1073741824 = cutS q := by
  unfold cutS
  split at h <;> (try split) <;> omega

/-- The boxes of a noting. -/
theorem note_boxes {w W : World} {cs : Array Value} {r s : Int} (h : (w.alloc (.cells cs 27)).alloc (.cells #[.int .i64 r, .int .i64 s] 29) = W) :
    Hid (Blk W w.heap.size 27 cs) ∧ Hid (Blk W (w.heap.size + 1) 29 #[.int .i64 r, .int .i64 s]) ∧ Hid (Below w.heap.size w W) := two_new h
theorem key_row (n : Int) : (#[.int .i64 n, .int .i64 0, .int .i64 0, .int .i64 0, .int .i64 0, .int .i64 0, .int .i64 0, .int .i64 0] : Array Value) = rowA (upd (fun _ => 0) 0 n) := rfl

theorem eight_ex' {w : World} {g : Nat} {f : Nat → Int} (h : Eight w g f) : w.cell? ⟨g, 0, none⟩ = some (.int .i64 (f 0)) ∧ w.cell? ⟨g, 1, none⟩ = some (.int .i64 (f 1)) ∧ w.cell? ⟨g, 2, none⟩ = some (.int .i64 (f 2)) ∧ w.cell? ⟨g, 3, none⟩ = some (.int .i64 (f 3)) ∧ w.cell? ⟨g, 4, none⟩ = some (.int .i64 (f 4)) ∧ w.cell? ⟨g, 5, none⟩ = some (.int .i64 (f 5)) ∧ w.cell? ⟨g, 6, none⟩ = some (.int .i64 (f 6)) ∧ w.cell? ⟨g, 7, none⟩ = some (.int .i64 (f 7)) := h

set_option maxRecDepth 100000 in
set_option maxHeartbeats 4000000 in
theorem ixnote_any (x m : Nat) (l : List Nt) (c : K) (r s q : Int) (w : World) (h : Ix w x m l) (hP : PartsIs w) (hf : c.foot.size < 200) (hp : c.path.size < 200) (hu : 0 ≤ c.num ∧ c.num < 18446744073709551616) (hlen : l.length < 1000) :
    Calls Tryz.prog 17 #[.pointer (some ⟨x, 0, none⟩), val c, nm r s, .int .i64 q] w fun e w' => e = .returned (.tuple #[]) ∧ Ix w' x m (noteL l c r s q) ∧ w.grownBy w' (some m) := by
  have HF := hid (fun (hn : nameB r s = true) => note_fair (q := q) hn hf hp hu)
  have KO := hid (fun w h => keyof_any c w h (by omega) (by omega))
  obtain ⟨F, hF⟩ : ∃ F, keyF c = F := ⟨_, rfl⟩
  obtain ⟨N, hN⟩ : ∃ N, keyN c = N := ⟨_, rfl⟩
  obtain ⟨y, hy⟩ : ∃ y, nameB r s = y := ⟨_, rfl⟩
  obtain ⟨B, hB⟩ : ∃ B, keyed c = B := ⟨_, rfl⟩
  have HL : Hid (noteL l c r s q = if B && y then l ++ [⟨F, N, upd (upd (fun _ => 0) 0 (cutS q)) (1 + r.toNat) (s + 1)⟩] else l) := hid (by unfold noteL noteF; rw [hB, hy, hF, hN])
  have HF2 : Hid (y = true → Fair ⟨F, N, upd (upd (fun _ => 0) 0 (cutS q)) (1 + r.toNat) (s + 1)⟩) := hid (by have := HF.out; unfold noteF at this; rw [hF, hN, hy] at this; exact this)
  rw [hF, hN, hB] at KO
  have HY := hid hy
  have HN : Hid (y = true → ∃ a b : Nat, r = a ∧ s = b ∧ a < 7 ∧ b < 1024) := hid (fun h => by
    subst h; obtain ⟨a, b, h1, h2, h3, h4, _⟩ := name_in hy; exact ⟨a, b, h1, h2, h3, h4⟩)
  have HX := hid h
  have HP := hid hP
  clear h hP HF hf hp hu hF hN hy hB
  obtain ⟨k, u, f, q', s', m', n, t⟩ := c
  go_enter Tryz.func17, Tryz.ntmps17
  go_upto_region 1 with fail
  obtain ⟨W, hW⟩ : ∃ W, (w.alloc (.cells (cellsOf ⟨k, u, f, q', s', m', n, t⟩) 27)).alloc (.cells #[.int .i64 r, .int .i64 s] 29) = W := ⟨_, rfl⟩
  rw [hW]
  obtain ⟨K0, K1, KB⟩ := note_boxes hW
  clear hW
  have KX := hid (HX.out.on KB.out)
  have KP := hid (HP.out.below KB.out)
  have hw := HX.out.lt
  obtain ⟨g, hk⟩ : ∃ k, w.heap.size = k := ⟨_, rfl⟩
  rw [hk] at K0 K1 KB hw
  rw [hk]
  have HK := hid hk
  clear hk
  obtain ⟨⟨c0, c1, c2, c3, c4, c5, c6, c7⟩, _⟩ := cells8 K0.out
  go_wp2_with fail
  with_reducible refine (KO.out _ KP.out).mono ?_
  rintro e w1 ⟨rfl, hb⟩
  clear c0 c1 c2 c3 c4 c5 c6 c7
  have D1 := hid ((K1.out.below hb K1.out.lt).alloc (.cells (keyC F N) 36))
  have DX := hid ((KX.out.on hb).alloc (.cells (keyC F N) 36))
  have DB := hid ((KB.out.trans (hb.mono (by have := K0.out.lt; omega))).alloc (by have := (K0.out.below hb K0.out.lt).lt; omega) (.cells (keyC F N) 36))
  have DK := hid (Blk.new w1 36 (keyC F N))
  have hw1 : Hid (g + 1 < w1.heap.size) := hid (K1.out.below hb K1.out.lt).lt
  clear hb K0 K1 KB KP KX HP
  cases B
  · have HL2 : Hid (noteL l ⟨k, u, f, q', s', m', n, t⟩ r s q = l) := hid (by rw [HL.out]; simp)
    go_wp2
    refine bodyPost_ret (v := .tuple #[]) (results_none (by kernel_rfl) _ _ _) rfl ?_
    exact ⟨rfl, by rw [HL2.out]; exact DX.out, by rw [HK.out.symm] at DB; exact only_of_below DB.out _⟩
  · obtain ⟨⟨i0, i1⟩, _, _⟩ := blkn D1.out
    obtain ⟨⟨d0, d1⟩, g0, g1⟩ := cells2 DK.out
    go_wp2_with fail
    with_reducible refine (nright_any r s _).mono ?_
    rw [HY.out]
    rintro e w2 ⟨rfl, hb⟩
    clear i0 i1 d0 d1 g0 g1
    have E1 := hid (D1.out.below hb D1.out.lt)
    have EX := hid (DX.out.on hb)
    have EB := hid (DB.out.trans (hb.mono (Nat.le_of_lt (Nat.lt_of_succ_lt D1.out.lt))))
    have EK := hid (DK.out.below hb DK.out.lt)
    clear hb D1 DX DB DK
    cases y
    · have HL2 : Hid (noteL l ⟨k, u, f, q', s', m', n, t⟩ r s q = l) := hid (by rw [HL.out]; simp)
      go_wp2
      refine bodyPost_ret (v := .tuple #[]) (results_none (by kernel_rfl) _ _ _) rfl ?_
      exact ⟨rfl, by rw [HL2.out]; exact EX.out, by rw [HK.out.symm] at EB; exact only_of_below EB.out _⟩
    · obtain ⟨a, b, rfl, rfl, ha, hb2⟩ := HN.out rfl
      obtain ⟨mx, hmx⟩ : ∃ mx, (if q < 0 then 0 else q) = mx := ⟨_, rfl⟩
      have hm1 := fun (w : World) (ts : Array TypeId) (t : TypeId) => run_maxi Tryz.prog q 0 mx hmx w ts t
      obtain ⟨cu, hcu⟩ : ∃ cu, cutS q = cu := ⟨_, rfl⟩
      have hm2 := fun (w : World) (ts : Array TypeId) (t : TypeId) => run_mini Tryz.prog mx 1073741824 cu ((cut_of q mx hmx).trans hcu) w ts t
      have HF3 := HF2.out rfl
      rw [hcu, Int.toNat_natCast] at HF3
      have HF4 := hid HF3
      have HL2 : Hid (noteL l ⟨k, u, f, q', s', m', n, t⟩ a b q = l ++ [⟨F, N, upd (upd (fun _ => 0) 0 cu) (1 + a) (b + 1)⟩]) := hid (by rw [HL.out, hcu, Int.toNat_natCast]; rfl)
      clear HF3 HF2 HL hmx hcu
      obtain ⟨⟨i0, i1⟩, _, _⟩ := blkn E1.out
      have hb3 : (b : Int) < 1024 := by omega
      have ha3 : (a : Int) < 7 := by omega
      go_upto_region 4 with fail
      obtain ⟨W3, hW3⟩ : ∃ W3, w2.alloc (.cells #[.int .i64 cu, .int .i64 0, .int .i64 0, .int .i64 0, .int .i64 0, .int .i64 0, .int .i64 0, .int .i64 0] 39) = W3 := ⟨_, rfl⟩
      rw [hW3]
      obtain ⟨A0, AB⟩ := one_new hW3
      rw [key_row] at A0
      clear hW3 i0 i1 hm1 hm2
      have F1 := hid (E1.out.below AB.out E1.out.lt)
      have FX := hid (EX.out.on AB.out)
      have FB := hid (EB.out.trans (AB.out.mono (Nat.le_of_lt (Nat.lt_of_succ_lt E1.out.lt))))
      have FK := hid (EK.out.below AB.out EK.out.lt)
      have z1 : Hid (w1.heap.size < w2.heap.size) := hid EK.out.lt
      have z2 : Hid (g + 1 < w2.heap.size) := hid E1.out.lt
      obtain ⟨v, hv⟩ : ∃ v, w2.heap.size = v := ⟨_, rfl⟩
      rw [hv] at A0 AB z1 z2
      rw [hv]
      clear E1 EX EB EK AB hv
      have g0 := A0.out.frozen (1 + a)
      have g1 := A0.out.att (i := 1 + a) (by omega)
      obtain ⟨⟨i0, i1⟩, _, _⟩ := blkn F1.out
      go_upto_region 5 with fail
      obtain ⟨W4, hW4⟩ : ∃ W4, W3.setCell ⟨v, 1 + a, none⟩ (.int .i64 ((b : Int) + 1)) = W4 := ⟨_, rfl⟩
      rw [hW4]
      have G0 : Hid (Blk W4 v 39 (rowA (upd (upd (fun _ => 0) 0 cu) (1 + a) (b + 1)))) := hid (by rw [← hW4]; exact A0.out.attSet _ _)
      have hb4 : Hid (Below v W3 W4) := hid (by rw [← hW4]; exact (Below.refl v W3).setCell (p := ⟨v, 1 + a, none⟩) (Nat.le_refl _) _)
      have GX : Hid (Ix W4 x m l) := hid (FX.out.on2 hb4.out (by have := z2.out; omega) (by have := z2.out; omega))
      have GB := hid (FB.out.trans (hb4.out.mono (by have := z2.out; omega)))
      have GK := hid (FK.out.below hb4.out z1.out)
      clear hW4 hb4 g0 g1 i0 i1 A0 FX FB FK F1 z1 z2
      obtain ⟨A, hA⟩ : ∃ A, upd (upd (fun _ => (0 : Int)) 0 cu) (1 + a) ((b : Int) + 1) = A := ⟨_, rfl⟩
      rw [hA] at G0 HL2 HF4
      clear hA
      obtain ⟨⟨d0, d1⟩, _, _⟩ := cells2 GK.out
      obtain ⟨c0, c1, c2, c3, c4, c5, c6, c7⟩ := eight_ex' G0.out.eight
      go_wp2_with fail
      with_reducible refine (ixmerge_any x m l ⟨F, N, A⟩ _ GX.out HF4.out hlen).mono ?_
      rintro e w5 ⟨rfl, r1, r2⟩
      have R1 : Hid (Ix w5 x m (noteL l ⟨k, u, f, q', s', m', n, t⟩ a b q)) := hid (by rw [HL2.out]; exact r1)
      have R2 : Hid (w.grownBy w5 (some m)) := hid (World.grownBy.trans (only_of_below (by rw [HK.out]; exact GB.out) _) r2)
      clear r1 r2 d0 d1 c0 c1 c2 c3 c4 c5 c6 c7
      go_wp2
      go_end0
      exact ⟨rfl, R1.out, R2.out⟩

end Go.Proofs.YtpdfakjopeldmaaGreatDoor

/-
  The contracts of package index's ahead and Ask: what comes ahead of a key, whatever the order in which the map's entries come.
-/
namespace Go.Proofs.YtpdfakjopeldmaaGreatDoor
open Go.ChangeShapes Go.WideShapes Go.ChangeAt Go.RowKit Go.Maps Go.WideMaps
set_option linter.unusedVariables false
set_option linter.unusedSimpArgs false

/-- Does a note's key interfere with this one? -/
def clashes (f : ByteArray) (u : Int) (n : Nt) : Bool := clashF f u n.foot n.num
/-- .. and is it no more to come? -/
def doneP (p : Nt → Bool) (left : Lit → Bool) (n : Nt) : Bool := p n && !left (klit n.foot n.num)

theorem fair_key {n : Nt} (h : Fair n) : n.foot.size ≤ maxLen ∧ (0 ≤ n.num ∧ n.num < 18446744073709551616) := by
  obtain ⟨_, _, a, b, c⟩ := h
  exact ⟨by unfold maxLen; omega, a, b⟩
theorem same_key {n : Nt} (hn : Fair n) {f : ByteArray} {u : Int} (hf : f.size ≤ maxLen) (hu : 0 ≤ u ∧ u < 18446744073709551616) : (klit n.foot n.num).sameKey (klit f u) = ofKey f u n := by
  obtain ⟨h1, h2⟩ := fair_key hn
  rw [Bool.eq_iff_iff, ofKey_iff]
  constructor
  · intro h; exact klit_inj h1 h2 hf hu (WideAt.sameKey_eq h)
  · rintro ⟨rfl, rfl⟩; exact WideAt.sameKey_self (law_key.key (keyof_key hf hu))

theorem ahead_start (p : Nt → Bool) {l : List Nt} {left : Lit → Bool} (h : ∀ n ∈ l, left (klit n.foot n.num) = true) : aheadF (doneP p left) l = fun _ => 0 :=
  funext fun i => sup_none fun n hn => by unfold doneP; rw [h n hn]; simp
theorem ahead_end (p : Nt → Bool) {l : List Nt} {left : Lit → Bool} (h : ∀ kl, left kl = false) : aheadF (doneP p left) l = aheadF p l :=
  funext fun i => sup_congr fun n hn => by unfold doneP; rw [h]; simp
theorem ahead_round (kf : ByteArray) (ku : Int) {l : List Nt} (hl : AllFair l) {left : Lit → Bool} {f : ByteArray} {u : Int} (hf : f.size ≤ maxLen) (hu : 0 ≤ u ∧ u < 18446744073709551616) (ht : told l f u = true) (hc : clashF kf ku f u = true) :
    aheadF (doneP (clashes kf ku) fun z => left z && !z.sameKey (klit f u)) l = mx (aheadF (doneP (clashes kf ku) left) l) (nextF (attOf l f u)) := by
  funext i
  unfold mx
  rw [next_attOf hl ht i]
  show sup _ _ l = _
  rw [sup_congr (q := fun n => doneP (clashes kf ku) left n || ofKey f u n) fun n hn => ?_, sup_or]
  · rfl
  · show (clashes kf ku n && !(left (klit n.foot n.num) && !(klit n.foot n.num).sameKey (klit f u))) = (clashes kf ku n && !left (klit n.foot n.num) || ofKey f u n)
    rw [same_key (hl n hn) hf hu]
    cases ho : ofKey f u n
    · simp
    · obtain ⟨h1, h2⟩ := ofKey_iff.1 ho
      have : clashes kf ku n = true := by unfold clashes; rw [h1, h2]; exact hc
      rw [this]; simp
theorem ahead_skip (kf : ByteArray) (ku : Int) {l : List Nt} (hl : AllFair l) {left : Lit → Bool} {f : ByteArray} {u : Int} (hf : f.size ≤ maxLen) (hu : 0 ≤ u ∧ u < 18446744073709551616) (hc : clashF kf ku f u = false) :
    aheadF (doneP (clashes kf ku) fun z => left z && !z.sameKey (klit f u)) l = aheadF (doneP (clashes kf ku) left) l := by
  funext i
  show sup _ _ l = sup _ _ l
  refine sup_congr fun n hn => ?_
  show (clashes kf ku n && !(left (klit n.foot n.num) && !(klit n.foot n.num).sameKey (klit f u))) = (clashes kf ku n && !left (klit n.foot n.num))
  rw [same_key (hl n hn) hf hu]
  cases ho : ofKey f u n
  · simp
  · obtain ⟨h1, h2⟩ := ofKey_iff.1 ho
    have : clashes kf ku n = false := by unfold clashes; rw [h1, h2]; exact hc
    rw [this]; simp

theorem past_row {l : List Nt} (hl : AllFair l) {f : ByteArray} {u : Int} {c : Nat → Int} (hc : rowA c = rowA (attOf l f u)) (g : Nat → Int) : rowA (mx g (pastF c (c 0))) = rowA (mx g (nextF (attOf l f u))) :=
  rowA_congr fun i hi => by
    have h0 := rowA_inj hc (show 0 < 8 by omega)
    have h1 := rowA_inj hc hi
    have h2 := attOf_le hl f u 0
    have hp : pastF c (c 0) = upd c 0 (cutS (c 0 + 1)) := by
      unfold pastF
      rw [if_pos (by omega), past_next (by omega) (by omega)]
    rw [hp]
    unfold mx nextF
    rw [h0]
    unfold upd
    by_cases e : i = 0
    · simp only [if_pos e]
    · simp only [if_neg e, h1]

set_option maxRecDepth 100000 in
/-- A map's entry, in the notes' words. -/
theorem entry_is {l : List Nt} {D : DataW Unit} (hl : AllFair l)
    (h2 : ∀ f u, f.size ≤ 200 → 0 ≤ u → u < 18446744073709551616 → Maps.has D (klit f u) = told l f u ∧ (told l f u = true → ∀ z, D.atKey (klit f u) z = datA (attOf l f u)))
    (h3 : ∀ kl, Maps.has D kl = true → ∃ nt ∈ l, kl = klit nt.foot nt.num) {f : ByteArray} {u : Int} {c : Nat → Int} {kl : Lit} {y : DataW Unit × List MemPlace}
    (hk : keyOf Tryz.prog 36 (keyV f u) = some kl) (hhas : Maps.has D kl = true) (hv : attR (.agg #[.int .i64 (c 0), .int .i64 (c 1), .int .i64 (c 2), .int .i64 (c 3), .int .i64 (c 4), .int .i64 (c 5), .int .i64 (c 6), .int .i64 (c 7)]) = some y) (hat : ∀ zd, D.atKey kl zd = y.1) :
    kl = klit f u ∧ f.size ≤ 200 ∧ (0 ≤ u ∧ u < 18446744073709551616) ∧ told l f u = true ∧ rowA c = rowA (attOf l f u) := by
  obtain ⟨f', u', he, a1, a2, rfl⟩ := keyof_key_inv hk
  simp at he
  obtain ⟨rfl, rfl⟩ := he
  obtain ⟨nt, hn, hk2⟩ := h3 _ hhas
  obtain ⟨b1, b2⟩ := fair_key (hl nt hn)
  obtain ⟨rfl, rfl⟩ := klit_inj a1 a2 b1 b2 hk2
  obtain ⟨_, _, d1, d2, d3⟩ := hl nt hn
  have ht : told l nt.foot nt.num = true := told_iff.2 ⟨nt, hn, rfl, rfl⟩
  refine ⟨rfl, d3, ⟨d1, d2⟩, ht, ?_⟩
  have h4 := (h2 _ _ d3 d1 d2).2 ht (.lit (.bool false))
  rw [hat] at h4
  have h5 : attR (.agg (rowA c)) = some y := hv
  rw [attR_mk] at h5
  injection h5 with h5
  rw [← h5] at h4
  exact datA_inj h4

theorem inv_key (key : Value) (kl : Lit) (h : keyOf Tryz.prog 36 key = some kl) : ∃ x : ByteArray × Int, key = keyV x.1 x.2 := by
  obtain ⟨f, u, rfl, _⟩ := keyof_key_inv h
  exact ⟨(f, u), rfl⟩
theorem inv_att (v : Value) (y : DataW Unit × List MemPlace) (h : attR v = some y) : ∃ c : Nat → Int, v = .agg #[.int .i64 (c 0), .int .i64 (c 1), .int .i64 (c 2), .int .i64 (c 3), .int .i64 (c 4), .int .i64 (c 5), .int .i64 (c 6), .int .i64 (c 7)] := by
  obtain ⟨f, rfl, _⟩ := attR_inv h
  exact ⟨f, rfl⟩

/-- The three boxes. -/
theorem ahead_boxes {w W : World} {f : ByteArray} {u : Int} (h : ((w.alloc (.cells #[.string f, .int .u64 u] 36)).alloc (.cells #[.int .i64 0, .int .i64 0, .int .i64 0, .int .i64 0, .int .i64 0, .int .i64 0, .int .i64 0, .int .i64 0] 39)).alloc (.cells #[.int .i64 0, .int .i64 0, .int .i64 0, .int .i64 0, .int .i64 0, .int .i64 0, .int .i64 0, .int .i64 0] 39) = W) :
    Hid (Blk W w.heap.size 36 (keyC f u)) ∧ Hid (Blk W (w.heap.size + 1) 39 (rowA fun _ => 0)) ∧ Hid (Blk W (w.heap.size + 1 + 1) 39 (rowA fun _ => 0)) ∧ Hid (Below w.heap.size w W) := three_new h

/-- While the map is gone through. -/
def AheadAt (w wr : World) (k m n : Nat) (D : DataW Unit) (l : List Nt) (f : ByteArray) (u : Int) (left : Lit → Bool) (cnt : Nat) : Prop :=
  wr.ranges Tryz.prog 36 attR m (k + 1 + 1 + 1) n D left cnt ∧ (∀ kl, left kl = true → Maps.has D kl = true) ∧ Blk wr k 36 (keyC f u) ∧ Blk wr (k + 1) 39 (rowA fun _ => 0) ∧
    Blk wr (k + 1 + 1) 39 (rowA (aheadF (doneP (clashes f u) left) l)) ∧ Below k w wr

theorem Blk.rowFar {w : World} {g r : Nat} {T : TypeId} {cs cs' : Array Value} (h : Blk w g T cs) (hne : g ≠ r) : Blk (w.setRow r cs') g T cs := (setRow_other w r g cs' hne).trans h
theorem Blk.rowAt {w : World} {r : Nat} {T : TypeId} {cs cs' : Array Value} (h : Blk w r T cs) : Blk (w.setRow r cs') r T cs' := setRow_heap w r _ cs' _ _ h.heap
theorem store_cells {w : World} {g : Nat} {T : TypeId} {old : Array Value} (h : Blk w g T old) (cs : Array Value) (hs : old.size = cs.size) (h1 : cs.all (·.oneCell') = true) : (storeCells ⟨g, 0, none⟩ cs.toList).run Tryz.prog w = .ok () (w.setRow g cs) := by
  have := run_storeCells_from (P := Tryz.prog) g T cs.toList 0 old w h.heap (by simp; omega) (fun v hv => (Array.all_eq_true_iff_forall_mem.1 h1) v (by simpa using hv))
  simpa [hs] using this
theorem load_eight {w : World} {g : Nat} {f : Nat → Int} (h : Blk w g 39 (rowA f)) : (Instr.loadAt 39 (.pointer (some ⟨g, 0, none⟩))).run Tryz.prog w = .ok (.agg #[.int .i64 (f 0), .int .i64 (f 1), .int .i64 (f 2), .int .i64 (f 3), .int .i64 (f 4), .int .i64 (f 5), .int .i64 (f 6), .int .i64 (f 7)]) w :=
  run_loadAt_mid w g 0 39 (rowA f).toList _ (fun j v hv => by rw [Nat.zero_add, h.cell j]; simpa using hv) Tryz.underlying39 rfl (len_attr f)
theorem Below.of_grown {a w : World} (h : a.grownBy w none) : Below a.heap.size a w := ⟨h.os, h.tape, h.output, h.size, fun i hi => h.block i hi (by simp)⟩

set_option maxRecDepth 100000 in
set_option maxHeartbeats 4000000 in
theorem ahead_any (x m : Nat) (l : List Nt) (f : ByteArray) (u : Int) (w : World) (h : Ix w x m l) (hf : f.size ≤ 200) :
    Calls Tryz.prog 41 #[.pointer (some ⟨x, 0, none⟩), keyV f u] w fun e w' => e = .returned (.agg (rowA (aheadF (clashes f u) l))) ∧ Below w.heap.size w w' := by
  obtain ⟨hx, ⟨D, hD, h2, h3⟩, hl, hgm⟩ := h
  have hlt := hx.lt
  have hlt2 := hD.lt
  have H2 := hid h2
  have H3 := hid h3
  have HL := hid hl
  have HX := hid hx
  have HD := hid hD
  clear h2 h3 hl hx hD hgm
  go_enter Tryz.func41, Tryz.ntmps41
  go_upto_region 2 with fail
  obtain ⟨W, hW⟩ : ∃ W, ((w.alloc (.cells #[.string f, .int .u64 u] 36)).alloc (.cells #[.int .i64 0, .int .i64 0, .int .i64 0, .int .i64 0, .int .i64 0, .int .i64 0, .int .i64 0, .int .i64 0] 39)).alloc (.cells #[.int .i64 0, .int .i64 0, .int .i64 0, .int .i64 0, .int .i64 0, .int .i64 0, .int .i64 0, .int .i64 0] 39) = W := ⟨_, rfl⟩
  rw [hW]
  have hsz : W.heap.size = w.heap.size + 1 + 1 + 1 := by rw [← hW]; simp
  obtain ⟨K0, K1, K2, KB⟩ := ahead_boxes hW
  clear hW
  have KD : Hid (W.ownsMap Tryz.prog 36 attR m l.length D) := hid (HD.out.kept (only_of_below KB.out none) (by simp))
  have KX := hid (HX.out.below KB.out hlt)
  obtain ⟨k, hk⟩ : ∃ k, w.heap.size = k := ⟨_, rfl⟩
  rw [hk] at K0 K1 K2 KB hsz hlt hlt2
  rw [hk]
  have HK := hid hk
  clear hk
  have hc : W.cell? ⟨x, 0, none⟩ = some (.map (some m)) := (KX.out.cell 0).trans rfl
  go_wp2_with (first
    | (at_range; with_reducible refine wpList_range_own _ rfl _ 64 rfl 36 39 law_key Tryz.underlying64 attR m l.length D rfl KD.out ?_; intro w0 hrg0 hg0 hs0))
  go_frame
  have hc0 := hc
  clear hc
  rw [hsz] at hrg0 hs0
  rw [hsz]
  have A0 : Hid (AheadAt w w0 k m l.length D l f u (Maps.has D) (Maps.size D)) := hid ⟨hrg0, fun _ h => h, K0.out.grown hg0 (by simp), K1.out.grown hg0 (by simp), by
      rw [ahead_start _ fun n hn => ?_]
      · exact K2.out.grown hg0 (by simp)
      · obtain ⟨_, _, d1, d2, d3⟩ := HL.out n hn
        rw [(H2.out _ _ d3 d1 d2).1]
        exact told_iff.2 ⟨n, hn, rfl, rfl⟩, KB.out.trans ((Below.of_grown hg0).mono (by omega))⟩
  clear hrg0 hg0 hs0 K0 K1 K2 KB KX KD HX HD hc0
  go_loopw [13] (fun _ wr => ∃ left cnt, Hid (AheadAt w wr k m l.length D l f u left cnt)) (fun _ wr => wr.rangeLeft m (k + 1 + 1 + 1))
  case atStart => exact ⟨_, _, A0⟩
  case round =>
    obtain ⟨left, cnt, HA⟩ := hrel
    clear A0
    have HG : Hid (wr.ranges Tryz.prog 36 attR m (k + 1 + 1 + 1) l.length D left cnt) := hid HA.out.1
    go_wp2_with (first
      | (at_next; with_reducible refine wpList_next_ranges _ rfl _ rfl 36 law_key attR (fun x : ByteArray × Int => (keyV x.1 x.2 : Value)) (fun c : Nat → Int => (.agg #[.int .i64 (c 0), .int .i64 (c 1), .int .i64 (c 2), .int .i64 (c 3), .int .i64 (c 4), .int .i64 (c 5), .int .i64 (c 6), .int .i64 (c 7)] : Value)) inv_key inv_att m (k + 1 + 1 + 1) l.length D left cnt rfl HG.out ?_ ?_))
    · intro _ hl0
      have HE : Hid (aheadF (doneP (clashes f u) left) l = aheadF (clashes f u) l) := hid (ahead_end _ hl0)
      have K1 := hid HA.out.2.2.2.1
      have K2 := hid HA.out.2.2.2.2.1
      have KB := hid HA.out.2.2.2.2.2
      rw [HE.out] at K2
      obtain ⟨G, hG⟩ : ∃ G, aheadF (clashes f u) l = G := ⟨_, rfl⟩
      rw [hG] at K2
      have HG2 := hid hG
      clear hG
      have L1 := hid (len_attr G)
      have L2 := hid (size_zero G)
      have L3 := hid (rowA_one G)
      clear HA HG hl0 HE
      go_wp2_with (first
        | (with_reducible refine wpList_load_row (o := ⟨some 27, _, _, _, _, _⟩) rfl 39 (.tmp 5) rfl (k + 1 + 1) rfl 39 (rowA G) (0, 0) _ K2.out.heap Tryz.underlying39 rfl L1.out ?_)
        | (with_reducible refine wpList_store_row (o := ⟨none, _, _, _, _, _⟩) rfl 39 (.tmp 4) (.tmp 27) rfl (k + 1) (rowA G) rfl rfl 39 _ K1.out.heap L1.out L2.out L3.out ?_))
      exact bodyPost_ret (v := .agg (rowA G)) (results_cell_row (p := 4) (ty := 39) (by kernel_rfl) _ _ (k + 1) 39 (rowA G) (0, 0) _ rfl (setRow_heap wr (k + 1) _ (rowA G) _ _ K1.out.heap) Tryz.underlying39 rfl L1.out) rfl ⟨by rw [HG2.out], by rw [HK.out]; exact below_setRow_ KB.out (by omega)⟩
    · intro f2 u2 c kl y yp w1 cnt1 hkey hlk hv hat hrg1 hlt1 hg1 hs1 hen
      obtain ⟨rfl, a1, a2, a3, a4⟩ := entry_is (y := (y, yp)) HL.out H2.out H3.out hkey (HA.out.2.1 _ hlk) hv hat
      have HA4 := hid a4
      have HA2 := hid a2
      have HA3 := hid a3
      have hsz1 : k + 1 + 1 + 1 < wr.heap.size := HG.out.lt
      have A1 : Hid (AheadAt w w1 k m l.length D l f u left cnt1 ∨ True) := hid (Or.inr trivial)
      have B0 := hid (HA.out.2.2.1.grown hg1 (by simp; try omega))
      have B1 := hid (HA.out.2.2.2.1.grown hg1 (by simp; try omega))
      have B2 := hid (HA.out.2.2.2.2.1.grown hg1 (by simp; try omega))
      have BB : Hid (Below k w w1) := hid (HA.out.2.2.2.2.2.trans (below_only hg1 (by omega) (by omega)))
      have BG := hid hrg1
      have BL := hid hlt1
      have BH : Hid (∀ kl, (left kl && !kl.sameKey (klit f2 u2)) = true → Maps.has D kl = true) := hid (fun kl h => HA.out.2.1 kl (by simp at h; exact h.1))
      have BT : Hid (wr.rangeLeft m (k + 1 + 1 + 1) = cnt) := hid HG.out.left_eq
      rw [← hs1] at hsz1
      have BS := hid hsz1
      clear hkey hlk hv hat hrg1 hlt1 hg1 hs1 a2 a3 a4 hsz1 HA HG A1
      obtain ⟨z, hz⟩ : ∃ z, clashF f u f2 u2 = z := ⟨_, rfl⟩
      have HC := hid (fun w => keyclash_any f u f2 u2 w (by omega) (by omega))
      rw [hz] at HC
      have HZ := hid hz
      clear hz
      obtain ⟨⟨d0, d1⟩, _, _⟩ := cells2 B0.out
      go_upto_region 5 with fail
      obtain ⟨v, hv⟩ : ∃ v, w1.heap.size = v := ⟨_, rfl⟩
      obtain ⟨W1, hW1⟩ : ∃ W1, (w1.alloc (.cells #[.string f2, .int .u64 u2] 36)).alloc (.cells (#[.int .i64 (c 0), .int .i64 (c 1), .int .i64 (c 2), .int .i64 (c 3), .int .i64 (c 4), .int .i64 (c 5), .int .i64 (c 6), .int .i64 (c 7)]) 39) = W1 := ⟨_, rfl⟩
      rw [hW1]
      obtain ⟨E6, E7, EB⟩ := two_new hW1
      rw [hv] at E6 E7 EB BS
      rw [hv]
      have HV := hid hv
      have c0 := hid (B0.out.below EB.out (by have := BS.out; omega))
      have c1 := hid (B1.out.below EB.out (by have := BS.out; omega))
      have c2 := hid (B2.out.below EB.out (by have := BS.out; omega))
      have cB : Hid (Below k w W1) := hid (BB.out.trans (EB.out.mono (by have := BS.out; omega)))
      have cG : Hid (W1.ranges Tryz.prog 36 attR m (k + 1 + 1 + 1) l.length D (fun z => left z && !z.sameKey (klit f2 u2)) cnt1) := hid (BG.out.kept (only_of_below (by rw [HV.out]; exact EB.out) none) (by simp) (by simp))
      clear hv hW1 d0 d1 B0 B1 B2 BB BG EB hen
      obtain ⟨⟨d0, d1⟩, _, _⟩ := cells2 c0.out
      obtain ⟨⟨d2, d3⟩, _, _⟩ := cells2 E6.out
      go_wp2_with fail
      with_reducible refine (HC.out _).mono ?_
      rintro e w2 ⟨rfl, hb⟩
      clear d0 d1 d2 d3
      have b0 := hid (c0.out.below hb c0.out.lt)
      have b1 := hid (c1.out.below hb c1.out.lt)
      have b2 := hid (c2.out.below hb c2.out.lt)
      have F7 := hid (E7.out.below hb E7.out.lt)
      have bB : Hid (Below k w w2) := hid (cB.out.trans (hb.mono (by have := c0.out.lt; omega)))
      have bG : Hid (w2.ranges Tryz.prog 36 attR m (k + 1 + 1 + 1) l.length D (fun z => left z && !z.sameKey (klit f2 u2)) cnt1) := hid (cG.out.kept (only_of_below hb none) (by simp) (by simp))
      clear hb c0 c1 c2 cB cG E6 E7 HC
      cases z
      · have bS : Hid (AheadAt w w2 k m l.length D l f u (fun z => left z && !z.sameKey (klit f2 u2)) cnt1) := hid ⟨bG.out, BH.out, b0.out, b1.out, by rw [ahead_skip f u HL.out (by unfold maxLen; omega) HA2.out HZ.out]; exact b2.out, bB.out⟩
        go_wp2
        go_roundw
        case rel => exact ⟨_, _, bS⟩
        case measure => rw [bG.out.left_eq, BT.out]; exact BL.out
      · obtain ⟨G, hG⟩ : ∃ G, aheadF (doneP (clashes f u) left) l = G := ⟨_, rfl⟩
        have HG2 : Hid (rowA (mx G (pastF c (c 0))) = rowA (aheadF (doneP (clashes f u) fun z => left z && !z.sameKey (klit f2 u2)) l)) := hid (by
          rw [ahead_round f u HL.out (by unfold maxLen; omega) HA2.out HA3.out HZ.out, hG]
          exact past_row HL.out HA4.out G)
        rw [hG] at b2
        clear hG
        obtain ⟨Q, hQ⟩ : ∃ Q, pastF c (c 0) = Q := ⟨_, rfl⟩
        have HP1 : Hid (∀ w, Calls Tryz.prog 65 #[.agg #[.int .i64 (c 0), .int .i64 (c 1), .int .i64 (c 2), .int .i64 (c 3), .int .i64 (c 4), .int .i64 (c 5), .int .i64 (c 6), .int .i64 (c 7)], .int .i64 (c 0)] w fun e w' => e = .returned (.agg #[.int .i64 (Q 0), .int .i64 (Q 1), .int .i64 (Q 2), .int .i64 (Q 3), .int .i64 (Q 4), .int .i64 (Q 5), .int .i64 (Q 6), .int .i64 (Q 7)]) ∧ Below w.heap.size w w') := hid (fun w => by have h := past8 c (c 0) w; rw [hQ] at h; exact h)
        rw [hQ] at HG2
        obtain ⟨R, hR⟩ : ∃ R, mx G Q = R := ⟨_, rfl⟩
        obtain ⟨Rr, hRr⟩ : ∃ Rr, rowA R = Rr := ⟨_, rfl⟩
        have HM1 : Hid (∀ w, Calls Tryz.prog 58 #[.agg #[.int .i64 (G 0), .int .i64 (G 1), .int .i64 (G 2), .int .i64 (G 3), .int .i64 (G 4), .int .i64 (G 5), .int .i64 (G 6), .int .i64 (G 7)], .agg #[.int .i64 (Q 0), .int .i64 (Q 1), .int .i64 (Q 2), .int .i64 (Q 3), .int .i64 (Q 4), .int .i64 (Q 5), .int .i64 (Q 6), .int .i64 (Q 7)]] w fun e w' => e = .returned (.agg Rr) ∧ Below w.heap.size w w') := hid (fun w => by have h := merge_any G Q w; rw [hR, hRr] at h; exact h)
        have HRs : Rr.size = 8 := by rw [← hRr]; exact rowA_size R
        have HRo : Hid (Rr.all (·.oneCell') = true) := hid (by rw [← hRr]; exact rowA_one R)
        have HS8 : Hid ((rowA G).size = Rr.size) := hid (by rw [HRs]; exact rowA_size G)
        rw [hR, hRr] at HG2
        clear hQ hR hRr
        obtain ⟨e0, e1, e2, e3, e4, e5, e6, e7⟩ := eight_ex' b2.out.eight
        go_upto_region 6 with fail
        obtain ⟨o0, o1, o2, o3, o4, o5, o6, o7⟩ := eight_ex' F7.out.eight
        go_region_with
          (first
            | (go_at_call 65; (with_reducible refine (HP1.out _).mono ?_); rintro e w3 ⟨rfl, g3⟩; have F8 := hid (F7.out.drew.below g3 F7.out.lt); have a2 := hid (b2.out.drew.below g3 b2.out.lt); obtain ⟨i0, i1, i2, i3, i4, i5, i6, i7⟩ := eight_ex' a2.out.eight)
            | (go_at_call 58; (with_reducible refine (HM1.out _).mono ?_); rintro e w4 ⟨rfl, g4⟩; have F9 := hid (F8.out.below g4 F8.out.lt); have a3 := hid (a2.out.below g4 a2.out.lt); have hst := store_cells a3.out Rr HS8.out HRo.out; have F10 := hid (F9.out.rowFar (r := k + 1 + 1) (cs' := Rr) (by have := BS.out; omega))))
        all_goals (
          have y0 := hid (((b0.out.drew.below g3 b0.out.lt).below g4 (Nat.lt_of_lt_of_le b0.out.lt g3.size)).rowFar (r := k + 1 + 1) (cs' := Rr) (by omega))
          have y1 := hid (((b1.out.drew.below g3 b1.out.lt).below g4 (Nat.lt_of_lt_of_le b1.out.lt g3.size)).rowFar (r := k + 1 + 1) (cs' := Rr) (by omega))
          have y2 := hid ((a3.out.rowAt (cs' := Rr)).as HG2.out)
          have yB : Hid (Below k w (w4.setRow (k + 1 + 1) Rr)) := hid (below_setRow_ (((below_drew bB.out).trans (g3.mono (Nat.le_of_lt b0.out.lt))).trans (g4.mono (Nat.le_of_lt (Nat.lt_of_lt_of_le b0.out.lt g3.size)))) (by omega))
          have yG : Hid ((w4.setRow (k + 1 + 1) Rr).ranges Tryz.prog 36 attR m (k + 1 + 1 + 1) l.length D (fun z => left z && !z.sameKey (klit f2 u2)) cnt1) := hid (by
            have h1 : w2.drew.grownBy w4 none := (only_of_below g3 none).trans (only_of_below g4 none)
            have h2 : w4.grownBy (w4.setRow (k + 1 + 1) Rr) (some (k + 1 + 1)) := ⟨rfl, rfl, rfl, by simp, fun i _ hi => setRow_other w4 (k + 1 + 1) i Rr (by simpa using hi)⟩
            have h0 : w2.drew.ranges Tryz.prog 36 attR m (k + 1 + 1 + 1) l.length D (fun z => left z && !z.sameKey (klit f2 u2)) cnt1 := bG.out
            exact (h0.kept h1 (by simp) (by simp)).kept h2 (by simp; omega) (by simp))
          go_wp2
          go_roundw
          case rel => exact ⟨_, _, hid ⟨yG.out, BH.out, y0.out, y1.out, y2.out, yB.out⟩⟩
          case measure => rw [yG.out.left_eq, BT.out]; exact BL.out)

end Go.Proofs.YtpdfakjopeldmaaGreatDoor

/-
  The contract of package index's Ask.
-/
namespace Go.Proofs.YtpdfakjopeldmaaGreatDoor
open Go.ChangeShapes Go.WideShapes Go.ChangeAt Go.RowKit Go.Maps Go.WideMaps
set_option linter.unusedVariables false
set_option linter.unusedSimpArgs false

/-- What comes ahead of a command as an instance, by the notes. -/
def aheadC (l : List Nt) (c : K) (r s : Int) : Nat → Int := if keyed c && nameB r s then aheadF (clashes (keyF c) (keyN c)) l else fun _ => 0
def askF (l : List Nt) (c : K) (r s : Int) : Nat → Int := ownF (aheadC l c r s) r s

theorem own_row (G : Nat → Int) (r s : Int) (w : World) : Calls Tryz.prog 42 #[.agg (rowA G), nm r s] w fun e w' => e = .returned (.agg (rowA (ownF G r s))) ∧ Below w.heap.size w w' := own8 G r s w

theorem ask_boxes {w W : World} {cs : Array Value} {r s : Int} (h : (((w.alloc (.cells cs 27)).alloc (.cells #[.int .i64 r, .int .i64 s] 29)).alloc (.cells #[.int .i64 0, .int .i64 0, .int .i64 0, .int .i64 0, .int .i64 0, .int .i64 0, .int .i64 0, .int .i64 0] 39)).alloc (.cells #[.int .i64 0, .int .i64 0, .int .i64 0, .int .i64 0, .int .i64 0, .int .i64 0, .int .i64 0, .int .i64 0] 39) = W) :
    Hid (Blk W w.heap.size 27 cs) ∧ Hid (Blk W (w.heap.size + 1) 29 #[.int .i64 r, .int .i64 s]) ∧ Hid (Blk W (w.heap.size + 1 + 1) 39 (rowA fun _ => 0)) ∧ Hid (Blk W (w.heap.size + 1 + 1 + 1) 39 (rowA fun _ => 0)) ∧ Hid (Below w.heap.size w W) := by
  obtain ⟨V, hV⟩ : ∃ V, ((w.alloc (.cells cs 27)).alloc (.cells #[.int .i64 r, .int .i64 s] 29)).alloc (.cells #[.int .i64 0, .int .i64 0, .int .i64 0, .int .i64 0, .int .i64 0, .int .i64 0, .int .i64 0, .int .i64 0] 39) = V := ⟨_, rfl⟩
  rw [hV] at h
  have hs : V.heap.size = w.heap.size + 1 + 1 + 1 := by rw [← hV]; simp
  obtain ⟨k0, k1, k2, kB⟩ := three_new hV
  obtain ⟨j, jB⟩ := one_new h
  rw [hs] at j jB
  exact ⟨hid (k0.out.below jB.out (by omega)), hid (k1.out.below jB.out (by omega)), hid (k2.out.below jB.out (by omega)), j, hid (kB.out.trans (jB.out.mono (by omega)))⟩

set_option maxRecDepth 100000 in
set_option maxHeartbeats 4000000 in
theorem ixask_any (x m : Nat) (l : List Nt) (c : K) (r s : Int) (w : World) (h : Ix w x m l) (hP : PartsIs w) (hf : c.foot.size < 200) (hp : c.path.size < 200) :
    Calls Tryz.prog 16 #[.pointer (some ⟨x, 0, none⟩), val c, nm r s] w fun e w' => e = .returned (.agg (rowA (askF l c r s))) ∧ Below w.heap.size w w' := by
  have KO := hid (fun w h => keyof_any c w h (by omega) (by omega))
  have hz := keyF_size c 200 (by omega) (by omega)
  obtain ⟨F, hF⟩ : ∃ F, keyF c = F := ⟨_, rfl⟩
  obtain ⟨N, hN⟩ : ∃ N, keyN c = N := ⟨_, rfl⟩
  obtain ⟨y, hy⟩ : ∃ y, nameB r s = y := ⟨_, rfl⟩
  obtain ⟨B, hB⟩ : ∃ B, keyed c = B := ⟨_, rfl⟩
  rw [hF] at hz
  have HL : Hid (askF l c r s = ownF (if B && y then aheadF (clashes F N) l else fun _ => 0) r s) := hid (by unfold askF aheadC; rw [hB, hy, hF, hN])
  have HA := hid (fun x m w h => ahead_any x m l F N w h hz)
  rw [hF, hN, hB] at KO
  have HY := hid hy
  have HX := hid h
  have HP := hid hP
  clear h hP hf hp hF hN hy hB hz
  obtain ⟨k, u, f, q', s', m', n, t⟩ := c
  go_enter Tryz.func16, Tryz.ntmps16
  go_upto_region 2 with fail
  obtain ⟨W, hW⟩ : ∃ W, (((w.alloc (.cells (cellsOf ⟨k, u, f, q', s', m', n, t⟩) 27)).alloc (.cells #[.int .i64 r, .int .i64 s] 29)).alloc (.cells #[.int .i64 0, .int .i64 0, .int .i64 0, .int .i64 0, .int .i64 0, .int .i64 0, .int .i64 0, .int .i64 0] 39)).alloc (.cells #[.int .i64 0, .int .i64 0, .int .i64 0, .int .i64 0, .int .i64 0, .int .i64 0, .int .i64 0, .int .i64 0] 39) = W := ⟨_, rfl⟩
  rw [hW]
  obtain ⟨K0, K1, K2, K3, KB⟩ := ask_boxes hW
  clear hW
  have KX := hid (HX.out.on KB.out)
  have KP := hid (HP.out.below KB.out)
  obtain ⟨g, hk⟩ : ∃ k, w.heap.size = k := ⟨_, rfl⟩
  rw [hk] at K0 K1 K2 K3 KB
  rw [hk]
  have HK := hid hk
  clear hk
  obtain ⟨⟨c0, c1, c2, c3, c4, c5, c6, c7⟩, _⟩ := cells8 K0.out
  go_wp2_with fail
  with_reducible refine (KO.out _ KP.out).mono ?_
  rintro e w1 ⟨rfl, hb⟩
  clear c0 c1 c2 c3 c4 c5 c6 c7
  have D1 := hid ((K1.out.below hb K1.out.lt).alloc (.cells (keyC F N) 36))
  have D2 := hid ((K2.out.below hb K2.out.lt).alloc (.cells (keyC F N) 36))
  have D3 := hid ((K3.out.below hb K3.out.lt).alloc (.cells (keyC F N) 36))
  have DX := hid ((KX.out.on hb).alloc (.cells (keyC F N) 36))
  have DB := hid ((KB.out.trans (hb.mono (by have := K0.out.lt; omega))).alloc (by have := (K0.out.below hb K0.out.lt).lt; omega) (.cells (keyC F N) 36))
  have DK := hid (Blk.new w1 36 (keyC F N))
  clear hb K0 K1 K2 K3 KB KP KX HP HX
  cases B
  · have HL2 : Hid (askF l ⟨k, u, f, q', s', m', n, t⟩ r s = ownF (fun _ => 0) r s) := hid (by rw [HL.out]; simp)
    have E1 := D1
    have E2 := D2
    have E3 := D3
    have EB := DB
    have HG := hid (fun w => own_row (fun _ => 0) r s w)
    have L1 := hid (len_attr (fun _ => 0))
    have L2 := hid (size_zero (fun _ => 0))
    have L3 := hid (rowA_one (fun _ => 0))
    obtain ⟨⟨i0, i1⟩, _, _⟩ := blkn E1.out
    go_wp2_with (first
      | (with_reducible refine wpList_load_row (o := ⟨some 23, _, _, _, _, _⟩) rfl 39 (.tmp 7) rfl (g + 1 + 1 + 1) rfl 39 (rowA (fun _ => 0)) (0, 0) _ E3.out.heap Tryz.underlying39 rfl L1.out ?_))
    with_reducible refine (HG.out _).mono ?_
    rintro e w9 ⟨rfl, hb⟩
    clear i0 i1
    have F2 := hid (E2.out.below hb E2.out.lt)
    have FB := hid (EB.out.trans (hb.mono (Nat.le_of_lt (Nat.lt_of_succ_lt E1.out.lt))))
    clear hb E1 E2 E3 EB D1 D2 D3 DB L1 L2 L3 HG
    obtain ⟨H, hH⟩ : ∃ H, ownF (fun _ => 0) r s = H := ⟨_, rfl⟩
    have HH := hid hH
    rw [hH]
    clear hH
    have L1 := hid (len_attr H)
    have L2 := hid (size_zero H)
    have L3 := hid (rowA_one H)
    go_wp2_with (first
      | (with_reducible refine wpList_store_row (o := ⟨none, _, _, _, _, _⟩) rfl 39 (.tmp 6) (.tmp 25) rfl (g + 1 + 1) (rowA H) rfl rfl 39 _ F2.out.heap L1.out L2.out L3.out ?_))
    exact bodyPost_ret (v := .agg (rowA H)) (results_cell_row (p := 6) (ty := 39) (by kernel_rfl) _ _ (g + 1 + 1) 39 (rowA H) (0, 0) _ rfl (setRow_heap w9 (g + 1 + 1) _ (rowA H) _ _ F2.out.heap) Tryz.underlying39 rfl L1.out) rfl ⟨by rw [HL2.out, HH.out], by rw [HK.out]; exact below_setRow_ FB.out (by omega)⟩
  · obtain ⟨⟨i0, i1⟩, _, _⟩ := blkn D1.out
    obtain ⟨⟨d0, d1⟩, g0, g1⟩ := cells2 DK.out
    go_wp2_with fail
    with_reducible refine (nright_any r s _).mono ?_
    rw [HY.out]
    rintro e w2 ⟨rfl, hb⟩
    clear i0 i1 d0 d1 g0 g1
    have C1 := hid (D1.out.below hb D1.out.lt)
    have C2 := hid (D2.out.below hb D2.out.lt)
    have C3 := hid (D3.out.below hb D3.out.lt)
    have CX := hid (DX.out.on hb)
    have CB := hid (DB.out.trans (hb.mono (Nat.le_of_lt (Nat.lt_of_succ_lt D1.out.lt))))
    have CK := hid (DK.out.below hb DK.out.lt)
    clear hb D1 D2 D3 DX DB DK
    cases y
    · have HL2 : Hid (askF l ⟨k, u, f, q', s', m', n, t⟩ r s = ownF (fun _ => 0) r s) := hid (by rw [HL.out]; simp)
      have D1 := C1
      have D2 := C2
      have D3 := C3
      have DB := CB
      have E1 := C1
      have E2 := C2
      have E3 := C3
      have EB := CB
      have HG := hid (fun w => own_row (fun _ => 0) r s w)
      have L1 := hid (len_attr (fun _ => 0))
      have L2 := hid (size_zero (fun _ => 0))
      have L3 := hid (rowA_one (fun _ => 0))
      obtain ⟨⟨i0, i1⟩, _, _⟩ := blkn E1.out
      go_wp2_with (first
        | (with_reducible refine wpList_load_row (o := ⟨some 23, _, _, _, _, _⟩) rfl 39 (.tmp 7) rfl (g + 1 + 1 + 1) rfl 39 (rowA (fun _ => 0)) (0, 0) _ E3.out.heap Tryz.underlying39 rfl L1.out ?_))
      with_reducible refine (HG.out _).mono ?_
      rintro e w9 ⟨rfl, hb⟩
      clear i0 i1
      have F2 := hid (E2.out.below hb E2.out.lt)
      have FB := hid (EB.out.trans (hb.mono (Nat.le_of_lt (Nat.lt_of_succ_lt E1.out.lt))))
      clear hb E1 E2 E3 EB D1 D2 D3 DB L1 L2 L3 HG
      obtain ⟨H, hH⟩ : ∃ H, ownF (fun _ => 0) r s = H := ⟨_, rfl⟩
      have HH := hid hH
      rw [hH]
      clear hH
      have L1 := hid (len_attr H)
      have L2 := hid (size_zero H)
      have L3 := hid (rowA_one H)
      go_wp2_with (first
        | (with_reducible refine wpList_store_row (o := ⟨none, _, _, _, _, _⟩) rfl 39 (.tmp 6) (.tmp 25) rfl (g + 1 + 1) (rowA H) rfl rfl 39 _ F2.out.heap L1.out L2.out L3.out ?_))
      exact bodyPost_ret (v := .agg (rowA H)) (results_cell_row (p := 6) (ty := 39) (by kernel_rfl) _ _ (g + 1 + 1) 39 (rowA H) (0, 0) _ rfl (setRow_heap w9 (g + 1 + 1) _ (rowA H) _ _ F2.out.heap) Tryz.underlying39 rfl L1.out) rfl ⟨by rw [HL2.out, HH.out], by rw [HK.out]; exact below_setRow_ FB.out (by omega)⟩
    · obtain ⟨G, hG⟩ : ∃ G, aheadF (clashes F N) l = G := ⟨_, rfl⟩
      have HL2 : Hid (askF l ⟨k, u, f, q', s', m', n, t⟩ r s = ownF G r s) := hid (by rw [HL.out, ← hG]; rfl)
      rw [hG] at HA
      clear hG
      have HG := hid (fun w => own_row G r s w)
      obtain ⟨⟨d0, d1⟩, _, _⟩ := cells2 CK.out
      go_wp2_with fail
      with_reducible refine (HA.out x m _ CX.out).mono ?_
      rintro e w3 ⟨rfl, hb⟩
      clear d0 d1
      have D1 := hid (C1.out.below hb C1.out.lt)
      have D2 := hid (C2.out.below hb C2.out.lt)
      have D3 := hid (C3.out.below hb C3.out.lt)
      have DB := hid (CB.out.trans (hb.mono (Nat.le_of_lt (Nat.lt_of_succ_lt C1.out.lt))))
      clear hb C1 C2 C3 CX CB CK
      have L1 := hid (len_attr G)
      have L2 := hid (size_zero G)
      have L3 := hid (rowA_one G)
      go_upto_region 5 with (first
        | (with_reducible refine wpList_store_row (o := ⟨none, _, _, _, _, _⟩) rfl 39 (.tmp 7) (.tmp 22) rfl (g + 1 + 1 + 1) (rowA G) rfl rfl 39 _ D3.out.heap L1.out L2.out L3.out ?_))
      have E1 := hid (D1.out.rowFar (r := g + 1 + 1 + 1) (cs' := rowA G) (by omega))
      have E2 := hid (D2.out.rowFar (r := g + 1 + 1 + 1) (cs' := rowA G) (by omega))
      have E3 := hid (D3.out.rowAt (cs' := rowA G))
      have EB := hid (below_setRow_ DB.out (show g ≤ g + 1 + 1 + 1 by omega) (cs := rowA G))
      obtain ⟨W3, hW3⟩ : ∃ W3, w3.setRow (g + 1 + 1 + 1) (rowA G) = W3 := ⟨_, rfl⟩
      rw [hW3] at E1 E2 E3 EB
      rw [hW3]
      clear hW3 L1 L2 L3
      have L1 := hid (len_attr G)
      have L2 := hid (size_zero G)
      have L3 := hid (rowA_one G)
      obtain ⟨⟨i0, i1⟩, _, _⟩ := blkn E1.out
      go_wp2_with (first
        | (with_reducible refine wpList_load_row (o := ⟨some 23, _, _, _, _, _⟩) rfl 39 (.tmp 7) rfl (g + 1 + 1 + 1) rfl 39 (rowA G) (0, 0) _ E3.out.heap Tryz.underlying39 rfl L1.out ?_))
      with_reducible refine (HG.out _).mono ?_
      rintro e w9 ⟨rfl, hb⟩
      clear i0 i1
      have F2 := hid (E2.out.below hb E2.out.lt)
      have FB := hid (EB.out.trans (hb.mono (Nat.le_of_lt (Nat.lt_of_succ_lt E1.out.lt))))
      clear hb E1 E2 E3 EB D1 D2 D3 DB L1 L2 L3 HG
      obtain ⟨H, hH⟩ : ∃ H, ownF G r s = H := ⟨_, rfl⟩
      have HH := hid hH
      rw [hH]
      clear hH
      have L1 := hid (len_attr H)
      have L2 := hid (size_zero H)
      have L3 := hid (rowA_one H)
      go_wp2_with (first
        | (with_reducible refine wpList_store_row (o := ⟨none, _, _, _, _, _⟩) rfl 39 (.tmp 6) (.tmp 25) rfl (g + 1 + 1) (rowA H) rfl rfl 39 _ F2.out.heap L1.out L2.out L3.out ?_))
      exact bodyPost_ret (v := .agg (rowA H)) (results_cell_row (p := 6) (ty := 39) (by kernel_rfl) _ _ (g + 1 + 1) 39 (rowA H) (0, 0) _ rfl (setRow_heap w9 (g + 1 + 1) _ (rowA H) _ _ F2.out.heap) Tryz.underlying39 rfl L1.out) rfl ⟨by rw [HL2.out, HH.out], by rw [HK.out]; exact below_setRow_ FB.out (by omega)⟩

end Go.Proofs.YtpdfakjopeldmaaGreatDoor

/-
  The contract of package index's Add.
-/
namespace Go.Proofs.YtpdfakjopeldmaaGreatDoor
open Go.ChangeShapes Go.WideShapes Go.ChangeAt Go.RowKit Go.Maps Go.WideMaps
set_option linter.unusedVariables false
set_option linter.unusedSimpArgs false

/-- May an entry be added? -/
def okE (e : Nt) : Bool := right (L e.foot) && okB e.att
def errE (e : Nt) : Int := if okE e then 0 else 10
def addL (l : List Nt) (e : Nt) : List Nt := if okE e then l ++ [e] else l
/-- An entry as it comes: a short text, a number, eight numbers. -/
def Came (e : Nt) : Prop := (∀ i, 8 ≤ i → e.att i = 0) ∧ 0 ≤ e.num ∧ e.num < 18446744073709551616 ∧ e.foot.size ≤ 200
theorem Came.fair {e : Nt} (h : Came e) (ho : okE e = true) : Fair e := ⟨by unfold okE at ho; simp at ho; exact ho.2, h.1, h.2.1, h.2.2.1, h.2.2.2⟩

set_option maxRecDepth 100000 in
set_option maxHeartbeats 4000000 in
theorem ixadd_any (x m : Nat) (l : List Nt) (nt : Nt) (w : World) (h : Ix w x m l) (hc : Came nt) (hlen : l.length < 1000) :
    Calls Tryz.prog 13 #[.pointer (some ⟨x, 0, none⟩), .agg #[.string nt.foot, .int .u64 nt.num, .int .i64 (nt.att 0), .int .i64 (nt.att 1), .int .i64 (nt.att 2), .int .i64 (nt.att 3), .int .i64 (nt.att 4), .int .i64 (nt.att 5), .int .i64 (nt.att 6), .int .i64 (nt.att 7)]] w fun e w' => e = .returned (.int .i64 (errE nt)) ∧ Ix w' x m (addL l nt) ∧ w.grownBy w' (some m) := by
  have HF := hid (fun (ho : okE nt = true) => hc.fair ho)
  have hz := hc.2.2.2
  obtain ⟨p, hp⟩ : ∃ p, right (L nt.foot) = p := ⟨_, rfl⟩
  obtain ⟨o, ho⟩ : ∃ o, okB nt.att = o := ⟨_, rfl⟩
  have HE : Hid (okE nt = (p && o)) := hid (by unfold okE; rw [hp, ho])
  have HL : Hid (addL l nt = if p && o then l ++ [nt] else l) := hid (by unfold addL; rw [HE.out])
  have H1 := hid (fun w => right_any nt.foot w (by omega))
  have H2 : Hid (∀ w, Calls Tryz.prog 31 #[.agg #[.int .i64 (nt.att 0), .int .i64 (nt.att 1), .int .i64 (nt.att 2), .int .i64 (nt.att 3), .int .i64 (nt.att 4), .int .i64 (nt.att 5), .int .i64 (nt.att 6), .int .i64 (nt.att 7)]] w fun e w' => e = .returned (.bool o) ∧ Below w.heap.size w w') := hid (fun w => by have h := aright_any nt.att w; rw [ho] at h; exact h)
  have H3 := hid (fun w => sclone_any nt.foot w (by omega))
  rw [hp] at H1
  have HX := hid h
  clear h hc hp ho hz
  obtain ⟨f, u, a⟩ := nt
  go_enter Tryz.func13, Tryz.ntmps13
  go_upto_region 1 with fail
  obtain ⟨W, hW⟩ : ∃ W, w.alloc (.cells (#[.string f, .int .u64 u, .int .i64 (a 0), .int .i64 (a 1), .int .i64 (a 2), .int .i64 (a 3), .int .i64 (a 4), .int .i64 (a 5), .int .i64 (a 6), .int .i64 (a 7)]) 41) = W := ⟨_, rfl⟩
  rw [hW]
  obtain ⟨K0, KB⟩ := entry_new hW
  clear hW
  have KX := hid (HX.out.on KB.out)
  obtain ⟨k, hk⟩ : ∃ k, w.heap.size = k := ⟨_, rfl⟩
  have hlt := HX.out.lt
  rw [hk] at K0 KB hlt
  rw [hk]
  have HK := hid hk
  clear hk HX
  obtain ⟨c0, c1, c2, c3, c4, c5, c6, c7, c8, c9⟩ := entry_cells K0.out
  go_wp2_with fail
  with_reducible refine (H1.out _).mono ?_
  rintro e w1 ⟨rfl, hb⟩
  clear c0 c1 c2 c3 c4 c5 c6 c7 c8 c9
  have D0 := hid (K0.out.below hb K0.out.lt)
  have DX := hid (KX.out.on hb)
  have DB := hid (KB.out.trans (hb.mono (Nat.le_of_lt K0.out.lt)))
  clear hb K0 KX KB
  cases p
  · have HL2 : Hid (addL l ⟨f, u, a⟩ = l) := hid (by rw [HL.out]; simp)
    have HE2 : Hid (errE ⟨f, u, a⟩ = 10) := hid (by unfold errE; rw [HE.out]; simp)
    go_wp2
    go_ret
    exact ⟨ret_num HE2.out.symm, by rw [HL2.out]; exact DX.out, by rw [← HK.out] at DB; exact only_of_below DB.out _⟩
  · obtain ⟨c0, c1, c2, c3, c4, c5, c6, c7, c8, c9⟩ := entry_cells D0.out
    go_wp2_with fail
    with_reducible refine (H2.out _).mono ?_
    rintro e w2 ⟨rfl, hb⟩
    clear c0 c1 c2 c3 c4 c5 c6 c7 c8 c9
    have E0 := hid (D0.out.below hb D0.out.lt)
    have EX := hid (DX.out.on hb)
    have EB := hid (DB.out.trans (hb.mono (Nat.le_of_lt D0.out.lt)))
    clear hb D0 DX DB
    cases o
    · have HL2 : Hid (addL l ⟨f, u, a⟩ = l) := hid (by rw [HL.out]; simp)
      have HE2 : Hid (errE ⟨f, u, a⟩ = 10) := hid (by unfold errE; rw [HE.out]; simp)
      go_wp2
      go_ret
      exact ⟨ret_num HE2.out.symm, by rw [HL2.out]; exact EX.out, by rw [← HK.out] at EB; exact only_of_below EB.out _⟩
    · have HL2 : Hid (addL l ⟨f, u, a⟩ = l ++ [⟨f, u, a⟩]) := hid (by rw [HL.out]; simp)
      have HE2 : Hid (errE ⟨f, u, a⟩ = 0) := hid (by unfold errE; rw [HE.out]; simp)
      have HF2 : Hid (Fair ⟨f, u, a⟩) := hid (HF.out (by rw [HE.out]; rfl))
      obtain ⟨c0, c1, c2, c3, c4, c5, c6, c7, c8, c9⟩ := entry_cells E0.out
      have f0 := E0.out.frozen 0
      go_wp2_with fail
      with_reducible refine (H3.out _).mono ?_
      rintro e w3 ⟨rfl, hb⟩
      clear c0 c1 c2 c3 c4 c5 c6 c7 c8 c9 f0
      have G0 := hid (E0.out.below hb E0.out.lt)
      have GX := hid (EX.out.on hb)
      have GB := hid (EB.out.trans (hb.mono (Nat.le_of_lt E0.out.lt)))
      clear hb E0 EX EB
      obtain ⟨c0, c1, c2, c3, c4, c5, c6, c7, c8, c9⟩ := entry_cells G0.out
      have f0 := G0.out.frozen 0
      go_upto_region 4 with fail
      obtain ⟨W4, hW4⟩ : ∃ W4, w3.setCell ⟨k, 0, none⟩ (.string f) = W4 := ⟨_, rfl⟩
      rw [hW4]
      have J0 : Hid (Blk W4 k 41 (#[.string f, .int .u64 u, .int .i64 (a 0), .int .i64 (a 1), .int .i64 (a 2), .int .i64 (a 3), .int .i64 (a 4), .int .i64 (a 5), .int .i64 (a 6), .int .i64 (a 7)])) := hid (by rw [← hW4]; exact (G0.out.set_ 0 (.string f)).as rfl)
      have hb4 : Hid (Below k w3 W4) := hid (by rw [← hW4]; exact (Below.refl k w3).setCell (p := ⟨k, 0, none⟩) (Nat.le_refl _) _)
      have JX := hid (GX.out.on2 hb4.out hlt.1 hlt.2)
      have JB := hid (GB.out.trans hb4.out)
      clear hW4 hb4 c0 c1 c2 c3 c4 c5 c6 c7 c8 c9 f0 G0 GX GB
      obtain ⟨c0, c1, c2, c3, c4, c5, c6, c7, c8, c9⟩ := entry_cells J0.out
      go_wp2_with fail
      with_reducible refine (ixmerge_any x m l ⟨f, u, a⟩ _ JX.out HF2.out hlen).mono ?_
      rintro e w5 ⟨rfl, r1, r2⟩
      have R1 : Hid (Ix w5 x m (addL l ⟨f, u, a⟩)) := hid (by rw [HL2.out]; exact r1)
      have R2 : Hid (w.grownBy w5 (some m)) := hid (World.grownBy.trans (only_of_below (by rw [HK.out]; exact JB.out) _) r2)
      clear r1 r2 c0 c1 c2 c3 c4 c5 c6 c7 c8 c9
      go_wp2
      go_ret
      exact ⟨ret_num HE2.out.symm, R1.out, R2.out⟩

end Go.Proofs.YtpdfakjopeldmaaGreatDoor
