/-
  The mathematics of the order of paths: lists of lists of bytes, part by part. No program in it.
-/
import Derived.Test.YtgjbhlianlbflaaGreatBPMath
import Derived.Lib.Bytealg
namespace Go.Proofs.YtgjbhlianlbflaaGreat
def byteC (a b : UInt8) : Int := if a < b then -1 else if b < a then 1 else 0
def lexC {α : Type} (f : α → α → Int) : List α → List α → Int
  | [], [] => 0
  | [], _ :: _ => -1
  | _ :: _, [] => 1
  | a :: as, b :: bs => if f a b = 0 then lexC f as bs else f a b
structure IsCmp {α : Type} (f : α → α → Int) : Prop where
  three : ∀ a b, f a b = -1 ∨ f a b = 0 ∨ f a b = 1
  swap : ∀ a b, f b a = - f a b
  same : ∀ a b, f a b = 0 ↔ a = b
  trans : ∀ a b c, f a b ≤ 0 → f b c ≤ 0 → f a c ≤ 0
theorem byteC_cmp : IsCmp byteC := by
  constructor
  · intro a b; unfold byteC; split
    · simp
    · split <;> simp
  · intro a b; unfold byteC
    simp only [UInt8.lt_iff_toNat_lt]
    by_cases h1 : a.toNat < b.toNat
    · rw [if_neg (by omega), if_pos h1, if_pos h1]; rfl
    · by_cases h2 : b.toNat < a.toNat
      · rw [if_pos h2, if_neg h1, if_pos h2]
      · rw [if_neg h2, if_neg h1, if_neg h1, if_neg h2]; rfl
  · intro a b; unfold byteC
    simp only [UInt8.lt_iff_toNat_lt, ← UInt8.toNat_inj]
    by_cases h1 : a.toNat < b.toNat
    · rw [if_pos h1]; constructor
      · intro h; cases h
      · intro h; omega
    · rw [if_neg h1]
      by_cases h2 : b.toNat < a.toNat
      · rw [if_pos h2]; constructor
        · intro h; cases h
        · intro h; omega
      · rw [if_neg h2]; constructor
        · intro _; omega
        · intro _; rfl
  · intro a b c; unfold byteC
    simp only [UInt8.lt_iff_toNat_lt]
    intro h1 h2
    by_cases k1 : b.toNat < a.toNat
    · rw [if_neg (by omega), if_pos k1] at h1; omega
    · by_cases k2 : c.toNat < b.toNat
      · rw [if_neg (by omega), if_pos k2] at h2; omega
      · by_cases k3 : a.toNat < c.toNat
        · rw [if_pos k3]; decide
        · rw [if_neg k3, if_neg (by omega)]; decide
theorem lexC_cons {α : Type} [DecidableEq α] {f : α → α → Int} (hf : IsCmp f) (a b : α) (as bs : List α) : lexC f (a :: as) (b :: bs) = if a = b then lexC f as bs else f a b := by
  by_cases h : a = b
  · rw [if_pos h]; simp only [lexC]; rw [if_pos ((hf.same a b).2 h)]
  · rw [if_neg h]; simp only [lexC]; rw [if_neg (fun e => h ((hf.same a b).1 e))]
theorem lexC_cmp {α : Type} [DecidableEq α] {f : α → α → Int} (hf : IsCmp f) : IsCmp (lexC f) := by
  constructor
  · intro a
    induction a with
    | nil => intro b; cases b <;> simp [lexC]
    | cons x a ih =>
      intro b
      cases b with
      | nil => simp [lexC]
      | cons y b =>
        simp only [lexC]
        split
        · exact ih b
        · exact hf.three x y
  · intro a
    induction a with
    | nil => intro b; cases b <;> simp [lexC]
    | cons x a ih =>
      intro b
      cases b with
      | nil => simp [lexC]
      | cons y b =>
        simp only [lexC]
        rw [hf.swap x y]
        by_cases h : f x y = 0
        · rw [if_pos (by omega), if_pos h]; exact ih b
        · rw [if_neg (by omega), if_neg h]
  · intro a
    induction a with
    | nil => intro b; cases b <;> simp [lexC]
    | cons x a ih =>
      intro b
      cases b with
      | nil => simp [lexC]
      | cons y b =>
        simp only [lexC]
        by_cases h : f x y = 0
        · rw [if_pos h, ih b]
          have := (hf.same x y).1 h
          subst this; simp
        · rw [if_neg h]
          constructor
          · intro e; exact absurd e h
          · intro e
            injection e with e1 e2
            exact absurd ((hf.same x y).2 e1) h
  · intro a
    induction a with
    | nil => intro b c _ _; cases c <;> simp [lexC]
    | cons x a ih =>
      intro b c h1 h2
      cases b with
      | nil => simp [lexC] at h1
      | cons y b =>
        cases c with
        | nil => simp [lexC] at h2
        | cons z c =>
          rw [lexC_cons hf] at h1 h2 ⊢
          by_cases hxy : x = y
          · subst hxy
            rw [if_pos rfl] at h1
            by_cases hxz : x = z
            · rw [if_pos hxz] at h2 ⊢; exact ih b c h1 h2
            · rw [if_neg hxz] at h2 ⊢; exact h2
          · rw [if_neg hxy] at h1
            by_cases hyz : y = z
            · subst hyz
              rw [if_neg hxy]; exact h1
            · rw [if_neg hyz] at h2
              have h3 := hf.trans x y z h1 h2
              by_cases hxz : x = z
              · subst hxz
                have h4 := hf.swap x y
                have h5 : f x y = 0 := by omega
                exact absurd ((hf.same x y).1 h5) hxy
              · rw [if_neg hxz]; exact h3
theorem compareBytes_eq : ∀ a b : List UInt8, Lib.compareBytes a b = lexC byteC a b
  | [], [] => rfl
  | [], _ :: _ => rfl
  | _ :: _, [] => rfl
  | a :: as, b :: bs => by
    rw [lexC_cons byteC_cmp]
    simp only [Lib.compareBytes]
    by_cases h : a = b
    · subst h
      rw [if_pos rfl, if_neg (UInt8.lt_irrefl a), if_neg (UInt8.lt_irrefl a), compareBytes_eq as bs]
    · rw [if_neg h]
      unfold byteC
      by_cases h1 : a < b
      · rw [if_pos h1, if_pos h1]
      · rw [if_neg h1, if_neg h1]
        by_cases h2 : b < a
        · rw [if_pos h2, if_pos h2]
        · exfalso
          rw [UInt8.lt_iff_toNat_lt] at h1 h2
          exact h (UInt8.toNat_inj.1 (by omega))
def textC : List UInt8 → List UInt8 → Int := lexC byteC
theorem textC_cmp : IsCmp textC := lexC_cmp byteC_cmp
def partsC : List (List UInt8) → List (List UInt8) → Int := lexC textC
theorem partsC_cmp : IsCmp partsC := lexC_cmp textC_cmp
def cmpOf (p q : List UInt8) : Int := if right p = true ∧ right q = true then partsC (pieces p) (pieces q) else textC p q
theorem cmpOf_three (p q : List UInt8) : cmpOf p q = -1 ∨ cmpOf p q = 0 ∨ cmpOf p q = 1 := by
  unfold cmpOf; split
  · exact partsC_cmp.three _ _
  · exact textC_cmp.three _ _
theorem cmpOf_swap (p q : List UInt8) : cmpOf q p = - cmpOf p q := by
  unfold cmpOf
  by_cases h : right p = true ∧ right q = true
  · rw [if_pos h, if_pos h.symm]; exact partsC_cmp.swap _ _
  · rw [if_neg h, if_neg (fun e => h e.symm)]; exact textC_cmp.swap _ _
theorem pieces_inj {p q : List UInt8} (h : pieces p = pieces q) : p = q := by rw [← join_pieces p, h, join_pieces]
theorem cmpOf_same (p q : List UInt8) : cmpOf p q = 0 ↔ p = q := by
  unfold cmpOf; split
  · exact (partsC_cmp.same _ _).trans ⟨pieces_inj, fun h => by rw [h]⟩
  · exact textC_cmp.same _ _
theorem cmpOf_trans {p q r : List UInt8} (hp : right p = true) (hq : right q = true) (hr : right r = true) (h1 : cmpOf p q ≤ 0) (h2 : cmpOf q r ≤ 0) : cmpOf p r ≤ 0 := by
  unfold cmpOf at *
  rw [if_pos ⟨hp, hq⟩] at h1
  rw [if_pos ⟨hq, hr⟩] at h2
  rw [if_pos ⟨hp, hr⟩]
  exact partsC_cmp.trans _ _ _ h1 h2
end Go.Proofs.YtgjbhlianlbflaaGreat
