/-
  The contracts of Put and Bytes (package cmd) of any command.
-/
import Derived.Test.YtohffiehmmcgbaaGreatDoorWKPut
import Derived.Test.YtohffiehmmcgbaaGreatDoorWC
import Derived.Test.YtohffiehmmcgbaaGreatDoorWA
import Derived.Deep.Cut
namespace Go.Proofs.YtohffiehmmcgbaaGreatDoor
open Go.ChangeShapes Go.WideShapes Go.ChangeAt Go.RowKit Go.Lib
set_option linter.unusedVariables false
theorem right_in (c : K) (ho : okK c) (hr : rightK c = true) : (0 ≤ c.kind ∧ c.kind ≤ 8) ∧ (0 ≤ c.mode ∧ c.mode ≤ 2) ∧ (0 ≤ c.time ∧ c.time ≤ 1099511627776) ∧ c.foot.size ≤ 64 ∧ c.path.size ≤ 64 := by
  unfold rightK at hr
  simp only [Bool.and_eq_true, decide_eq_true_eq] at hr
  obtain ⟨⟨hk, he⟩, hi⟩ := hr
  unfold isK at hk
  rw [decide_eq_true_eq] at hk
  have hl := (own_eq c).1 he
  unfold areIn at hi
  simp only [Bool.and_eq_true] at hi
  obtain ⟨⟨⟨⟨⟨i0, i1⟩, i2⟩, i3⟩, i4⟩, i5⟩ := hi
  unfold lacks at hl
  simp only [Bool.or_eq_false_iff, Bool.and_eq_false_iff, Bool.not_eq_false', decide_eq_false_iff_not, Decidable.not_not, L_nil, ne_eq] at hl
  obtain ⟨⟨⟨⟨⟨l0, l1⟩, l2⟩, l3⟩, l4⟩, l5⟩ := hl
  have size64 : ∀ s : ByteArray, right (L s) = true → s.size ≤ 64 := fun s h => by
    have := (right_iff.1 h).1
    rwa [L_length] at this
  refine ⟨by omega, ?_, ?_, ?_, ?_⟩
  · unfold in3 at i3
    simp only [Bool.or_eq_true, Bool.not_eq_true', decide_eq_true_eq] at i3
    rcases l3 with h | h
    · rcases i3 with g | g
      · rw [h] at g; cases g
      · omega
    · omega
  · unfold in5 at i5
    simp only [Bool.or_eq_true, Bool.not_eq_true', decide_eq_true_eq] at i5
    rcases l5 with h | h
    · rcases i5 with g | g
      · rw [h] at g; cases g
      · exact g
    · omega
  · unfold in0 at i0
    simp only [Bool.or_eq_true, Bool.not_eq_true'] at i0
    rcases l0 with h | h
    · rcases i0 with g | g
      · rw [h] at g; cases g
      · exact size64 _ g
    · rw [h.2]; decide
  · unfold in2 at i2
    simp only [Bool.or_eq_true, Bool.not_eq_true'] at i2
    rcases l2 with h | h
    · rcases i2 with g | g
      · rw [h] at g; cases g
      · exact size64 _ g
    · rw [h]; decide
theorem OutAt.box {w : World} {base g b : Nat} {l : List Nat} {T : TypeId} {cs : Array Value} (h : OutAt w base g l) (hb : Blk w b T cs) (hT : 5 ≠ T) (hgb : g ≠ b) (i : Nat) (v : Value) : OutAt (w.setCell ⟨b, i, none⟩ v) base g l := by
  obtain ⟨h0, x, h1, h2⟩ := h
  exact ⟨h0, x, h1.far (p := ⟨b, i, none⟩) hgb v, h2.kept (only_setCell (p := ⟨b, i, none⟩) (World.grownBy.refl _ _) (.inl rfl) _) (.inr (row_ne h2 hb hT))⟩
theorem PutAt.set_ {w0 w : World} {base g b : Nat} {c : K} {l : List Nat} (h : PutAt w0 w base g b c l) (i : Nat) (u : Value) (c' : K) (hc : (cellsOf c).setIfInBounds i u = cellsOf c') : PutAt w0 (w.setCell ⟨b, i, none⟩ u) base g b c' l := by
  have hB : Below base w (w.setCell ⟨b, i, none⟩ u) := Below.setCell (p := ⟨b, i, none⟩) (Below.refl _ _) (Nat.le_trans h.1.1 (Nat.le_of_lt h.2.2.1)) u
  refine ⟨h.1.box h.2.1 (by decide) (Nat.ne_of_lt h.2.2.1) i u, hc ▸ h.2.1.set_ i u, h.2.2.1, h.2.2.2.1.trans hB, h.2.2.2.2.1.under h.2.2.2.2.2.1 hB, h.2.2.2.2.2.1, h.2.2.2.2.2.2.1, Nat.le_trans h.stays.1 (by simp), fun k T cs hk hT hb => ?_⟩
  have hlt := hb.lt
  have hle := h.2.2.2.2.2.2.1
  exact (h.stays.2 k T cs hk hT hb).far (by simp; omega) u
theorem PutAt.putK {w0 w : World} {base g b : Nat} {c : K} {l : List Nat} (h : PutAt w0 w base g b c l) (d : K) : PutAt w0 (putK w b d) base g b d l := by
  obtain ⟨k, u, f, q, s, m, n, t⟩ := c
  obtain ⟨k', u', f', q', s', m', n', t'⟩ := d
  exact (((((((h.set_ 0 (.int .i64 k') ⟨k', u, f, q, s, m, n, t⟩ rfl).set_ 1 (.int .u64 u') ⟨k', u', f, q, s, m, n, t⟩ rfl).set_ 2 (.string f') ⟨k', u', f', q, s, m, n, t⟩ rfl).set_ 3 (.int .u64 q') ⟨k', u', f', q', s, m, n, t⟩ rfl).set_ 4 (.string s') ⟨k', u', f', q', s', m, n, t⟩ rfl).set_ 5 (.int .i64 m') ⟨k', u', f', q', s', m', n, t⟩ rfl).set_ 6 (.int .u64 n') ⟨k', u', f', q', s', m', n', t⟩ rfl).set_ 7 (.int .i64 t') ⟨k', u', f', q', s', m', n', t'⟩ rfl
theorem put_right (base g : Nat) (lb : List Nat) (c : K) (w : World) (hP : PartsIs w) (hg : 3 < base) (hO : OutAt w base g lb) (hlb : lb.length ≤ 1000000) (ho : okK c) (hr : rightK c = true) :
    Calls Tryz.prog 104 #[val c, .pointer (some ⟨g, 0, none⟩)] w fun e w' => e = .returned (.tuple #[]) ∧ OutAt w' base g (lb ++ enc c) ∧ Below base w w' ∧ Stays g w w' := by
  obtain ⟨r1, r2, r3, r4, r5⟩ := right_in c ho hr
  obtain ⟨o1, o2, o3, _⟩ := ho
  obtain ⟨k, u, f, q, s, m, n, t⟩ := c
  rcases sig_cases k with ⟨h, _⟩ | ⟨_, h⟩ | ⟨_, h⟩ | ⟨_, h⟩ | ⟨_, h⟩ | ⟨_, h⟩ | ⟨_, h⟩ | ⟨_, h⟩
  · exact put_0 base g lb k u f q s m n t w hP hg hO hlb h hr r1 o1 o2 o3 r2 r3 r4 r5
  · exact put_1 base g lb k u f q s m n t w hP hg hO hlb h hr r1 o1 o2 o3 r2 r3 r4 r5
  · exact put_2 base g lb k u f q s m n t w hP hg hO hlb h hr r1 o1 o2 o3 r2 r3 r4 r5
  · exact put_3 base g lb k u f q s m n t w hP hg hO hlb h hr r1 o1 o2 o3 r2 r3 r4 r5
  · exact put_4 base g lb k u f q s m n t w hP hg hO hlb h hr r1 o1 o2 o3 r2 r3 r4 r5
  · exact put_6 base g lb k u f q s m n t w hP hg hO hlb h hr r1 o1 o2 o3 r2 r3 r4 r5
  · exact put_7 base g lb k u f q s m n t w hP hg hO hlb h hr r1 o1 o2 o3 r2 r3 r4 r5
  · exact put_8 base g lb k u f q s m n t w hP hg hO hlb h hr r1 o1 o2 o3 r2 r3 r4 r5
theorem enc_len (c : K) (ho : okK c) (hr : rightK c = true) : (enc c).length ≤ 300 := by
  obtain ⟨r1, r2, r3, r4, r5⟩ := right_in c ho hr
  obtain ⟨o1, o2, o3, _⟩ := ho
  have t0 : ∀ s : ByteArray, s.size ≤ 64 → (textN s).length ≤ 74 := fun s h => by
    unfold textN
    have h1 := shortN_len10 (show s.size < 18446744073709551616 by omega)
    rw [List.length_append, bytesOfS_len]; omega
  have a0 : (e0 c).length ≤ 82 := by
    unfold e0; split
    · have := t0 _ r4; rw [List.length_append, bytesN_len]; omega
    · simp
  have a1 : (e1 c).length ≤ 10 := by unfold e1; split; exact shortN_len10 (by omega); simp
  have a2 : (e2 c).length ≤ 74 := by unfold e2; split; exact t0 _ r5; simp
  have a3 : (e3 c).length ≤ 1 := by unfold e3; split <;> simp
  have a4 : (e4 c).length ≤ 10 := by unfold e4; split; exact shortN_len10 (by omega); simp
  have a5 : (e5 c).length ≤ 10 := by unfold e5; split; exact shortN_len10 (by omega); simp
  unfold enc
  simp only [List.length_cons, List.length_append]
  omega
end Go.Proofs.YtohffiehmmcgbaaGreatDoor
namespace Go.Proofs.YtohffiehmmcgbaaGreatDoor
open Go.Lib
set_option linter.unusedVariables false
set_option linter.unusedSimpArgs false
theorem firstE_zero_in {e x : Nat} (hx : 0 < x) : firstE e x ≠ 0 := by have := firstE_pos (e := e) hx; omega
theorem sByte_inv {l : List Nat} {e : Nat} {l' : List Nat} {v : Nat} (h : Sound l e) (hs : sByte l e = (l', 0, v)) : e = 0 ∧ l = [v] ++ l' := by
  cases l with
  | nil =>
    simp only [sByte, Prod.mk.injEq] at hs
    exact absurd hs.2.1 (firstE_zero_in (by omega))
  | cons b t =>
    simp only [sByte, Prod.mk.injEq] at hs
    obtain ⟨rfl, rfl, rfl⟩ := hs
    exact ⟨rfl, rfl⟩
theorem sTruth_inv {l : List Nat} {e : Nat} {l' : List Nat} {v : Bool} (h : Sound l e) (hs : sTruth l e = (l', 0, v)) : e = 0 ∧ l = [truthN v] ++ l' := by
  cases l with
  | nil =>
    simp only [sTruth, Prod.mk.injEq] at hs
    exact absurd hs.2.1 (firstE_zero_in (by omega))
  | cons b t =>
    simp only [sTruth] at hs
    split at hs
    · rename_i hb
      simp only [Prod.mk.injEq] at hs
      obtain ⟨rfl, rfl, rfl⟩ := hs
      refine ⟨rfl, ?_⟩
      have : b = 0 ∨ b = 1 := by omega
      rcases this with rfl | rfl <;> rfl
    · simp only [Prod.mk.injEq] at hs
      exact absurd hs.2.1 (by omega)
theorem sShort_inv {l : List Nat} {e most : Nat} {l' : List Nat} {v : Nat} (h : Sound l e) (hs : sShort l e most = (l', 0, v)) : e = 0 ∧ l = shortN v ++ l' ∧ v < 18446744073709551616 := by
  obtain ⟨a, b, c, hr⟩ : ∃ a b c, readN l = (a, b, c) := ⟨_, _, _, rfl⟩
  unfold sShort at hs
  rw [hr] at hs
  simp only at hs
  split at hs
  · rename_i hc
    split at hs
    · simp only [Prod.mk.injEq] at hs
      exact absurd hs.2.1 (by omega)
    · simp only [Prod.mk.injEq] at hs
      obtain ⟨rfl, rfl, rfl⟩ := hs
      subst hc
      obtain ⟨h1, h2, h3, h4⟩ := readN_inv h.2.1 hr
      refine ⟨rfl, ?_, h4⟩
      rw [← h3, List.take_append_drop]
  · simp only [Prod.mk.injEq] at hs
    exact absurd hs.2.1 (firstE_zero_in (by omega))
theorem bytesN_numN (n : Nat) : ∀ l : List Nat, l.length = n → (∀ x ∈ l, x < 256) → bytesN (numN l) n = l := by
  induction n with
  | zero => intro l hl _; rw [List.eq_nil_of_length_eq_zero hl]; rfl
  | succ n ih =>
    intro l hl h8
    have hne : l ≠ [] := by rintro rfl; simp at hl
    have hd := List.dropLast_concat_getLast hne
    have hc := h8 _ (List.getLast_mem hne)
    generalize l.getLast hne = c at hd hc
    have hi := ih l.dropLast (by rw [List.length_dropLast]; omega) (fun x hx => h8 x (List.dropLast_subset l hx))
    rw [← hd, numN_snoc, bytesN, show (numN l.dropLast * 256 + c) / 256 = numN l.dropLast by omega, show (numN l.dropLast * 256 + c) % 256 = c by omega, hi]
theorem sFixed_inv {l : List Nat} {e : Nat} {l' : List Nat} {v : Nat} (h : Sound l e) (hs : sFixed l e = (l', 0, v)) : e = 0 ∧ l = bytesN v 8 ++ l' := by
  unfold sFixed at hs
  split at hs
  · simp only [Prod.mk.injEq] at hs
    exact absurd hs.2.1 (firstE_zero_in (by omega))
  · rename_i hk
    simp only [Prod.mk.injEq] at hs
    obtain ⟨rfl, rfl, rfl⟩ := hs
    refine ⟨rfl, ?_⟩
    rw [bytesN_numN 8 (l.take 8) (by rw [List.length_take]; omega) (fun x hx => h.2.1 x (List.mem_of_mem_take hx)), List.take_append_drop]
theorem strN_size (s : List Nat) : (strN s).size = s.length := by unfold strN; rw [strOfNums_size]; simp
theorem bytesOfS_strN {s : List Nat} (h : ∀ x ∈ s, x < 256) : bytesOfS (strN s) = s := by
  unfold bytesOfS strN
  rw [strOfNums_data, List.map_map, List.map_map]
  conv => rhs; rw [← List.map_id s]
  apply List.map_congr_left
  intro x hx
  have := h x hx
  simp
  omega
theorem sText_inv {l : List Nat} {e most : Nat} {l' : List Nat} {s : List Nat} (h : Sound l e) (hs : sText l e most = (l', 0, s)) : e = 0 ∧ l = textN (strN s) ++ l' := by
  obtain ⟨l1, e1, v, h1⟩ : ∃ l1 e1 v, sShort l e most = (l1, e1, v) := ⟨_, _, _, rfl⟩
  obtain ⟨k1, k2⟩ := sShort_sound h h1
  unfold sText at hs
  rw [h1] at hs
  simp only at hs
  split at hs
  · rename_i hc
    obtain ⟨hc0, hc1⟩ := hc
    subst hc0
    simp only [Prod.mk.injEq] at hs
    obtain ⟨rfl, _, rfl⟩ := hs
    obtain ⟨i1, i2, _⟩ := sShort_inv h h1
    refine ⟨i1, ?_⟩
    have hl : (l1.take v).length = v := by rw [List.length_take]; omega
    unfold textN
    rw [strN_size, hl, bytesOfS_strN (fun x hx => k1.2.1 x (List.mem_of_mem_take hx)), List.append_assoc, List.take_append_drop]
    exact i2
  · simp only [Prod.mk.injEq] at hs
    exact absurd hs.2.1 (firstE_zero_in (by omega))
def tk0 (k : Int) (l : List Nat) (e : Nat) : List Nat × Nat × Nat × List Nat :=
  if h0 k then ((sText (sFixed l e).1 (sFixed l e).2.1 64).1, (sText (sFixed l e).1 (sFixed l e).2.1 64).2.1, (sFixed l e).2.2, (sText (sFixed l e).1 (sFixed l e).2.1 64).2.2) else (l, e, 0, [])
def tk1 (k : Int) (l : List Nat) (e : Nat) : List Nat × Nat × Nat := if h1 k then sShort l e 18446744073709551615 else (l, e, 0)
def tk2 (k : Int) (l : List Nat) (e : Nat) : List Nat × Nat × List Nat := if h2 k then sText l e 64 else (l, e, [])
def tk3 (k : Int) (l : List Nat) (e : Nat) : List Nat × Nat × Nat := if h3 k then sByte l e else (l, e, 0)
def tk4 (k : Int) (l : List Nat) (e : Nat) : List Nat × Nat × Nat := if h4 k then sShort l e 18446744073709551615 else (l, e, 0)
def tk5 (k : Int) (l : List Nat) (e : Nat) : List Nat × Nat × Nat := if h5 k then sShort l e 1099511627776 else (l, e, 0)
def sParts (k : Int) (l : List Nat) (e : Nat) : List Nat × Nat × K :=
  match tk0 k l e with
  | (l1, e1, u, fb) => match tk1 k l1 e1 with
    | (l2, e2, q) => match tk2 k l2 e2 with
      | (l3, e3, pb) => match tk3 k l3 e3 with
        | (l4, e4, m) => match tk4 k l4 e4 with
          | (l5, e5, n) => match tk5 k l5 e5 with
            | (l6, e6, t) => (l6, e6, ⟨k, u, strN fb, q, strN pb, m, n, t⟩)
theorem sParts_split {k : Int} {l : List Nat} {e : Nat} {l' : List Nat} {e' : Nat} {c : K} (hs : sParts k l e = (l', e', c)) :
    ∃ l1 e1 l2 e2 l3 e3 l4 e4 l5 e5 u fb q pb m n t, tk0 k l e = (l1, e1, u, fb) ∧ tk1 k l1 e1 = (l2, e2, q) ∧ tk2 k l2 e2 = (l3, e3, pb) ∧ tk3 k l3 e3 = (l4, e4, m) ∧ tk4 k l4 e4 = (l5, e5, n) ∧ tk5 k l5 e5 = (l', e', t) ∧
      c = ⟨k, ((u : Nat) : Int), strN fb, ((q : Nat) : Int), strN pb, ((m : Nat) : Int), ((n : Nat) : Int), ((t : Nat) : Int)⟩ := by
  obtain ⟨l1, e1, u, fb, a0⟩ : ∃ a b c d, tk0 k l e = (a, b, c, d) := ⟨_, _, _, _, rfl⟩
  obtain ⟨l2, e2, q, a1⟩ : ∃ a b c, tk1 k l1 e1 = (a, b, c) := ⟨_, _, _, rfl⟩
  obtain ⟨l3, e3, pb, a2⟩ : ∃ a b c, tk2 k l2 e2 = (a, b, c) := ⟨_, _, _, rfl⟩
  obtain ⟨l4, e4, m, a3⟩ : ∃ a b c, tk3 k l3 e3 = (a, b, c) := ⟨_, _, _, rfl⟩
  obtain ⟨l5, e5, n, a4⟩ : ∃ a b c, tk4 k l4 e4 = (a, b, c) := ⟨_, _, _, rfl⟩
  obtain ⟨l6, e6, t, a5⟩ : ∃ a b c, tk5 k l5 e5 = (a, b, c) := ⟨_, _, _, rfl⟩
  unfold sParts at hs
  simp only [a0, a1, a2, a3, a4, a5, Prod.mk.injEq] at hs
  obtain ⟨rfl, rfl, rfl⟩ := hs
  exact ⟨l1, e1, l2, e2, l3, e3, l4, e4, l5, e5, u, fb, q, pb, m, n, t, a0, a1, a2, a3, a4, a5, rfl⟩
theorem tk0_sound {k : Int} {l : List Nat} {e : Nat} {l' : List Nat} {e' u : Nat} {s : List Nat} (h : Sound l e) (hs : tk0 k l e = (l', e', u, s)) :
    Sound l' e' ∧ u < 18446744073709551616 ∧ s.length ≤ 64 ∧ (e' = 0 → e = 0 ∧ l = (if h0 k then bytesN u 8 ++ textN (strN s) else []) ++ l') := by
  obtain ⟨l1, e1, v, a1⟩ : ∃ a b c, sFixed l e = (a, b, c) := ⟨_, _, _, rfl⟩
  obtain ⟨l2, e2, t, a2⟩ : ∃ a b c, sText l1 e1 64 = (a, b, c) := ⟨_, _, _, rfl⟩
  unfold tk0 at hs
  cases hk : h0 k
  · simp only [hk, Bool.false_eq_true, if_false, Prod.mk.injEq] at hs
    obtain ⟨rfl, rfl, rfl, rfl⟩ := hs
    exact ⟨h, by omega, by simp, fun h => ⟨h, by simp⟩⟩
  · simp only [hk, if_true, a1, a2, Prod.mk.injEq] at hs
    obtain ⟨rfl, rfl, rfl, rfl⟩ := hs
    obtain ⟨k1, k2⟩ := sFixed_sound h a1
    obtain ⟨m1, m2, m3⟩ := sText_sound k1 a2
    refine ⟨m1, k2, m2, fun h0 => ?_⟩
    subst h0
    obtain ⟨i1, i2⟩ := sText_inv k1 a2
    subst i1
    obtain ⟨j1, j2⟩ := sFixed_inv h a1
    exact ⟨j1, by rw [if_pos rfl, j2, i2, List.append_assoc]⟩
theorem tk1_sound {k : Int} {l : List Nat} {e : Nat} {l' : List Nat} {e' u : Nat} (h : Sound l e) (hs : tk1 k l e = (l', e', u)) :
    Sound l' e' ∧ u < 18446744073709551616 ∧ (e' = 0 → e = 0 ∧ l = (if h1 k then shortN u else []) ++ l') := by
  unfold tk1 at hs
  cases hk : h1 k
  · simp only [hk, Bool.false_eq_true, if_false, Prod.mk.injEq] at hs
    obtain ⟨rfl, rfl, rfl⟩ := hs
    exact ⟨h, by omega, fun h => ⟨h, by simp⟩⟩
  · simp only [hk, if_true] at hs
    obtain ⟨k1, k2⟩ := sShort_sound h hs
    refine ⟨k1, by omega, fun h0 => ?_⟩
    subst h0
    obtain ⟨i1, i2, _⟩ := sShort_inv h hs
    exact ⟨i1, by rw [if_pos rfl]; exact i2⟩
theorem tk2_sound {k : Int} {l : List Nat} {e : Nat} {l' : List Nat} {e' : Nat} {s : List Nat} (h : Sound l e) (hs : tk2 k l e = (l', e', s)) :
    Sound l' e' ∧ s.length ≤ 64 ∧ (e' = 0 → e = 0 ∧ l = (if h2 k then textN (strN s) else []) ++ l') := by
  unfold tk2 at hs
  cases hk : h2 k
  · simp only [hk, Bool.false_eq_true, if_false, Prod.mk.injEq] at hs
    obtain ⟨rfl, rfl, rfl⟩ := hs
    exact ⟨h, by simp, fun h => ⟨h, by simp⟩⟩
  · simp only [hk, if_true] at hs
    obtain ⟨k1, k2, _⟩ := sText_sound h hs
    refine ⟨k1, k2, fun h0 => ?_⟩
    subst h0
    obtain ⟨i1, i2⟩ := sText_inv h hs
    exact ⟨i1, by rw [if_pos rfl]; exact i2⟩
theorem tk3_sound {k : Int} {l : List Nat} {e : Nat} {l' : List Nat} {e' u : Nat} (h : Sound l e) (hs : tk3 k l e = (l', e', u)) :
    Sound l' e' ∧ u < 256 ∧ (e' = 0 → e = 0 ∧ l = (if h3 k then [u] else []) ++ l') := by
  unfold tk3 at hs
  cases hk : h3 k
  · simp only [hk, Bool.false_eq_true, if_false, Prod.mk.injEq] at hs
    obtain ⟨rfl, rfl, rfl⟩ := hs
    exact ⟨h, by omega, fun h => ⟨h, by simp⟩⟩
  · simp only [hk, if_true] at hs
    obtain ⟨k1, k2⟩ := sByte_sound h hs
    refine ⟨k1, k2, fun h0 => ?_⟩
    subst h0
    obtain ⟨i1, i2⟩ := sByte_inv h hs
    exact ⟨i1, by rw [if_pos rfl]; exact i2⟩
theorem tk4_sound {k : Int} {l : List Nat} {e : Nat} {l' : List Nat} {e' u : Nat} (h : Sound l e) (hs : tk4 k l e = (l', e', u)) :
    Sound l' e' ∧ u < 18446744073709551616 ∧ (e' = 0 → e = 0 ∧ l = (if h4 k then shortN u else []) ++ l') := by
  unfold tk4 at hs
  cases hk : h4 k
  · simp only [hk, Bool.false_eq_true, if_false, Prod.mk.injEq] at hs
    obtain ⟨rfl, rfl, rfl⟩ := hs
    exact ⟨h, by omega, fun h => ⟨h, by simp⟩⟩
  · simp only [hk, if_true] at hs
    obtain ⟨k1, k2⟩ := sShort_sound h hs
    refine ⟨k1, by omega, fun h0 => ?_⟩
    subst h0
    obtain ⟨i1, i2, _⟩ := sShort_inv h hs
    exact ⟨i1, by rw [if_pos rfl]; exact i2⟩
theorem tk5_sound {k : Int} {l : List Nat} {e : Nat} {l' : List Nat} {e' u : Nat} (h : Sound l e) (hs : tk5 k l e = (l', e', u)) :
    Sound l' e' ∧ u ≤ 1099511627776 ∧ (e' = 0 → e = 0 ∧ l = (if h5 k then shortN u else []) ++ l') := by
  unfold tk5 at hs
  cases hk : h5 k
  · simp only [hk, Bool.false_eq_true, if_false, Prod.mk.injEq] at hs
    obtain ⟨rfl, rfl, rfl⟩ := hs
    exact ⟨h, by omega, fun h => ⟨h, by simp⟩⟩
  · simp only [hk, if_true] at hs
    obtain ⟨k1, k2⟩ := sShort_sound h hs
    refine ⟨k1, k2, fun h0 => ?_⟩
    subst h0
    obtain ⟨i1, i2, _⟩ := sShort_inv h hs
    exact ⟨i1, by rw [if_pos rfl]; exact i2⟩
def body (c : K) : List Nat := e0 c ++ (e1 c ++ (e2 c ++ (e3 c ++ (e4 c ++ e5 c))))
theorem enc_body (c : K) : enc c = c.kind.toNat :: body c := rfl
theorem sParts_sound {k : Int} {l : List Nat} {e : Nat} {l' : List Nat} {e' : Nat} {c : K} (hk : 0 ≤ k ∧ k < 256) (h : Sound l e) (hs : sParts k l e = (l', e', c)) :
    Sound l' e' ∧ okK c ∧ c.kind = k ∧ c.foot.size ≤ 64 ∧ c.path.size ≤ 64 ∧ (e' = 0 → e = 0 ∧ l = body c ++ l') := by
  obtain ⟨l1, e1, l2, e2, l3, e3, l4, e4, l5, e5, u, fb, q, pb, m, n, t, a0, a1, a2, a3, a4, a5, rfl⟩ := sParts_split hs
  obtain ⟨s0, b0, d0, i0⟩ := tk0_sound h a0
  obtain ⟨s1, b1, i1⟩ := tk1_sound s0 a1
  obtain ⟨s2, b2, i2⟩ := tk2_sound s1 a2
  obtain ⟨s3, b3, i3⟩ := tk3_sound s2 a3
  obtain ⟨s4, b4, i4⟩ := tk4_sound s3 a4
  obtain ⟨s5, b5, i5⟩ := tk5_sound s4 a5
  refine ⟨s5, ⟨by simp only; omega, by simp only; omega, by simp only; omega, by simp only; omega, by simp only; omega, by simp only; omega⟩, rfl, by simp only [strN_size]; exact d0, by simp only [strN_size]; exact b2, fun h0 => ?_⟩
  obtain ⟨z5, j5⟩ := i5 h0
  obtain ⟨z4, j4⟩ := i4 z5
  obtain ⟨z3, j3⟩ := i3 z4
  obtain ⟨z2, j2⟩ := i2 z3
  obtain ⟨z1, j1⟩ := i1 z2
  obtain ⟨z0, j0⟩ := i0 z1
  refine ⟨z0, ?_⟩
  rw [j0, j1, j2, j3, j4, j5]
  simp only [body, Proofs.YtohffiehmmcgbaaGreatDoor.e0, Proofs.YtohffiehmmcgbaaGreatDoor.e1, Proofs.YtohffiehmmcgbaaGreatDoor.e2, Proofs.YtohffiehmmcgbaaGreatDoor.e3, Proofs.YtohffiehmmcgbaaGreatDoor.e4, Proofs.YtohffiehmmcgbaaGreatDoor.e5, Int.toNat_natCast, List.append_assoc]
def kindE (l : List Nat) (e : Nat) : List Nat × Nat := if 8 < (sByte l e).2.2 then (leftE (sByte l e).2.1 22 (sByte l e).1, firstE (sByte l e).2.1 22) else ((sByte l e).1, (sByte l e).2.1)
def partsE (l : List Nat) (e : Nat) : List Nat × Nat × K := sParts ((sByte l e).2.2 : Nat) (kindE l e).1 (kindE l e).2
def lastE (s : List Nat × Nat × K) : List Nat × Nat × K :=
  if rightK s.2.2 then (s.1, s.2.1, if s.2.1 = 0 then s.2.2 else ⟨0, 0, ⟨#[]⟩, 0, ⟨#[]⟩, 0, 0, 0⟩) else (leftE s.2.1 10 s.1, firstE s.2.1 10, ⟨0, 0, ⟨#[]⟩, 0, ⟨#[]⟩, 0, 0, 0⟩)
def sCmd (l : List Nat) (e : Nat) : List Nat × Nat × K := lastE (partsE l e)
theorem kind_no {k : Int} (h : isK k = false) (l : List Nat) (e : Nat) : sParts k l e = (l, e, ⟨k, 0, ⟨#[]⟩, 0, ⟨#[]⟩, 0, 0, 0⟩) := by
  have hk : ¬ (1 ≤ k ∧ k ≤ 8) := by unfold isK at h; rw [decide_eq_false_iff_not] at h; omega
  have g0 : h0 k = false := decide_eq_false (by omega)
  have g1 : h1 k = false := decide_eq_false (by omega)
  have g2 : h2 k = false := decide_eq_false (by omega)
  have g3 : h3 k = false := decide_eq_false (by omega)
  have g4 : h4 k = false := decide_eq_false (by omega)
  have g5 : h5 k = false := decide_eq_false (by omega)
  unfold sParts tk0 tk1 tk2 tk3 tk4 tk5
  simp only [g0, g1, g2, g3, g4, g5, Bool.false_eq_true, if_false]
  rfl
theorem rightK_kind {c : K} (h : isK c.kind = false) : rightK c = false := by unfold rightK; rw [h]; rfl
theorem right_none : rightK ⟨0, 0, ⟨#[]⟩, 0, ⟨#[]⟩, 0, 0, 0⟩ = true := by decide
theorem sCmd_sound {l : List Nat} {e : Nat} {l' : List Nat} {e' : Nat} {c : K} (h : Sound l e) (hs : sCmd l e = (l', e', c)) :
    Sound l' e' ∧ okK c ∧ c.foot.size ≤ 64 ∧ c.path.size ≤ 64 ∧ rightK c = true ∧ (e' = 0 → e = 0 ∧ l = enc c ++ l') := by
  obtain ⟨l1, e1, b, hb⟩ : ∃ a b c, sByte l e = (a, b, c) := ⟨_, _, _, rfl⟩
  obtain ⟨s1, b1⟩ := sByte_sound h hb
  obtain ⟨l2, e2, h2⟩ : ∃ a b, kindE l e = (a, b) := ⟨_, _, rfl⟩
  obtain ⟨l3, e3, d, h3⟩ : ∃ x y z, sParts (b : Int) l2 e2 = (x, y, z) := ⟨_, _, _, rfl⟩
  have hk : kindE l e = if 8 < b then (leftE e1 22 l1, firstE e1 22) else (l1, e1) := by unfold kindE; rw [hb]
  have s2 : Sound l2 e2 := by
    rw [h2] at hk
    split at hk
    · simp only [Prod.mk.injEq] at hk
      obtain ⟨rfl, rfl⟩ := hk
      exact sound_fail (by omega) s1
    · simp only [Prod.mk.injEq] at hk
      obtain ⟨rfl, rfl⟩ := hk
      exact s1
  obtain ⟨s3, ok3, k3, f3, p3, i3⟩ := sParts_sound (by omega) s2 h3
  have hz : okK ⟨0, 0, ⟨#[]⟩, 0, ⟨#[]⟩, 0, 0, 0⟩ := ⟨by simp, by simp, by simp, by simp, by simp, by simp⟩
  have hp : partsE l e = (l3, e3, d) := by unfold partsE; rw [hb, h2]; exact h3
  unfold sCmd at hs
  rw [hp] at hs
  unfold lastE at hs
  simp only at hs
  cases hr : rightK d
  · rw [hr] at hs
    simp only [Bool.false_eq_true, if_false, Prod.mk.injEq] at hs
    obtain ⟨rfl, rfl, rfl⟩ := hs
    exact ⟨sound_fail (by omega) s3, hz, by decide, by decide, right_none, fun h0 => absurd h0 (firstE_zero_in (by omega))⟩
  · rw [hr] at hs
    simp only [if_true, Prod.mk.injEq] at hs
    obtain ⟨rfl, rfl, rfl⟩ := hs
    by_cases h0 : e3 = 0
    · rw [if_pos h0]
      refine ⟨s3, ok3, f3, p3, hr, fun _ => ?_⟩
      obtain ⟨z2, j3⟩ := i3 h0
      rw [h2] at hk
      split at hk
      · simp only [Prod.mk.injEq] at hk
        exact absurd (hk.2.symm.trans z2) (firstE_zero_in (by omega))
      · simp only [Prod.mk.injEq] at hk
        obtain ⟨rfl, rfl⟩ := hk
        subst z2
        obtain ⟨z, j⟩ := sByte_inv h hb
        refine ⟨z, ?_⟩
        rw [enc_body, k3, Int.toNat_natCast, j, j3]
        rfl
    · rw [if_neg h0]
      exact ⟨s3, hz, by decide, by decide, right_none, fun h => absurd h h0⟩
end Go.Proofs.YtohffiehmmcgbaaGreatDoor
namespace Go.Proofs.YtohffiehmmcgbaaGreatDoor
open Go.ChangeShapes Go.WideShapes Go.ChangeAt Go.RowKit
theorem InAt.put2 {w : World} {g : Nat} {l : List Nat} {e : Nat} (h : InAt w g l e) {r : Nat} (hr : g < r) (a b : Value) : InAt ((w.setCell ⟨r, 0, none⟩ a).setCell ⟨r, 1, none⟩ b) g l e :=
  h.keep (Below.setCell (p := ⟨r, 1, none⟩) (Below.setCell (p := ⟨r, 0, none⟩) (Below.refl _ _) hr _) hr _)
theorem only_put2 {a w : World} {g r : Nat} (h : a.grownBy w (some g)) (hr : a.heap.size ≤ r) (x y : Value) : a.grownBy ((w.setCell ⟨r, 0, none⟩ x).setCell ⟨r, 1, none⟩ y) (some g) :=
  only_setCell (p := ⟨r, 1, none⟩) (only_setCell (p := ⟨r, 0, none⟩) h (.inr hr) x) (.inr hr) y
def midName (l : List Nat) (e : Nat) : List Nat × Nat := if 6 < (sByte l e).2.2 then (leftE (sByte l e).2.1 12 (sByte l e).1, firstE (sByte l e).2.1 12) else ((sByte l e).1, (sByte l e).2.1)
def endName (l : List Nat) (e : Nat) : List Nat × Nat × Nat := sShort (midName l e).1 (midName l e).2 1023
def sName (l : List Nat) (e : Nat) : List Nat × Nat × Nat × Nat :=
  ((endName l e).1, (endName l e).2.1, if (endName l e).2.1 = 0 then ((sByte l e).2.2, (endName l e).2.2) else (0, 0))
def sBallot (l : List Nat) (e : Nat) : List Nat × Nat × Nat :=
  if ballotB (sShort l e 4294967295).2.2 then sShort l e 4294967295 else (leftE (sShort l e 4294967295).2.1 60 (sShort l e 4294967295).1, firstE (sShort l e 4294967295).2.1 60, 0)
theorem sByte_fine {l : List Nat} {e : Nat} (hf : Fine l e) (h8 : ∀ x ∈ l, x < 256) : Fine (sByte l e).1 (sByte l e).2.1 ∧ (∀ x ∈ (sByte l e).1, x < 256) ∧ (sByte l e).1.length ≤ l.length ∧ (sByte l e).2.2 < 256 ∧ (6 < (sByte l e).2.2 → (sByte l e).2.1 = 0) := by
  cases l with
  | nil => exact ⟨fun _ => rfl, fun x hx => by simp [sByte] at hx, Nat.le_refl _, by simp [sByte], fun h => by simp [sByte] at h⟩
  | cons b t =>
    have he := fine_zero hf (by simp)
    subst he
    exact ⟨fun h => absurd rfl h, fun x hx => h8 x (List.mem_cons_of_mem _ hx), by simp [sByte], h8 b (by simp), fun _ => rfl⟩
theorem leftE_fine {l : List Nat} {e x : Nat} (hx : 0 < x) (hf : Fine l e) : Fine (leftE e x l) (firstE e x) := fun _ => leftE_nil hx (fun h => hf h)
theorem leftE_in {l : List Nat} {e x : Nat} : ∀ y ∈ leftE e x l, y ∈ l := by
  unfold leftE; split
  · intro y hy; cases hy
  · exact fun y hy => hy
theorem leftE_len {l : List Nat} {e x : Nat} : (leftE e x l).length ≤ l.length := by
  unfold leftE; split
  · simp
  · exact Nat.le_refl _
theorem midName_fine {l : List Nat} {e : Nat} (hf : Fine l e) (h8 : ∀ x ∈ l, x < 256) : Fine (midName l e).1 (midName l e).2 ∧ (∀ x ∈ (midName l e).1, x < 256) ∧ (midName l e).1.length ≤ l.length := by
  obtain ⟨h1, h2, h3, _, _⟩ := sByte_fine hf h8
  unfold midName
  split
  · exact ⟨leftE_fine (by decide) h1, fun x hx => h2 x (leftE_in x hx), Nat.le_trans leftE_len h3⟩
  · exact ⟨h1, h2, h3⟩
set_option maxRecDepth 100000 in
set_option maxHeartbeats 400000 in
theorem takeid_as (g : Nat) (l : List Nat) (e : Nat) (l1 l2 l3 : List Nat) (e1 e2 e3 r s : Nat) (w : World) (h : InAt w g l e) (hf : Fine l e) (hb : sByte l e = (l1, e1, r)) (hr : r < 256)
    (hm : (if 6 < r then (leftE e1 12 l1, firstE e1 12) else (l1, e1)) = (l2, e2)) (hs : sShort l2 e2 1023 = (l3, e3, s)) (hf2 : Fine l2 e2) (h2 : ∀ x ∈ l2, x < 256) (hl2 : l2.length ≤ 9223372036854775807) :
    Calls Tryz.prog 90 #[.pointer (some ⟨g, 0, none⟩)] w (Turns (fun en => en = .returned (if e3 = 0 then nm r s else nm 0 0)) g l3 e3 w) := by
  have hs1 : s ≤ 1023 := by have := sShort_most (l := l2) (e := e2) (most := 1023); rw [hs] at this; exact this
  obtain ⟨x, hx⟩ : ∃ x, repB (r : Int) = x := ⟨_, rfl⟩
  have HX := hid hx
  have HI := hid h
  have hgl := h.lt
  have HI0 := hid (h.keep ((Below.refl _ _).alloc (by omega) (.cells #[.int .i64 0, .int .i64 0] 25)))
  have HF := hid hf
  have HB := hid hb
  have HS := hid hs
  have HF2 := hid hf2
  have H2 := hid h2
  have HM := hid hm
  clear hx h hf hb hs hf2 h2 hm
  go_enter Tryz.func90, Tryz.ntmps90
  go_wp2_with fail
  with_reducible refine (byte_any g l e l1 e1 r _ HI0.out HF.out HB.out).mono ?_
  rintro en w1 ⟨rfl, hi1, hg1⟩
  have HG1 := hid ((only_of_below ((Below.refl w.heap.size w).alloc (Nat.le_refl _) (.cells #[.int .i64 0, .int .i64 0] 25)) (some g)).trans hg1)
  have K1 := hid ((Blk.new w 25 #[.int .i64 0, .int .i64 0]).grown hg1 (by simp; omega))
  have HI1 := hid hi1
  clear hi1 hg1 HI0
  cases x
  · have h6 : 6 < r := by have := HX.out; unfold repB at this; rw [decide_eq_false_iff_not] at this; omega
    have hm1 : leftE e1 12 l1 = l2 ∧ firstE e1 12 = e2 := by have := HM.out; rw [if_pos h6] at this; simpa using this
    have HL := hid hm1.1
    have HE := hid hm1.2
    have h0 : e3 ≠ 0 := by
      intro h0
      have hp := firstE_pos (e := e1) (x := 12) (by decide)
      rw [hm1.2] at hp
      have hn : l2 = [] := HF2.out (by omega)
      have := HS.out
      subst hn
      unfold sShort at this
      rw [if_neg (show ¬ (readN ([] : List Nat)).2.2 = 0 by decide)] at this
      simp only [Prod.mk.injEq] at this
      have h4 := firstE_pos (e := e2) (x := (readN ([] : List Nat)).2.2) (by decide)
      omega
    clear hm1
    go_wp2_with fail
    with_reducible refine (isreplica_any r _).mono ?_
    rintro en w2 ⟨rfl, rfl⟩
    rw [HX.out]
    go_wp2_with fail
    with_reducible refine (fail_any g l1 e1 12 12 _ HI1.out rfl).mono ?_
    rw [HL.out, HE.out]
    rintro en w2 ⟨rfl, hi2, hg2⟩
    have HG2 := hid (HG1.out.trans hg2)
    have K2 := hid (K1.out.grown hg2 (by simp; omega))
    have HI2 := hid hi2
    clear hi2 hg2 HI1 K1 HG1
    go_wp2_with fail
    with_reducible refine (inshort_any g l2 e2 1023 1023 l3 e3 s _ HI2.out HF2.out H2.out hl2 rfl HS.out).mono ?_
    rintro en w3 ⟨rfl, hi3, hg3⟩
    have HG3 := hid (HG2.out.trans hg3)
    have K3 := hid (K2.out.grown hg3 (by simp; omega))
    have HI3 := hid hi3
    clear hi3 hg3 HI2 K2 HG2
    go_wp2_with fail
    with_reducible refine (failed_yes g l3 e3 _ HI3.out (by omega)).mono ?_
    rintro en w4 ⟨rfl, rfl⟩
    obtain ⟨⟨c0, c1⟩, f0, f1⟩ := blkn K3.out
    go_wp2
    refine bodyPost_ret (v := nm 0 0) (by simp [results, Tryz.results90, go_sem, c0, c1]) rfl ⟨rfl, HI3.out.put2 hgl _ _, only_put2 HG3.out (Nat.le_refl _) _ _⟩
  · have h6 : ¬ 6 < r := by have := HX.out; unfold repB at this; rw [decide_eq_true_eq] at this; omega
    have hm1 : l1 = l2 ∧ e1 = e2 := by have := HM.out; rw [if_neg h6] at this; simpa using this
    obtain ⟨rfl, rfl⟩ := hm1
    clear HM
    go_wp2_with fail
    with_reducible refine (isreplica_any r _).mono ?_
    rintro en w2 ⟨rfl, rfl⟩
    rw [HX.out]
    go_wp2_with fail
    with_reducible refine (inshort_any g l1 e1 1023 1023 l3 e3 s _ HI1.out HF2.out H2.out hl2 rfl HS.out).mono ?_
    rintro en w3 ⟨rfl, hi3, hg3⟩
    have HG3 := hid (HG1.out.trans hg3)
    have K3 := hid (K1.out.grown hg3 (by simp; omega))
    have HI3 := hid hi3
    clear hi3 hg3 HI1 K1 HG1
    by_cases h0 : e3 = 0
    · subst h0
      go_wp2_with fail
      with_reducible refine (failed_no g l3 _ HI3.out).mono ?_
      rintro en w4 ⟨rfl, rfl⟩
      obtain ⟨⟨c0, c1⟩, f0, f1⟩ := blkn K3.out
      go_wp2
      refine bodyPost_ret (v := nm r s) (by simp [results, Tryz.results90, go_sem, c0, c1]) rfl ⟨rfl, HI3.out.put2 hgl _ _, only_put2 HG3.out (Nat.le_refl _) _ _⟩
    · go_wp2_with fail
      with_reducible refine (failed_yes g l3 e3 _ HI3.out (by omega)).mono ?_
      rintro en w4 ⟨rfl, rfl⟩
      obtain ⟨⟨c0, c1⟩, f0, f1⟩ := blkn K3.out
      go_wp2
      refine bodyPost_ret (v := nm 0 0) (by simp [results, Tryz.results90, go_sem, c0, c1]) rfl ⟨rfl, HI3.out.put2 hgl _ _, only_put2 HG3.out (Nat.le_refl _) _ _⟩
theorem takeid_any (g : Nat) (l : List Nat) (e : Nat) (l' : List Nat) (e' r s : Nat) (w : World) (h : InAt w g l e) (hf : Fine l e) (h8 : ∀ x ∈ l, x < 256) (hl : l.length ≤ 9223372036854775807) (hs : sName l e = (l', e', r, s)) :
    Calls Tryz.prog 90 #[.pointer (some ⟨g, 0, none⟩)] w (Turns (fun en => en = .returned (nm r s)) g l' e' w) := by
  obtain ⟨h1, h2, h3, h4, h5⟩ := sByte_fine hf h8
  obtain ⟨m1, m2, m3⟩ := midName_fine hf h8
  have hc := takeid_as g l e (sByte l e).1 (midName l e).1 (endName l e).1 (sByte l e).2.1 (midName l e).2 (endName l e).2.1 (sByte l e).2.2 (endName l e).2.2 w h hf rfl h4 rfl rfl m1 m2 (by omega)
  unfold sName at hs
  simp only [Prod.mk.injEq] at hs
  obtain ⟨rfl, rfl, hv⟩ := hs
  refine hc.mono fun en w' hh => ⟨?_, hh.2⟩
  have h6 := hh.1
  dsimp only at h6
  rw [h6]
  split at hv <;> rename_i c
  · rw [if_pos c]; simp only [Prod.mk.injEq] at hv; rw [hv.1, hv.2]
  · rw [if_neg c]; simp only [Prod.mk.injEq] at hv; obtain ⟨rfl, rfl⟩ := hv; rfl
theorem ballot0 : ballotB 0 = true := by decide
set_option maxRecDepth 100000 in
set_option maxHeartbeats 400000 in
theorem takeballot_any (g : Nat) (l : List Nat) (e : Nat) (l' : List Nat) (e' v' : Nat) (w : World) (h : InAt w g l e) (hf : Fine l e) (h8 : ∀ x ∈ l, x < 256) (hl : l.length ≤ 9223372036854775807) (hs : sBallot l e = (l', e', v')) :
    Calls Tryz.prog 91 #[.pointer (some ⟨g, 0, none⟩)] w (Turns (fun en => en = .returned (.int .u32 (v' : Int))) g l' e' w) := by
  obtain ⟨l1, e1, v, hv⟩ : ∃ l1 e1 v, sShort l e 4294967295 = (l1, e1, v) := ⟨_, _, _, rfl⟩
  have hm : v ≤ 4294967295 := by have := sShort_most (l := l) (e := e) (most := 4294967295); rw [hv] at this; exact this
  have hbad : e1 ≠ 0 → l1 = [] ∧ v = 0 := by intro h0; have := sShort_bad (l := l) (e := e) (most := 4294967295) (by rw [hv]; exact h0) hf; rw [hv] at this; exact this
  have HI := hid h
  have HF := hid hf
  have H8 := hid h8
  have HV := hid hv
  have HBAD := hid hbad
  have HS := hid hs
  obtain ⟨x, hx⟩ : ∃ x, ballotB v = x := ⟨_, rfl⟩
  have HX := hid hx
  clear h hf h8 hv hs hx hbad
  go_enter Tryz.func91, Tryz.ntmps91
  go_wp2_with fail
  with_reducible refine (inshort_any g l e 4294967295 4294967295 l1 e1 v _ HI.out HF.out H8.out hl rfl HV.out).mono ?_
  rintro en w1 ⟨rfl, hi1, hg1⟩
  have HI1 := hid hi1
  have HG1 := hid hg1
  clear hi1 hg1
  cases x
  · have he1 : e1 = 0 := by
      rcases Decidable.em (e1 = 0) with h0 | h0
      · exact h0
      · have := (HBAD.out h0).2; subst this; have := HX.out; rw [ballot0] at this; cases this
    have hs2 : leftE e1 60 l1 = l' ∧ firstE e1 60 = e' ∧ v' = 0 := by
      have := HS.out
      unfold sBallot at this
      rw [HV.out] at this
      simp only [HX.out, Bool.false_eq_true, if_false, Prod.mk.injEq] at this
      exact ⟨this.1, this.2.1, this.2.2.symm⟩
    have HL := hid hs2.1
    have HE := hid hs2.2.1
    obtain rfl := hs2.2.2
    have hp : 0 < e' := by rw [← hs2.2.1]; exact firstE_pos (by decide)
    clear hs2 HBAD HS
    go_wp2_with fail
    with_reducible refine (ballotright_any v _ (by omega)).mono ?_
    rintro en w2 ⟨rfl, rfl⟩
    rw [HX.out]
    go_wp2_with fail
    with_reducible refine (fail_any g l1 e1 60 60 _ HI1.out rfl).mono ?_
    rw [HL.out, HE.out]
    rintro en w2 ⟨rfl, hi2, hg2⟩
    have HG2 := hid (HG1.out.trans hg2)
    have HI2 := hid hi2
    clear hi2 hg2
    go_wp2_with fail
    with_reducible refine (failed_yes g l' e' _ HI2.out hp).mono ?_
    rintro en w4 ⟨rfl, rfl⟩
    go_wp2
    go_ret
    exact ⟨rfl, HI2.out, HG2.out⟩
  · have hs2 : l1 = l' ∧ e1 = e' ∧ v = v' := by
      have := HS.out
      unfold sBallot at this
      rw [HV.out] at this
      simp only [HX.out, if_true, Prod.mk.injEq] at this
      exact this
    obtain ⟨rfl, rfl, rfl⟩ := hs2
    clear HS
    go_wp2_with fail
    with_reducible refine (ballotright_any v _ (by omega)).mono ?_
    rintro en w2 ⟨rfl, rfl⟩
    rw [HX.out]
    by_cases h0 : e1 = 0
    · subst h0
      go_wp2_with fail
      with_reducible refine (failed_no g l1 _ HI1.out).mono ?_
      rintro en w4 ⟨rfl, rfl⟩
      go_wp2
      go_ret
      exact ⟨rfl, HI1.out, HG1.out⟩
    · obtain rfl := (HBAD.out h0).2
      go_wp2_with fail
      with_reducible refine (failed_yes g l1 e1 _ HI1.out (by omega)).mono ?_
      rintro en w4 ⟨rfl, rfl⟩
      go_wp2
      go_ret
      exact ⟨rfl, HI1.out, HG1.out⟩
end Go.Proofs.YtohffiehmmcgbaaGreatDoor
namespace Go.Proofs.YtohffiehmmcgbaaGreatDoor
open Go.ChangeShapes Go.WideShapes Go.ChangeAt Go.RowKit
set_option linter.unusedVariables false
set_option linter.unusedSimpArgs false
theorem only_setRow {a w : World} {g r : Nat} {cs : Array Value} (h : a.grownBy w (some g)) (hr : a.heap.size ≤ r) : a.grownBy (w.setRow r cs) (some g) :=
  ⟨h.os, h.tape, h.output, by simpa using h.size, fun i hi hne => (setRow_other w r i cs (by omega)).trans (h.block i hi hne)⟩
theorem InAt.setRow {w : World} {g r : Nat} {l : List Nat} {e : Nat} {cs : Array Value} (h : InAt w g l e) (hr : g < r) : InAt (w.setRow r cs) g l e := h.keep (below_setRow_ (Below.refl _ _) hr)
theorem InAt.setCell {w : World} {g r i : Nat} {l : List Nat} {e : Nat} {x : Value} (h : InAt w g l e) (hr : g < r) : InAt (w.setCell ⟨r, i, none⟩ x) g l e := h.keep (Below.setCell (p := ⟨r, i, none⟩) (Below.refl _ _) hr _)
def stA (l : List Nat) (e : Nat) : Nat → List Nat × Nat × (Nat → Int)
  | 0 => ((sShort l e 1073741824).1, (sShort l e 1073741824).2.1, upd (fun _ => 0) 0 ((sShort l e 1073741824).2.2 : Nat))
  | j + 1 => ((sShort (stA l e j).1 (stA l e j).2.1 1024).1, (sShort (stA l e j).1 (stA l e j).2.1 1024).2.1, upd (stA l e j).2.2 (1 + j) ((sShort (stA l e j).1 (stA l e j).2.1 1024).2.2 : Nat))
def endA (s : List Nat × Nat × (Nat → Int)) : List Nat × Nat × (Nat → Int) := (s.1, s.2.1, if s.2.1 = 0 then s.2.2 else fun _ => 0)
def sAttr (l : List Nat) (e : Nat) : List Nat × Nat × (Nat → Int) := endA (stA l e 7)
theorem sAttr_all (l : List Nat) (e : Nat) : (sAttr l e).1 = (stA l e 7).1 ∧ (sAttr l e).2.1 = (stA l e 7).2.1 ∧ (sAttr l e).2.2 = if (stA l e 7).2.1 = 0 then (stA l e 7).2.2 else fun _ => 0 := by
  unfold sAttr
  generalize stA l e 7 = s
  exact ⟨rfl, rfl, rfl⟩
theorem short_fine {l : List Nat} {e most : Nat} (hf : Fine l e) (h8 : ∀ x ∈ l, x < 256) : Fine (sShort l e most).1 (sShort l e most).2.1 ∧ (∀ x ∈ (sShort l e most).1, x < 256) ∧ (sShort l e most).1.length ≤ l.length :=
  ⟨fun h => (sShort_bad h hf).1, fun x hx => h8 x (sShort_in x hx), sShort_len⟩
theorem stA_fine {l : List Nat} {e : Nat} (hf : Fine l e) (h8 : ∀ x ∈ l, x < 256) : ∀ j, Fine (stA l e j).1 (stA l e j).2.1 ∧ (∀ x ∈ (stA l e j).1, x < 256) ∧ (stA l e j).1.length ≤ l.length
  | 0 => short_fine hf h8
  | j + 1 => by
    obtain ⟨h1, h2, h3⟩ := stA_fine hf h8 j
    obtain ⟨k1, k2, k3⟩ := short_fine (most := 1024) h1 h2
    exact ⟨k1, k2, Nat.le_trans k3 h3⟩
theorem first_row_a (v : Int) : (#[.int .i64 v, .int .i64 0, .int .i64 0, .int .i64 0, .int .i64 0, .int .i64 0, .int .i64 0, .int .i64 0] : Array Value) = rowA (upd (fun _ => 0) 0 v) := rfl
set_option maxRecDepth 100000 in
set_option maxHeartbeats 2000000 in
theorem attake_as (S : Nat → List Nat × Nat × (Nat → Int)) (g : Nat) (l : List Nat) (e : Nat) (l' : List Nat) (e' : Nat) (V : Nat → Int) (w : World) (h : InAt w g l e) (hf : Fine l e) (h8 : ∀ x ∈ l, x < 256) (hl : l.length ≤ 9223372036854775807)
    (hz : (S 0).1 = (sShort l e 1073741824).1 ∧ (S 0).2.1 = (sShort l e 1073741824).2.1 ∧ (S 0).2.2 = upd (fun _ => 0) 0 ((sShort l e 1073741824).2.2 : Nat))
    (hn : ∀ j, (S (j + 1)).1 = (sShort (S j).1 (S j).2.1 1024).1 ∧ (S (j + 1)).2.1 = (sShort (S j).1 (S j).2.1 1024).2.1 ∧ (S (j + 1)).2.2 = upd (S j).2.2 (1 + j) ((sShort (S j).1 (S j).2.1 1024).2.2 : Nat))
    (hfn : ∀ j, Fine (S j).1 (S j).2.1 ∧ (∀ x ∈ (S j).1, x < 256) ∧ (S j).1.length ≤ l.length) (hE : l' = (S 7).1 ∧ e' = (S 7).2.1 ∧ V = if (S 7).2.1 = 0 then (S 7).2.2 else fun _ => 0) :
    Calls Tryz.prog 96 #[.pointer (some ⟨g, 0, none⟩)] w (Turns (fun en => en = .returned (.agg (rowA V))) g l' e' w) := by
  obtain ⟨l1, e1, v1, hs1⟩ : ∃ l1 e1 v1, sShort l e 1073741824 = (l1, e1, v1) := ⟨_, _, _, rfl⟩
  have hm1 : v1 ≤ 1073741824 := by have := sShort_most (l := l) (e := e) (most := 1073741824); rw [hs1] at this; exact this
  rw [hs1] at hz
  have HS0 := hid hz
  have HNX := hid hn
  have HFN := hid hfn
  have HEN := hid hE
  have hgl := h.lt
  have HI0 := hid (h.keep ((Below.refl _ _).alloc (by omega) (.cells #[.int .i64 0, .int .i64 0, .int .i64 0, .int .i64 0, .int .i64 0, .int .i64 0, .int .i64 0, .int .i64 0] 35)))
  have HF := hid hf
  have H8 := hid h8
  have HS1 := hid hs1
  obtain ⟨k, hk⟩ : ∃ k, w.heap.size = k := ⟨_, rfl⟩
  have HK := hid hk
  have hgk : g < k := by omega
  clear h hf h8 hs1 hgl hz hn hfn hE
  go_enter Tryz.func96, Tryz.ntmps96
  go_wp2_with fail
  with_reducible refine (inshort_any g l e 1073741824 1073741824 l1 e1 v1 _ HI0.out HF.out H8.out hl rfl HS1.out).mono ?_
  rintro en w1 ⟨rfl, hi1, hg1⟩
  have HG1 := hid ((only_of_below ((Below.refl w.heap.size w).alloc (Nat.le_refl _) (.cells #[.int .i64 0, .int .i64 0, .int .i64 0, .int .i64 0, .int .i64 0, .int .i64 0, .int .i64 0, .int .i64 0] 35)) (some g)).trans hg1)
  have K1 := (Blk.new w 35 #[.int .i64 0, .int .i64 0, .int .i64 0, .int .i64 0, .int .i64 0, .int .i64 0, .int .i64 0, .int .i64 0]).grown hg1 (by simp; omega)
  rw [zeros_row] at K1
  rw [hk] at K1
  have K1 := hid K1
  have HI1 := hid hi1
  clear hi1 hg1 HI0 hk
  go_upto_region 2 with fail
  obtain ⟨W2, hW2⟩ : ∃ W2, w1.alloc (.cells #[.int .i64 (v1 : Int), .int .i64 0, .int .i64 0, .int .i64 0, .int .i64 0, .int .i64 0, .int .i64 0, .int .i64 0] 35) = W2 := ⟨_, rfl⟩
  rw [hW2]
  obtain ⟨M2, hb2⟩ := one_new hW2
  have hkm : k < w1.heap.size := K1.out.lt
  have K2 := hid (K1.out.below hb2.out K1.out.lt)
  have HI2 := hid (HI1.out.keep (hb2.out.mono HI1.out.lt))
  have HG2 := hid (only_below HG1.out hb2.out)
  obtain ⟨m, hm⟩ : ∃ m, w1.heap.size = m := ⟨_, rfl⟩
  rw [hm] at M2 hkm ⊢
  rw [first_row_a] at M2
  clear hW2 hb2 hm K1 HI1 HG1
  go_wp2_with fail
  go_loopw [9] (fun iv wr => ∃ j : Nat, j ≤ 7 ∧ iv = .int .i64 j ∧ Hid (Blk wr k 35 (rowA fun _ => 0)) ∧ Hid (Blk wr m 35 (rowA (S j).2.2)) ∧ Hid (InAt wr g (S j).1 (S j).2.1) ∧ Hid (w.grownBy wr (some g))) (fun iv _ => 7 - (intOf iv).toNat)
  case atStart => exact ⟨0, by omega, rfl, K2, hid (by rw [HS0.out.2.2]; exact M2.out), hid (by rw [HS0.out.1, HS0.out.2.1]; exact HI2.out), HG2⟩
  case round =>
    obtain ⟨j, hj, rfl, K, M, I, G⟩ := hrel
    have hfn := HFN.out j
    by_cases hlt : j < 7
    · have HR := hid (HNX.out j)
      obtain ⟨lj, hlj⟩ : ∃ x, (S j).1 = x := ⟨_, rfl⟩
      obtain ⟨ej, hej⟩ : ∃ x, (S j).2.1 = x := ⟨_, rfl⟩
      obtain ⟨F, hF⟩ : ∃ x, (S j).2.2 = x := ⟨_, rfl⟩
      rw [hlj, hej] at I hfn
      rw [hF] at M
      rw [hlj, hej, hF] at HR
      obtain ⟨l2, e2, v2, hs2⟩ : ∃ l2 e2 v2, sShort lj ej 1024 = (l2, e2, v2) := ⟨_, _, _, rfl⟩
      have hm2 : v2 ≤ 1024 := by have := sShort_most (l := lj) (e := ej) (most := 1024); rw [hs2] at this; exact this
      rw [hs2] at HR
      have HS := hid hs2
      have F1 := hid hfn.1
      have F2 := hid hfn.2.1
      have hl2 : lj.length ≤ 9223372036854775807 := Nat.le_trans hfn.2.2 hl
      clear hlj hej hF hs2 hfn
      go_wp2_with fail
      with_reducible refine (inshort_any g lj ej 1024 1024 l2 e2 v2 _ I.out F1.out F2.out hl2 rfl HS.out).mono ?_
      rintro en w3 ⟨rfl, hi, hg⟩
      have N0 := hid (K.out.grown hg (by simp; omega))
      have N1 := hid (M.out.grown hg (by simp; omega))
      have N2 := hid hi
      have N3 := hid (G.out.trans hg)
      clear hi hg
      have q0 := N1.out.att (i := 1 + j) (by omega)
      have q1 := N1.out.frozen (1 + j)
      have L0 := hid (N0.out.far (p := ⟨m, 1 + j, none⟩) (by simp <;> omega) (.int .i64 (v2 : Int)))
      have L1 := hid (N1.out.attSet (1 + j) (v2 : Int))
      have L2 := hid (N2.out.setCell (r := m) (i := 1 + j) (x := .int .i64 (v2 : Int)) (by omega))
      have L3 := hid (only_setCell (p := ⟨m, 1 + j, none⟩) N3.out (.inr (show w.heap.size ≤ m by have := HK.out; omega)) (.int .i64 (v2 : Int)))
      go_wp2
      go_roundw
      case rel => exact ⟨j + 1, by omega, by go_num, L0, hid (by rw [HR.out.2.2]; exact L1.out), hid (by rw [HR.out.1, HR.out.2.1]; exact L2.out), L3⟩
      case measure => simp only [intOf]; omega
    · have hj7 : j = 7 := by omega
      subst hj7
      have HR := HEN
      obtain ⟨lj, hlj⟩ : ∃ x, (S 7).1 = x := ⟨_, rfl⟩
      obtain ⟨ej, hej⟩ : ∃ x, (S 7).2.1 = x := ⟨_, rfl⟩
      obtain ⟨F, hF⟩ : ∃ x, (S 7).2.2 = x := ⟨_, rfl⟩
      rw [hlj, hej] at I
      rw [hF] at M
      rw [hlj, hej, hF] at HR
      clear hlj hej hF hfn
      by_cases h0 : ej = 0
      · subst h0
        have HV : Hid (V = F) := hid (by rw [HR.out.2.2]; simp)
        have Z1 := hid (len_attr F)
        have Z2 := hid (size_zero F)
        have Z3 := hid (rowA_one F)
        go_wp2_with fail
        with_reducible refine (failed_no g lj _ I.out).mono ?_
        rintro en w4 ⟨rfl, rfl⟩
        go_wp2_with (first
          | (with_reducible refine wpList_load_row (o := ⟨some 22, _, _, _, _, _⟩) rfl 35 (.tmp 3) rfl m rfl 35 (rowA F) (0, 0) _ M.out.heap Tryz.underlying35 rfl Z1.out ?_)
          | (with_reducible refine wpList_store_row (o := ⟨none, _, _, _, _, _⟩) rfl 35 (.tmp 2) (.tmp 22) rfl k (rowA F) rfl rfl 35 _ K.out.heap Z1.out Z2.out Z3.out ?_))
        exact bodyPost_ret (v := .agg (rowA F)) (results_cell_row (p := 2) (ty := 35) (by kernel_rfl) _ _ k 35 (rowA F) (0, 0) _ rfl (setRow_heap wr k _ (rowA F) _ _ K.out.heap) Tryz.underlying35 rfl Z1.out) rfl ⟨by rw [HV.out], by rw [HR.out.1, HR.out.2.1]; exact I.out.setRow hgk, only_setRow G.out (by have := HK.out; omega)⟩
      · have HV : Hid (V = fun _ => 0) := hid (by rw [HR.out.2.2]; simp [h0])
        have Z1 : Hid ((Tryz.prog.info? 35).map (·.size) = some (#[.int .i64 0, .int .i64 0, .int .i64 0, .int .i64 0, .int .i64 0, .int .i64 0, .int .i64 0, .int .i64 0] : Array Value).size) := hid info_attr
        have Z3 : Hid ((#[.int .i64 0, .int .i64 0, .int .i64 0, .int .i64 0, .int .i64 0, .int .i64 0, .int .i64 0, .int .i64 0] : Array Value).all (·.oneCell') = true) := hid (rowA_one fun _ => 0)
        go_wp2_with fail
        with_reducible refine (failed_yes g lj ej _ I.out (by omega)).mono ?_
        rintro en w4 ⟨rfl, rfl⟩
        clear h0
        go_wp2_with (first
          | (with_reducible refine wpList_store_row (o := ⟨none, _, _, _, _, _⟩) rfl 35 (.tmp 2) (.tmp 21) rfl k #[.int .i64 0, .int .i64 0, .int .i64 0, .int .i64 0, .int .i64 0, .int .i64 0, .int .i64 0, .int .i64 0] rfl rfl 35 _ K.out.heap Z1.out rfl Z3.out ?_))
        exact bodyPost_ret (v := .agg #[.int .i64 0, .int .i64 0, .int .i64 0, .int .i64 0, .int .i64 0, .int .i64 0, .int .i64 0, .int .i64 0]) (results_cell_row (p := 2) (ty := 35) (by kernel_rfl) _ _ k 35 #[.int .i64 0, .int .i64 0, .int .i64 0, .int .i64 0, .int .i64 0, .int .i64 0, .int .i64 0, .int .i64 0] (0, 0) _ rfl (setRow_heap wr k _ #[.int .i64 0, .int .i64 0, .int .i64 0, .int .i64 0, .int .i64 0, .int .i64 0, .int .i64 0, .int .i64 0] _ _ K.out.heap) Tryz.underlying35 rfl Z1.out) rfl ⟨by rw [HV.out]; rfl, by rw [HR.out.1, HR.out.2.1]; exact I.out.setRow hgk, only_setRow G.out (by have := HK.out; omega)⟩
theorem attake_any (g : Nat) (l : List Nat) (e : Nat) (l' : List Nat) (e' : Nat) (V : Nat → Int) (w : World) (h : InAt w g l e) (hf : Fine l e) (h8 : ∀ x ∈ l, x < 256) (hl : l.length ≤ 9223372036854775807) (hs : sAttr l e = (l', e', V)) :
    Calls Tryz.prog 96 #[.pointer (some ⟨g, 0, none⟩)] w (Turns (fun en => en = .returned (.agg (rowA V))) g l' e' w) := by
  obtain ⟨h1, h2, h3⟩ := sAttr_all l e
  rw [hs] at h1 h2 h3
  exact attake_as (stA l e) g l e l' e' V w h hf h8 hl ⟨rfl, rfl, rfl⟩ (fun j => ⟨rfl, rfl, rfl⟩) (stA_fine hf h8) ⟨h1, h2, h3⟩
end Go.Proofs.YtohffiehmmcgbaaGreatDoor
namespace Go.Proofs.YtohffiehmmcgbaaGreatDoor
open Go.ChangeShapes Go.WideShapes Go.ChangeAt Go.RowKit
set_option linter.unusedVariables false
set_option linter.unusedSimpArgs false
def putTo (F : Nat → Nat) : Nat → List Nat
  | 0 => shortN (F 0)
  | j + 1 => putTo F j ++ shortN (F (1 + j))
def putF (f : Nat → Int) : Nat → Int := if okB f then f else fun _ => 0
def natA (f : Nat → Int) : Nat → Nat := fun i => (f i).toNat
theorem okB_zero : okB (fun _ => 0) = true := by decide
theorem putF_ok (f : Nat → Int) : okB (putF f) = true := by
  unfold putF
  by_cases h : okB f = true
  · rw [if_pos h]; exact h
  · rw [if_neg h]; exact okB_zero
theorem ok_nat {f : Nat → Int} (h : okB f = true) : (∀ i, i < 8 → f i = (natA f i : Int)) ∧ natA f 0 ≤ 1073741824 ∧ ∀ j, j < 7 → natA f (1 + j) ≤ 1024 := by
  obtain ⟨h0, h1⟩ := okB_iff.1 h
  refine ⟨fun i hi => ?_, by unfold natA; omega, fun j hj => by have := h1 j hj; unfold natA; rw [Nat.add_comm]; omega⟩
  unfold natA
  cases i with
  | zero => omega
  | succ i => have := h1 i (by omega); omega
theorem putTo_len {F : Nat → Nat} (h0 : F 0 ≤ 1073741824) (h : ∀ j, j < 7 → F (1 + j) ≤ 1024) : ∀ j, j ≤ 7 → (putTo F j).length ≤ 10 * (j + 1)
  | 0, _ => by unfold putTo; have := shortN_len10 (v := F 0) (by omega); omega
  | j + 1, hj => by
    have h1 := putTo_len h0 h j (by omega)
    have h2 := h j (by omega)
    have h3 := shortN_len10 (v := F (1 + j)) (by omega)
    unfold putTo
    rw [List.length_append]
    omega
def PutsA (base g : Nat) (l : List Nat) (w : World) (en : Ending) (w' : World) : Prop := en = .returned (.tuple #[]) ∧ OutAt w' base g l ∧ Below base w w' ∧ Stays g w w'
theorem OutAt.glt {w : World} {base g : Nat} {l : List Nat} (h : OutAt w base g l) : g < w.heap.size := by
  obtain ⟨_, v, h1, _⟩ := h
  exact h1.lt
set_option maxRecDepth 100000 in
set_option maxHeartbeats 2000000 in
theorem attput_any (base g : Nat) (l : List Nat) (f : Nat → Int) (w : World) (h : OutAt w base g l) (hlen : l.length + 80 ≤ 140737488355328) :
    Calls Tryz.prog 105 #[.agg #[.int .i64 (f 0), .int .i64 (f 1), .int .i64 (f 2), .int .i64 (f 3), .int .i64 (f 4), .int .i64 (f 5), .int .i64 (f 6), .int .i64 (f 7)], .pointer (some ⟨g, 0, none⟩)] w (PutsA base g (l ++ putTo (natA (putF f)) 7) w) := by
  obtain ⟨o, ho⟩ : ∃ o, okB f = o := ⟨_, rfl⟩
  have HO := hid ho
  have HP : Hid (putF f = if o = true then f else fun _ => 0) := hid (by unfold putF; rw [ho])
  have HQ := hid (putF_ok f)
  obtain ⟨U, hU⟩ : ∃ U, putF f = U := ⟨_, rfl⟩
  rw [hU] at HP HQ
  rw [hU]
  clear ho hU
  have hB := h.base_le
  have hgl := h.glt
  have HI := hid h
  clear h
  go_enter Tryz.func105, Tryz.ntmps105
  go_upto_region 1 with fail
  obtain ⟨W, hW⟩ : ∃ W, w.alloc (.cells #[.int .i64 (f 0), .int .i64 (f 1), .int .i64 (f 2), .int .i64 (f 3), .int .i64 (f 4), .int .i64 (f 5), .int .i64 (f 6), .int .i64 (f 7)] 35) = W := ⟨_, rfl⟩
  rw [hW]
  obtain ⟨K0, KB⟩ := one_new hW
  rw [show #[.int .i64 (f 0), .int .i64 (f 1), .int .i64 (f 2), .int .i64 (f 3), .int .i64 (f 4), .int .i64 (f 5), .int .i64 (f 6), .int .i64 (f 7)] = rowA f from rfl] at K0
  obtain ⟨k, hk⟩ : ∃ k, w.heap.size = k := ⟨_, rfl⟩
  have HF : Hid (∀ W, Below k w W → OutAt W base g l ∧ Below base w W ∧ Stays g w W) := hid (fun W h => by
    rw [← hk] at h
    exact ⟨HI.out.later h, h.mono hB, Stays.of_below h⟩)
  rw [hk] at K0 KB hB hgl
  rw [hk]
  clear hW hk HI
  obtain ⟨c0, c1, c2, c3, c4, c5, c6, c7⟩ := K0.out.eight
  go_wp2_with fail
  clear c0 c1 c2 c3 c4 c5 c6 c7
  with_reducible refine (aright8 f _).mono ?_
  rw [HO.out]
  rintro e w1 ⟨rfl, hb1⟩
  have K1 := hid (K0.out.below hb1 K0.out.lt)
  have B1 := hid (KB.out.trans (hb1.mono (by have := K0.out.lt; omega)))
  clear hb1 K0 KB
  cases o
  case' false =>
    have Z1 : Hid ((Tryz.prog.info? 35).map (·.size) = some (#[.int .i64 0, .int .i64 0, .int .i64 0, .int .i64 0, .int .i64 0, .int .i64 0, .int .i64 0, .int .i64 0] : Array Value).size) := hid info_attr
    have Z2 : Hid ((rowA f).size = (#[.int .i64 0, .int .i64 0, .int .i64 0, .int .i64 0, .int .i64 0, .int .i64 0, .int .i64 0, .int .i64 0] : Array Value).size) := hid (rowA_size f)
    have Z3 : Hid ((#[.int .i64 0, .int .i64 0, .int .i64 0, .int .i64 0, .int .i64 0, .int .i64 0, .int .i64 0, .int .i64 0] : Array Value).all (·.oneCell') = true) := hid (rowA_one fun _ => 0)
    go_upto_region 3 with (with_reducible refine wpList_store_row (o := ⟨none, _, _, _, _, _⟩) rfl 35 (.tmp 2) (.tmp 9) rfl k #[.int .i64 0, .int .i64 0, .int .i64 0, .int .i64 0, .int .i64 0, .int .i64 0, .int .i64 0, .int .i64 0] rfl rfl 35 _ K1.out.heap Z1.out Z2.out Z3.out ?_)
    have HU : Hid ((fun _ => 0) = U) := hid (by rw [HP.out]; simp)
    obtain ⟨W2, hW2⟩ : ∃ W2, w1.setRow k #[.int .i64 0, .int .i64 0, .int .i64 0, .int .i64 0, .int .i64 0, .int .i64 0, .int .i64 0, .int .i64 0] = W2 := ⟨_, rfl⟩
    rw [hW2]
    have K2 : Hid (Blk W2 k 35 (rowA U)) := hid (by rw [← hW2, ← HU.out]; exact setRow_heap w1 k _ _ _ _ K1.out.heap)
    have B2 : Hid (Below k w W2) := hid (by rw [← hW2]; exact below_setRow_ B1.out (Nat.le_refl _))
    clear hW2 K1 B1 HU Z1 Z2 Z3
  case' true =>
    have HU : f = U := by rw [HP.out]; simp
    rw [HU] at K1
    go_upto_region 3 with fail
    clear HU
    obtain ⟨W2, hW2⟩ : ∃ W2, w1 = W2 := ⟨_, rfl⟩
    rw [hW2] at K1 B1 ⊢
    have K2 := K1
    have B2 := B1
    clear hW2 K1 B1
  all_goals
    obtain ⟨hn, hn0, hn1⟩ := ok_nat HQ.out
    have HNL := hid (putTo_len hn0 hn1)
    have HN := hid hn
    have HN1 := hid hn1
    obtain ⟨x, hx⟩ : ∃ x, natA U 0 = x := ⟨_, rfl⟩
    have HX : Hid (putTo (natA U) 0 = shortN x) := hid (by unfold putTo; rw [hx])
    have c0 := K2.out.att (i := 0) (by decide)
    rw [hn 0 (by decide), hx] at c0
    rw [hx] at hn0
    clear hn hn1 hx
    have HC : Hid (IntKind.u64.wrap (x : Int) = (x : Int)) := hid (by rw [IntKind.wrap_u64]; omega)
    have H2 := HF.out _ B2.out
    have O2 := hid H2.1
    have T2 := hid H2.2.1
    have S2 := hid H2.2.2
    clear H2
    go_wp2_with fail
    with_reducible refine (outshortk_any base g l x _ _ O2.out (by first | rfl | exact HC.out) (by omega) (by omega)).mono ?_
    rintro en w3 ⟨⟨rfl, ho, hb⟩, hs⟩
    have K3 := hid (hs.2 k _ _ (by omega) (by decide) K2.out)
    have O3 := hid ho
    have T3 := hid (T2.out.trans hb)
    have S3 := hid (S2.out.trans hs)
    clear ho hb hs K2 B2 O2 T2 S2 c0
    have MR := hid K3.out.range
    have H7 := hid (len_seven U)
    go_wp2_with (with_reducible refine wpList_load_mid (op := ⟨some 16, _, _, _, _, _⟩) rfl 33 (.tmp 15) rfl k 1 rfl (lsD U) _ MR.out Tryz.underlying33 rfl H7.out ?_)
    have HI : Hid (∀ j : Nat, j < 7 → (lsD U)[j]? = some (.int .i64 (natA U (1 + j) : Int))) := hid (fun j hj => by rw [lsD_get U hj, HN.out (j + 1) (by omega), Nat.add_comm])
    obtain ⟨ds, hds⟩ : ∃ ds, lsD U = ds := ⟨_, rfl⟩
    rw [hds] at HI
    rw [hds]
    clear hds MR H7 K3
    go_loopw [17] (fun iv wr => ∃ j : Nat, j ≤ 7 ∧ iv = .int .i64 j ∧ Hid (OutAt wr base g (l ++ putTo (natA U) j)) ∧ Hid (Below base w wr) ∧ Hid (Stays g w wr)) (fun iv _ => 7 - (intOf iv).toNat)
    case atStart => exact ⟨0, by omega, rfl, hid (by rw [HX.out]; exact O3.out), T3, S3⟩
    case round =>
      obtain ⟨j, hj, rfl, O, T, S⟩ := hrel
      by_cases hlt : j < 7
      · have hx := run_index_seven ds.toArray j _ hlt ((List.getElem?_toArray ..).trans (HI.out j hlt))
        have hy := HN1.out j hlt
        have hll := HNL.out j (by omega)
        have HR : Hid (putTo (natA U) (j + 1) = putTo (natA U) j ++ shortN (natA U (1 + j))) := hid rfl
        obtain ⟨y, hyy⟩ : ∃ y, natA U (1 + j) = y := ⟨_, rfl⟩
        obtain ⟨P, hP⟩ : ∃ P, putTo (natA U) j = P := ⟨_, rfl⟩
        rw [hyy] at hx hy HR
        rw [hP] at hll HR O
        have HL : Hid ((l ++ P).length + 10 ≤ 140737488355328) := hid (by rw [List.length_append]; omega)
        have HC : Hid (IntKind.u64.wrap (y : Int) = (y : Int)) := hid (by rw [IntKind.wrap_u64]; omega)
        clear hyy hP hll
        go_wp2_with fail
        with_reducible refine (outshortk_any base g (l ++ P) y _ _ O.out (by first | rfl | exact HC.out) (by omega) HL.out).mono ?_
        rintro en w4 ⟨⟨rfl, ho, hb⟩, hs⟩
        have O4 := hid ho
        have T4 := hid (T.out.trans hb)
        have S4 := hid (S.out.trans hs)
        clear ho hb hs
        go_wp2
        go_roundw
        case rel => exact ⟨j + 1, by omega, by go_num, hid (by rw [HR.out, ← List.append_assoc]; exact O4.out), T4, S4⟩
        case measure => simp only [intOf]; omega
      · have hj7 : j = 7 := by omega
        subst hj7
        obtain ⟨P, hP⟩ : ∃ P, putTo (natA U) 7 = P := ⟨_, rfl⟩
        rw [hP] at O ⊢
        have HPP := hid hP
        clear hP
        go_wp2
        go_end0
        exact ⟨rfl, O.out, T.out, S.out⟩
end Go.Proofs.YtohffiehmmcgbaaGreatDoor
namespace Go.Proofs.YtohffiehmmcgbaaGreatDoor
open Go.Lib
set_option linter.unusedVariables false
set_option linter.unusedSimpArgs false
theorem sName_sound {l : List Nat} {e : Nat} {l' : List Nat} {e' r s : Nat} (h : Sound l e) (hs : sName l e = (l', e', r, s)) : Sound l' e' ∧ (e' = 0 → e = 0 ∧ l = ([r] ++ shortN s) ++ l') := by
  obtain ⟨l1, e1, b, h1⟩ : ∃ x y z, sByte l e = (x, y, z) := ⟨_, _, _, rfl⟩
  obtain ⟨s1, b1⟩ := sByte_sound h h1
  obtain ⟨l2, e2, h2⟩ : ∃ x y, midName l e = (x, y) := ⟨_, _, rfl⟩
  obtain ⟨l3, e3, v, h3⟩ : ∃ x y z, sShort l2 e2 1023 = (x, y, z) := ⟨_, _, _, rfl⟩
  have hm : (if 6 < b then (leftE e1 12 l1, firstE e1 12) else (l1, e1)) = (l2, e2) := by rw [← h2]; unfold midName; rw [h1]
  have he : endName l e = (l3, e3, v) := by unfold endName; rw [h2]; exact h3
  have s2 : Sound l2 e2 ∧ (6 < b → e2 ≠ 0) ∧ (¬ 6 < b → l1 = l2 ∧ e1 = e2) := by
    split at hm
    · rename_i hb
      simp only [Prod.mk.injEq] at hm
      obtain ⟨rfl, rfl⟩ := hm
      exact ⟨sound_fail (by omega) s1, fun _ => firstE_zero_in (by omega), fun hn => absurd hb hn⟩
    · rename_i hn
      simp only [Prod.mk.injEq] at hm
      obtain ⟨rfl, rfl⟩ := hm
      exact ⟨s1, fun h => absurd h hn, fun _ => ⟨rfl, rfl⟩⟩
  obtain ⟨s3, b3⟩ := sShort_sound s2.1 h3
  unfold sName at hs
  rw [he, h1] at hs
  simp only [Prod.mk.injEq] at hs
  obtain ⟨rfl, rfl, hv⟩ := hs
  refine ⟨s3, fun h0 => ?_⟩
  subst h0
  rw [if_pos rfl] at hv
  simp only [Prod.mk.injEq] at hv
  obtain ⟨rfl, rfl⟩ := hv
  obtain ⟨z2, j2, _⟩ := sShort_inv s2.1 h3
  have hb : ¬ 6 < b := fun hb => s2.2.1 hb z2
  obtain ⟨rfl, rfl⟩ := s2.2.2 hb
  subst z2
  obtain ⟨z, j⟩ := sByte_inv h h1
  exact ⟨z, by rw [j, j2, List.append_assoc]⟩
theorem sBallot_sound {l : List Nat} {e : Nat} {l' : List Nat} {e' v : Nat} (h : Sound l e) (hs : sBallot l e = (l', e', v)) : Sound l' e' ∧ v < 4294967296 ∧ (e' = 0 → e = 0 ∧ l = shortN v ++ l') := by
  obtain ⟨l1, e1, b, h1⟩ : ∃ x y z, sShort l e 4294967295 = (x, y, z) := ⟨_, _, _, rfl⟩
  obtain ⟨s1, b1⟩ := sShort_sound h h1
  unfold sBallot at hs
  rw [h1] at hs
  simp only at hs
  split at hs
  · simp only [Prod.mk.injEq] at hs
    obtain ⟨rfl, rfl, rfl⟩ := hs
    refine ⟨s1, by omega, fun h0 => ?_⟩
    subst h0
    obtain ⟨z, j, _⟩ := sShort_inv h h1
    exact ⟨z, j⟩
  · simp only [Prod.mk.injEq] at hs
    obtain ⟨rfl, rfl, rfl⟩ := hs
    exact ⟨sound_fail (by omega) s1, by omega, fun h0 => absurd h0 (firstE_zero_in (by omega))⟩
theorem putTo_congr {F G : Nat → Nat} : ∀ j, (∀ i, i ≤ j → F i = G i) → putTo F j = putTo G j
  | 0, h => by unfold putTo; rw [h 0 (Nat.le_refl _)]
  | j + 1, h => by unfold putTo; rw [putTo_congr j (fun i hi => h i (by omega)), h (1 + j) (by omega)]
theorem stA_sound {l : List Nat} {e : Nat} (h : Sound l e) (j : Nat) : Sound (stA l e j).1 (stA l e j).2.1 := by
  obtain ⟨a, b, c⟩ := stA_fine h.fine h.bytes j
  exact ⟨a, b, Nat.le_trans c h.len⟩
theorem stA_inv {l : List Nat} {e : Nat} (h : Sound l e) : ∀ j, (stA l e j).2.1 = 0 → e = 0 ∧ l = putTo (natA (stA l e j).2.2) j ++ (stA l e j).1
  | 0, h0 => by
    obtain ⟨l1, e1, v, h1⟩ : ∃ x y z, sShort l e 1073741824 = (x, y, z) := ⟨_, _, _, rfl⟩
    unfold stA at h0 ⊢
    rw [h1] at h0 ⊢
    simp only at h0 ⊢
    subst h0
    obtain ⟨z, j, _⟩ := sShort_inv h h1
    refine ⟨z, ?_⟩
    rw [j]
    unfold putTo natA upd
    simp
  | j + 1, h0 => by
    have hS := stA_sound h j
    have ih := stA_inv h j
    obtain ⟨l0, e0, V, hj⟩ : ∃ x y z, stA l e j = (x, y, z) := ⟨_, _, _, rfl⟩
    rw [hj] at hS ih
    simp only at hS ih
    obtain ⟨l1, e1, v, h1⟩ : ∃ x y z, sShort l0 e0 1024 = (x, y, z) := ⟨_, _, _, rfl⟩
    unfold stA at h0 ⊢
    rw [hj] at h0 ⊢
    simp only at h0 ⊢
    rw [h1] at h0 ⊢
    simp only at h0 ⊢
    subst h0
    obtain ⟨z, k, _⟩ := sShort_inv hS h1
    obtain ⟨z2, k2⟩ := ih z
    refine ⟨z2, ?_⟩
    have hc : putTo (natA (upd V (1 + j) (v : Nat))) j = putTo (natA V) j := putTo_congr j fun i hi => by
      unfold natA upd
      rw [if_neg (by omega)]
    unfold putTo
    rw [hc, k2, k, List.append_assoc]
    unfold natA upd
    simp
theorem sAttr_sound {l : List Nat} {e : Nat} {l' : List Nat} {e' : Nat} {V : Nat → Int} (h : Sound l e) (hs : sAttr l e = (l', e', V)) : Sound l' e' ∧ (e' = 0 → e = 0 ∧ l = putTo (natA V) 7 ++ l') := by
  have h1 := stA_sound h 7
  have h2 := stA_inv h 7
  obtain ⟨k1, k2, k3⟩ := sAttr_all l e
  rw [hs] at k1 k2 k3
  simp only at k1 k2 k3
  generalize stA l e 7 = st at h1 h2 k1 k2 k3
  obtain ⟨a, b, c⟩ := st
  simp only at h1 h2 k1 k2 k3
  subst k1 k2
  refine ⟨h1, fun h0 => ?_⟩
  rw [if_pos h0] at k3
  subst k3
  exact h2 h0
def encJ (x : J) : List Nat := ((([x.r.toNat] ++ shortN x.s.toNat) ++ shortN x.bal.toNat) ++ [x.st.toNat]) ++ (if x.st = 0 then [] else ((shortN x.vote.toNat ++ [truthN x.same]) ++ enc x.c) ++ putTo (natA x.f) 7)
def valE (b : Nat) (l : List Nat) (e : Nat) : List Nat × Nat × Nat × Bool × K × (Nat → Int) :=
  if b = 0 then (l, e, 0, false, zeroK, fun _ => 0) else
    match sBallot l e with
    | (l5, e5, vt) => match sTruth l5 e5 with
      | (l6, e6, sm) => match sCmd l6 e6 with
        | (l7, e7, c) => match sAttr l7 e7 with
          | (l8, e8, V) => (l8, e8, vt, sm, c, V)
def statE (b : Nat) (l : List Nat) (e : Nat) : List Nat × Nat := if 3 < b then (leftE e 22 l, firstE e 22) else (l, e)
def lastJ (s : List Nat × Nat × J) : List Nat × Nat × J :=
  if rightJ s.2.2 then (s.1, s.2.1, if s.2.1 = 0 then s.2.2 else zeroJ) else (leftE s.2.1 10 s.1, firstE s.2.1 10, zeroJ)
def sInst (l : List Nat) (e : Nat) : List Nat × Nat × J :=
  match sName l e with
  | (l1, e1, r, s) => match sBallot l1 e1 with
    | (l2, e2, v) => match sByte l2 e2 with
      | (l3, e3, b) => match statE b l3 e3 with
        | (l4, e4) => match valE b l4 e4 with
          | (l8, e8, vt, sm, c, V) => lastJ (l8, e8, ⟨r, s, b, v, vt, sm, c, V⟩)
theorem sInst_eq {l l1 l2 l3 l4 l8 : List Nat} {e e1 e2 e3 e4 e8 r s v b vt : Nat} {sm : Bool} {c : K} {V : Nat → Int} (h1 : sName l e = (l1, e1, r, s)) (h2 : sBallot l1 e1 = (l2, e2, v)) (h3 : sByte l2 e2 = (l3, e3, b)) (h4 : statE b l3 e3 = (l4, e4)) (h5 : valE b l4 e4 = (l8, e8, vt, sm, c, V)) :
    sInst l e = lastJ (l8, e8, ⟨((r : Nat) : Int), ((s : Nat) : Int), ((b : Nat) : Int), ((v : Nat) : Int), ((vt : Nat) : Int), sm, c, V⟩) := by
  unfold sInst
  simp only [h1, h2, h3, h4, h5]
theorem statE_sound {b : Nat} {l : List Nat} {e : Nat} {l' : List Nat} {e' : Nat} (h : Sound l e) (hs : statE b l e = (l', e')) : Sound l' e' ∧ (e' = 0 → e = 0 ∧ l = l' ∧ b ≤ 3) := by
  unfold statE at hs
  split at hs
  · simp only [Prod.mk.injEq] at hs
    obtain ⟨rfl, rfl⟩ := hs
    exact ⟨sound_fail (by omega) h, fun h0 => absurd h0 (firstE_zero_in (by omega))⟩
  · rename_i hn
    simp only [Prod.mk.injEq] at hs
    obtain ⟨rfl, rfl⟩ := hs
    exact ⟨h, fun h0 => ⟨h0, rfl, by omega⟩⟩
theorem zeroK_ok : okK zeroK := ⟨by simp, by simp, by simp, by simp, by simp, by simp⟩
theorem valE_some {b : Nat} {l : List Nat} {e : Nat} {l' : List Nat} {e' vt : Nat} {sm : Bool} {c : K} {V : Nat → Int} (hb : b ≠ 0) (hs : valE b l e = (l', e', vt, sm, c, V)) :
    ∃ l5 e5 l6 e6 l7 e7, sBallot l e = (l5, e5, vt) ∧ sTruth l5 e5 = (l6, e6, sm) ∧ sCmd l6 e6 = (l7, e7, c) ∧ sAttr l7 e7 = (l', e', V) := by
  obtain ⟨l5, e5, a, h5⟩ : ∃ x y z, sBallot l e = (x, y, z) := ⟨_, _, _, rfl⟩
  obtain ⟨l6, e6, d, h6⟩ : ∃ x y z, sTruth l5 e5 = (x, y, z) := ⟨_, _, _, rfl⟩
  obtain ⟨l7, e7, f, h7⟩ : ∃ x y z, sCmd l6 e6 = (x, y, z) := ⟨_, _, _, rfl⟩
  obtain ⟨l8, e8, g, h8⟩ : ∃ x y z, sAttr l7 e7 = (x, y, z) := ⟨_, _, _, rfl⟩
  unfold valE at hs
  rw [if_neg hb] at hs
  simp only [h5, h6, h7, h8, Prod.mk.injEq] at hs
  obtain ⟨rfl, rfl, rfl, rfl, rfl, rfl⟩ := hs
  exact ⟨l5, e5, l6, e6, l7, e7, h5, h6, h7, h8⟩
theorem valE_sound {b : Nat} {l : List Nat} {e : Nat} {l' : List Nat} {e' vt : Nat} {sm : Bool} {c : K} {V : Nat → Int} (h : Sound l e) (hs : valE b l e = (l', e', vt, sm, c, V)) :
    Sound l' e' ∧ vt < 4294967296 ∧ okK c ∧ c.foot.size ≤ 64 ∧ c.path.size ≤ 64 ∧ (e' = 0 → e = 0 ∧ l = (if b = 0 then [] else ((shortN vt ++ [truthN sm]) ++ enc c) ++ putTo (natA V) 7) ++ l') := by
  by_cases hb : b = 0
  · unfold valE at hs
    rw [if_pos hb] at hs
    simp only [Prod.mk.injEq] at hs
    obtain ⟨rfl, rfl, rfl, rfl, rfl, rfl⟩ := hs
    exact ⟨h, by omega, zeroK_ok, by decide, by decide, fun h0 => ⟨h0, by rw [if_pos hb]; rfl⟩⟩
  · obtain ⟨l5, e5, l6, e6, l7, e7, h5, h6, h7, h8⟩ := valE_some hb hs
    obtain ⟨s5, b5, i5⟩ := sBallot_sound h h5
    have s6 := sTruth_sound s5 h6
    obtain ⟨s7, ok7, f7, p7, _, i7⟩ := sCmd_sound s6 h7
    obtain ⟨s8, i8⟩ := sAttr_sound s7 h8
    refine ⟨s8, b5, ok7, f7, p7, fun h0 => ?_⟩
    obtain ⟨z8, j8⟩ := i8 h0
    obtain ⟨z7, j7⟩ := i7 z8
    subst z7
    obtain ⟨z6, j6⟩ := sTruth_inv s5 h6
    obtain ⟨z5, j5⟩ := i5 z6
    refine ⟨z5, ?_⟩
    rw [if_neg hb, j5, j6, j7, j8]
    simp only [List.append_assoc]
theorem sInst_sound {l : List Nat} {e : Nat} {l' : List Nat} {e' : Nat} {x : J} (h : Sound l e) (hs : sInst l e = (l', e', x)) :
    Sound l' e' ∧ okJ x ∧ okK x.c ∧ x.c.foot.size ≤ 64 ∧ x.c.path.size ≤ 64 ∧ (e' ≠ 0 → x = zeroJ) ∧ (e' = 0 → e = 0 ∧ rightJ x = true ∧ l = encJ x ++ l') := by
  obtain ⟨l1, e1, r, s, h1⟩ : ∃ x y z w, sName l e = (x, y, z, w) := ⟨_, _, _, _, rfl⟩
  obtain ⟨l2, e2, v, h2⟩ : ∃ x y z, sBallot l1 e1 = (x, y, z) := ⟨_, _, _, rfl⟩
  obtain ⟨l3, e3, b, h3⟩ : ∃ x y z, sByte l2 e2 = (x, y, z) := ⟨_, _, _, rfl⟩
  obtain ⟨l4, e4, h4⟩ : ∃ x y, statE b l3 e3 = (x, y) := ⟨_, _, rfl⟩
  obtain ⟨l8, e8, vt, sm, c, V, h8⟩ : ∃ a b' c d f g, valE b l4 e4 = (a, b', c, d, f, g) := ⟨_, _, _, _, _, _, rfl⟩
  obtain ⟨s1, i1⟩ := sName_sound h h1
  obtain ⟨s2, b2, i2⟩ := sBallot_sound s1 h2
  obtain ⟨s3, b3⟩ := sByte_sound s2 h3
  obtain ⟨s4, i4⟩ := statE_sound s3 h4
  obtain ⟨s8, b8, ok8, f8, p8, i8⟩ := valE_sound s4 h8
  have hz : okJ zeroJ := ⟨by simp [zeroJ], by simp [zeroJ]⟩
  rw [sInst_eq h1 h2 h3 h4 h8] at hs
  unfold lastJ at hs
  simp only at hs
  cases hr : rightJ ⟨((r : Nat) : Int), ((s : Nat) : Int), ((b : Nat) : Int), ((v : Nat) : Int), ((vt : Nat) : Int), sm, c, V⟩
  · rw [hr] at hs
    simp only [Bool.false_eq_true, if_false, Prod.mk.injEq] at hs
    obtain ⟨rfl, rfl, rfl⟩ := hs
    exact ⟨sound_fail (by omega) s8, hz, zeroK_ok, by decide, by decide, fun _ => rfl, fun h0 => absurd h0 (firstE_zero_in (by omega))⟩
  · rw [hr] at hs
    simp only [if_true, Prod.mk.injEq] at hs
    obtain ⟨rfl, rfl, hx⟩ := hs
    by_cases h0 : e8 = 0
    · rw [if_pos h0] at hx
      subst hx
      refine ⟨s8, ⟨by simp only; omega, by simp only; omega⟩, ok8, f8, p8, fun hn => absurd h0 hn, fun _ => ?_⟩
      obtain ⟨z4, j8⟩ := i8 h0
      obtain ⟨z3, j4, _⟩ := i4 z4
      subst z3
      obtain ⟨z2, j3⟩ := sByte_inv s2 h3
      obtain ⟨z1, j2⟩ := i2 z2
      obtain ⟨z0, j1⟩ := i1 z1
      refine ⟨z0, hr, ?_⟩
      unfold encJ
      simp only [Int.toNat_natCast]
      rw [j1, j2, j3, j4, j8]
      by_cases hb : b = 0
      · subst hb
        simp [List.append_assoc]
      · rw [if_neg hb, if_neg (by omega)]
        simp only [List.append_assoc]
    · rw [if_neg h0] at hx
      subst hx
      exact ⟨s8, hz, zeroK_ok, by decide, by decide, fun _ => rfl, fun h => absurd h h0⟩
theorem rightJ_in {x : J} (hok : okJ x) (hr : rightJ x = true) : ∃ a b v u t : Nat, x.r = a ∧ x.s = b ∧ x.bal = v ∧ x.vote = u ∧ x.st = t ∧ a < 7 ∧ b < 1024 ∧ v < 4294967296 ∧ ballotB v = true ∧ u < 4294967296 ∧ ballotB u = true ∧ t ≤ 3 ∧
    (t ≠ 0 → rightK x.c = true ∧ okB x.f = true) ∧ (t = 0 → x.vote = 0 ∧ x.same = false ∧ x.c = zeroK ∧ ∀ i, i < 8 → x.f i = 0) := by
  unfold rightJ at hr
  simp only [Bool.and_eq_true] at hr
  obtain ⟨⟨hn, hb⟩, hv⟩ := hr
  obtain ⟨a, b, ha, hb2, ha7, hb10, _⟩ := name_in hn
  unfold balB at hb
  by_cases h0 : x.st = 0
  · rw [if_pos h0] at hv
    unfold eqJ emptyJ at hv
    simp only [Bool.and_eq_true, beq_iff_eq, decide_eq_true_eq, eqA_iff] at hv
    obtain ⟨_, _, _, h4, h5, h6, h7⟩ := hv
    refine ⟨a, b, x.bal.toNat, 0, 0, ha, hb2, by have := hok.1; omega, h4, h0, ha7, hb10, by have := hok.1; omega, hb, by omega, by decide, by omega, fun h => absurd rfl h, fun _ => ⟨h4, h5, h6, h7⟩⟩
  · rw [if_neg h0] at hv
    unfold valB statB balB at hv
    simp only [Bool.and_eq_true, decide_eq_true_eq] at hv
    obtain ⟨hs, ⟨⟨⟨⟨hv1, hv2⟩, hv3⟩, hv4⟩, hv5⟩⟩ := hv
    unfold ownB at hv5
    simp only [Bool.and_eq_true, decide_eq_true_eq] at hv5
    refine ⟨a, b, x.bal.toNat, x.vote.toNat, x.st.toNat, ha, hb2, by have := hok.1; omega, by have := hok.2; omega, by omega, ha7, hb10, by have := hok.1; omega, hb, by have := hok.2; omega, hv1, by omega, fun _ => ⟨hv4, hv5.1.1⟩, fun h => absurd h (by omega)⟩
theorem eqJ_self (x : J) : eqJ x x = true := by
  unfold eqJ
  simp [eqA_self]
end Go.Proofs.YtohffiehmmcgbaaGreatDoor
