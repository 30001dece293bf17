/-
  AttrTakes: for any bytes and any attributes the law's call returns true: what is taken is the document's, and what is put is taken again. No condition.
-/
import Derived.Test.YtfpmmajgnijboaaAKit
import Derived.Test.YtfpmmajgnijboaaARefT
import Derived.Test.YtfpmmajgnijboaaAPut
namespace Go.Proofs.Ytfpmmajgnijboaa.attrTakes
open Go.ChangeShapes Go.WideShapes Go.ChangeAt Go.RowKit
set_option linter.unusedVariables false
set_option linter.unusedSimpArgs false

def Yes (w : World) (e : Ending) (w' : World) : Prop := e = .returned (.bool true) ∧ Below w.heap.size w w'

theorem InAt.drew {w : World} {g : Nat} {l : List Nat} {e : Nat} (h : InAt w g l e) : InAt w.drew g l e := h

theorem sShort_put (v most : Nat) (r : List Nat) (hv : v < 18446744073709551616) (hm : v ≤ most) : sShort (shortN v ++ r) 0 most = (r, 0, v) := by
  unfold sShort
  rw [readN_short v r hv]
  simp only [if_true, if_neg (show ¬ most < v by omega), Prod.mk.injEq, and_true]
  simp
/-- What is read again behind the first number and j others. -/
def putV (F : Nat → Nat) : Nat → Nat → Int
  | 0 => upd (fun _ => 0) 0 (F 0 : Nat)
  | j + 1 => upd (putV F j) (1 + j) (F (1 + j) : Nat)
theorem stA_put {F : Nat → Nat} (h0 : F 0 ≤ 1073741824) (h : ∀ j, j < 7 → F (1 + j) ≤ 1024) : ∀ (j : Nat) (r : List Nat), j ≤ 7 → stA (putTo F j ++ r) 0 j = (r, 0, putV F j)
  | 0, r, _ => by
    unfold stA putTo putV
    rw [sShort_put (F 0) 1073741824 r (by omega) h0]
  | j + 1, r, hj => by
    have ih := stA_put h0 h j (shortN (F (1 + j)) ++ r) (by omega)
    have h1 := h j (by omega)
    unfold stA putTo putV
    rw [List.append_assoc, ih]
    simp only
    rw [sShort_put (F (1 + j)) 1024 r (by omega) h1]
theorem putV_at (F : Nat → Nat) : ∀ (j i : Nat), i ≤ j → putV F j i = (F i : Nat)
  | 0, i, hi => by obtain rfl : i = 0 := by omega
                   simp [putV, upd]
  | j + 1, i, hi => by
    unfold putV upd
    by_cases h : i = 1 + j
    · rw [if_pos h, h]
    · rw [if_neg h]; exact putV_at F j i (by omega)
theorem putTo_byte (F : Nat → Nat) : ∀ j, ∀ x ∈ putTo F j, x < 256
  | 0, x, hx => shortN_byte _ _ hx
  | j + 1, x, hx => by
    unfold putTo at hx
    rcases List.mem_append.1 hx with h | h
    · exact putTo_byte F j x h
    · exact shortN_byte _ _ h
/-- What is put, and what is read of it again. -/
theorem put_back (f : Nat → Int) : ∃ (l : List Nat) (V : Nat → Int), putTo (natA (putF f)) 7 = l ∧ sAttr l 0 = ([], 0, V) ∧ eqA V (putF f) = true ∧ (∀ x ∈ l, x < 256) ∧ l.length ≤ 80 := by
  obtain ⟨hn, h0, h1⟩ := ok_nat (putF_ok f)
  refine ⟨_, putV (natA (putF f)) 7, rfl, ?_, eqA_iff.2 fun i hi => ?_, putTo_byte _ 7, putTo_len h0 h1 7 (Nat.le_refl _)⟩
  · have h := stA_put h0 h1 7 [] (Nat.le_refl _)
    rw [List.append_nil] at h
    unfold sAttr
    rw [h]
    rfl
  · rw [putV_at _ 7 i (by omega), ← hn i hi]

theorem attput_0 (base g : Nat) (f : Nat → Int) (l : List Nat) (w : World) (h : OutAt w base g []) (hl : putTo (natA (putF f)) 7 = l) :
    Calls Try.prog 25 #[.agg #[.int .i64 (f 0), .int .i64 (f 1), .int .i64 (f 2), .int .i64 (f 3), .int .i64 (f 4), .int .i64 (f 5), .int .i64 (f 6), .int .i64 (f 7)], .pointer (some ⟨g, 0, none⟩)] w (PutsA base g l w) := by
  subst hl
  exact attput_any base g [] f w h (by simp)
theorem attake8 (g : Nat) (l : List Nat) (e : Nat) (l' : List Nat) (e' : Nat) (V : Nat → Int) (w : World) (h : InAt w g l e) (hf : Fine l e) (h8 : ∀ x ∈ l, x < 256) (hl : l.length ≤ 9223372036854775807) (hs : sAttr l e = (l', e', V)) :
    Calls Try.prog 22 #[.pointer (some ⟨g, 0, none⟩)] w (Turns (fun en => en = .returned (.agg #[.int .i64 (V 0), .int .i64 (V 1), .int .i64 (V 2), .int .i64 (V 3), .int .i64 (V 4), .int .i64 (V 5), .int .i64 (V 6), .int .i64 (V 7)])) g l' e' w) := attake_any g l e l' e' V w h hf h8 hl hs
theorem refattake_0 (A : Option Addr) (L : List Nat) (n c : Nat) (l' : List Nat) (e' : Nat) (V : Nat → Int) (w : World) (hn : L.length = n) (hl : n ≤ 9223372036854775807) (hc : n ≤ c) (hA0 : A = none → c = 0) (hx : ∀ x ∈ L, x < 256) (hA : Sees .u8 w A L) (hs : sAttr L 0 = (l', e', V)) :
    Calls Try.prog 21 #[.agg #[.slice A n c, .int .i64 0, .int .i64 0]] w (RefDoes A n L c l' e' (.agg #[.int .i64 (V 0), .int .i64 (V 1), .int .i64 (V 2), .int .i64 (V 3), .int .i64 (V 4), .int .i64 (V 5), .int .i64 (V 6), .int .i64 (V 7)]) w) :=
  refattake_any A L n c 0 0 l' e' V w hn (Nat.zero_le _) hl hc hA0 hx hA hs

/-- Two blocks that are made, one behind the other. -/
theorem two_made {w W : World} {a b : Array Value} {T U : TypeId} (hW : (w.alloc (.cells a T)).alloc (.cells b U) = W) : Blk W w.heap.size T a ∧ Blk W (w.heap.size + 1) U b ∧ Below w.heap.size w W := by
  subst hW
  have h1 := Blk.new (w.alloc (.cells a T)) U b
  rw [show (w.alloc (.cells a T)).heap.size = w.heap.size + 1 by simp] at h1
  exact ⟨(Blk.new w T a).alloc _, h1, ((Below.refl _ _).alloc (Nat.le_refl _) _).alloc (by simp) _⟩

/-- The boxes of the first half: what was got, what was wanted, the reader. -/
def Got (W : World) (gt gy : Nat) (V : Nat → Int) (A : Option Addr) (n c p e : Nat) : Prop :=
  Blk W gt 24 (rowA V) ∧ Blk W (gy + 1) 26 (rowA V) ∧ Blk W gy 43 #[.slice A n c, .int .i64 (p : Int), .int .i64 (e : Int)]
theorem Got.on {W W' : World} {gt gy : Nat} {V : Nat → Int} {A : Option Addr} {n c p e : Nat} (H : Got W gt gy V A n c p e) (hb : Below W.heap.size W W') : Got W' gt gy V A n c p e := ⟨H.1.below hb H.1.lt, H.2.1.below hb H.2.1.lt, H.2.2.below hb H.2.2.lt⟩
theorem Got.drew {W : World} {gt gy : Nat} {V : Nat → Int} {A : Option Addr} {n c p e : Nat} (H : Got W gt gy V A n c p e) : Got W.drew gt gy V A n c p e := H
theorem Got.open {W : World} {gt gy : Nat} {V : Nat → Int} {A : Option Addr} {n c p e : Nat} (H : Got W gt gy V A n c p e) : Eight W gt V ∧ Eight W (gy + 1) V ∧ W.cell? ⟨gy, 0, none⟩ = some (.slice A n c) ∧ W.cell? ⟨gy, 1, none⟩ = some (.int .i64 (p : Int)) ∧ W.cell? ⟨gy, 2, none⟩ = some (.int .i64 (e : Int)) :=
  ⟨H.1.eight, H.2.1.eight, (blk3 H.2.2).1⟩

set_option maxRecDepth 100000 in
set_option maxHeartbeats 4000000 in
theorem walk_b (A : Option Addr) (L : List Nat) (n c : Nat) (f : Nat → Int) (w : World) (hn : L.length = n) (hl : n ≤ 140737488355328) (hc : n ≤ c) (hA0 : A = none → c = 0) (hx : ∀ x ∈ L, x < 256) (hA : Sees .u8 w A L) :
    Calls Try.prog 6 #[.slice A n c, .agg #[.int .i64 (f 0), .int .i64 (f 1), .int .i64 (f 2), .int .i64 (f 3), .int .i64 (f 4), .int .i64 (f 5), .int .i64 (f 6), .int .i64 (f 7)]] w (Yes w) := by
  obtain ⟨l1, e1, V1, h1⟩ : ∃ l1 e1 V1, sAttr L 0 = (l1, e1, V1) := ⟨_, _, _, rfl⟩
  obtain ⟨L4, V4, hL4, hT4, hV4, h84, hn4⟩ := put_back f
  have HF0 : Hid (Fine L 0) := hid (fun h => absurd rfl h)
  have H1 := hid h1
  have HN := hid hn
  have HA := hid hA
  have HX := hid hx
  have HNIL := hid hA0
  have HL4 := hid hL4
  have HT4 := hid hT4
  have HV4 := hid hV4
  have H84 := hid h84
  have hlL : L.length ≤ 9223372036854775807 := by omega
  have hl9 : n ≤ 9223372036854775807 := by omega
  have EG := refa_guard
  have EQ := fun w => eq_refa V1 V1 true (eqA_self V1) w
  obtain ⟨o, ho⟩ : ∃ o, okB f = o := ⟨_, rfl⟩
  have HO := hid ho
  have HP : Hid (putF f = if o = true then f else fun _ => 0) := hid (by unfold putF; rw [ho])
  clear h1 hn hA hA0 hx hL4 hT4 hV4 h84 ho
  go_enter Try.func6, Try.ntmps6
  go_upto_region 1 with fail
  obtain ⟨W, hW⟩ : ∃ W, w.alloc (.cells #[.int .i64 (f 0), .int .i64 (f 1), .int .i64 (f 2), .int .i64 (f 3), .int .i64 (f 4), .int .i64 (f 5), .int .i64 (f 6), .int .i64 (f 7)] 24) = W := ⟨_, rfl⟩
  rw [hW]
  obtain ⟨K0, B0⟩ := one_new hW
  rw [show #[.int .i64 (f 0), .int .i64 (f 1), .int .i64 (f 2), .int .i64 (f 3), .int .i64 (f 4), .int .i64 (f 5), .int .i64 (f 6), .int .i64 (f 7)] = rowA f from rfl] at K0
  clear hW
  obtain ⟨k, hk⟩ : ∃ k, w.heap.size = k := ⟨_, rfl⟩
  have HAF : Hid (∀ W, Below k w W → Sees .u8 W A L) := hid (fun W h => HA.out.below (by rw [hk]; exact h))
  rw [hk] at K0 B0
  rw [hk]
  have HK := hid hk
  clear hk HA
  go_wp2_with fail
  with_reducible refine (anchor9 _).mono ?_
  rintro e w1 ⟨rfl, hb⟩
  have K1 := hid (K0.out.below hb K0.out.lt)
  have B1 := hid (B0.out.trans (hb.mono (by have := K0.out.lt; omega)))
  clear hb K0 B0
  go_wp2_with fail
  with_reducible refine (newin_any A L n c _ HN.out hl HNIL.out (HAF.out _ B1.out)).mono ?_
  rintro en w2 ⟨gi, rfl, hin, hb2, hge⟩
  have hkgi : k < gi := by have := K1.out.lt; omega
  have K2 := hid (K1.out.below hb2 K1.out.lt)
  have B2 := hid (B1.out.trans (hb2.mono (by have := K1.out.lt; omega)))
  have I2 := hid hin
  clear hin hb2 hge K1 B1
  go_wp2_with fail
  with_reducible refine (refattake_0 A L n c l1 e1 V1 _ HN.out hl9 hc HNIL.out HX.out (HAF.out _ B2.out) H1.out).mono ?_
  rintro en w3 ⟨p1, hp1, hr1, rfl, hb3⟩
  have HR1 := hid hr1
  have K3 := hid (K2.out.below hb3 K2.out.lt)
  have B3 := hid (B2.out.trans (hb3.mono (by have := K2.out.lt; omega)))
  have I3 := hid (I2.out.keep (hb3.mono I2.out.lt))
  clear hb3 hr1 K2 B2 I2
  go_wp2_with fail
  obtain ⟨W4, hW4⟩ : ∃ W4, (w3.alloc (.cells #[.slice A n c, .int .i64 (p1 : Int), .int .i64 (e1 : Int)] 43)).alloc (.cells #[.int .i64 (V1 0), .int .i64 (V1 1), .int .i64 (V1 2), .int .i64 (V1 3), .int .i64 (V1 4), .int .i64 (V1 5), .int .i64 (V1 6), .int .i64 (V1 7)] 26) = W4 := ⟨_, rfl⟩
  rw [hW4]
  obtain ⟨Y4, Z4, hb4⟩ := two_made hW4
  rw [show #[.int .i64 (V1 0), .int .i64 (V1 1), .int .i64 (V1 2), .int .i64 (V1 3), .int .i64 (V1 4), .int .i64 (V1 5), .int .i64 (V1 6), .int .i64 (V1 7)] = rowA V1 from rfl] at Z4
  obtain ⟨gy, hgy⟩ : ∃ gy, w3.heap.size = gy := ⟨_, rfl⟩
  have hgiy : gi < gy := by have := I3.out.lt; omega
  have K4 := hid (K3.out.below hb4 K3.out.lt)
  have B4 := hid (B3.out.trans (hb4.mono (by have := K3.out.lt; omega)))
  have I4 := hid (I3.out.keep (hb4.mono I3.out.lt))
  rw [hgy] at Y4 Z4 ⊢
  replace Y4 := hid Y4
  replace Z4 := hid Z4
  clear hb4 hW4 hgy K3 B3 I3
  with_reducible refine (attake8 gi L 0 l1 e1 V1 _ I4.out HF0.out HX.out hlL H1.out).mono ?_
  rintro en w5 ⟨rfl, hi, hg⟩
  have B5 := hid (B4.out.trans (below_only hg (by omega) (by have := K4.out.lt; omega)))
  have K5 := hid (K4.out.grown hg (by simp; omega))
  have Y5 := hid (Y4.out.grown hg (by simp; omega))
  have Z5 := hid (Z4.out.grown hg (by simp; omega))
  have I5 := hid hi
  clear hi hg K4 B4 I4 Y4 Z4
  go_wp2_with fail
  obtain ⟨W6, hW6⟩ : ∃ W6, w5.alloc (.cells #[.int .i64 (V1 0), .int .i64 (V1 1), .int .i64 (V1 2), .int .i64 (V1 3), .int .i64 (V1 4), .int .i64 (V1 5), .int .i64 (V1 6), .int .i64 (V1 7)] 24) = W6 := ⟨_, rfl⟩
  rw [hW6]
  obtain ⟨T6, hb6⟩ := one_new hW6
  rw [show #[.int .i64 (V1 0), .int .i64 (V1 1), .int .i64 (V1 2), .int .i64 (V1 3), .int .i64 (V1 4), .int .i64 (V1 5), .int .i64 (V1 6), .int .i64 (V1 7)] = rowA V1 from rfl] at T6
  obtain ⟨gt, hgt⟩ : ∃ gt, w5.heap.size = gt := ⟨_, rfl⟩
  have G6 := hid (show Got W6 gt gy V1 A n c p1 e1 from ⟨by rw [← hgt]; exact T6.out, Z5.out.below hb6.out Z5.out.lt, Y5.out.below hb6.out Y5.out.lt⟩)
  have K6 := hid (K5.out.below hb6.out K5.out.lt)
  have B6 := hid (B5.out.trans (hb6.out.mono (by have := K5.out.lt; omega)))
  have I6 := hid (I5.out.keep (hb6.out.mono I5.out.lt))
  rw [hgt]
  clear hb6 hW6 hgt T6 Z5 Y5 K5 B5 I5
  have HE1 : Hid (endE (rem L p1 e1) e1 = endE l1 e1) := hid (by rw [HR1.out])
  obtain ⟨q1, hq1⟩ : ∃ q1 : Int, (endE l1 e1 : Int) = q1 := ⟨_, rfl⟩
  have HQ1 := hid hq1
  clear hq1
  go_region_held3 (fun w' => (w'.cell? ⟨gt, 0, none⟩ = some (.int .i64 (V1 0)) ∧ w'.cell? ⟨gt, 1, none⟩ = some (.int .i64 (V1 1)) ∧ w'.cell? ⟨gt, 2, none⟩ = some (.int .i64 (V1 2)) ∧ w'.cell? ⟨gt, 3, none⟩ = some (.int .i64 (V1 3)) ∧ w'.cell? ⟨gt, 4, none⟩ = some (.int .i64 (V1 4)) ∧ w'.cell? ⟨gt, 5, none⟩ = some (.int .i64 (V1 5)) ∧ w'.cell? ⟨gt, 6, none⟩ = some (.int .i64 (V1 6)) ∧ w'.cell? ⟨gt, 7, none⟩ = some (.int .i64 (V1 7))) ∧ (w'.cell? ⟨gy + 1, 0, none⟩ = some (.int .i64 (V1 0)) ∧ w'.cell? ⟨gy + 1, 1, none⟩ = some (.int .i64 (V1 1)) ∧ w'.cell? ⟨gy + 1, 2, none⟩ = some (.int .i64 (V1 2)) ∧ w'.cell? ⟨gy + 1, 3, none⟩ = some (.int .i64 (V1 3)) ∧ w'.cell? ⟨gy + 1, 4, none⟩ = some (.int .i64 (V1 4)) ∧ w'.cell? ⟨gy + 1, 5, none⟩ = some (.int .i64 (V1 5)) ∧ w'.cell? ⟨gy + 1, 6, none⟩ = some (.int .i64 (V1 6)) ∧ w'.cell? ⟨gy + 1, 7, none⟩ = some (.int .i64 (V1 7))) ∧ w'.cell? ⟨gy, 0, none⟩ = some (.slice A n c) ∧ w'.cell? ⟨gy, 1, none⟩ = some (.int .i64 (p1 : Int)) ∧ w'.cell? ⟨gy, 2, none⟩ = some (.int .i64 (e1 : Int)))
    (first | exact G6.out.open | exact G6.out.drew.open | exact G8.out.open)
    (first
      | (go_at_call 23; (with_reducible refine (end_any gi l1 e1 _ (by first | exact I8.out | exact InAt.drew I6.out)).mono ?_); rintro en w7 ⟨rfl, rfl⟩; rw [HQ1.out])
      | (go_at_call 24; (with_reducible refine (refend_any A L n c p1 e1 _ HN.out hp1).mono ?_); rintro en w8 ⟨rfl, hb8⟩; rw [HE1.out, HQ1.out]; have I8 := hid (InAt.keep (w := W6.drew) I6.out (hb8.mono I6.out.lt)); have G8 := hid (G6.out.drew.on hb8)))
  have K8 := hid (K6.out.drew.below hb8 K6.out.drew.lt)
  have B8 := hid ((below_drew B6.out).trans (hb8.mono (show k ≤ W6.heap.size by have := K6.out.lt; omega)))
  rename_i hHeld
  clear hHeld hb8 G6 G8 K6 B6 I6 I8 HE1 HQ1 EG EQ HR1 H1
  obtain ⟨c0, c1, c2, c3, c4, c5, c6, c7⟩ := K8.out.eight
  have hkl := K8.out.lt
  go_wp2_with fail
  clear c0 c1 c2 c3 c4 c5 c6 c7
  obtain ⟨W9, hW9⟩ : ∃ W9, w8.alloc (.cells #[.slice none 0 0] 52) = W9 := ⟨_, rfl⟩
  rw [hW9]
  obtain ⟨go, hgo⟩ : ∃ go, w8.heap.size = go := ⟨_, rfl⟩
  have O9 : Hid (OutAt W9 go go []) := hid (by rw [← hW9, ← hgo]; exact out_new w8)
  have hb9 : Below go w8 W9 := by rw [← hW9, ← hgo]; exact (Below.refl _ _).alloc (Nat.le_refl _) _
  have hkgo : k < go := by have := K8.out.lt; omega
  have K9 := hid (K8.out.below hb9 hkgo)
  have B9 := hid (B8.out.trans (hb9.mono (by omega)))
  rw [hgo]
  clear hb9 hW9 K8 B8 hgo
  with_reducible refine (attput_0 go go f L4 _ O9.out HL4.out).mono ?_
  rintro en w10 ⟨rfl, ho, hb, hs⟩
  have O10 := hid ho
  have K10 := hid (K9.out.below hb hkgo)
  have B10 := hid (B9.out.trans (hb.mono (by omega)))
  clear ho hb hs O9 K9 B9
  go_wp2_with fail
  with_reducible refine (outbytes_any go go L4 _ O10.out (by omega)).mono ?_
  rintro en w11 ⟨sl, rfl, hown, hb⟩
  have K11 := hid (K10.out.below hb K10.out.lt)
  have B11 := hid (B10.out.trans (hb.mono (by have := K10.out.lt; omega)))
  obtain ⟨A4, m4, rfl, hn5, _, hs4⟩ := own_slice hown
  have HN5 := hid hn5
  have HS4 := hid hs4
  clear hown hb hn5 hs4 O10 K10 B10
  go_wp2_with fail
  with_reducible refine (newin_any A4 L4 L4.length m4 _ rfl (by omega) HN5.out HS4.out).mono ?_
  rintro en w12 ⟨gj, rfl, hin, hb, hge⟩
  have hkgj : k < gj := by have := K11.out.lt; omega
  have K12 := hid (K11.out.below hb K11.out.lt)
  have B12 := hid (B11.out.trans (hb.mono (by have := K11.out.lt; omega)))
  have I12 := hid hin
  clear hin hb hge K11 B11 HS4 HN5
  obtain ⟨c0, c1, c2, c3, c4, c5, c6, c7⟩ := K12.out.eight
  replace hkl := K12.out.lt
  go_wp2_with fail
  clear c0 c1 c2 c3 c4 c5 c6 c7
  obtain ⟨W13, hW13⟩ : ∃ W13, w12.alloc (.cells #[.int .i64 (f 0), .int .i64 (f 1), .int .i64 (f 2), .int .i64 (f 3), .int .i64 (f 4), .int .i64 (f 5), .int .i64 (f 6), .int .i64 (f 7)] 24) = W13 := ⟨_, rfl⟩
  rw [hW13]
  obtain ⟨T13, hb⟩ := one_new hW13
  rw [show #[.int .i64 (f 0), .int .i64 (f 1), .int .i64 (f 2), .int .i64 (f 3), .int .i64 (f 4), .int .i64 (f 5), .int .i64 (f 6), .int .i64 (f 7)] = rowA f from rfl] at T13
  obtain ⟨m, hm⟩ : ∃ m, w12.heap.size = m := ⟨_, rfl⟩
  have hkm : k < m := by omega
  have hjm : gj < m := by have := I12.out.lt; omega
  have B13 := hid (B12.out.trans (hb.out.mono (by omega)))
  have I13 := hid (I12.out.keep (hb.out.mono I12.out.lt))
  rw [hm] at T13 ⊢
  clear hb hW13 hm hkl K12 B12 I12
  with_reducible refine (refaright8 f _).mono ?_
  rw [HO.out]
  rintro en w14 ⟨rfl, hb⟩
  have T14 := hid (T13.out.below hb T13.out.lt)
  have I14 := hid (I13.out.keep (hb.mono I13.out.lt))
  have B14 := hid (B13.out.trans (hb.mono (by have := T13.out.lt; omega)))
  clear hb T13 I13 B13
  have hF4 : Hid (Fine L4 0) := hid (fun h => absurd rfl h)
  have HZ : Hid ((endE [] 0 : Int) = 0) := hid rfl
  cases o
  case' false =>
    have Z1 : Hid ((Try.prog.info? 24).map (·.size) = some (#[.int .i64 0, .int .i64 0, .int .i64 0, .int .i64 0, .int .i64 0, .int .i64 0, .int .i64 0, .int .i64 0] : Array Value).size) := hid info_attr
    have Z2 : Hid ((rowA f).size = (#[.int .i64 0, .int .i64 0, .int .i64 0, .int .i64 0, .int .i64 0, .int .i64 0, .int .i64 0, .int .i64 0] : Array Value).size) := hid (rowA_size f)
    have Z3 : Hid ((#[.int .i64 0, .int .i64 0, .int .i64 0, .int .i64 0, .int .i64 0, .int .i64 0, .int .i64 0, .int .i64 0] : Array Value).all (·.oneCell') = true) := hid (rowA_one fun _ => 0)
    have HU : Hid ((fun _ => 0) = putF f) := hid (by rw [HP.out]; simp)
    go_wp2_with (with_reducible refine wpList_store_row (o := ⟨none, _, _, _, _, _⟩) rfl 24 (.tmp 11) (.tmp 46) rfl m #[.int .i64 0, .int .i64 0, .int .i64 0, .int .i64 0, .int .i64 0, .int .i64 0, .int .i64 0, .int .i64 0] rfl rfl 24 _ T14.out.heap Z1.out Z2.out Z3.out ?_)
    obtain ⟨W15, hW15⟩ : ∃ W15, w14.setRow m #[.int .i64 0, .int .i64 0, .int .i64 0, .int .i64 0, .int .i64 0, .int .i64 0, .int .i64 0, .int .i64 0] = W15 := ⟨_, rfl⟩
    rw [hW15]
    have T15 : Hid (Blk W15 m 24 (rowA (putF f))) := hid (by rw [← hW15, ← HU.out]; exact setRow_heap w14 m _ _ _ _ T14.out.heap)
    have B15 : Hid (Below k w W15) := hid (by rw [← hW15]; exact below_setRow_ B14.out (by omega))
    have I15 : Hid (InAt W15 gj L4 0) := hid (by rw [← hW15]; exact InAt.setRow I14.out hjm)
    clear hW15 T14 B14 I14 HU Z1 Z2 Z3
  case' true =>
    have HU : putF f = f := by rw [HP.out]; simp
    go_wp2_with fail
    obtain ⟨W15, hW15⟩ : ∃ W15, w14 = W15 := ⟨_, rfl⟩
    rw [hW15] at T14 B14 I14 ⊢
    have T15 : Hid (Blk W15 m 24 (rowA (putF f))) := hid (by rw [HU]; exact T14.out)
    have B15 := B14
    have I15 := I14
    clear hW15 T14 B14 I14 HU
  all_goals
    obtain ⟨U, hU⟩ : ∃ U, putF f = U := ⟨_, rfl⟩
    rw [hU] at T15 HV4
    clear hU
    have EG := attr_guard
    have EQ := fun w => eq_attr V4 U true HV4.out w
    go_region_held3 (fun w' => (w'.cell? ⟨m, 0, none⟩ = some (.int .i64 (U 0)) ∧ w'.cell? ⟨m, 1, none⟩ = some (.int .i64 (U 1)) ∧ w'.cell? ⟨m, 2, none⟩ = some (.int .i64 (U 2)) ∧ w'.cell? ⟨m, 3, none⟩ = some (.int .i64 (U 3)) ∧ w'.cell? ⟨m, 4, none⟩ = some (.int .i64 (U 4)) ∧ w'.cell? ⟨m, 5, none⟩ = some (.int .i64 (U 5)) ∧ w'.cell? ⟨m, 6, none⟩ = some (.int .i64 (U 6)) ∧ w'.cell? ⟨m, 7, none⟩ = some (.int .i64 (U 7))))
      (first | exact T15.out.eight | exact T15.out.drew.eight | exact T16.out.eight)
      (first
        | (go_at_call 22; (with_reducible refine (attake8 gj L4 0 [] 0 V4 _ (InAt.drew I15.out) hF4.out H84.out (by omega) HT4.out).mono ?_); rintro en w16 ⟨rfl, hi16, hg16⟩; have T16 := hid (T15.out.drew.grown hg16 (by simp; omega)))
        | (go_at_call 23; (with_reducible refine (end_any gj [] 0 _ hi16).mono ?_); rintro en w17 ⟨rfl, rfl⟩; rw [HZ.out]))
    have HE := hid ((below_drew B15.out).trans (below_only hg16 (by omega) (show k ≤ W15.heap.size by have := T15.out.lt; omega)))
    rename_i hHeld
    clear hHeld hg16 hi16
    go_wp2
    go_ret
    exact ⟨rfl, by rw [HK.out]; exact HE.out⟩

theorem walk (A : Option Addr) (L : List Nat) (c : Nat) (f : Nat → Int) (hn : A = none → c = 0) (hl : L.length ≤ c) (_hm : c ≤ maxLen) (hr : L.length * 1 ≤ 140737488351232) (h8 : ∀ x ∈ L, (Lit.int .u8 (x : Int)).wf = true) (w : World) (hA : Sees .u8 w A L) :
    Calls Try.prog 6 #[.slice A L.length c, .agg #[.int .i64 (f 0), .int .i64 (f 1), .int .i64 (f 2), .int .i64 (f 3), .int .i64 (f 4), .int .i64 (f 5), .int .i64 (f 6), .int .i64 (f 7)]] w fun e w' => e = .returned (.bool true) ∧ Below w.heap.size w w' :=
  walk_b A L L.length c f w rfl (by omega) hl hn (fun x hx => by have := u8_lt _ (h8 x hx); omega) hA
theorem cells_u8 : Try.prog.cellsOf 5 = 1 := by kernel_rfl
theorem bytes_u8 : Try.prog.bytesOf 5 = 1 := by kernel_rfl

end Go.Proofs.Ytfpmmajgnijboaa.attrTakes
