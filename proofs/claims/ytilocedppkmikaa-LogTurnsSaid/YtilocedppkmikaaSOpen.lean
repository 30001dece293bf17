/-
  Contracts of bytes.Equal, bytes.Clone, sum.Seal and sum.Open.
-/
import Derived.Test.YtilocedppkmikaaSGrow
import Derived.Test.YtilocedppkmikaaSTail
import Derived.Test.YtilocedppkmikaaClone
import Derived.Laws.BytesArg
import Derived.RegionTactic
import Derived.Deep.RegionHeld3
namespace Go.Proofs.Ytilocedppkmikaa
open Go.RowKit







/-- Are two texts the same, as the walk asks it? -/
def sameB (a b : List Nat) : Bool := (strN a).toList == (strN b).toList
theorem sameB_yes (a : List Nat) : sameB a a = true := by unfold sameB; simp
theorem sameB_no {a b : List Nat} (ha : ∀ x ∈ a, x < 256) (hb : ∀ x ∈ b, x < 256) (h : a ≠ b) : sameB a b = false := by
  unfold sameB
  rw [beq_eq_false_iff_ne, ByteArray.toList_eq, ByteArray.toList_eq]
  intro he
  apply h
  have h2 := congrArg (fun s : List UInt8 => s.map UInt8.toNat) he
  simp only [strN, strOfNums_data, List.map_map] at h2
  have e : ∀ l : List Nat, (∀ x ∈ l, x < 256) → l.map (UInt8.toNat ∘ (fun n : Int => UInt8.ofNat n.toNat) ∘ fun x : Nat => (x : Int)) = l := by
    intro l hl
    conv => rhs; rw [← List.map_id l]
    apply List.map_congr_left
    intro x hx
    have := hl x hx
    simp
    omega
  rw [e a ha, e b hb] at h2
  exact h2

set_option maxRecDepth 100000 in
set_option maxHeartbeats 400000 in
theorem equal_any (A B : Option Addr) (a b : List Nat) (n m ca cb : Nat) (w : World) (hn : a.length = n) (hm : b.length = m) (hA : Sees .u8 w A a) (hB : Sees .u8 w B b) :
    Calls Try.prog 32 #[.slice A n ca, .slice B m cb] w fun e w' => e = .returned (.bool (sameB a b)) ∧ w = w' := by
  have h1 := sees_convert hA hn ca
  have h2 := sees_convert hB hm cb
  have HS : Hid (sameB a b = ((strN a).toList == (strN b).toList)) := hid rfl
  clear hA hB hn hm
  generalize strN a = s at *
  generalize strN b = t at *
  go_enter Try.func32, Try.ntmps32
  go_wp2
  go_ret
  exact ⟨by rw [HS.out]; rfl, rfl⟩



/-- Concat of two parts, in a slice that has just been made. -/
theorem concat_two (W : World) (A1 A2 : Option Addr) (l1 l2 : List Nat) (n1 n2 c1 c2 : Nat) (e1 : l1.length = n1) (e2 : l2.length = n2) (h0 : 0 < n1 + n2) (hn : n1 + n2 ≤ 140737488355328) (k1 : A1 = none → c1 = 0) (k2 : A2 = none → c2 = 0)
    (x1 : ∀ x ∈ l1, x < 256) (x2 : ∀ x ∈ l2, x < 256) (s1 : Sees .u8 W A1 l1) (s2 : Sees .u8 W A2 l2) :
    Calls Try.prog 16 #[.slice (some ⟨W.heap.size, 0, none⟩) 2 2] (W.alloc (.cells #[.slice A1 n1 c1, .slice A2 n2 c2] 22)) (Makes (l1 ++ l2) (W.alloc (.cells #[.slice A1 n1 c1, .slice A2 n2 c2] 22))) := by
  subst e1
  subst e2
  have h := heap_alloc_new W (.cells #[.slice A1 l1.length c1, .slice A2 l2.length c2] 22)
  have hc := fun i => cell_of_row _ W.heap.size i #[.slice A1 l1.length c1, .slice A2 l2.length c2] 22 (0, 0) h
  have hs : SeesRows (W.alloc (.cells #[.slice A1 l1.length c1, .slice A2 l2.length c2] 22)) (some ⟨W.heap.size, 0, none⟩) [l1, l2] := by
    intro j l hj
    match j, hj with
    | 0, hj =>
      simp at hj
      subst hj
      exact ⟨W.heap.size, 0, A1, c1, rfl, by simp, hc 0, by omega, x1, s1.alloc_ _⟩
    | 1, hj =>
      simp at hj
      subst hj
      exact ⟨W.heap.size, 0, A2, c2, rfl, by simp, hc 1, by omega, x2, s2.alloc_ _⟩
  have hb : NilBare (W.alloc (.cells #[.slice A1 l1.length c1, .slice A2 l2.length c2] 22)) (some ⟨W.heap.size, 0, none⟩) [l1, l2].length := by
    intro j b o B n c hj he hcell hB
    injection he with he
    injection he with he1 he2
    subst he1; subst he2
    rw [Nat.zero_add, hc j] at hcell
    match j, hj with
    | 0, _ =>
      simp at hcell
      obtain ⟨rfl, rfl, rfl⟩ := hcell
      exact k1 hB
    | 1, _ =>
      simp at hcell
      obtain ⟨rfl, rfl, rfl⟩ := hcell
      exact k2 hB
  have r := concat_any (some ⟨W.heap.size, 0, none⟩) [l1, l2] 2 (l1.length + l2.length) _ (by simp) (by simp) h0 hn hs hb
  simpa using r

def sealed (l : List Nat) : List Nat := l ++ le4 (crcOf l)
theorem le4_len (y : Nat) : (le4 y).length = 4 := rfl
theorem sealed_len (l : List Nat) : (sealed l).length = l.length + 4 := by unfold sealed; rw [List.length_append, le4_len]
theorem sealed_byte {l : List Nat} (h : ∀ x ∈ l, x < 256) : ∀ x ∈ sealed l, x < 256 := fun x hx => (List.mem_append.1 hx).elim (h x) (le4_byte _ x)

set_option maxRecDepth 100000 in
set_option maxHeartbeats 400000 in
theorem seal_any (A : Option Addr) (l : List Nat) (n c : Nat) (w : World) (hn : l.length = n) (hl : n ≤ 140737488351232) (hA0 : A = none → c = 0) (h8 : ∀ x ∈ l, x < 256) (hA : Sees .u8 w A l) :
    Calls Try.prog 18 #[.slice A n c] w (Makes (sealed l) w) := by
  have HA := hid hA
  have H8 := hid h8
  have HN := hid hn
  have H0 := hid hA0
  clear hA h8 hn hA0
  go_enter Try.func18, Try.ntmps18
  go_wp2_with (first
    | (go_at_call 25; ((with_reducible refine (tail_any A l n c w HN.out (by omega) H8.out HA.out).mono ?_); rintro e w1 hm; obtain ⟨A2, c2, rfl, hk2, _, hs2, hb1⟩ := hm.hands; have HK := hid hk2; have HS := hid hs2; have HB := hid hb1; clear hk2 hs2 hb1 hm; rw [le4_len]))
    | (go_at_call 16; ((with_reducible refine (concat_two w1 A A2 l (le4 (crcOf l)) n 4 c c2 HN.out rfl (by omega) (by omega) H0.out HK.out H8.out (le4_byte _) (HA.out.below HB.out) HS.out).mono ?_); rintro e w2 hm; obtain ⟨s, rfl, hown, hb2⟩ := hm)))
  go_ret
  have z := HB.out.size
  refine ⟨_, rfl, own_low hown (by simp; omega), HB.out.trans ?_⟩
  exact ((Below.refl _ _).alloc z _).trans (hb2.mono (by simp; omega))

/-- What Open answers where it opens. -/
def Opens (l : List Nat) (n : Nat) (w : World) (e : Ending) (w' : World) : Prop :=
  ∃ A cap, e = .returned (.tuple #[.slice A n cap, .int .i64 0]) ∧ (A = none → cap = 0) ∧ Sees .u8 w' A l ∧ Below w.heap.size w w'

set_option maxRecDepth 100000 in
set_option maxHeartbeats 400000 in
theorem open_ok (b o : Nat) (p t : List Nat) (n c : Nat) (w : World) (hp : p.length = n) (ht : t.length = 4) (hn : n ≤ 140737488351232) (hc : n + 4 ≤ c) (xp : ∀ x ∈ p, x < 256) (hA : Sees .u8 w (some ⟨b, o, none⟩) (p ++ t)) (hs : t = le4 (crcOf p)) :
    Calls Try.prog 28 #[.slice (some ⟨b, o, none⟩) (n + 4) c] w (Opens p n w) := by
  have SP : Hid (Sees .u8 w (some ⟨b, o, none⟩) p) := hid (by have := hA.take n; rwa [List.take_left' hp] at this)
  have ST : Hid (Sees .u8 w (some ⟨b, o + n, none⟩) t) := hid (by have := hA.rest (i := n) rfl; rwa [List.drop_left' hp] at this)
  have HP := hid hp
  have HT := hid ht
  have XP := hid xp
  have HY : Hid (sameB t (le4 (crcOf p)) = true) := hid (by rw [hs]; exact sameB_yes _)
  clear hA hp ht xp hs
  have hc1 : ¬ c = n := by omega
  have hc2 : (n : Int) ≤ (c : Int) := by omega
  have hc3 : (n : Int) + 4 ≤ (c : Int) := by omega
  have hc4 : (0 : Int) ≤ (n : Int) := by omega
  have hc5 : (n : Int) ≤ (n : Int) + 4 := by omega
  go_enter Try.func28, Try.ntmps28
  go_wp2_with fail
  go_region_held3 (fun _ => True) (exact trivial) (first
    | (go_at_call 25; ((with_reducible refine (tail_any (some ⟨b, o, none⟩) p n c _ HP.out (by omega) XP.out SP.out.drew_).mono ?_); rintro e w1 hm; obtain ⟨A2, c2, rfl, hk2, _, hs2, hb1⟩ := hm.hands; have HS := hid hs2; have HB := hid hb1; clear hk2 hs2 hb1 hm; rw [le4_len]))
    | (go_at_call 32; ((with_reducible refine (equal_any (some ⟨b, o + n, none⟩) A2 t (le4 (crcOf p)) 4 4 (c - n) c2 w1 HT.out rfl (ST.out.drew_.below HB.out) HS.out).mono ?_); rintro e w' ⟨rfl, rfl⟩; rw [HY.out])))
  have SQ := hid (SP.out.drew_.below HB.out)
  have BQ := hid ((below_drew (Below.refl w.heap.size w)).trans HB.out)
  clear SP ST HB HS HY
  go_wp2_with (go_at_call 33; ((with_reducible refine (clone_some b o p n c w1 HP.out (by omega) SQ.out).mono ?_); rintro e w2 hm; obtain ⟨A3, c3, rfl, hk3, _, hs3, hb3⟩ := hm.hands; have HS3 := hid hs3; have HK3 := hid hk3; have HB3 := hid hb3; clear hk3 hs3 hb3 hm; rw [HP.out]))
  go_ret2
  exact ⟨A3, c3, rfl, HK3.out, HS3.out, BQ.out.trans (HB3.out.mono BQ.out.size)⟩

set_option maxRecDepth 100000 in
set_option maxHeartbeats 400000 in
theorem open_no (b o : Nat) (p t : List Nat) (n c : Nat) (w : World) (hp : p.length = n) (ht : t.length = 4) (hn : n ≤ 140737488351232) (hc : n + 4 ≤ c) (xp : ∀ x ∈ p, x < 256) (hA : Sees .u8 w (some ⟨b, o, none⟩) (p ++ t)) (xt : ∀ x ∈ t, x < 256) (hs : t ≠ le4 (crcOf p)) :
    Calls Try.prog 28 #[.slice (some ⟨b, o, none⟩) (n + 4) c] w (fun e w' => e = .returned (.tuple #[.slice none 0 0, .int .i64 23]) ∧ Below w.heap.size w w') := by
  have SP : Hid (Sees .u8 w (some ⟨b, o, none⟩) p) := hid (by have := hA.take n; rwa [List.take_left' hp] at this)
  have ST : Hid (Sees .u8 w (some ⟨b, o + n, none⟩) t) := hid (by have := hA.rest (i := n) rfl; rwa [List.drop_left' hp] at this)
  have HP := hid hp
  have HT := hid ht
  have XP := hid xp
  have HY : Hid (sameB t (le4 (crcOf p)) = false) := hid (sameB_no xt (le4_byte _) hs)
  clear hA hp ht xp xt hs
  have hc1 : ¬ c = n := by omega
  have hc2 : (n : Int) ≤ (c : Int) := by omega
  have hc3 : (n : Int) + 4 ≤ (c : Int) := by omega
  have hc4 : (0 : Int) ≤ (n : Int) := by omega
  have hc5 : (n : Int) ≤ (n : Int) + 4 := by omega
  go_enter Try.func28, Try.ntmps28
  go_wp2_with fail
  go_region_held3 (fun _ => True) (exact trivial) (first
    | (go_at_call 25; ((with_reducible refine (tail_any (some ⟨b, o, none⟩) p n c _ HP.out (by omega) XP.out SP.out.drew_).mono ?_); rintro e w1 hm; obtain ⟨A2, c2, rfl, hk2, _, hs2, hb1⟩ := hm.hands; have HS := hid hs2; have HB := hid hb1; clear hk2 hs2 hb1 hm; rw [le4_len]))
    | (go_at_call 32; ((with_reducible refine (equal_any (some ⟨b, o + n, none⟩) A2 t (le4 (crcOf p)) 4 4 (c - n) c2 w1 HT.out rfl (ST.out.drew_.below HB.out) HS.out).mono ?_); rintro e w' ⟨rfl, rfl⟩; rw [HY.out])))
  have BQ := hid ((below_drew (Below.refl w.heap.size w)).trans HB.out)
  clear SP ST HB HS HY
  go_wp2
  go_ret2
  exact ⟨rfl, BQ.out⟩

/-- What Seal hands back, as a caller reads it. -/
def Seals (l : List Nat) (n : Nat) (w : World) (e : Ending) (w' : World) : Prop :=
  ∃ b o c, e = .returned (.slice (some ⟨b, o, none⟩) (n + 4) c) ∧ n + 4 ≤ c ∧ Sees .u8 w' (some ⟨b, o, none⟩) (sealed l) ∧ Below w.heap.size w w'
theorem seal_hands (A : Option Addr) (l : List Nat) (n c : Nat) (w : World) (hn : l.length = n) (hl : n ≤ 140737488351232) (hA0 : A = none → c = 0) (h8 : ∀ x ∈ l, x < 256) (hA : Sees .u8 w A l) :
    Calls Try.prog 18 #[.slice A n c] w (Seals l n w) := by
  refine (seal_any A l n c w hn hl hA0 h8 hA).mono ?_
  intro e w' hm
  obtain ⟨A2, c2, rfl, _, hc, hs, hb⟩ := hm.hands
  have hlen := sealed_len l
  rw [hn] at hlen
  obtain ⟨b, o, rfl, _, _⟩ := hs 0 _ (List.getElem?_eq_getElem (show 0 < (sealed l).length by omega))
  rw [hlen] at hc ⊢
  exact ⟨b, o, c2, rfl, hc, hs, hb⟩

end Go.Proofs.Ytilocedppkmikaa
