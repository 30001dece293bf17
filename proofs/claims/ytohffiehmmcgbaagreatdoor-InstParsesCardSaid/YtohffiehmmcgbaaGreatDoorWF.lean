/-
  The law's small and of; the document's table of kinds; Client and Foot (package cmd).
-/
import Derived.Test.YtohffiehmmcgbaaGreatDoorWKRight
import Derived.Test.YtohffiehmmcgbaaGreatDoorWKRefA
import Derived.Test.YtohffiehmmcgbaaGreatDoorWKRefB
import Derived.Test.YtohffiehmmcgbaaGreatDoorWKRefC
import Derived.Test.YtohffiehmmcgbaaGreatDoorWD
import Derived.Test.YtohffiehmmcgbaaGreatDoorWC
import Derived.Deep.Cut
import Derived.Test.YtohffiehmmcgbaaGreatDoorWA
import Derived.Test.YtohffiehmmcgbaaGreatDoorWE
namespace Go.Proofs.YtohffiehmmcgbaaGreatDoor
open Go.ChangeShapes Go.WideShapes Go.ChangeAt Go.RowKit Go.Lib
end Go.Proofs.YtohffiehmmcgbaaGreatDoor
namespace Go.Proofs.YtohffiehmmcgbaaGreatDoor
open Go.ChangeShapes Go.WideShapes Go.ChangeAt Go.RowKit Go.Lib
set_option linter.unusedSimpArgs false
set_option linter.unusedVariables false
set_option maxRecDepth 100000 in
set_option maxHeartbeats 1000000 in
theorem ref_off (k u : Int) (f : ByteArray) (q : Int) (s : ByteArray) (m n t : Int) (w : World) (hk : k < 0 ∨ 8 < k) :
    Calls Tryz.prog 57 #[val ⟨k, u, f, q, s, m, n, t⟩] w fun e w' => e = .returned (.bool (docK ⟨k, u, f, q, s, m, n, t⟩)) ∧ Below w.heap.size w w' := by
  have HE : Hid (docK ⟨k, u, f, q, s, m, n, t⟩ = false) := hid (by
    have h : isK k = false := by unfold isK; exact decide_eq_false (by omega)
    simp [docK, h])
  rcases Decidable.em (k < 0) with h | h
  · go_enter Tryz.func57, Tryz.ntmps57
    go_wp2
    go_ret
    exact ⟨ret_bool HE.out.symm, (Below.refl _ _).alloc (Nat.le_refl _) _⟩
  · have h8 : 8 < k := by omega
    go_enter Tryz.func57, Tryz.ntmps57
    go_wp2
    go_ret
    exact ⟨ret_bool HE.out.symm, (Below.refl _ _).alloc (Nat.le_refl _) _⟩
theorem refright7 (c : K) (w : World) (ho : okK c) (hf : c.foot.size ≤ 900) (hp : c.path.size ≤ 900) :
    Calls Tryz.prog 57 #[val c] w fun e w' => e = .returned (.bool (rightK c)) ∧ Below w.heap.size w w' := by
  rw [← doc_right c ho]
  obtain ⟨_, ⟨o1, _⟩, ⟨o2, _⟩, _⟩ := ho
  obtain ⟨k, u, f, q, s, m, n, t⟩ := c
  simp only at o1 o2 hf hp
  have : k < 0 ∨ 8 < k ∨ k = 0 ∨ k = 1 ∨ k = 2 ∨ k = 3 ∨ k = 4 ∨ k = 5 ∨ k = 6 ∨ k = 7 ∨ k = 8 := by omega
  rcases this with h | h | rfl | rfl | rfl | rfl | rfl | rfl | rfl | rfl | rfl
  · exact ref_off k u f q s m n t w (.inl h)
  · exact ref_off k u f q s m n t w (.inr h)
  · exact ref_0 u f q s m n t w hf hp o1 o2
  · exact ref_1 u f q s m n t w hf hp o1 o2
  · exact ref_2 u f q s m n t w hf hp o1 o2
  · exact ref_3 u f q s m n t w hf hp o1 o2
  · exact ref_4 u f q s m n t w hf hp o1 o2
  · exact ref_5 u f q s m n t w hf hp o1 o2
  · exact ref_6 u f q s m n t w hf hp o1 o2
  · exact ref_7 u f q s m n t w hf hp o1 o2
  · exact ref_8 u f q s m n t w hf hp o1 o2
end Go.Proofs.YtohffiehmmcgbaaGreatDoor
namespace Go.Proofs.YtohffiehmmcgbaaGreatDoor
open Go.ChangeShapes Go.WideShapes Go.ChangeAt Go.RowKit
def rem (L : List Nat) (p e : Nat) : List Nat := if e = 0 then L.drop p else []
abbrev reader (A : Option Addr) (n c : Nat) (p e : Int) : Value := .agg #[.slice A n c, .int .i64 p, .int .i64 e]
abbrev twice (w : World) (A : Option Addr) (n c : Nat) (p e : Int) : World :=
  (w.alloc (.cells #[.slice A n c, .int .i64 p, .int .i64 e] 42)).alloc (.cells #[.slice A n c, .int .i64 p, .int .i64 e] 42)
set_option maxRecDepth 100000 in
set_option maxHeartbeats 400000 in
theorem bad_keep (A : Option Addr) (n c : Nat) (p e x : Int) (w : World) (he : e ≠ 0) :
    Calls Tryz.prog 100 #[reader A n c p e, .int .i64 x] w fun en w' => en = .returned (reader A n c p e) ∧ twice w A n c p e = w' := by
  have he1 : (e == 0) = false := by rw [beq_eq_false_iff_ne]; exact he
  go_enter Tryz.func100, Tryz.ntmps100
  go_wp2
  exact bodyPost_ret (v := reader A n c p e) (by simp [results, Tryz.results100, go_sem]) rfl ⟨rfl, rfl⟩
set_option maxRecDepth 100000 in
set_option maxHeartbeats 400000 in
theorem bad_set (A : Option Addr) (n c : Nat) (p x : Int) (w : World) :
    Calls Tryz.prog 100 #[reader A n c p 0, .int .i64 x] w fun en w' => en = .returned (reader A n c p x) ∧ twice w A n c p x = w' := by
  go_enter Tryz.func100, Tryz.ntmps100
  go_wp2
  exact bodyPost_ret (v := reader A n c p x) (by simp [results, Tryz.results100, go_sem]) rfl ⟨rfl, rfl⟩
def Tells2 (A : Option Addr) (n c : Nat) (p e : Int) (v : Value) (w : World) (en : Ending) (w' : World) : Prop :=
  en = .returned (.tuple #[reader A n c p e, v]) ∧ Below w.heap.size w w'
theorem below_two {w w1 : World} {a b : Obj} (h : Below ((w.alloc a).alloc b).heap.size ((w.alloc a).alloc b) w1) : Below w.heap.size w w1 :=
  (((Below.refl _ _).alloc (Nat.le_refl _) _).alloc (by simp) _).trans (h.mono (by simp <;> omega))
theorem blk_two {w w1 : World} {a b : Array Value} {T : TypeId} (h : Below ((w.alloc (.cells a T)).alloc (.cells b T)).heap.size ((w.alloc (.cells a T)).alloc (.cells b T)) w1) :
    Blk w1 w.heap.size T a ∧ Blk w1 (w.heap.size + 1) T b := by
  have h1 := Blk.new (w.alloc (.cells a T)) T b
  have e : (w.alloc (.cells a T)).heap.size = w.heap.size + 1 := by simp
  rw [e] at h1
  exact ⟨((Blk.new w T a).alloc _).below h (by simp <;> omega), h1.below h (by simp)⟩
theorem blk3 {w : World} {g : Nat} {T : TypeId} {a b d : Value} (h : Blk w g T #[a, b, d]) :
    (w.cell? ⟨g, 0, none⟩ = some a ∧ w.cell? ⟨g, 1, none⟩ = some b ∧ w.cell? ⟨g, 2, none⟩ = some d) ∧ w.frozen? ⟨g, 0, none⟩ = false ∧ w.frozen? ⟨g, 1, none⟩ = false ∧ w.frozen? ⟨g, 2, none⟩ = false :=
  ⟨⟨(h.cell 0).trans rfl, (h.cell 1).trans rfl, (h.cell 2).trans rfl⟩, h.frozen 0, h.frozen 1, h.frozen 2⟩
set_option maxRecDepth 100000 in
set_option maxHeartbeats 400000 in
theorem refbyte_err (A : Option Addr) (n c : Nat) (p : Int) (e : Nat) (w : World) (he : 0 < e) :
    Calls Tryz.prog 45 #[reader A n c p (e : Int)] w (Tells2 A n c p (e : Int) (.int .u8 0) w) := by
  have he1 : ((e : Int) != 0) = true := by rw [bne_iff_ne]; omega
  go_enter Tryz.func45, Tryz.ntmps45
  go_wp2_with fail
  with_reducible refine (bad_keep A n c p (e : Int) 20 _ (by omega)).mono ?_
  rintro en w1 ⟨rfl, rfl⟩
  go_wp2
  refine bodyPost_ret (v := .tuple #[reader A n c p (e : Int), .int .u8 0]) (by simp [results, Tryz.results45, go_sem]) rfl ⟨rfl, ?_⟩
  exact ((((Below.refl _ _).alloc (Nat.le_refl _) _).alloc (by simp) _).alloc (by simp <;> omega) _).alloc (by simp <;> omega) _
set_option maxRecDepth 100000 in
set_option maxHeartbeats 400000 in
theorem refbyte_end (A : Option Addr) (n c : Nat) (p : Int) (w : World) (hp : (n : Int) ≤ p) :
    Calls Tryz.prog 45 #[reader A n c p 0] w (Tells2 A n c p 20 (.int .u8 0) w) := by
  go_enter Tryz.func45, Tryz.ntmps45
  go_wp2_with fail
  with_reducible refine (bad_set A n c p 20 _).mono ?_
  rintro en w1 ⟨rfl, rfl⟩
  go_wp2
  refine bodyPost_ret (v := .tuple #[reader A n c p 20, .int .u8 0]) (by simp [results, Tryz.results45, go_sem]) rfl ⟨rfl, ?_⟩
  exact ((((Below.refl _ _).alloc (Nat.le_refl _) _).alloc (by simp) _).alloc (by simp <;> omega) _).alloc (by simp <;> omega) _
set_option maxRecDepth 100000 in
set_option maxHeartbeats 400000 in
theorem refbyte_ok (b o n c x p : Nat) (w : World) (hp : p < n) (hn : n ≤ 9223372036854775807) (hb : b < w.heap.size) (hc : w.cell? ⟨b, o + p, none⟩ = some (.int .u8 (x : Int))) :
    Calls Tryz.prog 45 #[reader (some ⟨b, o, none⟩) n c (p : Int) 0] w (Tells2 (some ⟨b, o, none⟩) n c ((p : Int) + 1) 0 (.int .u8 (x : Int)) w) := by
  go_enter Tryz.func45, Tryz.ntmps45
  go_wp2
  refine bodyPost_ret (v := .tuple #[reader (some ⟨b, o, none⟩) n c ((p : Int) + 1) 0, .int .u8 (x : Int)]) (by simp [results, Tryz.results45, go_sem]) rfl ⟨rfl, ?_⟩
  exact ((Below.refl _ _).alloc (Nat.le_refl _) _).alloc (by simp) _
def RefDoes (A : Option Addr) (n : Nat) (L : List Nat) (c : Nat) (l' : List Nat) (e' : Nat) (v : Value) (w : World) (en : Ending) (w' : World) : Prop :=
  ∃ p' : Nat, p' ≤ n ∧ l' = rem L p' e' ∧ Tells2 A n c (p' : Int) (e' : Int) v w en w'
theorem rem_ok {L : List Nat} {p : Nat} : rem L p 0 = L.drop p := rfl
theorem rem_err {L : List Nat} {p e : Nat} (h : e ≠ 0) : rem L p e = [] := by rw [rem, if_neg h]
theorem rem_fine (L : List Nat) (p e : Nat) : Fine (rem L p e) e := fun h => rem_err h
theorem rem_len (L : List Nat) (p e : Nat) : (rem L p e).length ≤ L.length := by
  unfold rem; split
  · rw [List.length_drop]; omega
  · simp
theorem rem_in {L : List Nat} {p e : Nat} : ∀ x ∈ rem L p e, x ∈ L := by
  unfold rem; split
  · intro x hx; exact List.mem_of_mem_drop hx
  · intro x hx; cases hx
theorem refbyte_any (A : Option Addr) (L : List Nat) (n c p e : Nat) (l' : List Nat) (e' v : Nat) (w : World) (hn : L.length = n) (hp : p ≤ n) (hl : n ≤ 9223372036854775807) (hA : Sees .u8 w A L) (hs : sByte (rem L p e) e = (l', e', v)) :
    Calls Tryz.prog 45 #[reader A n c (p : Int) (e : Int)] w (RefDoes A n L c l' e' (.int .u8 (v : Int)) w) := by
  subst hn
  by_cases he : e = 0
  · subst he
    rw [rem_ok] at hs
    by_cases hlt : p < L.length
    · obtain ⟨b, o, rfl, hb, hc⟩ := hA p L[p] (List.getElem?_eq_getElem hlt)
      rw [List.drop_eq_getElem_cons hlt] at hs
      simp only [sByte, Prod.mk.injEq] at hs
      obtain ⟨rfl, rfl, rfl⟩ := hs
      exact (refbyte_ok b o _ c _ p w hlt hl hb hc).mono fun en w' h => ⟨p + 1, hlt, rem_ok.symm, h⟩
    · rw [List.drop_of_length_le (by omega)] at hs
      simp only [sByte, Prod.mk.injEq] at hs
      obtain ⟨rfl, rfl, rfl⟩ := hs
      exact (refbyte_end A _ c _ w (by omega)).mono fun en w' h => ⟨p, hp, (rem_err (by decide)).symm, h⟩
  · rw [rem_err he] at hs
    simp only [sByte, Prod.mk.injEq] at hs
    obtain ⟨rfl, rfl, rfl⟩ := hs
    have e1 : firstE e 20 = e := by unfold firstE; rw [if_neg he]
    rw [e1]
    exact (refbyte_err A _ c _ e w (by omega)).mono fun en w' h => ⟨p, hp, (rem_err he).symm, h⟩
theorem refdoes_end {A : Option Addr} {n : Nat} {L : List Nat} {c : Nat} {l' : List Nat} {e' p' : Nat} {v : Value} {w w' : World} (hp : p' ≤ n) (hl : l' = rem L p' e') (hb : Below w.heap.size w w') :
    RefDoes A n L c l' e' v w (.returned (.tuple #[reader A n c (p' : Int) (e' : Int), v])) w' := ⟨p', hp, hl, rfl, hb⟩
def truthE (e1 b : Nat) : Nat × Bool := if b ≤ 1 then (e1, decide (e1 = 0 ∧ b = 1)) else (10, false)
theorem sTruth_byte {l l1 : List Nat} {e e1 b : Nat} (hf : Fine l e) (h : sByte l e = (l1, e1, b)) : sTruth l e = (if b ≤ 1 then l1 else [], truthE e1 b) ∧ (2 ≤ b → e1 = 0) ∧ (e1 ≠ 0 → b = 0 ∧ l1 = []) := by
  cases l with
  | nil =>
    simp only [sByte, Prod.mk.injEq] at h
    obtain ⟨rfl, rfl, rfl⟩ := h
    have := firstE_pos (e := e) (x := 20) (by omega)
    refine ⟨?_, fun h => by omega, fun _ => ⟨rfl, rfl⟩⟩
    simp [sTruth, truthE]
  | cons x t =>
    obtain rfl := fine_zero hf (by simp)
    simp only [sByte, Prod.mk.injEq] at h
    obtain ⟨rfl, rfl, rfl⟩ := h
    refine ⟨?_, fun _ => rfl, fun h => absurd rfl h⟩
    by_cases hx : x ≤ 1
    · simp [sTruth, truthE, hx]
    · simp [sTruth, truthE, hx]
theorem below_twice (w : World) (A : Option Addr) (n c : Nat) (p e : Int) : Below w.heap.size w (twice w A n c p e) :=
  ((Below.refl _ _).alloc (Nat.le_refl _) _).alloc (by simp) _
theorem bad_to (A : Option Addr) (n c : Nat) (p x : Int) (w : World) :
    Calls Tryz.prog 100 #[reader A n c p 0, .int .i64 x] w fun en w' => en = .returned (reader A n c p x) ∧ Below w.heap.size w w' :=
  (bad_set A n c p x w).mono fun _ _ ⟨h1, h2⟩ => ⟨h1, h2 ▸ below_twice _ _ _ _ _ _⟩
theorem bad_as (A : Option Addr) (n c : Nat) (p e x : Int) (w : World) (he : e ≠ 0) :
    Calls Tryz.prog 100 #[reader A n c p e, .int .i64 x] w fun en w' => en = .returned (reader A n c p e) ∧ Below w.heap.size w w' :=
  (bad_keep A n c p e x w he).mono fun _ _ ⟨h1, h2⟩ => ⟨h1, h2 ▸ below_twice _ _ _ _ _ _⟩
abbrev put3 (w : World) (g : Nat) (a b d : Value) : World := ((w.setCell ⟨g, 0, none⟩ a).setCell ⟨g, 1, none⟩ b).setCell ⟨g, 2, none⟩ d
theorem Blk.put3 {w : World} {g : Nat} {T : TypeId} {x y z : Value} (h : Blk w g T #[x, y, z]) (a b d : Value) : Blk (put3 w g a b d) g T #[a, b, d] := ((h.set_ 0 a).set_ 1 b).set_ 2 d
theorem Blk.put3_far {w : World} {g k : Nat} {T : TypeId} {cs : Array Value} (h : Blk w k T cs) (hk : k ≠ g) (a b d : Value) : Blk (Go.Proofs.YtohffiehmmcgbaaGreatDoor.put3 w g a b d) k T cs := ((h.far hk a).far hk b).far hk d
theorem below_put3 {B g : Nat} {w0 w : World} (h : Below B w0 w) (hg : B ≤ g) (a b d : Value) : Below B w0 (put3 w g a b d) :=
  Below.setCell (p := ⟨g, 2, none⟩) (Below.setCell (p := ⟨g, 1, none⟩) (Below.setCell (p := ⟨g, 0, none⟩) h hg a) hg b) hg d
set_option maxRecDepth 100000 in
set_option maxHeartbeats 400000 in
theorem reftruth_high (A : Option Addr) (L : List Nat) (n c p e : Nat) (l1 : List Nat) (b : Nat) (w : World) (hn : L.length = n) (hp : p ≤ n) (hl : n ≤ 9223372036854775807) (hA : Sees .u8 w A L) (hs : sByte (rem L p e) e = (l1, 0, b)) (h2 : 2 ≤ b) :
    Calls Tryz.prog 46 #[reader A n c (p : Int) (e : Int)] w (RefDoes A n L c [] 10 (.bool false) w) := by
  have HA := hid hA
  have HN := hid hn
  have HB := hid hs
  clear hA hn hs
  go_enter Tryz.func46, Tryz.ntmps46
  go_wp2_with fail
  with_reducible refine (refbyte_any A L n c p e l1 0 b _ HN.out hp hl ((HA.out.alloc_ _).alloc_ _) HB.out).mono ?_
  rintro en w1 ⟨p1, hp1, _, rfl, hb1⟩
  have B0 := (blk_two hb1).1
  have B1 := (blk_two hb1).2
  have HW := hid (below_two hb1)
  have hsz : w.heap.size + 1 < w1.heap.size := by have := hb1.size; simp at this; omega
  have HB0 := hid B0
  have HB1 := hid B1
  obtain ⟨⟨c0, c1, c2⟩, f0, f1, f2⟩ := blk3 B0
  clear hb1 B0 B1
  go_wp2_with fail
  with_reducible refine (bad_to A n c p1 10 _).mono ?_
  rintro en w2 ⟨rfl, hb2⟩
  have HW2 := hid ((below_put3 HW.out (Nat.le_refl _) _ _ _).trans (hb2.mono (by simp <;> omega)))
  have D1 := (HB1.out.put3_far (g := w.heap.size) (by omega) _ _ _).below hb2 (by simp <;> omega)
  obtain ⟨⟨d0, d1, d2⟩, k0, k1, k2⟩ := blk3 D1
  clear hb2 D1 c0 c1 c2 f0 f1 f2 hsz HW HA
  go_wp2
  refine bodyPost_ret (v := .tuple #[reader A n c (p1 : Int) 10, .bool false]) (by simp [results, Tryz.results46, go_sem, d0, d1, d2]) rfl ?_
  exact refdoes_end (e' := 10) hp1 (rem_err (by decide)).symm (below_put3 HW2.out (by omega) _ _ _)
set_option maxRecDepth 100000 in
set_option maxHeartbeats 400000 in
theorem reftruth_low (A : Option Addr) (L : List Nat) (n c p e : Nat) (l1 : List Nat) (e1 b : Nat) (z y : Bool) (w : World) (hn : L.length = n) (hp : p ≤ n) (hl : n ≤ 9223372036854775807) (hA : Sees .u8 w A L) (hs : sByte (rem L p e) e = (l1, e1, b))
    (hb : (b : Int) ≤ 1) (hz : ((e1 : Int) == 0) = z) (hy : ((b : Int) == 1) = y) :
    Calls Tryz.prog 46 #[reader A n c (p : Int) (e : Int)] w (RefDoes A n L c l1 e1 (.bool (z && y)) w) := by
  have HA := hid hA
  have HN := hid hn
  have HB := hid hs
  clear hA hn hs
  cases z <;> cases y
  · go_enter Tryz.func46, Tryz.ntmps46
    go_wp2_with fail
    with_reducible refine (refbyte_any A L n c p e l1 e1 b _ HN.out hp hl ((HA.out.alloc_ _).alloc_ _) HB.out).mono ?_
    rintro en w1 ⟨p1, hp1, hr, rfl, hb1⟩
    have HR := hid hr
    have B0 := (blk_two hb1).1
    have B1 := (blk_two hb1).2
    have HW := hid (below_two hb1)
    have hsz : w.heap.size + 1 < w1.heap.size := by have := hb1.size; simp at this; omega
    obtain ⟨⟨c0, c1, c2⟩, f0, f1, f2⟩ := blk3 B0
    obtain ⟨⟨d0, d1, d2⟩, k0, k1, k2⟩ := blk3 B1
    clear hb1 B0 B1 hr
    go_wp2
    refine bodyPost_ret (v := .tuple #[reader A n c (p1 : Int) (e1 : Int), .bool false]) (by simp [results, Tryz.results46, go_sem, d0, d1, d2]) rfl ?_
    exact refdoes_end hp1 HR.out (below_put3 (below_put3 HW.out (Nat.le_refl _) _ _ _) (by omega) _ _ _)
  · go_enter Tryz.func46, Tryz.ntmps46
    go_wp2_with fail
    with_reducible refine (refbyte_any A L n c p e l1 e1 b _ HN.out hp hl ((HA.out.alloc_ _).alloc_ _) HB.out).mono ?_
    rintro en w1 ⟨p1, hp1, hr, rfl, hb1⟩
    have HR := hid hr
    have B0 := (blk_two hb1).1
    have B1 := (blk_two hb1).2
    have HW := hid (below_two hb1)
    have hsz : w.heap.size + 1 < w1.heap.size := by have := hb1.size; simp at this; omega
    obtain ⟨⟨c0, c1, c2⟩, f0, f1, f2⟩ := blk3 B0
    obtain ⟨⟨d0, d1, d2⟩, k0, k1, k2⟩ := blk3 B1
    clear hb1 B0 B1 hr
    go_wp2
    refine bodyPost_ret (v := .tuple #[reader A n c (p1 : Int) (e1 : Int), .bool false]) (by simp [results, Tryz.results46, go_sem, d0, d1, d2]) rfl ?_
    exact refdoes_end hp1 HR.out (below_put3 (below_put3 HW.out (Nat.le_refl _) _ _ _) (by omega) _ _ _)
  · go_enter Tryz.func46, Tryz.ntmps46
    go_wp2_with fail
    with_reducible refine (refbyte_any A L n c p e l1 e1 b _ HN.out hp hl ((HA.out.alloc_ _).alloc_ _) HB.out).mono ?_
    rintro en w1 ⟨p1, hp1, hr, rfl, hb1⟩
    have HR := hid hr
    have B0 := (blk_two hb1).1
    have B1 := (blk_two hb1).2
    have HW := hid (below_two hb1)
    have hsz : w.heap.size + 1 < w1.heap.size := by have := hb1.size; simp at this; omega
    obtain ⟨⟨c0, c1, c2⟩, f0, f1, f2⟩ := blk3 B0
    obtain ⟨⟨d0, d1, d2⟩, k0, k1, k2⟩ := blk3 B1
    clear hb1 B0 B1 hr
    go_wp2
    refine bodyPost_ret (v := .tuple #[reader A n c (p1 : Int) (e1 : Int), .bool false]) (by simp [results, Tryz.results46, go_sem, d0, d1, d2]) rfl ?_
    exact refdoes_end hp1 HR.out (below_put3 (below_put3 HW.out (Nat.le_refl _) _ _ _) (by omega) _ _ _)
  · go_enter Tryz.func46, Tryz.ntmps46
    go_wp2_with fail
    with_reducible refine (refbyte_any A L n c p e l1 e1 b _ HN.out hp hl ((HA.out.alloc_ _).alloc_ _) HB.out).mono ?_
    rintro en w1 ⟨p1, hp1, hr, rfl, hb1⟩
    have HR := hid hr
    have B0 := (blk_two hb1).1
    have B1 := (blk_two hb1).2
    have HW := hid (below_two hb1)
    have hsz : w.heap.size + 1 < w1.heap.size := by have := hb1.size; simp at this; omega
    obtain ⟨⟨c0, c1, c2⟩, f0, f1, f2⟩ := blk3 B0
    obtain ⟨⟨d0, d1, d2⟩, k0, k1, k2⟩ := blk3 B1
    clear hb1 B0 B1 hr
    go_wp2
    refine bodyPost_ret (v := .tuple #[reader A n c (p1 : Int) (e1 : Int), .bool true]) (by simp [results, Tryz.results46, go_sem, d0, d1, d2]) rfl ?_
    exact refdoes_end hp1 HR.out (below_put3 (below_put3 HW.out (Nat.le_refl _) _ _ _) (by omega) _ _ _)
theorem reftruth_any (A : Option Addr) (L : List Nat) (n c p e : Nat) (l' : List Nat) (e' : Nat) (v : Bool) (w : World) (hn : L.length = n) (hp : p ≤ n) (hl : n ≤ 9223372036854775807) (hA : Sees .u8 w A L) (hs : sTruth (rem L p e) e = (l', e', v)) :
    Calls Tryz.prog 46 #[reader A n c (p : Int) (e : Int)] w (RefDoes A n L c l' e' (.bool v) w) := by
  obtain ⟨l1, e1, b, hb⟩ : ∃ l1 e1 b, sByte (rem L p e) e = (l1, e1, b) := ⟨_, _, _, rfl⟩
  obtain ⟨h1, h2, h3⟩ := sTruth_byte (rem_fine L p e) hb
  rw [h1] at hs
  by_cases hb2 : 2 ≤ b
  · obtain rfl := h2 hb2
    simp only [truthE, if_neg (show ¬ b ≤ 1 by omega), Prod.mk.injEq] at hs
    obtain ⟨rfl, rfl, rfl⟩ := hs
    exact reftruth_high A L n c p e l1 b w hn hp hl hA hb hb2
  · simp only [truthE, if_pos (show b ≤ 1 by omega), Prod.mk.injEq] at hs
    obtain ⟨rfl, rfl, rfl⟩ := hs
    have h := reftruth_low A L n c p e l1 e1 b _ _ w hn hp hl hA hb (by omega) rfl rfl
    have ev : (((e1 : Int) == 0) && ((b : Int) == 1)) = decide (e1 = 0 ∧ b = 1) := by
      rw [Bool.eq_iff_iff]
      simp
      omega
    rw [ev] at h
    exact h
set_option maxRecDepth 100000 in
set_option maxHeartbeats 400000 in
theorem reffixed_err (A : Option Addr) (n c : Nat) (p : Int) (e : Nat) (w : World) (he : 0 < e) :
    Calls Tryz.prog 102 #[reader A n c p (e : Int)] w (Tells2 A n c p (e : Int) (.int .u64 0) w) := by
  have he1 : ((e : Int) != 0) = true := by rw [bne_iff_ne]; omega
  go_enter Tryz.func102, Tryz.ntmps102
  go_wp2_with fail
  with_reducible refine (bad_keep A n c p (e : Int) 20 _ (by omega)).mono ?_
  rintro en w1 ⟨rfl, rfl⟩
  go_wp2
  refine bodyPost_ret (v := .tuple #[reader A n c p (e : Int), .int .u64 0]) (by simp [results, Tryz.results102, go_sem]) rfl ⟨rfl, ?_⟩
  exact ((((Below.refl _ _).alloc (Nat.le_refl _) _).alloc (by simp) _).alloc (by simp <;> omega) _).alloc (by simp <;> omega) _
set_option maxRecDepth 100000 in
set_option maxHeartbeats 400000 in
theorem reffixed_end (A : Option Addr) (n c p : Nat) (w : World) (hp : p ≤ n) (_hn : n ≤ 9223372036854775807) (h8 : n < p + 8) :
    Calls Tryz.prog 102 #[reader A n c (p : Int) 0] w (Tells2 A n c (p : Int) 20 (.int .u64 0) w) := by
  go_enter Tryz.func102, Tryz.ntmps102
  go_wp2_with fail
  with_reducible refine (bad_set A n c p 20 _).mono ?_
  rintro en w1 ⟨rfl, rfl⟩
  go_wp2
  refine bodyPost_ret (v := .tuple #[reader A n c (p : Int) 20, .int .u64 0]) (by simp [results, Tryz.results102, go_sem]) rfl ⟨rfl, ?_⟩
  exact ((((Below.refl _ _).alloc (Nat.le_refl _) _).alloc (by simp) _).alloc (by simp <;> omega) _).alloc (by simp <;> omega) _
def EightRel (l : List Nat) (v i : Value) : Prop := ∃ k : Nat, k ≤ 8 ∧ i = .int .i64 (k : Int) ∧ v = .int .u64 (numN (l.take k) : Int)
theorem mul8_walk (m c : Nat) (hm : m < 72057594037927936) (hc : c < 256) : IntKind.u64.wrap (IntKind.u64.wrap ((m : Int) * 256) + (c : Int)) = ((m * 256 + c : Nat) : Int) := by
  rw [IntKind.wrap_u64, IntKind.wrap_u64]
  omega
set_option maxRecDepth 100000 in
set_option maxHeartbeats 400000 in
theorem reffixed_ok (b o : Nat) (L : List Nat) (n c p : Nat) (w : World) (hL : L.length = n) (hn : n ≤ 9223372036854775807) (h8 : p + 8 ≤ n) (hx : ∀ x ∈ L, x < 256) (hb : b < w.heap.size) (hA : Sees .u8 w (some ⟨b, o, none⟩) L) :
    Calls Tryz.prog 102 #[reader (some ⟨b, o, none⟩) n c (p : Int) 0] w (Tells2 (some ⟨b, o, none⟩) n c ((p : Int) + 8) 0 (.int .u64 (numN ((L.drop p).take 8) : Int)) w) := by
  have HA := hid hA
  have HL := hid hL
  have HX : Hid (∀ x ∈ L.drop p, x < 256) := hid (fun x h => hx x (List.mem_of_mem_drop h))
  have HD : Hid ((L.drop p).length = n - p) := hid (by rw [List.length_drop, hL])
  clear hA hL hx
  go_enter Tryz.func102, Tryz.ntmps102
  go_wp2
  go_loop [4, 5] (fun v i => EightRel (L.drop p) v i) (fun _ i => 8 - (intOf i).toNat)
  case atStart => exact ⟨0, Nat.zero_le _, rfl, rfl⟩
  case round =>
    obtain ⟨k, hk, rfl, rfl⟩ := hrel
    by_cases hlt : k < 8
    · have hkd : k < (L.drop p).length := by rw [HD.out]; omega
      obtain ⟨b', o', hA', _, hc⟩ := HA.out (p + k) ((L.drop p)[k]) (by rw [← List.getElem?_drop, List.getElem?_eq_getElem hkd])
      injection hA' with hA'
      injection hA' with q1 q2
      subst q1; subst q2
      have hm : numN ((L.drop p).take k) < 72057594037927936 := by have := numN_lt (L.drop p) HX.out k; have := pow256 (k := k) (by omega); omega
      have hc8 := HX.out _ (List.getElem_mem hkd)
      have HJ := hid (mul8_walk (numN ((L.drop p).take k)) (L.drop p)[k] hm hc8)
      have HS := hid (numN_take hkd)
      generalize numN ((L.drop p).take k) = m at *
      generalize (L.drop p)[k] = x at *
      go_wp2
      go_round
      case rel => exact ⟨k + 1, by omega, by go_num, by rw [HS.out]; first | rfl | rw [← HJ.out] | go_num⟩
      case measure => simp only [intOf]; omega
    · obtain rfl : k = 8 := by omega
      go_wp2
      refine bodyPost_ret (v := .tuple #[reader (some ⟨b, o, none⟩) n c ((p : Int) + 8) 0, .int .u64 (numN ((L.drop p).take 8) : Int)]) (by simp [results, Tryz.results102, go_sem]) rfl ⟨rfl, ?_⟩
      exact ((Below.refl _ _).alloc (Nat.le_refl _) _).alloc (by simp) _
theorem reffixed_any (A : Option Addr) (L : List Nat) (n c p e : Nat) (l' : List Nat) (e' v : Nat) (w : World) (hn : L.length = n) (hp : p ≤ n) (hl : n ≤ 9223372036854775807) (hx : ∀ x ∈ L, x < 256) (hA : Sees .u8 w A L) (hs : sFixed (rem L p e) e = (l', e', v)) :
    Calls Tryz.prog 102 #[reader A n c (p : Int) (e : Int)] w (RefDoes A n L c l' e' (.int .u64 (v : Int)) w) := by
  unfold sFixed at hs
  by_cases he : e = 0
  · subst he
    rw [rem_ok] at hs
    by_cases hlt : p + 8 ≤ n
    · rw [if_neg (by rw [List.length_drop]; omega)] at hs
      simp only [Prod.mk.injEq] at hs
      obtain ⟨rfl, rfl, rfl⟩ := hs
      obtain ⟨b, o, rfl, hb, _⟩ := hA 0 (L[0]'(by omega)) (List.getElem?_eq_getElem (by omega))
      exact (reffixed_ok b o L n c p w hn hl hlt hx hb hA).mono fun en w' h => ⟨p + 8, hlt, by rw [rem_ok, List.drop_drop], h⟩
    · rw [if_pos (by rw [List.length_drop]; omega)] at hs
      simp only [Prod.mk.injEq] at hs
      obtain ⟨rfl, rfl, rfl⟩ := hs
      exact (reffixed_end A n c p w hp hl (by omega)).mono fun en w' h => ⟨p, hp, (rem_err (by decide)).symm, h⟩
  · rw [rem_err he, if_pos (by simp)] at hs
    simp only [Prod.mk.injEq] at hs
    obtain ⟨rfl, rfl, rfl⟩ := hs
    have e1 : firstE e 20 = e := by unfold firstE; rw [if_neg he]
    rw [e1]
    exact (reffixed_err A _ c _ e w (by omega)).mono fun en w' h => ⟨p, hp, (rem_err he).symm, h⟩
end Go.Proofs.YtohffiehmmcgbaaGreatDoor
namespace Go.Proofs.YtohffiehmmcgbaaGreatDoor
open Go.ChangeShapes Go.WideShapes Go.ChangeAt Go.RowKit
theorem refreadshort_as (A : Option Addr) (l : List Nat) (m ca : Nat) (w : World) (hm : l.length = m) (hl : m ≤ 9223372036854775807) (h8 : ∀ x ∈ l, x < 256) (hA : Sees .u8 w A l) :
    Calls Tryz.prog 140 #[.slice A m ca] w (Tells (readN l) w) := by
  subst hm; exact refreadshort_any A l ca w hl h8 hA
set_option maxRecDepth 100000 in
set_option maxHeartbeats 400000 in
theorem refshort_err (A : Option Addr) (n c : Nat) (p : Int) (e : Nat) (most : Int) (w : World) (he : 0 < e) :
    Calls Tryz.prog 99 #[reader A n c p (e : Int), .int .u64 most] w (Tells2 A n c p (e : Int) (.int .u64 0) w) := by
  have he1 : ((e : Int) != 0) = true := by rw [bne_iff_ne]; omega
  go_enter Tryz.func99, Tryz.ntmps99
  go_wp2
  refine bodyPost_ret (v := .tuple #[reader A n c p (e : Int), .int .u64 0]) (by simp [results, Tryz.results99, go_sem]) rfl ⟨rfl, ?_⟩
  exact ((Below.refl _ _).alloc (Nat.le_refl _) _).alloc (by simp) _
set_option maxRecDepth 100000 in
set_option maxHeartbeats 400000 in
theorem refshort_bad (A : Option Addr) (L : List Nat) (n c p z : Nat) (most : Int) (w : World) (hL : L.length = n) (hp : p ≤ n) (hn : n ≤ 9223372036854775807) (hc : n ≤ c) (hA0 : A = none → c = 0) (_hm : 0 ≤ most) (hx : ∀ x ∈ L, x < 256) (hA : Sees .u8 w A L)
    (hr : readN (L.drop p) = (0, 0, z)) (hz : 0 < z) :
    Calls Tryz.prog 99 #[reader A n c (p : Int) 0, .int .u64 most] w (Tells2 A n c (p : Int) (z : Int) (.int .u64 0) w) := by
  obtain ⟨i0, hi, hz0, hz1, hz2⟩ := info_parts info_u8
  obtain ⟨A1, s1, n1, l1⟩ := cut_rest (P := Tryz.prog) 22 5 i0 Tryz.underlying22 hi hz1 hL hp hc hA.held hA0
  have HA := hid l1
  have HX : Hid (∀ x ∈ L.drop p, x < 256) := hid (fun x h => hx x (List.mem_of_mem_drop h))
  have HD : Hid ((L.drop p).length = n - p) := hid (by rw [List.length_drop, hL])
  have HR := hid hr
  have he1 : ((z : Int) != 0) = true := by rw [bne_iff_ne]; omega
  clear hA hx hL hr l1 n1 hi hz0 hz1 hz2 hA0
  go_enter Tryz.func99, Tryz.ntmps99
  go_wp2_with fail
  with_reducible refine (refreadshort_as A1 (L.drop p) (n - p) _ _ HD.out (by omega) HX.out (((HA.out.sees (Nat.le_refl _)).alloc_ _).alloc_ _)).mono ?_
  rintro en w1 ⟨rfl, rfl⟩
  rw [HR.out]
  go_wp2_with fail
  with_reducible refine (bad_set A n c p (z : Int) _).mono ?_
  rintro en w1 ⟨rfl, rfl⟩
  go_wp2
  refine bodyPost_ret (v := .tuple #[reader A n c (p : Int) (z : Int), .int .u64 0]) (by simp [results, Tryz.results99, go_sem]) rfl ⟨rfl, ?_⟩
  exact ((((Below.refl _ _).alloc (Nat.le_refl _) _).alloc (by simp) _).alloc (by simp <;> omega) _).alloc (by simp <;> omega) _
set_option maxRecDepth 100000 in
set_option maxHeartbeats 400000 in
theorem refshort_high (A : Option Addr) (L : List Nat) (n c p v k : Nat) (most : Int) (w : World) (hL : L.length = n) (hp : p ≤ n) (hn : n ≤ 9223372036854775807) (hc : n ≤ c) (hA0 : A = none → c = 0) (hx : ∀ x ∈ L, x < 256) (hA : Sees .u8 w A L)
    (hr : readN (L.drop p) = (v, k, 0)) (hm : most < (v : Int)) :
    Calls Tryz.prog 99 #[reader A n c (p : Int) 0, .int .u64 most] w (Tells2 A n c (p : Int) 12 (.int .u64 0) w) := by
  obtain ⟨i0, hi, hz0, hz1, hz2⟩ := info_parts info_u8
  obtain ⟨A1, s1, n1, l1⟩ := cut_rest (P := Tryz.prog) 22 5 i0 Tryz.underlying22 hi hz1 hL hp hc hA.held hA0
  have HA := hid l1
  have HX : Hid (∀ x ∈ L.drop p, x < 256) := hid (fun x h => hx x (List.mem_of_mem_drop h))
  have HD : Hid ((L.drop p).length = n - p) := hid (by rw [List.length_drop, hL])
  have HR := hid hr
  clear hA hx hL hr l1 n1 hi hz0 hz1 hz2 hA0
  go_enter Tryz.func99, Tryz.ntmps99
  go_wp2_with fail
  with_reducible refine (refreadshort_as A1 (L.drop p) (n - p) _ _ HD.out (by omega) HX.out (((HA.out.sees (Nat.le_refl _)).alloc_ _).alloc_ _)).mono ?_
  rintro en w1 ⟨rfl, rfl⟩
  rw [HR.out]
  go_wp2_with fail
  with_reducible refine (bad_set A n c p 12 _).mono ?_
  rintro en w1 ⟨rfl, rfl⟩
  go_wp2
  refine bodyPost_ret (v := .tuple #[reader A n c (p : Int) 12, .int .u64 0]) (by simp [results, Tryz.results99, go_sem]) rfl ⟨rfl, ?_⟩
  exact ((((Below.refl _ _).alloc (Nat.le_refl _) _).alloc (by simp) _).alloc (by simp <;> omega) _).alloc (by simp <;> omega) _
set_option maxRecDepth 100000 in
set_option maxHeartbeats 400000 in
theorem refshort_ok (A : Option Addr) (L : List Nat) (n c p v k : Nat) (most : Int) (w : World) (hL : L.length = n) (hp : p ≤ n) (hn : n ≤ 9223372036854775807) (hc : n ≤ c) (hA0 : A = none → c = 0) (hx : ∀ x ∈ L, x < 256) (hA : Sees .u8 w A L)
    (hr : readN (L.drop p) = (v, k, 0)) (hk : p + k ≤ n) (hm : (v : Int) ≤ most) :
    Calls Tryz.prog 99 #[reader A n c (p : Int) 0, .int .u64 most] w (Tells2 A n c ((p : Int) + (k : Int)) 0 (.int .u64 (v : Int)) w) := by
  obtain ⟨i0, hi, hz0, hz1, hz2⟩ := info_parts info_u8
  obtain ⟨A1, s1, n1, l1⟩ := cut_rest (P := Tryz.prog) 22 5 i0 Tryz.underlying22 hi hz1 hL hp hc hA.held hA0
  have HA := hid l1
  have HX : Hid (∀ x ∈ L.drop p, x < 256) := hid (fun x h => hx x (List.mem_of_mem_drop h))
  have HD : Hid ((L.drop p).length = n - p) := hid (by rw [List.length_drop, hL])
  have HR := hid hr
  clear hA hx hL hr l1 n1 hi hz0 hz1 hz2 hA0
  go_enter Tryz.func99, Tryz.ntmps99
  go_wp2_with fail
  with_reducible refine (refreadshort_as A1 (L.drop p) (n - p) _ _ HD.out (by omega) HX.out (((HA.out.sees (Nat.le_refl _)).alloc_ _).alloc_ _)).mono ?_
  rintro en w1 ⟨rfl, rfl⟩
  rw [HR.out]
  go_wp2
  refine bodyPost_ret (v := .tuple #[reader A n c ((p : Int) + (k : Int)) 0, .int .u64 (v : Int)]) (by simp [results, Tryz.results99, go_sem]) rfl ⟨rfl, ?_⟩
  exact ((Below.refl _ _).alloc (Nat.le_refl _) _).alloc (by simp) _
theorem refshort_any' (A : Option Addr) (L : List Nat) (n c p e most : Nat) (a : Int) (l' : List Nat) (e' v : Nat) (w : World) (ha : a = (most : Int)) (hn : L.length = n) (hp : p ≤ n) (hl : n ≤ 9223372036854775807) (hc : n ≤ c) (hA0 : A = none → c = 0) (hx : ∀ x ∈ L, x < 256) (hA : Sees .u8 w A L) (hs : sShort (rem L p e) e most = (l', e', v)) :
    Calls Tryz.prog 99 #[reader A n c (p : Int) (e : Int), .int .u64 a] w (RefDoes A n L c l' e' (.int .u64 (v : Int)) w) := by
  subst ha
  unfold sShort at hs
  by_cases he : e = 0
  · subst he
    rw [rem_ok] at hs
    by_cases hz : (readN (L.drop p)).2.2 = 0
    · rw [if_pos hz] at hs
      have hr : readN (L.drop p) = ((readN (L.drop p)).1, (readN (L.drop p)).2.1, 0) := by rw [← hz]
      by_cases hm : most < (readN (L.drop p)).1
      · rw [if_pos hm] at hs
        simp only [Prod.mk.injEq] at hs
        obtain ⟨rfl, rfl, rfl⟩ := hs
        exact (refshort_high A L n c p _ _ most w hn hp hl hc hA0 hx hA hr (by omega)).mono fun en w' h => ⟨p, hp, (rem_err (by decide)).symm, h⟩
      · rw [if_neg hm] at hs
        simp only [Prod.mk.injEq] at hs
        obtain ⟨rfl, rfl, rfl⟩ := hs
        have hk : p + (readN (L.drop p)).2.1 ≤ n := by
          have := (readN_inv (fun x h => hx x (List.mem_of_mem_drop h)) hr).2.1
          rw [List.length_drop] at this
          omega
        exact (refshort_ok A L n c p _ _ most w hn hp hl hc hA0 hx hA hr hk (by omega)).mono fun en w' h => ⟨p + (readN (L.drop p)).2.1, hk, by rw [rem_ok, List.drop_drop], h⟩
    · rw [if_neg hz] at hs
      simp only [Prod.mk.injEq] at hs
      obtain ⟨rfl, rfl, rfl⟩ := hs
      rw [firstE_none]
      exact (refshort_bad A L n c p _ most w hn hp hl hc hA0 (by omega) hx hA (readN_zero hz) (by omega)).mono fun en w' h => ⟨p, hp, (rem_err hz).symm, h⟩
  · have h20 : (readN ([] : List Nat)).2.2 = 20 := rfl
    rw [rem_err he, if_neg (by rw [h20]; decide)] at hs
    simp only [Prod.mk.injEq] at hs
    obtain ⟨rfl, rfl, rfl⟩ := hs
    have e1 : firstE e (readN ([] : List Nat)).2.2 = e := by unfold firstE; rw [if_neg he]
    rw [e1]
    exact (refshort_err A n c _ e _ w (by omega)).mono fun en w' h => ⟨p, hp, (rem_err he).symm, h⟩
set_option maxRecDepth 100000 in
set_option maxHeartbeats 400000 in
theorem refend_any (A : Option Addr) (L : List Nat) (n c p e : Nat) (w : World) (hn : L.length = n) (hp : p ≤ n) :
    Calls Tryz.prog 14 #[reader A n c (p : Int) (e : Int)] w fun en w' => en = .returned (.int .i64 (endE (rem L p e) e : Int)) ∧ Below w.heap.size w w' := by
  by_cases he : e = 0
  · subst he
    by_cases hlt : p < n
    · have HE : Hid (endE (rem L p 0) 0 = 21) := hid (by
        rw [endE, if_neg]
        rw [rem_ok]
        intro h
        have := congrArg List.length h
        rw [List.length_drop, hn] at this
        simp at this
        omega)
      clear hn
      go_enter Tryz.func14, Tryz.ntmps14
      go_wp2
      go_ret
      exact ⟨ret_num (by rw [HE.out]; rfl), (Below.refl _ _).alloc (Nat.le_refl _) _⟩
    · have HE : Hid (endE (rem L p 0) 0 = 0) := hid (by
        rw [endE, if_pos]
        rw [rem_ok, List.drop_of_length_le (by omega)])
      have hge : n ≤ p := by omega
      clear hn hlt
      go_enter Tryz.func14, Tryz.ntmps14
      go_wp2
      go_ret
      exact ⟨ret_num (by rw [HE.out]; rfl), (Below.refl _ _).alloc (Nat.le_refl _) _⟩
  · have HE : Hid (endE (rem L p e) e = e) := hid (by rw [endE, if_pos (rem_err he)])
    have he1 : ((e : Int) == 0) = false := by rw [beq_eq_false_iff_ne]; omega
    clear hn he
    go_enter Tryz.func14, Tryz.ntmps14
    go_wp2
    go_ret
    exact ⟨ret_num (by rw [HE.out]), (Below.refl _ _).alloc (Nat.le_refl _) _⟩
set_option maxRecDepth 100000 in
set_option maxHeartbeats 400000 in
theorem reftext_err (A : Option Addr) (L l1 : List Nat) (n c p e e1 k most : Nat) (w : World) (hm : most ≤ 9223372036854775807) (hn : L.length = n) (hp : p ≤ n) (hl : n ≤ 9223372036854775807) (hc : n ≤ c) (hA0 : A = none → c = 0) (hx : ∀ x ∈ L, x < 256) (hA : Sees .u8 w A L)
    (hs : sShort (rem L p e) e most = (l1, e1, k)) (he : 0 < e1) :
    Calls Tryz.prog 103 #[reader A n c (p : Int) (e : Int), .int .i64 (most : Int)] w (RefDoes A n L c [] e1 (.string (strN [])) w) := by
  have HA := hid hA
  have HN := hid hn
  have HB := hid hs
  have H0 := hid hA0
  have HX := hid hx
  have he1 : ((e1 : Int) != 0) = true := by rw [bne_iff_ne]; omega
  clear hA hn hs hA0 hx
  go_enter Tryz.func103, Tryz.ntmps103
  go_wp2_with fail
  with_reducible refine (refshort_any' A L n c p e most _ l1 e1 k _ (by omega) HN.out hp hl hc H0.out HX.out ((HA.out.alloc_ _).alloc_ _) HB.out).mono ?_
  rintro en w1 ⟨p1, hp1, _, rfl, hb1⟩
  have B0 := (blk_two hb1).1
  have HB1 := hid (blk_two hb1).2
  have HW := hid (below_two hb1)
  have hsz : w.heap.size + 1 < w1.heap.size := by have := hb1.size; simp at this; omega
  obtain ⟨⟨c0, c1, c2⟩, f0, f1, f2⟩ := blk3 B0
  clear hb1 B0
  go_wp2_with fail
  with_reducible refine (bad_as A n c p1 e1 20 _ (by omega)).mono ?_
  rintro en w2 ⟨rfl, hb2⟩
  have HW2 := hid ((below_put3 HW.out (Nat.le_refl _) _ _ _).trans (hb2.mono (by simp <;> omega)))
  have D1 := (HB1.out.put3_far (g := w.heap.size) (by omega) _ _ _).below hb2 (by simp <;> omega)
  obtain ⟨⟨d0, d1, d2⟩, k0, k1, k2⟩ := blk3 D1
  clear hb2 D1 c0 c1 c2 f0 f1 f2 hsz HW HA
  go_wp2
  refine bodyPost_ret (v := .tuple #[reader A n c (p1 : Int) (e1 : Int), .string (strN [])]) (by simp [results, Tryz.results103, go_sem, d0, d1, d2]; rfl) rfl ?_
  exact refdoes_end hp1 (rem_err (by omega)).symm (below_put3 HW2.out (by omega) _ _ _)
set_option maxRecDepth 100000 in
set_option maxHeartbeats 400000 in
theorem reftext_few (A : Option Addr) (L l1 : List Nat) (n c p e k most : Nat) (w : World) (hm : most ≤ 9223372036854775807) (hn : L.length = n) (hp : p ≤ n) (hl : n ≤ 9223372036854775807) (hc : n ≤ c) (hA0 : A = none → c = 0) (hx : ∀ x ∈ L, x < 256) (hA : Sees .u8 w A L)
    (hs : sShort (rem L p e) e most = (l1, 0, k)) (hk : l1.length < k) :
    Calls Tryz.prog 103 #[reader A n c (p : Int) (e : Int), .int .i64 (most : Int)] w (RefDoes A n L c [] 20 (.string (strN [])) w) := by
  have HA := hid hA
  have HN := hid hn
  have HB := hid hs
  have H0 := hid hA0
  have HX := hid hx
  clear hA hn hs hA0 hx
  go_enter Tryz.func103, Tryz.ntmps103
  go_wp2_with fail
  with_reducible refine (refshort_any' A L n c p e most _ l1 0 k _ (by omega) HN.out hp hl hc H0.out HX.out ((HA.out.alloc_ _).alloc_ _) HB.out).mono ?_
  rintro en w1 ⟨p1, hp1, hr, rfl, hb1⟩
  have hk2 : n < p1 + k := by rw [hr, rem_ok, List.length_drop, HN.out] at hk; omega
  have B0 := (blk_two hb1).1
  have HB1 := hid (blk_two hb1).2
  have HW := hid (below_two hb1)
  have hsz : w.heap.size + 1 < w1.heap.size := by have := hb1.size; simp at this; omega
  obtain ⟨⟨c0, c1, c2⟩, f0, f1, f2⟩ := blk3 B0
  clear hb1 B0 hr hk
  go_wp2_with fail
  with_reducible refine (bad_to A n c p1 20 _).mono ?_
  rintro en w2 ⟨rfl, hb2⟩
  have HW2 := hid ((below_put3 HW.out (Nat.le_refl _) _ _ _).trans (hb2.mono (by simp <;> omega)))
  have D1 := (HB1.out.put3_far (g := w.heap.size) (by omega) _ _ _).below hb2 (by simp <;> omega)
  obtain ⟨⟨d0, d1, d2⟩, k0, k1, k2⟩ := blk3 D1
  clear hb2 D1 c0 c1 c2 f0 f1 f2 hsz HW HA
  go_wp2
  refine bodyPost_ret (v := .tuple #[reader A n c (p1 : Int) 20, .string (strN [])]) (by simp [results, Tryz.results103, go_sem, d0, d1, d2]; rfl) rfl ?_
  exact refdoes_end (e' := 20) hp1 (rem_err (by decide)).symm (below_put3 HW2.out (by omega) _ _ _)
set_option maxRecDepth 100000 in
set_option maxHeartbeats 400000 in
theorem reftext_ok (A : Option Addr) (L l1 : List Nat) (n c p e k most : Nat) (w : World) (hm : most ≤ 9223372036854775807) (hn : L.length = n) (hp : p ≤ n) (hl : n ≤ 9223372036854775807) (hc : n ≤ c) (hA0 : A = none → c = 0) (hx : ∀ x ∈ L, x < 256) (hA : Sees .u8 w A L)
    (hs : sShort (rem L p e) e most = (l1, 0, k)) (hk : k ≤ l1.length) :
    Calls Tryz.prog 103 #[reader A n c (p : Int) (e : Int), .int .i64 (most : Int)] w (RefDoes A n L c (l1.drop k) 0 (.string (strN (l1.take k))) w) := by
  obtain ⟨i0, hi, hz0, hz1, hz2⟩ := info_parts info_u8
  have HA := hid hA
  have HN := hid hn
  have HB := hid hs
  have H0 := hid hA0
  have HX := hid hx
  clear hA hn hs hA0 hx
  go_enter Tryz.func103, Tryz.ntmps103
  go_wp2_with fail
  with_reducible refine (refshort_any' A L n c p e most _ l1 0 k _ (by omega) HN.out hp hl hc H0.out HX.out ((HA.out.alloc_ _).alloc_ _) HB.out).mono ?_
  rintro en w1 ⟨p1, hp1, hr, rfl, hb1⟩
  rw [rem_ok] at hr
  have hk2 : p1 + k ≤ n := by rw [hr, List.length_drop, HN.out] at hk; omega
  have B0 := (blk_two hb1).1
  have B1 := (blk_two hb1).2
  have HW := hid (below_two hb1)
  have hsz : w.heap.size + 1 < w1.heap.size := by have := hb1.size; simp at this; omega
  obtain ⟨⟨c0, c1, c2⟩, f0, f1, f2⟩ := blk3 B0
  obtain ⟨⟨d0, d1, d2⟩, k0, k1, k2⟩ := blk3 B1
  obtain ⟨A1, s1, n1, h1⟩ := cut_mid (P := Tryz.prog) (k := p1) (m := p1 + k) 22 5 i0 Tryz.underlying22 hi hz1 HN.out (by omega) hk2 hc HA.out.held H0.out
  rw [Nat.add_sub_cancel_left, Int.natCast_add] at s1
  rw [Nat.add_sub_cancel_left, ← hr] at h1
  have hlk : (l1.take k).length = k := by rw [List.length_take]; omega
  have hW3 := below_put3 HW.out (Nat.le_refl _) (.slice A n c) (.int .i64 (p1 : Int)) (.int .i64 0)
  have hcv : (convert 22 9 (.slice A1 k (c - p1))).run Tryz.prog (((w1.setCell ⟨w.heap.size, 0, none⟩ (.slice A n c)).setCell ⟨w.heap.size, 1, none⟩ (.int .i64 (p1 : Int))).setCell ⟨w.heap.size, 2, none⟩ (.int .i64 0)) =
      .ok (.string (strN (l1.take k))) (((w1.setCell ⟨w.heap.size, 0, none⟩ (.slice A n c)).setCell ⟨w.heap.size, 1, none⟩ (.int .i64 (p1 : Int))).setCell ⟨w.heap.size, 2, none⟩ (.int .i64 0)) := sees_convert ((h1.below hW3).sees hW3.size) hlk (c - p1)
  have hkI : k ≤ 9223372036854775807 := by omega
  have HR := hid hr
  have HCV := hid hcv
  have HC0 : Hid (Blk (((w1.setCell ⟨w.heap.size, 0, none⟩ (.slice A n c)).setCell ⟨w.heap.size, 1, none⟩ (.int .i64 (p1 : Int))).setCell ⟨w.heap.size, 2, none⟩ (.int .i64 0)) w.heap.size 42 #[.slice A n c, .int .i64 (p1 : Int), .int .i64 0]) := hid (Blk.put3 B0 (.slice A n c) (.int .i64 (p1 : Int)) (.int .i64 0))
  have HC1 : Hid (Blk (((w1.setCell ⟨w.heap.size, 0, none⟩ (.slice A n c)).setCell ⟨w.heap.size, 1, none⟩ (.int .i64 (p1 : Int))).setCell ⟨w.heap.size, 2, none⟩ (.int .i64 0)) (w.heap.size + 1) 42 #[.slice none 0 0, .int .i64 0, .int .i64 0]) := hid (B1.put3_far (g := w.heap.size) (by omega) (.slice A n c) (.int .i64 (p1 : Int)) (.int .i64 0))
  have HW3 : Hid (Below w.heap.size w (((w1.setCell ⟨w.heap.size, 0, none⟩ (.slice A n c)).setCell ⟨w.heap.size, 1, none⟩ (.int .i64 (p1 : Int))).setCell ⟨w.heap.size, 2, none⟩ (.int .i64 0))) := hid hW3
  clear hb1 B0 B1 hr hk hlk h1 n1 hi hz0 hz1 hz2 hW3 hcv
  go_wp2
  rw [HCV.out]
  generalize ((w1.setCell ⟨w.heap.size, 0, none⟩ (.slice A n c)).setCell ⟨w.heap.size, 1, none⟩ (.int .i64 (p1 : Int))).setCell ⟨w.heap.size, 2, none⟩ (.int .i64 0) = w2 at *
  clear c0 c1 c2 f0 f1 f2 d0 d1 d2 k0 k1 k2 s1 HCV
  obtain ⟨⟨c0, c1, c2⟩, f0, f1, f2⟩ := blk3 HC0.out
  obtain ⟨⟨d0, d1, d2⟩, k0, k1, k2⟩ := blk3 HC1.out
  go_wp2
  refine bodyPost_ret (v := .tuple #[reader A n c ((p1 : Int) + (k : Int)) 0, .string (strN (l1.take k))]) (by simp [results, Tryz.results103, go_sem, d0, d1, d2]) rfl ?_
  have hb := below_put3 (g := w.heap.size + 1) (Below.setCell (p := ⟨w.heap.size, 1, none⟩) HW3.out (Nat.le_refl _) (.int .i64 ((p1 : Int) + (k : Int)))) (by omega) (.slice A n c) (.int .i64 ((p1 : Int) + (k : Int))) (.int .i64 0)
  exact refdoes_end (p' := p1 + k) (e' := 0) hk2 (by rw [HR.out, rem_ok, List.drop_drop]) hb
theorem reftext_any (A : Option Addr) (L : List Nat) (n c p e most : Nat) (a : Int) (l' : List Nat) (e' : Nat) (t : List Nat) (w : World) (ha : a = (most : Int)) (hm : most ≤ 9223372036854775807) (hn : L.length = n) (hp : p ≤ n) (hl : n ≤ 9223372036854775807) (hc : n ≤ c) (hA0 : A = none → c = 0) (hx : ∀ x ∈ L, x < 256) (hA : Sees .u8 w A L)
    (hs : sText (rem L p e) e most = (l', e', t)) :
    Calls Tryz.prog 103 #[reader A n c (p : Int) (e : Int), .int .i64 a] w (RefDoes A n L c l' e' (.string (strN t)) w) := by
  subst ha
  have e3 : sShort (rem L p e) e most = ((sShort (rem L p e) e most).1, (sShort (rem L p e) e most).2.1, (sShort (rem L p e) e most).2.2) := rfl
  unfold sText at hs
  by_cases h0 : (sShort (rem L p e) e most).2.1 = 0
  · rw [h0] at e3
    by_cases hk : (sShort (rem L p e) e most).2.2 ≤ (sShort (rem L p e) e most).1.length
    · rw [if_pos ⟨h0, hk⟩] at hs
      simp only [Prod.mk.injEq] at hs
      obtain ⟨rfl, rfl, rfl⟩ := hs
      exact reftext_ok A L _ n c p e _ most w hm hn hp hl hc hA0 hx hA e3 hk
    · rw [if_neg (fun h => hk h.2), h0] at hs
      simp only [Prod.mk.injEq] at hs
      obtain ⟨rfl, rfl, rfl⟩ := hs
      exact reftext_few A L _ n c p e _ most w hm hn hp hl hc hA0 hx hA e3 (by omega)
  · rw [if_neg (fun h => h0 h.1)] at hs
    simp only [Prod.mk.injEq] at hs
    obtain ⟨rfl, rfl, rfl⟩ := hs
    have e1 : firstE (sShort (rem L p e) e most).2.1 20 = (sShort (rem L p e) e most).2.1 := by unfold firstE; rw [if_neg h0]
    rw [e1]
    exact reftext_err A L _ n c p e _ _ most w hm hn hp hl hc hA0 hx hA e3 (by omega)
end Go.Proofs.YtohffiehmmcgbaaGreatDoor
namespace Go.Proofs.YtohffiehmmcgbaaGreatDoor
open Go.ChangeShapes Go.WideShapes Go.ChangeAt Go.RowKit
set_option linter.unusedVariables false
theorem blk_3of {w w1 : World} {a b d : Array Value} {T U V : TypeId} (h : Below (((w.alloc (.cells a T)).alloc (.cells b U)).alloc (.cells d V)).heap.size (((w.alloc (.cells a T)).alloc (.cells b U)).alloc (.cells d V)) w1) :
    Blk w1 w.heap.size T a ∧ Blk w1 (w.heap.size + 1) U b ∧ Blk w1 (w.heap.size + 2) V d ∧ Below w.heap.size w w1 ∧ w.heap.size + 3 ≤ w1.heap.size := by
  have h0 := Blk.new w T a
  have h1 := Blk.new (w.alloc (.cells a T)) U b
  have h2 := Blk.new ((w.alloc (.cells a T)).alloc (.cells b U)) V d
  have e1 : (w.alloc (.cells a T)).heap.size = w.heap.size + 1 := by simp
  have e2 : ((w.alloc (.cells a T)).alloc (.cells b U)).heap.size = w.heap.size + 2 := by simp
  have e3 : (((w.alloc (.cells a T)).alloc (.cells b U)).alloc (.cells d V)).heap.size = w.heap.size + 3 := by simp
  rw [e1] at h1
  rw [e2] at h2
  have hs := h.size
  rw [e3] at hs h
  exact ⟨((h0.alloc _).alloc _).below h (by omega), (h1.alloc _).below h (by omega), h2.below h (by omega),
    ((((Below.refl _ _).alloc (Nat.le_refl _) _).alloc (by rw [e1]; omega) _).alloc (by rw [e2]; omega) _).trans (h.mono (by omega)), hs⟩
theorem refshort_12 (A : Option Addr) (L : List Nat) (n c p : Nat) (l' : List Nat) (e' v : Nat) (w : World) (hn : L.length = n) (hp : p ≤ n) (hl : n ≤ 9223372036854775807) (hc : n ≤ c) (hA0 : A = none → c = 0) (hx : ∀ x ∈ L, x < 256) (hA : Sees .u8 w A L) (hs : sShort (rem L p 12) 12 1023 = (l', e', v)) :
    Calls Tryz.prog 99 #[reader A n c (p : Int) 12, .int .u64 1023] w (RefDoes A n L c l' e' (.int .u64 (v : Int)) w) :=
  refshort_any' A L n c p 12 1023 1023 l' e' v w rfl hn hp hl hc hA0 hx hA hs
set_option maxRecDepth 100000 in
set_option maxHeartbeats 2000000 in
theorem reftakeid_as (A : Option Addr) (L : List Nat) (n c p e : Nat) (l1 l2 l3 : List Nat) (e1 e2 e3 r s : Nat) (w : World) (hn : L.length = n) (hp : p ≤ n) (hl : n ≤ 9223372036854775807) (hc : n ≤ c) (hA0 : A = none → c = 0) (hx : ∀ x ∈ L, x < 256) (hA : Sees .u8 w A L)
    (hb : sByte (rem L p e) e = (l1, e1, r)) (hr : r < 256) (h60 : 6 < r → e1 = 0) (hm : (if 6 < r then (leftE e1 12 l1, firstE e1 12) else (l1, e1)) = (l2, e2)) (hs : sShort l2 e2 1023 = (l3, e3, s)) :
    Calls Tryz.prog 43 #[reader A n c (p : Int) (e : Int)] w (RefDoes A n L c l3 e3 (if e3 = 0 then nm r s else nm 0 0) w) := by
  have hs1 : s ≤ 1023 := by have := sShort_most (l := l2) (e := e2) (most := 1023); rw [hs] at this; exact this
  have HA := hid hA
  have HN := hid hn
  have HX := hid hx
  have HB := hid hb
  have HM := hid hm
  have HS := hid hs
  have HA0 := hid hA0
  have H60 := hid h60
  obtain ⟨V, hV⟩ : ∃ V, (if e3 = 0 then nm r s else nm 0 0) = V := ⟨_, rfl⟩
  have HV := hid hV
  rw [hV]
  clear hV
  clear hA hn hx hb hm hs hA0 h60
  go_enter Tryz.func43, Tryz.ntmps43
  go_wp2_with fail
  with_reducible refine (refbyte_any A L n c p e l1 e1 r _ HN.out hp hl (((HA.out.alloc_ _).alloc_ _).alloc_ _) HB.out).mono ?_
  rintro en w1 ⟨p1, hp1, hr1, rfl, hb1⟩
  have HR1 := hid hr1
  obtain ⟨B0, B1, B2, HW, hsz⟩ := blk_3of hb1
  have HS0 := hsz
  obtain ⟨⟨c0, c1, c2⟩, f0, f1, f2⟩ := blk3 B0
  go_upto_region 2 with fail
  obtain ⟨W1, hW1⟩ : ∃ W1, (((w1.setCell ⟨w.heap.size, 0, none⟩ (.slice A n c)).setCell ⟨w.heap.size, 1, none⟩ (.int .i64 (p1 : Int))).setCell ⟨w.heap.size, 2, none⟩ (.int .i64 (e1 : Int))) = W1 := ⟨_, rfl⟩
  rw [hW1]
  have K0 : Hid (Blk W1 w.heap.size 42 #[.slice A n c, .int .i64 (p1 : Int), .int .i64 (e1 : Int)]) := hid (by rw [← hW1]; exact Blk.put3 B0 _ _ _)
  have K1 : Hid (Blk W1 (w.heap.size + 1) 42 #[.slice none 0 0, .int .i64 0, .int .i64 0]) := hid (by rw [← hW1]; exact Blk.put3_far B1 (by omega) _ _ _)
  have K2 : Hid (Blk W1 (w.heap.size + 1 + 1) 43 #[.int .i64 0, .int .i64 0]) := hid (by rw [← hW1]; exact Blk.put3_far B2 (by omega) _ _ _)
  have KW : Hid (Below w.heap.size w W1) := hid (by rw [← hW1]; exact below_put3 HW (Nat.le_refl _) _ _ _)
  clear hW1
  clear hb1 hr1 B0 B1 B2 HW c0 c1 c2 f0 f1 f2
  have hs2 := KW.out.size
  obtain ⟨⟨c0, c1, c2⟩, f0, f1, f2⟩ := blk3 K0.out
  by_cases h6 : 6 < r
  · obtain rfl := H60.out h6
    have hm1 : [] = l2 ∧ 12 = e2 := by have := HM.out; rw [if_pos h6] at this; simpa [leftE, firstE] using this
    obtain ⟨rfl, rfl⟩ := hm1
    have h6' : (6 : Int) < (r : Int) := by omega
    have HT : Hid (sShort (rem L p1 12) 12 1023 = (l3, e3, s)) := hid (by rw [rem_err (by decide)]; exact HS.out)
    clear HM
    go_upto_region 4 with fail
    obtain ⟨W2, hW2⟩ : ∃ W2, W1.setCell ⟨w.heap.size, 2, none⟩ (.int .i64 12) = W2 := ⟨_, rfl⟩
    rw [hW2]
    have M0 : Hid (Blk W2 w.heap.size 42 #[.slice A n c, .int .i64 (p1 : Int), .int .i64 12]) := hid (by rw [← hW2]; exact K0.out.set_ 2 (.int .i64 12))
    have M1 : Hid (Blk W2 (w.heap.size + 1) 42 #[.slice none 0 0, .int .i64 0, .int .i64 0]) := hid (by rw [← hW2]; exact K1.out.far (p := ⟨w.heap.size, 2, none⟩) (by simp <;> omega) (.int .i64 12))
    have M2 : Hid (Blk W2 (w.heap.size + 1 + 1) 43 #[.int .i64 0, .int .i64 0]) := hid (by rw [← hW2]; exact K2.out.far (p := ⟨w.heap.size, 2, none⟩) (by simp <;> omega) (.int .i64 12))
    have MW : Hid (Below w.heap.size w W2) := hid (by rw [← hW2]; exact Below.setCell (p := ⟨w.heap.size, 2, none⟩) KW.out (Nat.le_refl _) (.int .i64 12))
    clear hW2 K0 K1 K2 KW c0 c1 c2 f0 f1 f2
    obtain ⟨⟨c0, c1, c2⟩, f0, f1, f2⟩ := blk3 M0.out
    go_wp2_with fail
    clear c0 c1 c2 f0 f1 f2
    with_reducible refine (refshort_12 A L n c p1 l3 e3 s _ HN.out hp1 hl hc HA0.out HX.out (HA.out.below MW.out) HT.out).mono ?_
    rintro en w3 ⟨p2, hp2, hr2, rfl, hb3⟩
    have HR2 := hid hr2
    have N0 := M0.out.below hb3 M0.out.lt
    have N1 := M1.out.below hb3 M1.out.lt
    have N2 := M2.out.below hb3 M2.out.lt
    have NW := below_on MW.out hb3
    clear hb3 hr2 M0 M1 M2 MW
    obtain ⟨⟨c0, c1, c2⟩, f0, f1, f2⟩ := blk3 N0
    go_upto_region 5 with fail
    obtain ⟨W4, hW4⟩ : ∃ W4, (((w3.setCell ⟨w.heap.size, 0, none⟩ (.slice A n c)).setCell ⟨w.heap.size, 1, none⟩ (.int .i64 (p2 : Int))).setCell ⟨w.heap.size, 2, none⟩ (.int .i64 (e3 : Int))) = W4 := ⟨_, rfl⟩
    rw [hW4]
    have K0 : Hid (Blk W4 w.heap.size 42 #[.slice A n c, .int .i64 (p2 : Int), .int .i64 (e3 : Int)]) := hid (by rw [← hW4]; exact Blk.put3 N0 _ _ _)
    have K1 : Hid (Blk W4 (w.heap.size + 1) 42 #[.slice none 0 0, .int .i64 0, .int .i64 0]) := hid (by rw [← hW4]; exact Blk.put3_far N1 (by omega) _ _ _)
    have K2 : Hid (Blk W4 (w.heap.size + 1 + 1) 43 #[.int .i64 0, .int .i64 0]) := hid (by rw [← hW4]; exact Blk.put3_far N2 (by omega) _ _ _)
    have KW : Hid (Below w.heap.size w W4) := hid (by rw [← hW4]; exact below_put3 NW (Nat.le_refl _) _ _ _)
    clear hW4
    clear N0 N1 N2 NW c0 c1 c2 f0 f1 f2
    obtain ⟨⟨c0, c1, c2⟩, f0, f1, f2⟩ := blk3 K0.out
    obtain ⟨⟨d0, d1, d2⟩, k0, k1, k2⟩ := blk3 K1.out
    obtain ⟨⟨b0, b1⟩, j0, j1⟩ := blkn K2.out
    have hlt4 := K2.out.lt
    by_cases h0 : e3 = 0
    · have HV2 : Hid (V = nm r s) := hid (by rw [← HV.out, if_pos h0])
      have hz : ((e3 : Int) != 0) = false := by rw [bne_eq_false_iff_eq]; omega
      clear h0
      go_wp2
      refine bodyPost_ret (v := .tuple #[reader A n c (p2 : Int) (e3 : Int), nm r s]) (by simp [results, Tryz.results43, go_sem, d0, d1, d2, b0, b1]) rfl ?_
      rw [HV2.out]
      refine refdoes_end hp2 HR2.out ?_
      exact Below.setCell (p := ⟨w.heap.size + 1 + 1, 1, none⟩) (Below.setCell (p := ⟨w.heap.size + 1 + 1, 0, none⟩) (below_put3 KW.out (by omega) _ _ _) (by simp <;> omega) _) (by simp <;> omega) _
    · have HV2 : Hid (V = nm 0 0) := hid (by rw [← HV.out, if_neg h0])
      have hz : ((e3 : Int) != 0) = true := by rw [bne_iff_ne]; omega
      clear h0
      go_wp2
      refine bodyPost_ret (v := .tuple #[reader A n c (p2 : Int) (e3 : Int), nm 0 0]) (by simp [results, Tryz.results43, go_sem, d0, d1, d2, b0, b1]) rfl ?_
      rw [HV2.out]
      refine refdoes_end hp2 HR2.out ?_
      exact Below.setCell (p := ⟨w.heap.size + 1 + 1, 1, none⟩) (Below.setCell (p := ⟨w.heap.size + 1 + 1, 0, none⟩) (below_put3 KW.out (by omega) _ _ _) (by simp <;> omega) _) (by simp <;> omega) _
  · have hm1 : l1 = l2 ∧ e1 = e2 := by have := HM.out; rw [if_neg h6] at this; simpa using this
    obtain ⟨rfl, rfl⟩ := hm1
    have h6' : (r : Int) ≤ 6 := by omega
    have HT : Hid (sShort (rem L p1 e1) e1 1023 = (l3, e3, s)) := hid (by rw [← HR1.out]; exact HS.out)
    clear HM
    have M0 := K0
    have M1 := K1
    have M2 := K2
    have MW := KW
    clear K0 K1 K2 KW
    go_wp2_with fail
    clear c0 c1 c2 f0 f1 f2
    with_reducible refine (refshort_any' A L n c p1 e1 1023 1023 l3 e3 s _ rfl HN.out hp1 hl hc HA0.out HX.out (HA.out.below MW.out) HT.out).mono ?_
    rintro en w3 ⟨p2, hp2, hr2, rfl, hb3⟩
    have HR2 := hid hr2
    have N0 := M0.out.below hb3 M0.out.lt
    have N1 := M1.out.below hb3 M1.out.lt
    have N2 := M2.out.below hb3 M2.out.lt
    have NW := below_on MW.out hb3
    clear hb3 hr2 M0 M1 M2 MW
    obtain ⟨⟨c0, c1, c2⟩, f0, f1, f2⟩ := blk3 N0
    go_upto_region 5 with fail
    obtain ⟨W4, hW4⟩ : ∃ W4, (((w3.setCell ⟨w.heap.size, 0, none⟩ (.slice A n c)).setCell ⟨w.heap.size, 1, none⟩ (.int .i64 (p2 : Int))).setCell ⟨w.heap.size, 2, none⟩ (.int .i64 (e3 : Int))) = W4 := ⟨_, rfl⟩
    rw [hW4]
    have K0 : Hid (Blk W4 w.heap.size 42 #[.slice A n c, .int .i64 (p2 : Int), .int .i64 (e3 : Int)]) := hid (by rw [← hW4]; exact Blk.put3 N0 _ _ _)
    have K1 : Hid (Blk W4 (w.heap.size + 1) 42 #[.slice none 0 0, .int .i64 0, .int .i64 0]) := hid (by rw [← hW4]; exact Blk.put3_far N1 (by omega) _ _ _)
    have K2 : Hid (Blk W4 (w.heap.size + 1 + 1) 43 #[.int .i64 0, .int .i64 0]) := hid (by rw [← hW4]; exact Blk.put3_far N2 (by omega) _ _ _)
    have KW : Hid (Below w.heap.size w W4) := hid (by rw [← hW4]; exact below_put3 NW (Nat.le_refl _) _ _ _)
    clear hW4
    clear N0 N1 N2 NW c0 c1 c2 f0 f1 f2
    obtain ⟨⟨c0, c1, c2⟩, f0, f1, f2⟩ := blk3 K0.out
    obtain ⟨⟨d0, d1, d2⟩, k0, k1, k2⟩ := blk3 K1.out
    obtain ⟨⟨b0, b1⟩, j0, j1⟩ := blkn K2.out
    have hlt4 := K2.out.lt
    by_cases h0 : e3 = 0
    · have HV2 : Hid (V = nm r s) := hid (by rw [← HV.out, if_pos h0])
      have hz : ((e3 : Int) != 0) = false := by rw [bne_eq_false_iff_eq]; omega
      clear h0
      go_wp2
      refine bodyPost_ret (v := .tuple #[reader A n c (p2 : Int) (e3 : Int), nm r s]) (by simp [results, Tryz.results43, go_sem, d0, d1, d2, b0, b1]) rfl ?_
      rw [HV2.out]
      refine refdoes_end hp2 HR2.out ?_
      exact Below.setCell (p := ⟨w.heap.size + 1 + 1, 1, none⟩) (Below.setCell (p := ⟨w.heap.size + 1 + 1, 0, none⟩) (below_put3 KW.out (by omega) _ _ _) (by simp <;> omega) _) (by simp <;> omega) _
    · have HV2 : Hid (V = nm 0 0) := hid (by rw [← HV.out, if_neg h0])
      have hz : ((e3 : Int) != 0) = true := by rw [bne_iff_ne]; omega
      clear h0
      go_wp2
      refine bodyPost_ret (v := .tuple #[reader A n c (p2 : Int) (e3 : Int), nm 0 0]) (by simp [results, Tryz.results43, go_sem, d0, d1, d2, b0, b1]) rfl ?_
      rw [HV2.out]
      refine refdoes_end hp2 HR2.out ?_
      exact Below.setCell (p := ⟨w.heap.size + 1 + 1, 1, none⟩) (Below.setCell (p := ⟨w.heap.size + 1 + 1, 0, none⟩) (below_put3 KW.out (by omega) _ _ _) (by simp <;> omega) _) (by simp <;> omega) _
theorem reftakeid_any (A : Option Addr) (L : List Nat) (n c p e : Nat) (l' : List Nat) (e' r s : Nat) (w : World) (hn : L.length = n) (hp : p ≤ n) (hl : n ≤ 9223372036854775807) (hc : n ≤ c) (hA0 : A = none → c = 0) (hx : ∀ x ∈ L, x < 256) (hA : Sees .u8 w A L)
    (hs : sName (rem L p e) e = (l', e', r, s)) :
    Calls Tryz.prog 43 #[reader A n c (p : Int) (e : Int)] w (RefDoes A n L c l' e' (nm r s) w) := by
  obtain ⟨h1, h2, h3, h4, h5⟩ := sByte_fine (rem_fine L p e) (fun x hh => hx x (rem_in x hh))
  have hh := reftakeid_as A L n c p e (sByte (rem L p e) e).1 (midName (rem L p e) e).1 (endName (rem L p e) e).1 (sByte (rem L p e) e).2.1 (midName (rem L p e) e).2 (endName (rem L p e) e).2.1 (sByte (rem L p e) e).2.2 (endName (rem L p e) e).2.2 w hn hp hl hc hA0 hx hA rfl h4 h5 rfl rfl
  unfold sName at hs
  simp only [Prod.mk.injEq] at hs
  obtain ⟨rfl, rfl, hv⟩ := hs
  refine hh.mono fun en w' hq => ?_
  split at hv <;> rename_i c
  · rw [if_pos c] at hq; simp only [Prod.mk.injEq] at hv; obtain ⟨rfl, rfl⟩ := hv; exact hq
  · rw [if_neg c] at hq; simp only [Prod.mk.injEq] at hv; obtain ⟨rfl, rfl⟩ := hv; exact hq
set_option maxRecDepth 100000 in
set_option maxHeartbeats 2000000 in
theorem reftakeballot_any (A : Option Addr) (L : List Nat) (n c p e : Nat) (l' : List Nat) (e' v' : Nat) (w : World) (hn : L.length = n) (hp : p ≤ n) (hl : n ≤ 9223372036854775807) (hc : n ≤ c) (hA0 : A = none → c = 0) (hx : ∀ x ∈ L, x < 256) (hA : Sees .u8 w A L)
    (hs : sBallot (rem L p e) e = (l', e', v')) :
    Calls Tryz.prog 44 #[reader A n c (p : Int) (e : Int)] w (RefDoes A n L c l' e' (.int .u32 (v' : Int)) w) := by
  obtain ⟨l1, e1, v, hv⟩ : ∃ l1 e1 v, sShort (rem L p e) e 4294967295 = (l1, e1, v) := ⟨_, _, _, rfl⟩
  have hm : v ≤ 4294967295 := by have := sShort_most (l := rem L p e) (e := e) (most := 4294967295); rw [hv] at this; exact this
  have hbad : e1 ≠ 0 → l1 = [] ∧ v = 0 := by intro h0; have := sShort_bad (l := rem L p e) (e := e) (most := 4294967295) (by rw [hv]; exact h0) (rem_fine L p e); rw [hv] at this; exact this
  have HA := hid hA
  have HN := hid hn
  have HX := hid hx
  have HV := hid hv
  have HBAD := hid hbad
  have HS := hid hs
  have HA0 := hid hA0
  obtain ⟨x, hxb⟩ : ∃ x, ballotB v = x := ⟨_, rfl⟩
  have HB := hid hxb
  clear hA hn hx hv hbad hs hA0 hxb
  go_enter Tryz.func44, Tryz.ntmps44
  go_wp2_with fail
  with_reducible refine (refshort_any' A L n c p e 4294967295 4294967295 l1 e1 v _ rfl HN.out hp hl hc HA0.out HX.out ((HA.out.alloc_ _).alloc_ _) HV.out).mono ?_
  rintro en w1 ⟨p1, hp1, hr1, rfl, hb1⟩
  have HR1 := hid hr1
  obtain ⟨B0, B1⟩ := blk_two hb1
  have HW := below_two hb1
  have hsz : w.heap.size + 1 < w1.heap.size := by have := hb1.size; simp at this; omega
  obtain ⟨⟨c0, c1, c2⟩, f0, f1, f2⟩ := blk3 B0
  go_upto_region 2 with fail
  obtain ⟨W1, hW1⟩ : ∃ W1, (((w1.setCell ⟨w.heap.size, 0, none⟩ (.slice A n c)).setCell ⟨w.heap.size, 1, none⟩ (.int .i64 (p1 : Int))).setCell ⟨w.heap.size, 2, none⟩ (.int .i64 (e1 : Int))) = W1 := ⟨_, rfl⟩
  rw [hW1]
  have K0 : Hid (Blk W1 w.heap.size 42 #[.slice A n c, .int .i64 (p1 : Int), .int .i64 (e1 : Int)]) := hid (by rw [← hW1]; exact Blk.put3 B0 _ _ _)
  have K1 : Hid (Blk W1 (w.heap.size + 1) 42 #[.slice none 0 0, .int .i64 0, .int .i64 0]) := hid (by rw [← hW1]; exact Blk.put3_far B1 (by omega) _ _ _)
  have KW : Hid (Below w.heap.size w W1) := hid (by rw [← hW1]; exact below_put3 HW (Nat.le_refl _) _ _ _)
  clear hW1 hb1 hr1 B0 B1 HW c0 c1 c2 f0 f1 f2 hsz
  obtain ⟨⟨c0, c1, c2⟩, f0, f1, f2⟩ := blk3 K0.out
  cases x
  · have he1 : e1 = 0 := by
      rcases Decidable.em (e1 = 0) with h0 | h0
      · exact h0
      · have := (HBAD.out h0).2; subst this; have := HB.out; rw [ballot0] at this; cases this
    subst he1
    have hs2 : [] = l' ∧ 60 = e' ∧ v' = 0 := by
      have := HS.out
      unfold sBallot at this
      rw [HV.out] at this
      simp only [HB.out, Bool.false_eq_true, if_false, Prod.mk.injEq] at this
      exact ⟨by simpa [leftE] using this.1, by simpa [firstE] using this.2.1, this.2.2.symm⟩
    obtain ⟨rfl, rfl, rfl⟩ := hs2
    clear HS HBAD
    go_upto_region 4 with (go_at_call 56; refine (refballot_any v _ (by omega)).mono ?_; rintro e w' ⟨rfl, rfl⟩; rw [HB.out])
    obtain ⟨W2, hW2⟩ : ∃ W2, W1.setCell ⟨w.heap.size, 2, none⟩ (.int .i64 60) = W2 := ⟨_, rfl⟩
    rw [hW2]
    have M0 : Hid (Blk W2 w.heap.size 42 #[.slice A n c, .int .i64 (p1 : Int), .int .i64 60]) := hid (by rw [← hW2]; exact K0.out.set_ 2 (.int .i64 60))
    have M1 : Hid (Blk W2 (w.heap.size + 1) 42 #[.slice none 0 0, .int .i64 0, .int .i64 0]) := hid (by rw [← hW2]; exact K1.out.far (p := ⟨w.heap.size, 2, none⟩) (by simp <;> omega) (.int .i64 60))
    have MW : Hid (Below w.heap.size w W2) := hid (by rw [← hW2]; exact Below.setCell (p := ⟨w.heap.size, 2, none⟩) KW.out (Nat.le_refl _) (.int .i64 60))
    clear hW2 K0 K1 KW c0 c1 c2 f0 f1 f2
    have KW := MW
    obtain ⟨⟨c0, c1, c2⟩, f0, f1, f2⟩ := blk3 M0.out
    obtain ⟨⟨d0, d1, d2⟩, k0, k1, k2⟩ := blk3 M1.out
    have hlt4 := M1.out.lt
    go_wp2
    refine bodyPost_ret (v := .tuple #[reader A n c (p1 : Int) 60, .int .u32 0]) (by simp [results, Tryz.results44, go_sem, d0, d1, d2]) rfl ?_
    exact refdoes_end (e' := 60) hp1 (rem_err (by decide)).symm (below_put3 KW.out (by omega) _ _ _)
  · have hs2 : l1 = l' ∧ e1 = e' ∧ v = v' := by
      have := HS.out
      unfold sBallot at this
      rw [HV.out] at this
      simp only [HB.out, if_true, Prod.mk.injEq] at this
      exact this
    obtain ⟨rfl, rfl, rfl⟩ := hs2
    clear HS
    obtain ⟨⟨d0, d1, d2⟩, k0, k1, k2⟩ := blk3 K1.out
    have hlt4 := K1.out.lt
    by_cases h0 : e1 = 0
    · subst h0
      go_upto_region 4 with (go_at_call 56; refine (refballot_any v _ (by omega)).mono ?_; rintro e w' ⟨rfl, rfl⟩; rw [HB.out])
      go_wp2
      refine bodyPost_ret (v := .tuple #[reader A n c (p1 : Int) 0, .int .u32 (v : Int)]) (by simp [results, Tryz.results44, go_sem, d0, d1, d2]) rfl ?_
      exact refdoes_end (e' := 0) hp1 HR1.out (below_put3 KW.out (by omega) _ _ _)
    · have hz : ((e1 : Int) != 0) = true := by rw [bne_iff_ne]; omega
      have hz2 : ((e1 : Int) == 0) = false := by rw [beq_eq_false_iff_ne]; omega
      obtain rfl := (HBAD.out h0).2
      go_wp2
      refine bodyPost_ret (v := .tuple #[reader A n c (p1 : Int) (e1 : Int), .int .u32 0]) (by simp [results, Tryz.results44, go_sem, d0, d1, d2]) rfl ?_
      exact refdoes_end (e' := e1) hp1 HR1.out (below_put3 KW.out (by omega) _ _ _)
end Go.Proofs.YtohffiehmmcgbaaGreatDoor
namespace Go.Proofs.YtohffiehmmcgbaaGreatDoor
open Go.ChangeShapes Go.WideShapes Go.ChangeAt Go.RowKit
set_option linter.unusedVariables false
set_option linter.unusedSimpArgs false
abbrev rd3 (A : Option Addr) (n c : Nat) (p e : Int) : Array Value := #[.slice A n c, .int .i64 p, .int .i64 e]
def Quad (w W : World) (k : Nat) (A : Option Addr) (n c p e : Nat) (F : Nat → Int) : Prop :=
  Blk W k 42 #[.slice A n c, .int .i64 (p : Int), .int .i64 (e : Int)] ∧ Blk W (k + 1) 42 #[.slice none 0 0, .int .i64 0, .int .i64 0] ∧ Blk W (k + 1 + 1) 46 (rowA fun _ => 0) ∧ Blk W (k + 1 + 1 + 1) 46 (rowA F) ∧ Below k w W
theorem Quad.on {w W W' : World} {k : Nat} {A : Option Addr} {n c p e : Nat} {F : Nat → Int} (H : Quad w W k A n c p e F) (hb : Below W.heap.size W W') : Quad w W' k A n c p e F :=
  ⟨H.1.below hb H.1.lt, H.2.1.below hb H.2.1.lt, H.2.2.1.below hb H.2.2.1.lt, H.2.2.2.1.below hb H.2.2.2.1.lt, H.2.2.2.2.trans (hb.mono (by have := H.1.lt; omega))⟩
theorem Quad.reader {w W : World} {k : Nat} {A : Option Addr} {n c p e p' e' : Nat} {F : Nat → Int} (H : Quad w W k A n c p e F) :
    Quad w (((W.setCell ⟨k, 0, none⟩ (.slice A n c)).setCell ⟨k, 1, none⟩ (.int .i64 (p' : Int))).setCell ⟨k, 2, none⟩ (.int .i64 (e' : Int))) k A n c p' e' F :=
  ⟨H.1.put3 _ _ _, H.2.1.put3_far (by omega) _ _ _, H.2.2.1.put3_far (by omega) _ _ _, H.2.2.2.1.put3_far (by omega) _ _ _, below_put3 H.2.2.2.2 (Nat.le_refl _) _ _ _⟩
theorem Quad.put {w W : World} {k : Nat} {A : Option Addr} {n c p e : Nat} {F : Nat → Int} (H : Quad w W k A n c p e F) (i : Nat) (x : Int) :
    Quad w (W.setCell ⟨k + 1 + 1 + 1, i, none⟩ (.int .i64 x)) k A n c p e (upd F i x) :=
  ⟨H.1.far (by simp <;> omega) _, H.2.1.far (by simp <;> omega) _, H.2.2.1.far (by simp <;> omega) _, H.2.2.2.1.attSet i x, H.2.2.2.2.setCell (by simp <;> omega) _⟩
theorem Quad.cells {w W : World} {k : Nat} {A : Option Addr} {n c p e : Nat} {F : Nat → Int} (H : Quad w W k A n c p e F) :
    ((W.cell? ⟨k, 0, none⟩ = some (.slice A n c) ∧ W.cell? ⟨k, 1, none⟩ = some (.int .i64 (p : Int)) ∧ W.cell? ⟨k, 2, none⟩ = some (.int .i64 (e : Int))) ∧ W.frozen? ⟨k, 0, none⟩ = false ∧ W.frozen? ⟨k, 1, none⟩ = false ∧ W.frozen? ⟨k, 2, none⟩ = false) := blk3 H.1
theorem quad_new {w W : World} {A : Option Addr} {n c p e : Nat} (hW : (((w.alloc (.cells #[.slice A n c, .int .i64 (p : Int), .int .i64 (e : Int)] 42)).alloc (.cells #[.slice none 0 0, .int .i64 0, .int .i64 0] 42)).alloc (.cells #[.int .i64 0, .int .i64 0, .int .i64 0, .int .i64 0, .int .i64 0, .int .i64 0, .int .i64 0, .int .i64 0] 46)).alloc (.cells #[.int .i64 0, .int .i64 0, .int .i64 0, .int .i64 0, .int .i64 0, .int .i64 0, .int .i64 0, .int .i64 0] 46) = W) :
    Quad w W w.heap.size A n c p e fun _ => 0 := by
  obtain ⟨W1, hW1⟩ : ∃ W1, ((w.alloc (.cells #[.slice A n c, .int .i64 (p : Int), .int .i64 (e : Int)] 42)).alloc (.cells #[.slice none 0 0, .int .i64 0, .int .i64 0] 42)).alloc (.cells #[.int .i64 0, .int .i64 0, .int .i64 0, .int .i64 0, .int .i64 0, .int .i64 0, .int .i64 0, .int .i64 0] 46) = W1 := ⟨_, rfl⟩
  have hz : W1.heap.size = w.heap.size + 1 + 1 + 1 := by rw [← hW1]; simp
  rw [hW1] at hW
  obtain ⟨h1, h2, h3, h4⟩ := three_new hW1
  obtain ⟨h5, h6⟩ := one_new hW
  rw [hz] at h5
  exact ⟨h1.out.below h6.out h1.out.lt, h2.out.below h6.out h2.out.lt, h3.out.below h6.out h3.out.lt, h5.out, h4.out.trans (h6.out.mono (by omega))⟩
theorem Quad.res {w W : World} {k : Nat} {A : Option Addr} {n c p e : Nat} {F : Nat → Int} (H : Quad w W k A n c p e F) : Blk W (k + 1) 42 #[.slice none 0 0, .int .i64 0, .int .i64 0] := H.2.1
theorem Quad.out_ {w W : World} {k : Nat} {A : Option Addr} {n c p e : Nat} {F : Nat → Int} (H : Quad w W k A n c p e F) : Blk W (k + 1 + 1) 46 (rowA fun _ => 0) := H.2.2.1
theorem Quad.att {w W : World} {k : Nat} {A : Option Addr} {n c p e : Nat} {F : Nat → Int} (H : Quad w W k A n c p e F) : Blk W (k + 1 + 1 + 1) 46 (rowA F) := H.2.2.2.1
theorem Quad.below {w W : World} {k : Nat} {A : Option Addr} {n c p e : Nat} {F : Nat → Int} (H : Quad w W k A n c p e F) : Below k w W := H.2.2.2.2
theorem put8_at {W : World} {g : Nat} {T : TypeId} {f : Nat → Int} (H : Blk W g T (rowA f)) (F : Nat → Int) : Blk ((((((((W.setCell ⟨g, 0, none⟩ (.int .i64 (F 0))).setCell ⟨g, 1, none⟩ (.int .i64 (F 1))).setCell ⟨g, 2, none⟩ (.int .i64 (F 2))).setCell ⟨g, 3, none⟩ (.int .i64 (F 3))).setCell ⟨g, 4, none⟩ (.int .i64 (F 4))).setCell ⟨g, 5, none⟩ (.int .i64 (F 5))).setCell ⟨g, 6, none⟩ (.int .i64 (F 6))).setCell ⟨g, 7, none⟩ (.int .i64 (F 7))) g T (rowA F) :=
  Blk.as ((((((((H.attSet 0 (F 0)).attSet 1 (F 1)).attSet 2 (F 2)).attSet 3 (F 3)).attSet 4 (F 4)).attSet 5 (F 5)).attSet 6 (F 6)).attSet 7 (F 7)) (rowA_congr fun i hi => by
    match i, hi with
    | 0, _ => rfl
    | 1, _ => rfl
    | 2, _ => rfl
    | 3, _ => rfl
    | 4, _ => rfl
    | 5, _ => rfl
    | 6, _ => rfl
    | 7, _ => rfl)
theorem put8_far {W : World} {g k : Nat} {T : TypeId} {cs : Array Value} (H : Blk W k T cs) (hg : k ≠ g) (F : Nat → Int) : Blk ((((((((W.setCell ⟨g, 0, none⟩ (.int .i64 (F 0))).setCell ⟨g, 1, none⟩ (.int .i64 (F 1))).setCell ⟨g, 2, none⟩ (.int .i64 (F 2))).setCell ⟨g, 3, none⟩ (.int .i64 (F 3))).setCell ⟨g, 4, none⟩ (.int .i64 (F 4))).setCell ⟨g, 5, none⟩ (.int .i64 (F 5))).setCell ⟨g, 6, none⟩ (.int .i64 (F 6))).setCell ⟨g, 7, none⟩ (.int .i64 (F 7))) k T cs := ((((((((H.far (p := ⟨g, 0, none⟩) hg (.int .i64 (F 0))).far (p := ⟨g, 1, none⟩) hg (.int .i64 (F 1))).far (p := ⟨g, 2, none⟩) hg (.int .i64 (F 2))).far (p := ⟨g, 3, none⟩) hg (.int .i64 (F 3))).far (p := ⟨g, 4, none⟩) hg (.int .i64 (F 4))).far (p := ⟨g, 5, none⟩) hg (.int .i64 (F 5))).far (p := ⟨g, 6, none⟩) hg (.int .i64 (F 6))).far (p := ⟨g, 7, none⟩) hg (.int .i64 (F 7)))
theorem put8_below {B g : Nat} {w W : World} (H : Below B w W) (hg : B ≤ g) (F : Nat → Int) : Below B w ((((((((W.setCell ⟨g, 0, none⟩ (.int .i64 (F 0))).setCell ⟨g, 1, none⟩ (.int .i64 (F 1))).setCell ⟨g, 2, none⟩ (.int .i64 (F 2))).setCell ⟨g, 3, none⟩ (.int .i64 (F 3))).setCell ⟨g, 4, none⟩ (.int .i64 (F 4))).setCell ⟨g, 5, none⟩ (.int .i64 (F 5))).setCell ⟨g, 6, none⟩ (.int .i64 (F 6))).setCell ⟨g, 7, none⟩ (.int .i64 (F 7))) := (Below.setCell (p := ⟨g, 7, none⟩) (Below.setCell (p := ⟨g, 6, none⟩) (Below.setCell (p := ⟨g, 5, none⟩) (Below.setCell (p := ⟨g, 4, none⟩) (Below.setCell (p := ⟨g, 3, none⟩) (Below.setCell (p := ⟨g, 2, none⟩) (Below.setCell (p := ⟨g, 1, none⟩) (Below.setCell (p := ⟨g, 0, none⟩) H hg (.int .i64 (F 0))) hg (.int .i64 (F 1))) hg (.int .i64 (F 2))) hg (.int .i64 (F 3))) hg (.int .i64 (F 4))) hg (.int .i64 (F 5))) hg (.int .i64 (F 6))) hg (.int .i64 (F 7)))
set_option maxRecDepth 100000 in
set_option maxHeartbeats 2000000 in
theorem refattake_as (S : Nat → List Nat × Nat × (Nat → Int)) (A : Option Addr) (L : List Nat) (n c p e : Nat) (l' : List Nat) (e' : Nat) (V : Nat → Int) (w : World) (hL : L.length = n) (hp : p ≤ n) (hl : n ≤ 9223372036854775807) (hc : n ≤ c) (hA0 : A = none → c = 0) (hx : ∀ x ∈ L, x < 256) (hA : Sees .u8 w A L)
    (hz : (S 0).1 = (sShort (rem L p e) e 1073741824).1 ∧ (S 0).2.1 = (sShort (rem L p e) e 1073741824).2.1 ∧ (S 0).2.2 = upd (fun _ => 0) 0 ((sShort (rem L p e) e 1073741824).2.2 : Nat))
    (hn : ∀ j, (S (j + 1)).1 = (sShort (S j).1 (S j).2.1 1024).1 ∧ (S (j + 1)).2.1 = (sShort (S j).1 (S j).2.1 1024).2.1 ∧ (S (j + 1)).2.2 = upd (S j).2.2 (1 + j) ((sShort (S j).1 (S j).2.1 1024).2.2 : Nat))
    (hE : l' = (S 7).1 ∧ e' = (S 7).2.1 ∧ V = if (S 7).2.1 = 0 then (S 7).2.2 else fun _ => 0) :
    Calls Tryz.prog 48 #[reader A n c (p : Int) (e : Int)] w (RefDoes A n L c l' e' (.agg (rowA V)) w) := by
  obtain ⟨l1, e1, v1, hs1⟩ : ∃ l1 e1 v1, sShort (rem L p e) e 1073741824 = (l1, e1, v1) := ⟨_, _, _, rfl⟩
  have hm1 : v1 ≤ 1073741824 := by have := sShort_most (l := rem L p e) (e := e) (most := 1073741824); rw [hs1] at this; exact this
  rw [hs1] at hz
  have HS0 := hid hz
  have HNX := hid hn
  have HEN := hid hE
  have HN := hid hL
  have HX := hid hx
  have HA0 := hid hA0
  have HS1 := hid hs1
  have HA := hid hA
  clear hz hn hE hL hx hA0 hs1 hA
  go_enter Tryz.func48, Tryz.ntmps48
  go_upto_region 2 with fail
  obtain ⟨W0, hW0⟩ : ∃ W0, (((w.alloc (.cells #[.slice A n c, .int .i64 (p : Int), .int .i64 (e : Int)] 42)).alloc (.cells #[.slice none 0 0, .int .i64 0, .int .i64 0] 42)).alloc (.cells #[.int .i64 0, .int .i64 0, .int .i64 0, .int .i64 0, .int .i64 0, .int .i64 0, .int .i64 0, .int .i64 0] 46)).alloc (.cells #[.int .i64 0, .int .i64 0, .int .i64 0, .int .i64 0, .int .i64 0, .int .i64 0, .int .i64 0, .int .i64 0] 46) = W0 := ⟨_, rfl⟩
  rw [hW0]
  have Q0 := hid (quad_new (p := p) (e := e) hW0)
  obtain ⟨k, hk⟩ : ∃ k, w.heap.size = k := ⟨_, rfl⟩
  have HAF : Hid (∀ W, Below k w W → Sees .u8 W A L) := hid (fun W h => HA.out.below (by rw [hk]; exact h))
  rw [hk] at Q0
  rw [hk]
  have HK := hid hk
  clear hk hW0 HA
  obtain ⟨⟨c0, c1, c2⟩, f0, f1, f2⟩ := Q0.out.cells
  go_wp2_with fail
  clear c0 c1 c2 f0 f1 f2
  with_reducible refine (refshort_any' A L n c p e 1073741824 1073741824 l1 e1 v1 _ rfl HN.out hp hl hc HA0.out HX.out (HAF.out _ Q0.out.below) HS1.out).mono ?_
  rintro en w1 ⟨p1, hp1, hr1, rfl, hb1⟩
  have Q1 := hid (Q0.out.on hb1)
  have R1 := hid hr1
  clear hb1 hr1 Q0
  obtain ⟨⟨c0, c1, c2⟩, f0, f1, f2⟩ := Q1.out.cells
  go_upto_region 3 with fail
  obtain ⟨W2, hW2⟩ : ∃ W2, (((w1.setCell ⟨k, 0, none⟩ (.slice A n c)).setCell ⟨k, 1, none⟩ (.int .i64 (p1 : Int))).setCell ⟨k, 2, none⟩ (.int .i64 (e1 : Int))) = W2 := ⟨_, rfl⟩
  rw [hW2]
  have Q2 : Hid (Quad w W2 k A n c p1 e1 fun _ => 0) := hid (by rw [← hW2]; exact Q1.out.reader)
  clear hW2 Q1 c0 c1 c2 f0 f1 f2
  have q0 := Q2.out.att.att (i := 0) (by decide)
  have q1 := Q2.out.att.frozen 0
  go_upto_region 4 with fail
  obtain ⟨W3, hW3⟩ : ∃ W3, W2.setCell ⟨k + 1 + 1 + 1, 0, none⟩ (.int .i64 (v1 : Int)) = W3 := ⟨_, rfl⟩
  rw [hW3]
  have Q3 : Hid (Quad w W3 k A n c p1 e1 (upd (fun _ => 0) 0 (v1 : Int))) := hid (by rw [← hW3]; exact Q2.out.put 0 _)
  clear hW3 Q2 q0 q1
  go_wp2_with fail
  go_loopw [6] (fun iv wr => ∃ (j pj ej : Nat), j ≤ 7 ∧ pj ≤ n ∧ iv = .int .i64 j ∧ Hid (rem L pj ej = (S j).1) ∧ Hid (ej = (S j).2.1) ∧ Hid (Quad w wr k A n c pj ej (S j).2.2)) (fun iv _ => 7 - (intOf iv).toNat)
  case atStart => exact ⟨0, p1, e1, by omega, hp1, rfl, hid (by rw [HS0.out.1]; exact R1.out.symm), hid (by rw [HS0.out.2.1]), hid (by rw [HS0.out.2.2]; exact Q3.out)⟩
  case round =>
    obtain ⟨j, pj, ej, hj, hpj, rfl, R, E, Q⟩ := hrel
    by_cases hlt : j < 7
    · have HR := hid (HNX.out j)
      obtain ⟨lj, hlj⟩ : ∃ x, (S j).1 = x := ⟨_, rfl⟩
      obtain ⟨ee, hee⟩ : ∃ x, (S j).2.1 = x := ⟨_, rfl⟩
      obtain ⟨F, hF⟩ : ∃ x, (S j).2.2 = x := ⟨_, rfl⟩
      rw [hlj] at R
      rw [hee] at E
      rw [hF] at Q
      rw [hlj, hee, hF] at HR
      obtain rfl : ee = ej := E.out.symm
      obtain ⟨l2, e2, v2, hs2⟩ : ∃ l2 e2 v2, sShort lj ee 1024 = (l2, e2, v2) := ⟨_, _, _, rfl⟩
      have hm2 : v2 ≤ 1024 := by have := sShort_most (l := lj) (e := ee) (most := 1024); rw [hs2] at this; exact this
      rw [hs2] at HR
      have HS : Hid (sShort (rem L pj ee) ee 1024 = (l2, e2, v2)) := hid (by rw [R.out]; exact hs2)
      clear hlj hee hF hs2 E
      obtain ⟨⟨c0, c1, c2⟩, f0, f1, f2⟩ := Q.out.cells
      go_wp2_with fail
      clear c0 c1 c2 f0 f1 f2
      with_reducible refine (refshort_any' A L n c pj ee 1024 1024 l2 e2 v2 _ rfl HN.out hpj hl hc HA0.out HX.out (HAF.out _ Q.out.below) HS.out).mono ?_
      rintro en w4 ⟨p2, hp2, hr2, rfl, hb4⟩
      have Q4 := hid (Q.out.on hb4)
      have R2 := hid hr2
      clear hb4 hr2 Q
      obtain ⟨⟨c0, c1, c2⟩, f0, f1, f2⟩ := Q4.out.cells
      go_upto_region 8 with fail
      obtain ⟨W5, hW5⟩ : ∃ W5, (((w4.setCell ⟨k, 0, none⟩ (.slice A n c)).setCell ⟨k, 1, none⟩ (.int .i64 (p2 : Int))).setCell ⟨k, 2, none⟩ (.int .i64 (e2 : Int))) = W5 := ⟨_, rfl⟩
      rw [hW5]
      have Q5 : Hid (Quad w W5 k A n c p2 e2 F) := hid (by rw [← hW5]; exact Q4.out.reader)
      clear hW5 Q4 c0 c1 c2 f0 f1 f2
      have q0 := Q5.out.att.att (i := 1 + j) (by omega)
      have q1 := Q5.out.att.frozen (1 + j)
      have Q6 := hid (Q5.out.put (1 + j) (v2 : Int))
      go_wp2
      go_roundw
      case rel => exact ⟨j + 1, p2, e2, by omega, hp2, by go_num, hid (by rw [HR.out.1]; exact R2.out.symm), hid (by rw [HR.out.2.1]), hid (by rw [HR.out.2.2]; exact Q6.out)⟩
      case measure => simp only [intOf]; omega
    · have hj7 : j = 7 := by omega
      subst hj7
      have HR := HEN
      obtain ⟨lj, hlj⟩ : ∃ x, (S 7).1 = x := ⟨_, rfl⟩
      obtain ⟨ee, hee⟩ : ∃ x, (S 7).2.1 = x := ⟨_, rfl⟩
      obtain ⟨F, hF⟩ : ∃ x, (S 7).2.2 = x := ⟨_, rfl⟩
      rw [hlj] at R
      rw [hee] at E
      rw [hF] at Q
      rw [hlj, hee, hF] at HR
      obtain rfl : ee = ej := E.out.symm
      clear hlj hee hF E
      obtain ⟨⟨c0, c1, c2⟩, f0, f1, f2⟩ := Q.out.cells
      obtain ⟨⟨d0, d1, d2⟩, g0, g1, g2⟩ := blk3 Q.out.res
      have k1 := Q.out.res.lt
      have k2 := Q.out.out_.lt
      by_cases h0 : ee = 0
      · subst h0
        have HV : Hid (V = F) := hid (by rw [HR.out.2.2]; simp)
        obtain ⟨m0, m1, m2, m3, m4, m5, m6, m7⟩ := Q.out.att.eight
        obtain ⟨z0, z1, z2, z3, z4, z5, z6, z7⟩ := Q.out.out_.eight
        have y0 := Q.out.out_.frozen 0
        have y1 := Q.out.out_.frozen 1
        have y2 := Q.out.out_.frozen 2
        have y3 := Q.out.out_.frozen 3
        have y4 := Q.out.out_.frozen 4
        have y5 := Q.out.out_.frozen 5
        have y6 := Q.out.out_.frozen 6
        have y7 := Q.out.out_.frozen 7
        go_wp2_with fail
        go_region
        obtain ⟨W9, hW9⟩ : ∃ W9, (((((((((((wr.setCell ⟨k + 1, 0, none⟩ (.slice A n c)).setCell ⟨k + 1, 1, none⟩ (.int .i64 (pj : Int))).setCell ⟨k + 1, 2, none⟩ (.int .i64 0)).setCell ⟨k + 1 + 1, 0, none⟩ (.int .i64 (F 0))).setCell ⟨k + 1 + 1, 1, none⟩ (.int .i64 (F 1))).setCell ⟨k + 1 + 1, 2, none⟩ (.int .i64 (F 2))).setCell ⟨k + 1 + 1, 3, none⟩ (.int .i64 (F 3))).setCell ⟨k + 1 + 1, 4, none⟩ (.int .i64 (F 4))).setCell ⟨k + 1 + 1, 5, none⟩ (.int .i64 (F 5))).setCell ⟨k + 1 + 1, 6, none⟩ (.int .i64 (F 6))).setCell ⟨k + 1 + 1, 7, none⟩ (.int .i64 (F 7))).drew = W9 := ⟨_, rfl⟩
        rw [hW9]
        have B1 : Blk W9 (k + 1) 42 #[.slice A n c, .int .i64 (pj : Int), .int .i64 0] := by rw [← hW9]; exact (put8_far (g := k + 1 + 1) (Q.out.res.put3 (.slice A n c) (.int .i64 (pj : Int)) (.int .i64 0)) (by omega) F).drew
        have B2 : Blk W9 (k + 1 + 1) 46 (rowA F) := by rw [← hW9]; exact (put8_at (Q.out.out_.put3_far (g := k + 1) (by omega) (.slice A n c) (.int .i64 (pj : Int)) (.int .i64 0)) F).drew
        have B3 : Hid (Below k w W9) := hid (by rw [← hW9]; exact below_drew (put8_below (below_put3 (g := k + 1) Q.out.below (by omega) (.slice A n c) (.int .i64 (pj : Int)) (.int .i64 0)) (by omega) F))
        clear hW9 c0 c1 c2 f0 f1 f2 d0 d1 d2 g0 g1 g2 m0 m1 m2 m3 m4 m5 m6 m7 z0 z1 z2 z3 z4 z5 z6 z7 y0 y1 y2 y3 y4 y5 y6 y7
        obtain ⟨⟨d0, d1, d2⟩, _, _, _⟩ := blk3 B1
        obtain ⟨z0, z1, z2, z3, z4, z5, z6, z7⟩ := Blk.eight B2
        go_wp2
        refine bodyPost_ret (v := .tuple #[reader A n c (pj : Int) 0, .agg #[.int .i64 (F 0), .int .i64 (F 1), .int .i64 (F 2), .int .i64 (F 3), .int .i64 (F 4), .int .i64 (F 5), .int .i64 (F 6), .int .i64 (F 7)]]) (by simp [results, Tryz.results48, go_sem, d0, d1, d2, z0, z1, z2, z3, z4, z5, z6, z7]) rfl ?_
        rw [HV.out, HR.out.1, HR.out.2.1]
        exact refdoes_end hpj R.out.symm (by rw [HK.out]; exact B3.out)
      · have HV : Hid (V = fun _ => 0) := hid (by rw [HR.out.2.2]; simp [h0])
        have hz : ((ee : Int) != 0) = true := by rw [bne_iff_ne]; omega
        clear h0 d0 d1 d2 g0 g1 g2
        have T1 : Hid ((Tryz.prog.info? 42).map (·.size) = some (#[.slice A n c, .int .i64 (pj : Int), .int .i64 (ee : Int)] : Array Value).size) := hid (by kernel_rfl)
        have T2 : Hid ((#[.slice A n c, .int .i64 (pj : Int), .int .i64 (ee : Int)] : Array Value).all (·.oneCell') = true) := hid (by simp [Value.oneCell'])
        have Z1 : Hid ((Tryz.prog.info? 46).map (·.size) = some (#[.int .i64 0, .int .i64 0, .int .i64 0, .int .i64 0, .int .i64 0, .int .i64 0, .int .i64 0, .int .i64 0] : Array Value).size) := hid info_refa
        have Z3 : Hid ((#[.int .i64 0, .int .i64 0, .int .i64 0, .int .i64 0, .int .i64 0, .int .i64 0, .int .i64 0, .int .i64 0] : Array Value).all (·.oneCell') = true) := hid (rowA_one fun _ => 0)
        have X2 : Hid (Blk (wr.setRow (k + 1) #[.slice A n c, .int .i64 (pj : Int), .int .i64 (ee : Int)]) (k + 1 + 1) 46 (rowA fun _ => 0)) := hid ((setRow_other wr (k + 1) (k + 1 + 1) _ (by omega)).trans Q.out.out_)
        go_wp2_with (first
          | (with_reducible refine wpList_store_row (o := ⟨none, _, _, _, _, _⟩) rfl 42 (.tmp 2) (.tmp 33) rfl (k + 1) #[.slice A n c, .int .i64 (pj : Int), .int .i64 (ee : Int)] rfl rfl 42 _ Q.out.res.heap T1.out rfl T2.out ?_)
          | (with_reducible refine wpList_store_row (o := ⟨none, _, _, _, _, _⟩) rfl 46 (.tmp 3) (.tmp 34) rfl (k + 1 + 1) #[.int .i64 0, .int .i64 0, .int .i64 0, .int .i64 0, .int .i64 0, .int .i64 0, .int .i64 0, .int .i64 0] rfl rfl 46 _ X2.out.heap Z1.out rfl Z3.out ?_))
        obtain ⟨W9, hW9⟩ : ∃ W9, (wr.setRow (k + 1) #[.slice A n c, .int .i64 (pj : Int), .int .i64 (ee : Int)]).setRow (k + 1 + 1) #[.int .i64 0, .int .i64 0, .int .i64 0, .int .i64 0, .int .i64 0, .int .i64 0, .int .i64 0, .int .i64 0] = W9 := ⟨_, rfl⟩
        rw [hW9]
        have B1 : Blk W9 (k + 1) 42 #[.slice A n c, .int .i64 (pj : Int), .int .i64 (ee : Int)] := by rw [← hW9]; exact (setRow_other _ (k + 1 + 1) (k + 1) _ (by omega)).trans (setRow_heap wr (k + 1) _ _ _ _ Q.out.res.heap)
        have B2 : Blk W9 (k + 1 + 1) 46 (rowA fun _ => 0) := by rw [← hW9]; exact setRow_heap _ (k + 1 + 1) _ _ _ _ X2.out.heap
        have B3 : Hid (Below k w W9) := hid (by rw [← hW9]; exact below_setRow_ (below_setRow_ Q.out.below (by omega)) (by omega))
        obtain ⟨⟨d0, d1, d2⟩, _, _, _⟩ := blk3 B1
        obtain ⟨z0, z1, z2, z3, z4, z5, z6, z7⟩ := Blk.eight B2
        refine bodyPost_ret (v := .tuple #[reader A n c (pj : Int) (ee : Int), .agg #[.int .i64 0, .int .i64 0, .int .i64 0, .int .i64 0, .int .i64 0, .int .i64 0, .int .i64 0, .int .i64 0]]) (by simp [results, Tryz.results48, go_sem, d0, d1, d2, z0, z1, z2, z3, z4, z5, z6, z7]) rfl ?_
        rw [HV.out, HR.out.1, HR.out.2.1]
        exact refdoes_end hpj R.out.symm (by rw [HK.out]; exact B3.out)
theorem refattake_any (A : Option Addr) (L : List Nat) (n c p e : Nat) (l' : List Nat) (e' : Nat) (V : Nat → Int) (w : World) (hn : L.length = n) (hp : p ≤ n) (hl : n ≤ 9223372036854775807) (hc : n ≤ c) (hA0 : A = none → c = 0) (hx : ∀ x ∈ L, x < 256) (hA : Sees .u8 w A L) (hs : sAttr (rem L p e) e = (l', e', V)) :
    Calls Tryz.prog 48 #[reader A n c (p : Int) (e : Int)] w (RefDoes A n L c l' e' (.agg (rowA V)) w) := by
  obtain ⟨h1, h2, h3⟩ := sAttr_all (rem L p e) e
  rw [hs] at h1 h2 h3
  exact refattake_as (stA (rem L p e) e) A L n c p e l' e' V w hn hp hl hc hA0 hx hA ⟨rfl, rfl, rfl⟩ (fun j => ⟨rfl, rfl, rfl⟩) ⟨h1, h2, h3⟩
end Go.Proofs.YtohffiehmmcgbaaGreatDoor
namespace Go.Proofs.YtohffiehmmcgbaaGreatDoor
open Go.ChangeShapes Go.WideShapes Go.ChangeAt Go.RowKit Go.Lib
set_option linter.unusedVariables false
set_option linter.unusedSimpArgs false
abbrev rdZ : Array Value := #[.slice none 0 0, .int .i64 0, .int .i64 0]
theorem len_rd (A : Option Addr) (n c : Nat) (p e : Int) : (Tryz.prog.info? 42).map (·.size) = some (rd3 A n c p e).size := by kernel_rfl
theorem one_rd (A : Option Addr) (n c : Nat) (p e : Int) : (rd3 A n c p e).all (·.oneCell') = true := by simp [rd3, Value.oneCell']
theorem len_rc (c : K) : (Tryz.prog.info? 45).map (·.size) = some (cellsOf c).size := by kernel_rfl
theorem rd_sz (A : Option Addr) (n c : Nat) (p e p' e' : Int) : (rd3 A n c p e).size = (rd3 A n c p' e').size := rfl
theorem rdZ_sz (A : Option Addr) (n c : Nat) (p e : Int) : rdZ.size = (rd3 A n c p e).size := rfl
theorem c_sz (c d : K) : (cellsOf c).size = (cellsOf d).size := rfl
theorem one_rc (c : K) : (cellsOf c).all (·.oneCell') = true := by simp [cellsOf, Value.oneCell']
def RA (w0 w : World) (k m : Nat) (T : TypeId) (zs cs : Array Value) (A : Option Addr) (n c p : Nat) (e : Int) : Prop :=
  Blk w k 42 (rd3 A n c (p : Int) e) ∧ Blk w (k + 1) 42 rdZ ∧ Blk w (k + 1 + 1) T zs ∧ Blk w m T cs ∧ Below k w0 w ∧ k + 1 + 1 < m
section
variable {w0 w w' : World} {k m : Nat} {T : TypeId} {zs cs : Array Value} {A : Option Addr} {n c p : Nat} {e : Int}
theorem RA.rd (h : RA w0 w k m T zs cs A n c p e) : Blk w k 42 (rd3 A n c (p : Int) e) := h.1
theorem RA.r1 (h : RA w0 w k m T zs cs A n c p e) : Blk w (k + 1) 42 rdZ := h.2.1
theorem RA.r2 (h : RA w0 w k m T zs cs A n c p e) : Blk w (k + 1 + 1) T zs := h.2.2.1
theorem RA.obj (h : RA w0 w k m T zs cs A n c p e) : Blk w m T cs := h.2.2.2.1
theorem RA.bel (h : RA w0 w k m T zs cs A n c p e) : Below k w0 w := h.2.2.2.2.1
theorem RA.on (h : RA w0 w k m T zs cs A n c p e) (hb : Below w.heap.size w w') : RA w0 w' k m T zs cs A n c p e :=
  ⟨h.1.below hb h.1.lt, h.r1.below hb h.r1.lt, h.r2.below hb h.r2.lt, h.obj.below hb h.obj.lt, below_pay h.bel (by have := h.1.lt; omega) hb, h.2.2.2.2.2⟩
theorem RA.drew (h : RA w0 w k m T zs cs A n c p e) : RA w0 w.drew k m T zs cs A n c p e :=
  ⟨h.1.drew, h.r1.drew, h.r2.drew, h.obj.drew, below_drew h.bel, h.2.2.2.2.2⟩
theorem RA.alloc (h : RA w0 w k m T zs cs A n c p e) (o : Obj) : RA w0 (w.alloc o) k m T zs cs A n c p e := h.on ((Below.refl _ _).alloc (Nat.le_refl _) o)
theorem RA.read (h : RA w0 w k m T zs cs A n c p e) (p' : Nat) (e' : Int) : RA w0 (w.setRow k (rd3 A n c (p' : Int) e')) k m T zs cs A n c p' e' := by
  obtain ⟨h1, h2, h3, h4, h5, h6⟩ := h
  exact ⟨h1.row _, h2.rowFar (by omega) _, h3.rowFar (by omega) _, h4.rowFar (by omega) _, below_setRow_ h5 (Nat.le_refl _), h6⟩
theorem RA.err (h : RA w0 w k m T zs cs A n c p e) (e' : Int) : RA w0 (w.setCell ⟨k, 2, none⟩ (.int .i64 e')) k m T zs cs A n c p e' := by
  obtain ⟨h1, h2, h3, h4, h5, h6⟩ := h
  exact ⟨h1.set_ 2 _, h2.far (by show k + 1 ≠ k; omega) _, h3.far (by show k + 1 + 1 ≠ k; omega) _, h4.far (by show m ≠ k; omega) _, h5.setCell (Nat.le_refl _) _, h6⟩
theorem RA.set_ (h : RA w0 w k m T zs cs A n c p e) (i : Nat) (u : Value) {ds : Array Value} (hd : cs.setIfInBounds i u = ds) : RA w0 (w.setCell ⟨m, i, none⟩ u) k m T zs ds A n c p e := by
  obtain ⟨h1, h2, h3, h4, h5, h6⟩ := h
  exact ⟨h1.far (by show k ≠ m; omega) _, h2.far (by show k + 1 ≠ m; omega) _, h3.far (by show k + 1 + 1 ≠ m; omega) _, hd ▸ h4.set_ i u, h5.setCell (by show k ≤ m; omega) _, h6⟩
theorem RA.far (h : RA w0 w k m T zs cs A n c p e) {x : Nat} (hx : k + 1 + 1 < x) (hm : m ≠ x) (i : Nat) (u : Value) : RA w0 (w.setCell ⟨x, i, none⟩ u) k m T zs cs A n c p e := by
  obtain ⟨h1, h2, h3, h4, h5, h6⟩ := h
  exact ⟨h1.far (by show k ≠ x; omega) _, h2.far (by show k + 1 ≠ x; omega) _, h3.far (by show k + 1 + 1 ≠ x; omega) _, h4.far hm _, h5.setCell (by show k ≤ x; omega) _, h6⟩
theorem RA.fin (h : RA w0 w k m T zs cs A n c p e) (ds : Array Value) : Blk ((w.setRow (k + 1) (rd3 A n c (p : Int) e)).setRow (k + 1 + 1) ds) (k + 1) 42 (rd3 A n c (p : Int) e) ∧ Blk ((w.setRow (k + 1) (rd3 A n c (p : Int) e)).setRow (k + 1 + 1) ds) (k + 1 + 1) T ds ∧ Below k w0 ((w.setRow (k + 1) (rd3 A n c (p : Int) e)).setRow (k + 1 + 1) ds) := by
  obtain ⟨h1, h2, h3, h4, h5, h6⟩ := h
  exact ⟨(h2.row _).rowFar (by omega) _, (h3.rowFar (by omega) _).row _, below_setRow_ (below_setRow_ h5 (by omega)) (by omega)⟩
theorem RA.fin2 (h : RA w0 w k m T zs cs A n c p e) (ds : Array Value) : Blk ((w.setRow (k + 1 + 1) ds).setRow (k + 1) (rd3 A n c (p : Int) e)) (k + 1) 42 (rd3 A n c (p : Int) e) ∧ Blk ((w.setRow (k + 1 + 1) ds).setRow (k + 1) (rd3 A n c (p : Int) e)) (k + 1 + 1) T ds ∧ Below k w0 ((w.setRow (k + 1 + 1) ds).setRow (k + 1) (rd3 A n c (p : Int) e)) := by
  obtain ⟨h1, h2, h3, h4, h5, h6⟩ := h
  exact ⟨(h2.rowFar (by omega) _).row _, (h3.row _).rowFar (by omega) _, below_setRow_ (below_setRow_ h5 (by omega)) (by omega)⟩
theorem RA.row6 (h : RA w0 w k m T zs cs A n c p e) {x : Nat} (hx : k + 1 + 1 < x) (hm : m ≠ x) (a b c' d e' f : Value) : RA w0 ((((((w.setCell ⟨x, 0, none⟩ a).setCell ⟨x, 1, none⟩ b).setCell ⟨x, 2, none⟩ c').setCell ⟨x, 3, none⟩ d).setCell ⟨x, 4, none⟩ e').setCell ⟨x, 5, none⟩ f) k m T zs cs A n c p e :=
  (((((h.far hx hm 0 a).far hx hm 1 b).far hx hm 2 c').far hx hm 3 d).far hx hm 4 e').far hx hm 5 f
end
theorem RA.kind7 {w0 w : World} {k m : Nat} {c' : K} {zs : Array Value} {A : Option Addr} {n c p : Nat} {e : Int} (h : RA w0 w k m 45 zs (cellsOf c') A n c p e) : w.cell? ⟨m, 0, none⟩ = some (.int .i64 c'.kind) := (h.obj.cell 0).trans rfl
theorem ready_store_row {P : Program} {o : Oper} {a : Act} {w : World} {K : Act → World → Prop} {Q : Exit → Act → World → Prop} {k2 : Prop} [Decidable k2] {z : Prop} (hw : k2) (ty : TypeId) (x y : Operand) (ho : o.op = .store ty x y)
    (g : Nat) (cells : Array Value) (hx : a.eval x = .pointer (some ⟨g, 0, none⟩)) (hy : a.eval y = .agg cells)
    (t : TypeId) (old : Array Value) (hg : w.heap[g]? = some (.cells old t (0, 0))) (hi : (P.info? ty).map (·.size) = some cells.size)
    (hold : old.size = cells.size) (h1 : cells.all (·.oneCell') = true)
    (h : K (a.put o.dst undef) (w.setRow g cells)) : if k2 then o.wp P a w K Q else z := by
  rw [if_pos hw]
  exact wp_store_row ty x y ho g cells hx hy t old hg hi hold h1 h
theorem results_two_rows {P : Program} {fn : Func} {p q : Tmp} {ty ty2 : TypeId} (h : fn.results = #[.cell p ty, .cell q ty2]) (tmps : Array Value) (w : World) (g g2 : Nat) (t t2 : TypeId) (cs cs2 : Array Value) (fr fr2 : Nat × Nat) (d d2 : TypeDesc)
    (hp : tmps.getD p undef = .pointer (some ⟨g, 0, none⟩)) (hq : tmps.getD q undef = .pointer (some ⟨g2, 0, none⟩)) (hg : w.heap[g]? = some (.cells cs t fr)) (hg2 : w.heap[g2]? = some (.cells cs2 t2 fr2))
    (hu : P.underlying ty = some d) (hd : (match d with | .struct _ | .array _ _ => true | _ => false) = true) (hi : (P.info? ty).map (·.size) = some cs.size)
    (hu2 : P.underlying ty2 = some d2) (hd2 : (match d2 with | .struct _ | .array _ _ => true | _ => false) = true) (hi2 : (P.info? ty2).map (·.size) = some cs2.size) :
    (results fn tmps).run P w = .ok (.tuple #[.agg cs, .agg cs2]) w := by
  have hp' : tmps[p]?.getD undef = .pointer (some ⟨g, 0, none⟩) := by simpa using hp
  have hq' : tmps[q]?.getD undef = .pointer (some ⟨g2, 0, none⟩) := by simpa using hq
  simp [results, h, hp', hq', asAddr, run_loadVar_row w g t ty cs fr d hg hu hd hi, run_loadVar_row w g2 t2 ty2 cs2 fr2 d2 hg2 hu2 hd2 hi2]
theorem has_ix {b : Nat} {a0 a1 a2 a3 a4 a5 : Bool} (hb : b ≤ 8) (hs : Sig (b : Int) a0 a1 a2 a3 a4 a5) (W : World) : (Instr.index 139 (.agg hasCells) (.int .i64 (b : Int))).run Tryz.prog W = .ok (.agg #[.bool a0, .bool a1, .bool a2, .bool a3, .bool a4, .bool a5]) W := by
  obtain ⟨s0, s1, s2, s3, s4, s5⟩ := hs
  subst s0 s1 s2 s3 s4 s5
  have e : b = 0 ∨ b = 1 ∨ b = 2 ∨ b = 3 ∨ b = 4 ∨ b = 5 ∨ b = 6 ∨ b = 7 ∨ b = 8 := by omega
  rcases e with rfl | rfl | rfl | rfl | rfl | rfl | rfl | rfl | rfl
  · exact has_ix0 W
  · exact has_ix1 W
  · exact has_ix2 W
  · exact has_ix3 W
  · exact has_ix4 W
  · exact has_ix5 W
  · exact has_ix6 W
  · exact has_ix7 W
  · exact has_ix8 W
end Go.Proofs.YtohffiehmmcgbaaGreatDoor
namespace Go.Proofs.YtohffiehmmcgbaaGreatDoor
open Go.ChangeShapes Go.WideShapes Go.ChangeAt Go.RowKit
set_option linter.unusedVariables false
set_option linter.unusedSimpArgs false
set_option maxRecDepth 100000 in
theorem eq_rparts0 (k u : Int) (f : ByteArray) (q : Int) (s : ByteArray) (m n t k' u' : Int) (f' : ByteArray) (q' : Int) (s' : ByteArray) (m' n' t' : Int) (w : World) :
    (Op.equalIn 10000 45 (val ⟨k, u, f, q, s, m, n, t⟩) (val ⟨k', u', f', q', s', m', n', t'⟩)).run Tryz.prog w = .ok ((k == k') && ((u == u') && (decide (f = f') && ((q == q') && (decide (s = s') && ((m == m') && ((n == n') && ((t == t') && true)))))))) w := by
  have ht : Tryz.prog.underlying 45 = some (.struct (Tryz.prog.fieldsOf 45)) := by kernel_rfl
  have hp : Tryz.prog.stoodInHeld 45 = false := by kernel_rfl
  rw [run_equalIn_struct w 9999 _ _ _ ht hp]
  have a0 := run_part_plain (P := Tryz.prog) (w := w) (e := 3) (by kernel_rfl) (xs := #[.int .i64 k, .int .u64 u, .string f, .int .u64 q, .string s, .int .i64 m, .int .u64 n, .int .i64 t]) (off := 0) rfl
  have b0 := run_part_plain (P := Tryz.prog) (w := w) (e := 3) (by kernel_rfl) (xs := #[.int .i64 k', .int .u64 u', .string f', .int .u64 q', .string s', .int .i64 m', .int .u64 n', .int .i64 t']) (off := 0) rfl
  have e0 := run_equalIn_int (P := Tryz.prog) w 9998 3 .i64 .i64 k k' Tryz.underlying3
  have a1 := run_part_plain (P := Tryz.prog) (w := w) (e := 28) (by kernel_rfl) (xs := #[.int .i64 k, .int .u64 u, .string f, .int .u64 q, .string s, .int .i64 m, .int .u64 n, .int .i64 t]) (off := 1) rfl
  have b1 := run_part_plain (P := Tryz.prog) (w := w) (e := 28) (by kernel_rfl) (xs := #[.int .i64 k', .int .u64 u', .string f', .int .u64 q', .string s', .int .i64 m', .int .u64 n', .int .i64 t']) (off := 1) rfl
  have e1 := run_equalIn_int (P := Tryz.prog) w 9998 28 .u64 .u64 u u' Tryz.underlying28
  have a2 := run_part_plain (P := Tryz.prog) (w := w) (e := 9) (by kernel_rfl) (xs := #[.int .i64 k, .int .u64 u, .string f, .int .u64 q, .string s, .int .i64 m, .int .u64 n, .int .i64 t]) (off := 2) rfl
  have b2 := run_part_plain (P := Tryz.prog) (w := w) (e := 9) (by kernel_rfl) (xs := #[.int .i64 k', .int .u64 u', .string f', .int .u64 q', .string s', .int .i64 m', .int .u64 n', .int .i64 t']) (off := 2) rfl
  have e2 := run_equalIn_string (P := Tryz.prog) w 9998 9 f f' Tryz.underlying9
  rw [bytes_eq] at e2
  have a3 := run_part_plain (P := Tryz.prog) (w := w) (e := 28) (by kernel_rfl) (xs := #[.int .i64 k, .int .u64 u, .string f, .int .u64 q, .string s, .int .i64 m, .int .u64 n, .int .i64 t]) (off := 3) rfl
  have b3 := run_part_plain (P := Tryz.prog) (w := w) (e := 28) (by kernel_rfl) (xs := #[.int .i64 k', .int .u64 u', .string f', .int .u64 q', .string s', .int .i64 m', .int .u64 n', .int .i64 t']) (off := 3) rfl
  have e3 := run_equalIn_int (P := Tryz.prog) w 9998 28 .u64 .u64 q q' Tryz.underlying28
  have a4 := run_part_plain (P := Tryz.prog) (w := w) (e := 9) (by kernel_rfl) (xs := #[.int .i64 k, .int .u64 u, .string f, .int .u64 q, .string s, .int .i64 m, .int .u64 n, .int .i64 t]) (off := 4) rfl
  have b4 := run_part_plain (P := Tryz.prog) (w := w) (e := 9) (by kernel_rfl) (xs := #[.int .i64 k', .int .u64 u', .string f', .int .u64 q', .string s', .int .i64 m', .int .u64 n', .int .i64 t']) (off := 4) rfl
  have e4 := run_equalIn_string (P := Tryz.prog) w 9998 9 s s' Tryz.underlying9
  rw [bytes_eq] at e4
  have a5 := run_part_plain (P := Tryz.prog) (w := w) (e := 3) (by kernel_rfl) (xs := #[.int .i64 k, .int .u64 u, .string f, .int .u64 q, .string s, .int .i64 m, .int .u64 n, .int .i64 t]) (off := 5) rfl
  have b5 := run_part_plain (P := Tryz.prog) (w := w) (e := 3) (by kernel_rfl) (xs := #[.int .i64 k', .int .u64 u', .string f', .int .u64 q', .string s', .int .i64 m', .int .u64 n', .int .i64 t']) (off := 5) rfl
  have e5 := run_equalIn_int (P := Tryz.prog) w 9998 3 .i64 .i64 m m' Tryz.underlying3
  have a6 := run_part_plain (P := Tryz.prog) (w := w) (e := 28) (by kernel_rfl) (xs := #[.int .i64 k, .int .u64 u, .string f, .int .u64 q, .string s, .int .i64 m, .int .u64 n, .int .i64 t]) (off := 6) rfl
  have b6 := run_part_plain (P := Tryz.prog) (w := w) (e := 28) (by kernel_rfl) (xs := #[.int .i64 k', .int .u64 u', .string f', .int .u64 q', .string s', .int .i64 m', .int .u64 n', .int .i64 t']) (off := 6) rfl
  have e6 := run_equalIn_int (P := Tryz.prog) w 9998 28 .u64 .u64 n n' Tryz.underlying28
  have a7 := run_part_plain (P := Tryz.prog) (w := w) (e := 3) (by kernel_rfl) (xs := #[.int .i64 k, .int .u64 u, .string f, .int .u64 q, .string s, .int .i64 m, .int .u64 n, .int .i64 t]) (off := 7) rfl
  have b7 := run_part_plain (P := Tryz.prog) (w := w) (e := 3) (by kernel_rfl) (xs := #[.int .i64 k', .int .u64 u', .string f', .int .u64 q', .string s', .int .i64 m', .int .u64 n', .int .i64 t']) (off := 7) rfl
  have e7 := run_equalIn_int (P := Tryz.prog) w 9998 3 .i64 .i64 t t' Tryz.underlying3
  simp only [Program.fieldsOf, Tryz.underlying45]
  exact eqf_cons (by decide) a0 b0 e0 (eqf_cons (by decide) a1 b1 e1 (eqf_cons (by decide) a2 b2 e2 (eqf_cons (by decide) a3 b3 e3 (eqf_cons (by decide) a4 b4 e4 (eqf_cons (by decide) a5 b5 e5 (eqf_cons (by decide) a6 b6 e6 (eqf_cons (by decide) a7 b7 e7 eqf_nil)))))))
theorem eq_refc (c d : K) (b : Bool) (hb : decide (c = d) = b) (w : World) : (Op.equalIn 10000 45 (val c) (val d)).run Tryz.prog w = .ok b w := by
  subst hb
  obtain ⟨k, u, f, q, s, m, n, t⟩ := c
  obtain ⟨k', u', f', q', s', m', n', t'⟩ := d
  rw [dec_val2]
  exact eq_rparts0 k u f q s m n t k' u' f' q' s' m' n' t' w
theorem refc_guard : Tryz.prog.eqGuardType Tryz.prog.depth 45 = false := by kernel_rfl
end Go.Proofs.YtohffiehmmcgbaaGreatDoor
