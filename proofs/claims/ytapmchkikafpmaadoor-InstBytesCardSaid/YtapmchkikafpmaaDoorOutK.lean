/-
  Contracts of package wire's Out once more: besides, a block of another type than bytes, but the Out's own, stays as it is.
-/
import Derived.Test.YtapmchkikafpmaaDoorOut
namespace Go.Proofs.YtapmchkikafpmaaDoor
open Go.ChangeShapes Go.WideShapes Go.ChangeAt Go.RowKit
set_option linter.unusedVariables false

/-- Blocks of other types than bytes stay, but the one at g. -/
def Stays (g : Nat) (w w' : World) : Prop := w.heap.size ≤ w'.heap.size ∧ ∀ k T cs, k ≠ g → 5 ≠ T → Blk w k T cs → Blk w' k T cs
theorem Stays.of_below {g : Nat} {w w' : World} (h : Below w.heap.size w w') : Stays g w w' := ⟨h.size, fun _ _ _ _ _ hb => hb.below h hb.lt⟩
theorem Stays.trans {g : Nat} {a b c : World} (h : Stays g a b) (k : Stays g b c) : Stays g a c := ⟨Nat.le_trans h.1 k.1, fun i T cs hi hT hb => k.2 i T cs hi hT (h.2 i T cs hi hT hb)⟩
theorem Stays.drew {g : Nat} {a b : World} (h : Stays g a.drew b) : Stays g a b := h
theorem Stays.refl (g : Nat) (w : World) : Stays g w w := ⟨Nat.le_refl _, fun _ _ _ _ _ h => h⟩
def PutsK (base g : Nat) (l : List Nat) (w : World) (en : Ending) (w' : World) : Prop := Puts base g l w en w' ∧ Stays g w w'

theorem put_stays {w w1 : World} {base g n : Nat} {v v' : Value} {xs : List Value} (hown : w.ownsRow base 5 1 v n xs) (hgr : w.grownBy w1 v.ownBlock) : Stays g w (w1.setCell ⟨g, 0, none⟩ v') :=
  ⟨Nat.le_trans hgr.size (by simp), fun k T cs hk hT hb => (hb.grown hgr (fun e => row_ne hown hb hT e.symm)).far hk _⟩

set_option maxRecDepth 100000 in
set_option maxHeartbeats 400000 in
theorem putk_as (base g : Nat) (A : Option Addr) (l bs L : List Nat) (n c : Nat) (w : World) (hL : L = l ++ bs) (h : OutAt w base g l) (hn : bs.length = n) (hA0 : A = none → c = 0) (hA : Sees .u8 w A bs) (hlen : l.length + n ≤ 140737488355328) :
    Calls Tryd.prog 60 #[.pointer (some ⟨g, 0, none⟩), .slice A n c] w (PutsK base g L w) := by
  obtain ⟨i0, hi, hz0, hz1, hz2⟩ := info_parts info_u8
  have hsz := h.base_le
  obtain ⟨hg, v, hb, hown⟩ := h
  have HA := hid hA
  have HN := hid hn
  have H0 := hid hA0
  have HO := hid hown
  have hgl := hb.lt
  have hne := row_ne hown hb (by decide)
  have HNE := hid hne
  have HP := hid (fun (w1 : World) (v' : Value) (h1 : w1.ownsRow base 5 1 v' (l.length + bs.length) _) (h2 : w.grownBy w1 v.ownBlock) => And.intro (put_step (L := L) hL hg hb hown h1 h2) (put_stays (g := g) (v' := v') hown h2))
  have HL := hid hL
  have HBk := hid hb
  have c0 : w.cell? ⟨g, 0, none⟩ = some v := (hb.cell 0).trans rfl
  have f0 := hb.frozen 0
  obtain ⟨Av, cv, rfl, _, _, _⟩ := own_slice hown
  clear hb hown hA hn hA0 hne hL
  go_enter Tryd.func60, Tryd.ntmps60
  go_wp2_with (at_builtin; refine wpList_append_named rfl (.tmp 9) (.tmp 10) 39 rfl base 5 i0 (.int .u8 0) 1 Tryd.underlying39 hi hz0 hz1 hz2 rfl _ l.length _ rfl HO.out .u8 A c bs n HN.out rfl H0.out HA.out (by unfold maxLen; omega) (by omega) hsz ?_; intro v1 w1 hown1 hg1; rw [← HN.out] at hown1; have HR := hid (HP.out w1 v1 hown1 hg1); have hb1 := HBk.out.grown hg1 (fun h => HNE.out h.symm); have c1 := (hb1.cell 0).trans rfl; have f1 := hb1.frozen 0; obtain ⟨Aw, cw, rfl, _, _, _⟩ := own_slice2 (L := L) HL.out hown1; clear hown1 hg1 hb1)
  go_ret
  exact HR.out

set_option maxRecDepth 100000 in
set_option maxHeartbeats 400000 in
theorem outbytek_any (base g : Nat) (l : List Nat) (x : Nat) (a : Int) (w : World) (h : OutAt w base g l) (ha : a = (x : Int)) (hlen : l.length + 1 ≤ 140737488355328) :
    Calls Tryd.prog 43 #[.pointer (some ⟨g, 0, none⟩), .int .u8 a] w (PutsK base g (l ++ [x]) w) := by
  subst ha
  have HO := hid (h.alloc (.cells #[.int .u8 (x : Int)] 5))
  have hB := h.base_le
  clear h
  go_enter Tryd.func43, Tryd.ntmps43
  go_wp2_with fail
  refine (putk_as base g (some ⟨w.heap.size, 0, none⟩) l [x] (l ++ [x]) 1 1 _ rfl HO.out rfl (fun h => nomatch h) (sees_one _) hlen).mono ?_
  rintro en w1 ⟨⟨rfl, ho, hb⟩, hst⟩
  have HR : Hid (OutAt w1 base g (l ++ [x]) ∧ Below base w w1 ∧ Stays g w w1) := hid ⟨ho, ((Below.refl _ _).alloc hB _).trans hb, (Stays.of_below ((Below.refl _ _).alloc (Nat.le_refl _) _)).trans hst⟩
  clear ho hb hst
  go_wp2
  go_ret
  exact ⟨⟨rfl, HR.out.1, HR.out.2.1⟩, HR.out.2.2⟩

set_option maxRecDepth 100000 in
set_option maxHeartbeats 400000 in
theorem outshortk_any (base g : Nat) (l : List Nat) (v : Nat) (a : Int) (w : World) (h : OutAt w base g l) (ha : a = (v : Int)) (hv : v < 18446744073709551616) (hlen : l.length + 10 ≤ 140737488355328) :
    Calls Tryd.prog 59 #[.pointer (some ⟨g, 0, none⟩), .int .u64 a] w (PutsK base g (l ++ shortN v) w) := by
  subst ha
  have HO := hid h
  have hB := h.base_le
  have h10 := shortN_len10 hv
  clear h
  go_enter Tryd.func59, Tryd.ntmps59
  go_wp2_with fail
  with_reducible refine (short_hands v _ hv).mono ?_
  rintro en w1 ⟨A1, c1, rfl, hn1, _, hs1, hb1⟩
  have HS := hid hs1
  have HN := hid hn1
  have HO1 := hid (HO.out.later hb1)
  have HB1 := hid hb1
  clear hs1 hn1 hb1
  go_wp2_with fail
  with_reducible refine (putk_as base g A1 l (shortN v) (l ++ shortN v) _ c1 _ rfl HO1.out rfl HN.out HS.out (by omega)).mono ?_
  rintro en w2 ⟨⟨rfl, ho, hb⟩, hst⟩
  have HR : Hid (OutAt w2 base g (l ++ shortN v) ∧ Below base w w2 ∧ Stays g w w2) := hid ⟨ho, (HB1.out.mono hB).trans hb, (Stays.of_below HB1.out).trans hst⟩
  clear ho hb hst
  go_wp2
  go_ret
  exact ⟨⟨rfl, HR.out.1, HR.out.2.1⟩, HR.out.2.2⟩

set_option maxRecDepth 100000 in
set_option maxHeartbeats 400000 in
theorem outfixedk_any (base g : Nat) (l : List Nat) (v : Nat) (a : Int) (w : World) (h : OutAt w base g l) (ha : a = (v : Int)) (hv : v < 18446744073709551616) (hlen : l.length + 8 ≤ 140737488355328) :
    Calls Tryd.prog 62 #[.pointer (some ⟨g, 0, none⟩), .int .u64 a] w (PutsK base g (l ++ bytesN v 8) w) := by
  subst ha
  have HO := hid h
  have hB := h.base_le
  have HL := hid (bytesN_len 8 v)
  clear h
  go_enter Tryd.func62, Tryd.ntmps62
  go_wp2_with fail
  with_reducible refine (bytes_hands v 8 _ _ hv (by omega) (by omega)).mono ?_
  rintro en w1 ⟨A1, c1, rfl, hn1, _, hs1, hb1⟩
  have HS := hid hs1
  have HN := hid hn1
  have HO1 := hid (HO.out.later hb1)
  have HB1 := hid hb1
  clear hs1 hn1 hb1
  go_wp2_with fail
  with_reducible refine (putk_as base g A1 l (bytesN v 8) (l ++ bytesN v 8) 8 c1 _ rfl HO1.out HL.out HN.out HS.out hlen).mono ?_
  rintro en w2 ⟨⟨rfl, ho, hb⟩, hst⟩
  have HR : Hid (OutAt w2 base g (l ++ bytesN v 8) ∧ Below base w w2 ∧ Stays g w w2) := hid ⟨ho, (HB1.out.mono hB).trans hb, (Stays.of_below HB1.out).trans hst⟩
  clear ho hb hst
  go_wp2
  go_ret
  exact ⟨⟨rfl, HR.out.1, HR.out.2.1⟩, HR.out.2.2⟩

set_option maxRecDepth 100000 in
set_option maxHeartbeats 400000 in
theorem outtextk_as (base g : Nat) (l L : List Nat) (s : ByteArray) (w : World) (hL : L = (l ++ shortN s.size) ++ bytesOfS s) (h : OutAt w base g l) (hs : s.size ≤ 9223372036854775807) (hlen : l.length + 10 + s.size ≤ 140737488355328) :
    Calls Tryd.prog 63 #[.pointer (some ⟨g, 0, none⟩), .string s] w (PutsK base g L w) := by
  have HO := hid h
  have HL := hid hL
  have hB := h.base_le
  have h10 := shortN_len10 (show s.size < 18446744073709551616 by omega)
  have hcv := fun (w : World) => run_bytes_of_string (P := Tryd.prog) w 9 39 5 s Tryd.underlying9 Tryd.underlying39 Tryd.underlying5
  have HSL := hid (bytesOfS_len s)
  clear h hL
  go_enter Tryd.func63, Tryd.ntmps63
  go_wp2_with fail
  with_reducible refine (outshortk_any base g l s.size _ _ HO.out (by omega) (by omega) (by omega)).mono ?_
  rintro en w1 ⟨⟨rfl, ho, hb⟩, hst⟩
  have HO1 := hid ho
  have HB1 := hid hb
  have HT1 := hid hst
  have hB1 := ho.base_le
  clear ho hb hst
  go_wp2_with fail
  have HO2 : Hid (OutAt (w1.drew.alloc (.cells (bytesRow s (grownCap w1 s.size 0 5)) 5 ((bytesRow s (grownCap w1 s.size 0 5)).size, (bytesRow s (grownCap w1 s.size 0 5)).size + 1))) base g (l ++ shortN s.size)) := hid (by
    have h1 : OutAt w1.drew base g (l ++ shortN s.size) := HO1.out
    exact h1.alloc _)
  have HB2 : Hid (Below base w (w1.drew.alloc (.cells (bytesRow s (grownCap w1 s.size 0 5)) 5 ((bytesRow s (grownCap w1 s.size 0 5)).size, (bytesRow s (grownCap w1 s.size 0 5)).size + 1)))) := hid ((below_drew HB1.out).alloc (by exact hB1) _)
  have HT2 : Hid (Stays g w (w1.drew.alloc (.cells (bytesRow s (grownCap w1 s.size 0 5)) 5 ((bytesRow s (grownCap w1 s.size 0 5)).size, (bytesRow s (grownCap w1 s.size 0 5)).size + 1)))) := hid (HT1.out.trans (Stays.of_below ((below_drew (Below.refl _ w1)).alloc (by exact Nat.le_refl _) _)))
  have HS2 := hid (sees_bytes w1 s (grownCap w1 s.size 0 5) 5 ((bytesRow s (grownCap w1 s.size 0 5)).size, (bytesRow s (grownCap w1 s.size 0 5)).size + 1))
  refine (putk_as base g (some ⟨w1.heap.size, 0, none⟩) (l ++ shortN s.size) (bytesOfS s) L s.size _ _ HL.out HO2.out HSL.out (fun h => nomatch h) HS2.out (by rw [List.length_append]; omega)).mono ?_
  rintro en w2 ⟨⟨rfl, ho, hb⟩, hst⟩
  have HR : Hid (OutAt w2 base g L ∧ Below base w w2 ∧ Stays g w w2) := hid ⟨ho, HB2.out.trans hb, HT2.out.trans hst⟩
  clear ho hb hst HS2 HB2 HO2 HT2 HT1
  go_wp2
  go_ret
  exact ⟨⟨rfl, HR.out.1, HR.out.2.1⟩, HR.out.2.2⟩

end Go.Proofs.YtapmchkikafpmaaDoor
