/-
  Contracts of package wire's Out a third time: its bytes lie in a row of its own, its block anywhere; all else stays as it is.
-/
import Derived.Test.YtgjbhlianlbflaaGreatBHeld
import Derived.Test.YtgjbhlianlbflaaGreatBNBytes
import Derived.Test.YtgjbhlianlbflaaGreatBClone
import Derived.Laws.IdiomStrings
import Derived.Test.YtgjbhlianlbflaaGreatBEMath
namespace Go.Proofs.YtgjbhlianlbflaaGreat
open Go.ChangeShapes Go.WideShapes Go.ChangeAt Go.RowKit
set_option linter.unusedVariables false
def OutAt (w : World) (base g : Nat) (l : List Nat) : Prop :=
  base ≤ g ∧ ∃ v, Blk w g 58 #[v] ∧ w.ownsRow base 5 1 v l.length (l.map fun y : Nat => Value.int .u8 (y : Int))
theorem row_ne {w : World} {base n g : Nat} {T : TypeId} {cs : Array Value} {v : Value} {xs : List Value} (h : w.ownsRow base 5 1 v n xs) (hg : Blk w g T cs) (hne : 5 ≠ T) : v.ownBlock ≠ some g := by
  rcases h.2 with ⟨rfl, _⟩ | ⟨g', cap, cur, rfl, _, hh, _⟩
  · simp [Value.ownBlock]
  · intro he
    have : g' = g := by simpa [Value.ownBlock] using he
    subst this
    unfold Blk at hg
    rw [hh] at hg
    injection hg with hg
    injection hg with _ ht
    exact hne ht
theorem own_below {w w' : World} {base : Nat} {e : TypeId} {v : Value} {n : Nat} {xs : List Value} (h : w.ownsRow base e 1 v n xs) (hb : Below w.heap.size w w') : w'.ownsRow base e 1 v n xs :=
  h.kept (row := none) ⟨hb.os, hb.tape, hb.output, hb.size, fun k hk _ => hb.block k hk⟩ (by cases hv : v.ownBlock <;> simp)
theorem OutAt.later {w w' : World} {base g : Nat} {l : List Nat} (h : OutAt w base g l) (hb : Below w.heap.size w w') : OutAt w' base g l := by
  obtain ⟨h0, v, h1, h2⟩ := h
  exact ⟨h0, v, h1.below hb h1.lt, own_below h2 hb⟩
theorem OutAt.alloc {w : World} {base g : Nat} {l : List Nat} (h : OutAt w base g l) (o : Obj) : OutAt (w.alloc o) base g l := h.later ((Below.refl _ _).alloc (Nat.le_refl _) o)
theorem OutAt.base_le {w : World} {base g : Nat} {l : List Nat} (h : OutAt w base g l) : base ≤ w.heap.size := Nat.le_of_lt (Nat.lt_of_le_of_lt h.1 (by obtain ⟨_, v, h1, _⟩ := h; exact h1.lt))
theorem sees_one {w : World} {x : Nat} (T : TypeId) : Sees .u8 (w.alloc (.cells #[.int .u8 (x : Int)] T)) (some ⟨w.heap.size, 0, none⟩) [x] := by
  intro j y hj
  match j, hj with
  | 0, hj =>
    simp at hj
    subst hj
    exact ⟨w.heap.size, 0, rfl, by simp, by rw [cell_of_row _ _ _ _ _ _ (heap_alloc_new w _)]; rfl⟩
def bytesOfS (s : ByteArray) : List Nat := s.data.toList.map UInt8.toNat
theorem bytesOfS_len (s : ByteArray) : (bytesOfS s).length = s.size := by simp [bytesOfS]
theorem strN_bytesOfS (s : ByteArray) : strN (bytesOfS s) = s := by
  apply ByteArray.ext
  apply Array.toList_inj.1
  simp only [strN, strOfNums_data, bytesOfS, List.map_map]
  conv => rhs; rw [← List.map_id s.data.toList]
  apply List.map_congr_left
  intro x hx
  simp
theorem sees_bytes (w : World) (s : ByteArray) (c : Nat) (T : TypeId) (fz : Nat × Nat) : Sees .u8 (w.drew.alloc (.cells (bytesRow s c) T fz)) (some ⟨w.heap.size, 0, none⟩) (bytesOfS s) := by
  intro j x hj
  have hl : j < s.size := by have := (List.getElem?_eq_some_iff.1 hj).1; rw [bytesOfS_len] at this; exact this
  have hh : (w.drew.alloc (.cells (bytesRow s c) T fz)).heap[w.heap.size]? = some (.cells (bytesRow s c) T fz) := by
    have := heap_alloc_new w.drew (.cells (bytesRow s c) T fz)
    exact this
  refine ⟨w.heap.size, 0, rfl, (Array.getElem?_eq_some_iff.1 hh).1, ?_⟩
  rw [cell_of_row _ _ _ _ _ _ hh, Nat.zero_add]
  have hd : j < s.data.size := hl
  unfold bytesRow
  rw [Array.getElem?_append_left (by simpa using hd)]
  simp only [bytesOfS, List.getElem?_map, Array.getElem?_toList] at hj
  simp only [Array.getElem?_map, Array.getElem?_eq_getElem hd, Option.map_some] at hj ⊢
  injection hj with hj
  rw [← hj]
end Go.Proofs.YtgjbhlianlbflaaGreat
namespace Go.Proofs.YtgjbhlianlbflaaGreat
open Go.ChangeShapes Go.WideShapes Go.ChangeAt Go.RowKit
set_option linter.unusedVariables false
def Stays (g : Nat) (w w' : World) : Prop := w.heap.size ≤ w'.heap.size ∧ ∀ k T cs, k ≠ g → 5 ≠ T → Blk w k T cs → Blk w' k T cs
theorem Stays.of_below {g : Nat} {w w' : World} (h : Below w.heap.size w w') : Stays g w w' := ⟨h.size, fun _ _ _ _ _ hb => hb.below h hb.lt⟩
theorem Stays.trans {g : Nat} {a b c : World} (h : Stays g a b) (k : Stays g b c) : Stays g a c := ⟨Nat.le_trans h.1 k.1, fun i T cs hi hT hb => k.2 i T cs hi hT (h.2 i T cs hi hT hb)⟩
theorem Stays.drew {g : Nat} {a b : World} (h : Stays g a.drew b) : Stays g a b := h
theorem Stays.refl (g : Nat) (w : World) : Stays g w w := ⟨Nat.le_refl _, fun _ _ _ _ _ h => h⟩
theorem put_stays {w w1 : World} {base g n : Nat} {v v' : Value} {xs : List Value} (hown : w.ownsRow base 5 1 v n xs) (hgr : w.grownBy w1 v.ownBlock) : Stays g w (w1.setCell ⟨g, 0, none⟩ v') :=
  ⟨Nat.le_trans hgr.size (by simp), fun k T cs hk hT hb => (hb.grown hgr (fun e => row_ne hown hb hT e.symm)).far hk _⟩
end Go.Proofs.YtgjbhlianlbflaaGreat
namespace Go.Proofs.YtgjbhlianlbflaaGreat
open Go.ChangeShapes Go.WideShapes Go.ChangeAt Go.RowKit
set_option linter.unusedVariables false
def OutZ (w : World) (base g : Nat) (l : List Nat) : Prop :=
  ∃ v, Blk w g 58 #[v] ∧ w.ownsRow base 5 1 v l.length (l.map fun y : Nat => Value.int .u8 (y : Int)) ∧ base ≤ w.heap.size
def BelZ (base g : Nat) (w w' : World) : Prop := TurnsD (fun i => i = g ∨ base ≤ i) w w'
theorem BelZ.trans {base g : Nat} {a b c : World} (h : BelZ base g a b) (k : BelZ base g b c) : BelZ base g a c := TurnsD.trans h k (fun _ _ e => e)
theorem BelZ.of {base g : Nat} {a b : World} (h : Below a.heap.size a b) : BelZ base g a b := TurnsD.of_below h
theorem BelZ.on {base g : Nat} {a b c : World} (h : BelZ base g a b) (k : Below b.heap.size b c) : BelZ base g a c := TurnsD.then h k
theorem BelZ.refl (base g : Nat) (a : World) : BelZ base g a a := TurnsD.refl _ _
theorem BelZ.drew {base g : Nat} {a b : World} (h : BelZ base g a b) : BelZ base g a b.drew := TurnsD.drew h
theorem OutZ.later {w w' : World} {base g : Nat} {l : List Nat} (h : OutZ w base g l) (hb : Below w.heap.size w w') : OutZ w' base g l := by
  obtain ⟨v, h1, h2, h3⟩ := h
  exact ⟨v, h1.below hb h1.lt, own_below h2 hb, Nat.le_trans h3 hb.size⟩
theorem OutZ.alloc {w : World} {base g : Nat} {l : List Nat} (h : OutZ w base g l) (o : Obj) : OutZ (w.alloc o) base g l := h.later ((Below.refl _ _).alloc (Nat.le_refl _) o)
theorem OutZ.base_le {w : World} {base g : Nat} {l : List Nat} (h : OutZ w base g l) : base ≤ w.heap.size := by obtain ⟨_, _, _, h⟩ := h; exact h
theorem OutZ.lt {w : World} {base g : Nat} {l : List Nat} (h : OutZ w base g l) : g < w.heap.size := by obtain ⟨_, h, _⟩ := h; exact h.lt
theorem OutAt.z {w : World} {base g : Nat} {l : List Nat} (h : OutAt w base g l) : OutZ w base g l := ⟨_, h.2.choose_spec.1, h.2.choose_spec.2, h.base_le⟩
theorem outZ_nil {w : World} {base g : Nat} (h : Blk w g 58 #[.slice none 0 0]) (hb : base ≤ w.heap.size) : OutZ w base g [] := ⟨_, h, World.ownsRow_nil _ _ _ _, hb⟩
theorem OutZ.turns {w w' : World} {base g : Nat} {l : List Nat} {S : Nat → Prop} (h : OutZ w base g l) (t : TurnsD S w w') (hg : ¬ S g) (hr : ∀ i, base ≤ i → i < w.heap.size → ¬ S i) : OutZ w' base g l := by
  obtain ⟨v, h1, h2, h3⟩ := h
  refine ⟨v, h1.turns t hg, ⟨h2.1, ?_⟩, Nat.le_trans h3 t.size⟩
  rcases h2.2 with e | ⟨g', cap, cur, e, hb, hh, hrest⟩
  · exact .inl e
  · have hlt : g' < w.heap.size := (Array.getElem?_eq_some_iff.1 hh).1
    exact .inr ⟨g', cap, cur, e, hb, (t.block g' hlt (hr g' hb hlt)).trans hh, hrest⟩
def PutsY (base g : Nat) (l : List Nat) (w : World) (en : Ending) (w' : World) : Prop := en = .returned (.pointer (some ⟨g, 0, none⟩)) ∧ OutZ w' base g l ∧ BelZ base g w w'
def PutsZ (base g : Nat) (l : List Nat) (w : World) (en : Ending) (w' : World) : Prop := PutsY base g l w en w' ∧ Stays g w w'
theorem putz_step {w w1 : World} {base g : Nat} {l bs L : List Nat} {v v' : Value} (hL : L = l ++ bs) (hg : base ≤ w.heap.size) (hb : Blk w g 58 #[v]) (hown : w.ownsRow base 5 1 v l.length (l.map fun y : Nat => Value.int .u8 (y : Int)))
    (hown' : w1.ownsRow base 5 1 v' (l.length + bs.length) ((l.map fun y : Nat => Value.int .u8 (y : Int)) ++ bs.map fun y : Nat => Value.int .u8 (y : Int))) (hgr : w.grownBy w1 v.ownBlock) :
    PutsY base g L w (.returned (.pointer (some ⟨g, 0, none⟩))) (w1.setCell ⟨g, 0, none⟩ v') := by
  subst hL
  have hne := row_ne hown hb (by decide)
  have hb1 : Blk w1 g 58 #[v] := hb.grown hgr (fun h => hne h.symm)
  have hne' := row_ne hown' hb1 (by decide)
  refine ⟨rfl, ⟨v', hb1.set_ 0 v', ?_, Nat.le_trans hg (Nat.le_trans hgr.size (by simp))⟩, (TurnsD.of_grown hgr (fun b e => .inr (hown.lt b e).1)).set (p := ⟨g, 0, none⟩) (.inl (.inl rfl)) _⟩
  rw [List.length_append, List.map_append]
  have hr : w1.grownBy (w1.setCell ⟨g, 0, none⟩ v') (some g) := only_setCell (p := ⟨g, 0, none⟩) (World.grownBy.refl _ _) (.inl rfl) _
  exact hown'.kept hr (.inr hne')
set_option maxRecDepth 100000 in
set_option maxHeartbeats 400000 in
theorem putz_as (base g : Nat) (A : Option Addr) (l bs L : List Nat) (n c : Nat) (w : World) (hL : L = l ++ bs) (h : OutZ w base g l) (hn : bs.length = n) (hA0 : A = none → c = 0) (hA : Sees .u8 w A bs) (hlen : l.length + n ≤ 140737488355328) :
    Calls Tryz.prog 76 #[.pointer (some ⟨g, 0, none⟩), .slice A n c] w (PutsZ base g L w) := by
  obtain ⟨i0, hi, hz0, hz1, hz2⟩ := info_parts info_u8
  have hsz := h.base_le
  obtain ⟨v, hb, hown, hg⟩ := h
  have HA := hid hA
  have HN := hid hn
  have H0 := hid hA0
  have HO := hid hown
  have hgl := hb.lt
  have hne := row_ne hown hb (by decide)
  have HNE := hid hne
  have HP := hid (fun (w1 : World) (v' : Value) (h1 : w1.ownsRow base 5 1 v' (l.length + bs.length) _) (h2 : w.grownBy w1 v.ownBlock) => And.intro (putz_step (L := L) hL hg hb hown h1 h2) (put_stays (g := g) (v' := v') hown h2))
  have HL := hid hL
  have HBk := hid hb
  have c0 : w.cell? ⟨g, 0, none⟩ = some v := (hb.cell 0).trans rfl
  have f0 := hb.frozen 0
  obtain ⟨Av, cv, rfl, _, _, _⟩ := own_slice hown
  clear hb hown hA hn hA0 hne hL
  go_enter Tryz.func76, Tryz.ntmps76
  go_wp2_with (at_builtin; refine wpList_append_named rfl (.tmp 9) (.tmp 10) 56 rfl base 5 i0 (.int .u8 0) 1 Tryz.underlying56 hi hz0 hz1 hz2 rfl _ l.length _ rfl HO.out .u8 A c bs n HN.out rfl H0.out HA.out (by unfold maxLen; omega) (by omega) hsz ?_; intro v1 w1 hown1 hg1; rw [← HN.out] at hown1; have HR := hid (HP.out w1 v1 hown1 hg1); have hb1 := HBk.out.grown hg1 (fun h => HNE.out h.symm); have c1 := (hb1.cell 0).trans rfl; have f1 := hb1.frozen 0; obtain ⟨Aw, cw, rfl, _, _, _⟩ := own_slice2 (L := L) HL.out hown1; clear hown1 hg1 hb1)
  go_ret
  exact HR.out
set_option maxRecDepth 100000 in
set_option maxHeartbeats 400000 in
theorem outbytez_any (base g : Nat) (l : List Nat) (x : Nat) (a : Int) (w : World) (h : OutZ w base g l) (ha : a = (x : Int)) (hlen : l.length + 1 ≤ 140737488355328) :
    Calls Tryz.prog 78 #[.pointer (some ⟨g, 0, none⟩), .int .u8 a] w (PutsZ base g (l ++ [x]) w) := by
  subst ha
  have HO := hid (h.alloc (.cells #[.int .u8 (x : Int)] 5))
  have hB := h.base_le
  clear h
  go_enter Tryz.func78, Tryz.ntmps78
  go_wp2_with fail
  refine (putz_as base g (some ⟨w.heap.size, 0, none⟩) l [x] (l ++ [x]) 1 1 _ rfl HO.out rfl (fun h => nomatch h) (sees_one _) hlen).mono ?_
  rintro en w1 ⟨⟨rfl, ho, hb⟩, hst⟩
  have HR : Hid (OutZ w1 base g (l ++ [x]) ∧ BelZ base g w w1 ∧ Stays g w w1) := hid ⟨ho, (BelZ.of ((Below.refl _ _).alloc (Nat.le_refl _) _)).trans hb, (Stays.of_below ((Below.refl _ _).alloc (Nat.le_refl _) _)).trans hst⟩
  clear ho hb hst
  go_wp2
  go_ret
  exact ⟨⟨rfl, HR.out.1, HR.out.2.1⟩, HR.out.2.2⟩
set_option maxRecDepth 100000 in
set_option maxHeartbeats 400000 in
theorem outshortz_any (base g : Nat) (l : List Nat) (v : Nat) (a : Int) (w : World) (h : OutZ w base g l) (ha : a = (v : Int)) (hv : v < 18446744073709551616) (hlen : l.length + 10 ≤ 140737488355328) :
    Calls Tryz.prog 47 #[.pointer (some ⟨g, 0, none⟩), .int .u64 a] w (PutsZ base g (l ++ shortN v) w) := by
  subst ha
  have HO := hid h
  have hB := h.base_le
  have h10 := shortN_len10 hv
  clear h
  go_enter Tryz.func47, Tryz.ntmps47
  go_wp2_with fail
  with_reducible refine (short_hands v _ hv).mono ?_
  rintro en w1 ⟨A1, c1, rfl, hn1, _, hs1, hb1⟩
  have HS := hid hs1
  have HN := hid hn1
  have HO1 := hid (HO.out.later hb1)
  have HB1 := hid hb1
  clear hs1 hn1 hb1
  go_wp2_with fail
  with_reducible refine (putz_as base g A1 l (shortN v) (l ++ shortN v) _ c1 _ rfl HO1.out rfl HN.out HS.out (by omega)).mono ?_
  rintro en w2 ⟨⟨rfl, ho, hb⟩, hst⟩
  have HR : Hid (OutZ w2 base g (l ++ shortN v) ∧ BelZ base g w w2 ∧ Stays g w w2) := hid ⟨ho, (BelZ.of HB1.out).trans hb, (Stays.of_below HB1.out).trans hst⟩
  clear ho hb hst
  go_wp2
  go_ret
  exact ⟨⟨rfl, HR.out.1, HR.out.2.1⟩, HR.out.2.2⟩
set_option maxRecDepth 100000 in
set_option maxHeartbeats 400000 in
theorem outfixedz_any (base g : Nat) (l : List Nat) (v : Nat) (a : Int) (w : World) (h : OutZ w base g l) (ha : a = (v : Int)) (hv : v < 18446744073709551616) (hlen : l.length + 8 ≤ 140737488355328) :
    Calls Tryz.prog 52 #[.pointer (some ⟨g, 0, none⟩), .int .u64 a] w (PutsZ base g (l ++ bytesN v 8) w) := by
  subst ha
  have HO := hid h
  have hB := h.base_le
  have HL := hid (bytesN_len 8 v)
  clear h
  go_enter Tryz.func52, Tryz.ntmps52
  go_wp2_with fail
  with_reducible refine (bytes_hands v 8 _ _ hv (by omega) (by omega)).mono ?_
  rintro en w1 ⟨A1, c1, rfl, hn1, _, hs1, hb1⟩
  have HS := hid hs1
  have HN := hid hn1
  have HO1 := hid (HO.out.later hb1)
  have HB1 := hid hb1
  clear hs1 hn1 hb1
  go_wp2_with fail
  with_reducible refine (putz_as base g A1 l (bytesN v 8) (l ++ bytesN v 8) 8 c1 _ rfl HO1.out HL.out HN.out HS.out hlen).mono ?_
  rintro en w2 ⟨⟨rfl, ho, hb⟩, hst⟩
  have HR : Hid (OutZ w2 base g (l ++ bytesN v 8) ∧ BelZ base g w w2 ∧ Stays g w w2) := hid ⟨ho, (BelZ.of HB1.out).trans hb, (Stays.of_below HB1.out).trans hst⟩
  clear ho hb hst
  go_wp2
  go_ret
  exact ⟨⟨rfl, HR.out.1, HR.out.2.1⟩, HR.out.2.2⟩
set_option maxRecDepth 100000 in
set_option maxHeartbeats 400000 in
theorem outtextz_as (base g : Nat) (l L : List Nat) (s : ByteArray) (w : World) (hL : L = (l ++ shortN s.size) ++ bytesOfS s) (h : OutZ w base g l) (hs : s.size ≤ 9223372036854775807) (hlen : l.length + 10 + s.size ≤ 140737488355328) :
    Calls Tryz.prog 51 #[.pointer (some ⟨g, 0, none⟩), .string s] w (PutsZ base g L w) := by
  have HO := hid h
  have HL := hid hL
  have hB := h.base_le
  have h10 := shortN_len10 (show s.size < 18446744073709551616 by omega)
  have hcv := fun (w : World) => run_bytes_of_string (P := Tryz.prog) w 9 56 5 s Tryz.underlying9 Tryz.underlying56 Tryz.underlying5
  have HSL := hid (bytesOfS_len s)
  clear h hL
  go_enter Tryz.func51, Tryz.ntmps51
  go_wp2_with fail
  with_reducible refine (outshortz_any base g l s.size _ _ HO.out (by omega) (by omega) (by omega)).mono ?_
  rintro en w1 ⟨⟨rfl, ho, hb⟩, hst⟩
  have HO1 := hid ho
  have HB1 := hid hb
  have HT1 := hid hst
  have hB1 := ho.base_le
  clear ho hb hst
  go_wp2_with fail
  have HO2 : Hid (OutZ (w1.drew.alloc (.cells (bytesRow s (grownCap w1 s.size 0 5)) 5 ((bytesRow s (grownCap w1 s.size 0 5)).size, (bytesRow s (grownCap w1 s.size 0 5)).size + 1))) base g (l ++ shortN s.size)) := hid (by
    have h1 : OutZ w1.drew base g (l ++ shortN s.size) := HO1.out
    exact h1.alloc _)
  have HB2 : Hid (BelZ base g w (w1.drew.alloc (.cells (bytesRow s (grownCap w1 s.size 0 5)) 5 ((bytesRow s (grownCap w1 s.size 0 5)).size, (bytesRow s (grownCap w1 s.size 0 5)).size + 1)))) := hid (HB1.out.drew.on ((Below.refl _ _).alloc (Nat.le_refl _) _))
  have HT2 : Hid (Stays g w (w1.drew.alloc (.cells (bytesRow s (grownCap w1 s.size 0 5)) 5 ((bytesRow s (grownCap w1 s.size 0 5)).size, (bytesRow s (grownCap w1 s.size 0 5)).size + 1)))) := hid (HT1.out.trans (Stays.of_below ((below_drew (Below.refl _ w1)).alloc (by exact Nat.le_refl _) _)))
  have HS2 := hid (sees_bytes w1 s (grownCap w1 s.size 0 5) 5 ((bytesRow s (grownCap w1 s.size 0 5)).size, (bytesRow s (grownCap w1 s.size 0 5)).size + 1))
  refine (putz_as base g (some ⟨w1.heap.size, 0, none⟩) (l ++ shortN s.size) (bytesOfS s) L s.size _ _ HL.out HO2.out HSL.out (fun h => nomatch h) HS2.out (by rw [List.length_append]; omega)).mono ?_
  rintro en w2 ⟨⟨rfl, ho, hb⟩, hst⟩
  have HR : Hid (OutZ w2 base g L ∧ BelZ base g w w2 ∧ Stays g w w2) := hid ⟨ho, HB2.out.trans hb, HT2.out.trans hst⟩
  clear ho hb hst HS2 HB2 HO2 HT2 HT1
  go_wp2
  go_ret
  exact ⟨⟨rfl, HR.out.1, HR.out.2.1⟩, HR.out.2.2⟩
set_option maxRecDepth 100000 in
set_option maxHeartbeats 400000 in
theorem outbytesz_any (base g : Nat) (l : List Nat) (w : World) (h : OutZ w base g l) (hlen : l.length ≤ 140737488355328) :
    Calls Tryz.prog 25 #[.pointer (some ⟨g, 0, none⟩)] w (Makes l w) := by
  obtain ⟨v, hb, hown, hg⟩ := h
  have c0 : w.cell? ⟨g, 0, none⟩ = some v := (hb.cell 0).trans rfl
  have f0 := hb.frozen 0
  obtain ⟨Av, cv, rfl, hn, _, hs⟩ := own_slice hown
  have HN := hid hn
  have HS := hid hs
  clear hb hown hn hs
  go_enter Tryz.func25, Tryz.ntmps25
  go_wp2_with fail
  with_reducible refine (clone_any Av l l.length cv _ rfl hlen HN.out HS.out).mono ?_
  rintro en w1 hm
  obtain ⟨s, rfl, hown, hb⟩ := hm
  have HM : Hid (Makes l w (.returned s) w1) := hid ⟨s, rfl, hown, hb⟩
  clear hown hb
  go_wp2
  go_ret
  exact HM.out
end Go.Proofs.YtgjbhlianlbflaaGreat
