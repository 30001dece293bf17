/-
  Contracts of package wire's Out.
-/
import Derived.Test.YtapmchkikafpmaaDoorHeld
import Derived.Test.YtapmchkikafpmaaDoorNShort
import Derived.Test.YtapmchkikafpmaaDoorNBytes
import Derived.Test.YtapmchkikafpmaaDoorClone
import Derived.Laws.IdiomStrings
namespace Go.Proofs.YtapmchkikafpmaaDoor
open Go.ChangeShapes Go.WideShapes Go.ChangeAt Go.RowKit
set_option linter.unusedVariables false

/-- An Out at block g, with the bytes l, all of it in blocks of the call's own. -/
def OutAt (w : World) (base g : Nat) (l : List Nat) : Prop :=
  base ≤ g ∧ ∃ v, Blk w g 60 #[v] ∧ w.ownsRow base 5 1 v l.length (l.map fun y : Nat => Value.int .u8 (y : Int))

theorem row_ne {w : World} {base n g : Nat} {T : TypeId} {cs : Array Value} {v : Value} {xs : List Value} (h : w.ownsRow base 5 1 v n xs) (hg : Blk w g T cs) (hne : 5 ≠ T) : v.ownBlock ≠ some g := by
  rcases h.2 with ⟨rfl, _⟩ | ⟨g', cap, cur, rfl, _, hh, _⟩
  · simp [Value.ownBlock]
  · intro he
    have : g' = g := by simpa [Value.ownBlock] using he
    subst this
    unfold Blk at hg
    rw [hh] at hg
    injection hg with hg
    injection hg with _ ht
    exact hne ht

theorem own_below {w w' : World} {base : Nat} {e : TypeId} {v : Value} {n : Nat} {xs : List Value} (h : w.ownsRow base e 1 v n xs) (hb : Below w.heap.size w w') : w'.ownsRow base e 1 v n xs :=
  h.kept (row := none) ⟨hb.os, hb.tape, hb.output, hb.size, fun k hk _ => hb.block k hk⟩ (by cases hv : v.ownBlock <;> simp)
theorem OutAt.later {w w' : World} {base g : Nat} {l : List Nat} (h : OutAt w base g l) (hb : Below w.heap.size w w') : OutAt w' base g l := by
  obtain ⟨h0, v, h1, h2⟩ := h
  exact ⟨h0, v, h1.below hb h1.lt, own_below h2 hb⟩
theorem OutAt.alloc {w : World} {base g : Nat} {l : List Nat} (h : OutAt w base g l) (o : Obj) : OutAt (w.alloc o) base g l := h.later ((Below.refl _ _).alloc (Nat.le_refl _) o)
theorem OutAt.base_le {w : World} {base g : Nat} {l : List Nat} (h : OutAt w base g l) : base ≤ w.heap.size := Nat.le_of_lt (Nat.lt_of_le_of_lt h.1 (by obtain ⟨_, v, h1, _⟩ := h; exact h1.lt))

/-- What a putting does. -/
def Puts (base g : Nat) (l : List Nat) (w : World) (en : Ending) (w' : World) : Prop := en = .returned (.pointer (some ⟨g, 0, none⟩)) ∧ OutAt w' base g l ∧ Below base w w'

theorem put_step {w w1 : World} {base g : Nat} {l bs L : List Nat} {v v' : Value} (hL : L = l ++ bs) (hg : base ≤ g) (hb : Blk w g 60 #[v]) (hown : w.ownsRow base 5 1 v l.length (l.map fun y : Nat => Value.int .u8 (y : Int)))
    (hown' : w1.ownsRow base 5 1 v' (l.length + bs.length) ((l.map fun y : Nat => Value.int .u8 (y : Int)) ++ bs.map fun y : Nat => Value.int .u8 (y : Int))) (hgr : w.grownBy w1 v.ownBlock) :
    Puts base g L w (.returned (.pointer (some ⟨g, 0, none⟩))) (w1.setCell ⟨g, 0, none⟩ v') := by
  subst hL
  have hne := row_ne hown hb (by decide)
  have hb1 : Blk w1 g 60 #[v] := hb.grown hgr (fun h => hne h.symm)
  have hne' := row_ne hown' hb1 (by decide)
  have hsz : base ≤ w.heap.size := Nat.le_of_lt (Nat.lt_of_le_of_lt hg hb.lt)
  refine ⟨rfl, ⟨hg, v', hb1.set_ 0 v', ?_⟩, Below.setCell (p := ⟨g, 0, none⟩) ((Below.refl _ _).grown hgr hsz (fun k hk => (hown.lt k hk).1)) hg _⟩
  rw [List.length_append, List.map_append]
  have hr : w1.grownBy (w1.setCell ⟨g, 0, none⟩ v') (some g) := only_setCell (p := ⟨g, 0, none⟩) (World.grownBy.refl _ _) (.inl rfl) _
  exact hown'.kept hr (.inr hne')

set_option maxRecDepth 100000 in
set_option maxHeartbeats 400000 in
theorem put_as (base g : Nat) (A : Option Addr) (l bs L : List Nat) (n c : Nat) (w : World) (hL : L = l ++ bs) (h : OutAt w base g l) (hn : bs.length = n) (hA0 : A = none → c = 0) (hA : Sees .u8 w A bs) (hlen : l.length + n ≤ 140737488355328) :
    Calls Tryd.prog 60 #[.pointer (some ⟨g, 0, none⟩), .slice A n c] w (Puts base g L w) := by
  obtain ⟨i0, hi, hz0, hz1, hz2⟩ := info_parts info_u8
  have hsz := h.base_le
  obtain ⟨hg, v, hb, hown⟩ := h
  have HA := hid hA
  have HN := hid hn
  have H0 := hid hA0
  have HO := hid hown
  have hgl := hb.lt
  have hne := row_ne hown hb (by decide)
  have HNE := hid hne
  have HP := hid (fun (w1 : World) (v' : Value) (h1 : w1.ownsRow base 5 1 v' (l.length + bs.length) _) (h2 : w.grownBy w1 v.ownBlock) => put_step (L := L) hL hg hb hown h1 h2)
  have HL := hid hL
  have HBk := hid hb
  have c0 : w.cell? ⟨g, 0, none⟩ = some v := (hb.cell 0).trans rfl
  have f0 := hb.frozen 0
  obtain ⟨Av, cv, rfl, _, _, _⟩ := own_slice hown
  clear hb hown hA hn hA0 hne hL
  go_enter Tryd.func60, Tryd.ntmps60
  go_wp2_with (at_builtin; refine wpList_append_named rfl (.tmp 9) (.tmp 10) 39 rfl base 5 i0 (.int .u8 0) 1 Tryd.underlying39 hi hz0 hz1 hz2 rfl _ l.length _ rfl HO.out .u8 A c bs n HN.out rfl H0.out HA.out (by unfold maxLen; omega) (by omega) hsz ?_; intro v1 w1 hown1 hg1; rw [← HN.out] at hown1; have HR := hid (HP.out w1 v1 hown1 hg1); have hb1 := HBk.out.grown hg1 (fun h => HNE.out h.symm); have c1 := (hb1.cell 0).trans rfl; have f1 := hb1.frozen 0; obtain ⟨Aw, cw, rfl, _, _, _⟩ := own_slice2 (L := L) HL.out hown1; clear hown1 hg1 hb1)
  go_ret
  exact HR.out

theorem put_any (base g : Nat) (A : Option Addr) (l bs : List Nat) (n c : Nat) (w : World) (h : OutAt w base g l) (hn : bs.length = n) (hA0 : A = none → c = 0) (hA : Sees .u8 w A bs) (hlen : l.length + n ≤ 140737488355328) :
    Calls Tryd.prog 60 #[.pointer (some ⟨g, 0, none⟩), .slice A n c] w (Puts base g (l ++ bs) w) := put_as base g A l bs _ n c w rfl h hn hA0 hA hlen

theorem sees_one {w : World} {x : Nat} (T : TypeId) : Sees .u8 (w.alloc (.cells #[.int .u8 (x : Int)] T)) (some ⟨w.heap.size, 0, none⟩) [x] := by
  intro j y hj
  match j, hj with
  | 0, hj =>
    simp at hj
    subst hj
    exact ⟨w.heap.size, 0, rfl, by simp, by rw [cell_of_row _ _ _ _ _ _ (heap_alloc_new w _)]; rfl⟩

set_option maxRecDepth 100000 in
set_option maxHeartbeats 400000 in
theorem outbyte_any (base g : Nat) (l : List Nat) (x : Nat) (a : Int) (w : World) (h : OutAt w base g l) (ha : a = (x : Int)) (hlen : l.length + 1 ≤ 140737488355328) :
    Calls Tryd.prog 43 #[.pointer (some ⟨g, 0, none⟩), .int .u8 a] w (Puts base g (l ++ [x]) w) := by
  subst ha
  have HO := hid (h.alloc (.cells #[.int .u8 (x : Int)] 5))
  have hB := h.base_le
  clear h
  go_enter Tryd.func43, Tryd.ntmps43
  go_wp2_with fail
  refine (put_any base g (some ⟨w.heap.size, 0, none⟩) l [x] 1 1 _ HO.out rfl (fun h => nomatch h) (sees_one _) hlen).mono ?_
  rintro en w1 ⟨rfl, ho, hb⟩
  have HR : Hid (OutAt w1 base g (l ++ [x]) ∧ Below base w w1) := hid ⟨ho, ((Below.refl _ _).alloc hB _).trans hb⟩
  clear ho hb
  go_wp2
  go_ret
  exact ⟨rfl, HR.out.1, HR.out.2⟩

def truthN (t : Bool) : Nat := if t then 1 else 0

set_option maxRecDepth 100000 in
set_option maxHeartbeats 400000 in
theorem outtruth_any (base g : Nat) (l : List Nat) (t : Bool) (w : World) (h : OutAt w base g l) (hlen : l.length + 1 ≤ 140737488355328) :
    Calls Tryd.prog 44 #[.pointer (some ⟨g, 0, none⟩), .bool t] w (Puts base g (l ++ [truthN t]) w) := by
  have HO := hid (h.alloc (.cells #[.int .u8 (truthN t : Int)] 5))
  have hB := h.base_le
  clear h
  cases t with
  | true =>
    go_enter Tryd.func44, Tryd.ntmps44
    go_wp2_with fail
    refine (put_any base g (some ⟨w.heap.size, 0, none⟩) l [truthN true] 1 1 _ HO.out rfl (fun h => nomatch h) (sees_one _) hlen).mono ?_
    rintro en w1 ⟨rfl, ho, hb⟩
    have HR : Hid (OutAt w1 base g (l ++ [truthN true]) ∧ Below base w w1) := hid ⟨ho, ((Below.refl _ _).alloc hB _).trans hb⟩
    clear ho hb
    go_wp2
    go_ret
    exact ⟨rfl, HR.out.1, HR.out.2⟩
  | false =>
    go_enter Tryd.func44, Tryd.ntmps44
    go_wp2_with fail
    refine (put_any base g (some ⟨w.heap.size, 0, none⟩) l [truthN false] 1 1 _ HO.out rfl (fun h => nomatch h) (sees_one _) hlen).mono ?_
    rintro en w1 ⟨rfl, ho, hb⟩
    have HR : Hid (OutAt w1 base g (l ++ [truthN false]) ∧ Below base w w1) := hid ⟨ho, ((Below.refl _ _).alloc hB _).trans hb⟩
    clear ho hb
    go_wp2
    go_ret
    exact ⟨rfl, HR.out.1, HR.out.2⟩

set_option maxRecDepth 100000 in
set_option maxHeartbeats 400000 in
theorem outshort_any (base g : Nat) (l : List Nat) (v : Nat) (a : Int) (w : World) (h : OutAt w base g l) (ha : a = (v : Int)) (hv : v < 18446744073709551616) (hlen : l.length + 10 ≤ 140737488355328) :
    Calls Tryd.prog 59 #[.pointer (some ⟨g, 0, none⟩), .int .u64 a] w (Puts base g (l ++ shortN v) w) := by
  subst ha
  have HO := hid h
  have hB := h.base_le
  have h10 := shortN_len10 hv
  clear h
  go_enter Tryd.func59, Tryd.ntmps59
  go_wp2_with fail
  with_reducible refine (short_hands v _ hv).mono ?_
  rintro en w1 ⟨A1, c1, rfl, hn1, _, hs1, hb1⟩
  have HS := hid hs1
  have HN := hid hn1
  have HO1 := hid (HO.out.later hb1)
  have HB1 := hid hb1
  clear hs1 hn1 hb1
  go_wp2_with fail
  with_reducible refine (put_any base g A1 l (shortN v) _ c1 _ HO1.out rfl HN.out HS.out (by omega)).mono ?_
  rintro en w2 ⟨rfl, ho, hb⟩
  have HR : Hid (OutAt w2 base g (l ++ shortN v) ∧ Below base w w2) := hid ⟨ho, (HB1.out.mono hB).trans hb⟩
  clear ho hb
  go_wp2
  go_ret
  exact ⟨rfl, HR.out.1, HR.out.2⟩

set_option maxRecDepth 100000 in
set_option maxHeartbeats 400000 in
theorem outfixed_any (base g : Nat) (l : List Nat) (v : Nat) (a : Int) (w : World) (h : OutAt w base g l) (ha : a = (v : Int)) (hv : v < 18446744073709551616) (hlen : l.length + 8 ≤ 140737488355328) :
    Calls Tryd.prog 62 #[.pointer (some ⟨g, 0, none⟩), .int .u64 a] w (Puts base g (l ++ bytesN v 8) w) := by
  subst ha
  have HO := hid h
  have hB := h.base_le
  have HL := hid (bytesN_len 8 v)
  clear h
  go_enter Tryd.func62, Tryd.ntmps62
  go_wp2_with fail
  with_reducible refine (bytes_hands v 8 _ _ hv (by omega) (by omega)).mono ?_
  rintro en w1 ⟨A1, c1, rfl, hn1, _, hs1, hb1⟩
  have HS := hid hs1
  have HN := hid hn1
  have HO1 := hid (HO.out.later hb1)
  have HB1 := hid hb1
  clear hs1 hn1 hb1
  go_wp2_with fail
  with_reducible refine (put_any base g A1 l (bytesN v 8) 8 c1 _ HO1.out HL.out HN.out HS.out hlen).mono ?_
  rintro en w2 ⟨rfl, ho, hb⟩
  have HR : Hid (OutAt w2 base g (l ++ bytesN v 8) ∧ Below base w w2) := hid ⟨ho, (HB1.out.mono hB).trans hb⟩
  clear ho hb
  go_wp2
  go_ret
  exact ⟨rfl, HR.out.1, HR.out.2⟩

/-- A string's bytes. -/
def bytesOfS (s : ByteArray) : List Nat := s.data.toList.map UInt8.toNat
theorem bytesOfS_len (s : ByteArray) : (bytesOfS s).length = s.size := by simp [bytesOfS]
theorem bytesOfS_byte (s : ByteArray) : ∀ x ∈ bytesOfS s, x < 256 := by
  intro x hx
  obtain ⟨b, _, rfl⟩ := List.mem_map.1 hx
  exact b.toNat_lt
theorem strN_bytesOfS (s : ByteArray) : strN (bytesOfS s) = s := by
  apply ByteArray.ext
  apply Array.toList_inj.1
  simp only [strN, strOfNums_data, bytesOfS, List.map_map]
  conv => rhs; rw [← List.map_id s.data.toList]
  apply List.map_congr_left
  intro x hx
  simp

theorem sees_bytes (w : World) (s : ByteArray) (c : Nat) (T : TypeId) (fz : Nat × Nat) : Sees .u8 (w.drew.alloc (.cells (bytesRow s c) T fz)) (some ⟨w.heap.size, 0, none⟩) (bytesOfS s) := by
  intro j x hj
  have hl : j < s.size := by have := (List.getElem?_eq_some_iff.1 hj).1; rw [bytesOfS_len] at this; exact this
  have hh : (w.drew.alloc (.cells (bytesRow s c) T fz)).heap[w.heap.size]? = some (.cells (bytesRow s c) T fz) := by
    have := heap_alloc_new w.drew (.cells (bytesRow s c) T fz)
    exact this
  refine ⟨w.heap.size, 0, rfl, (Array.getElem?_eq_some_iff.1 hh).1, ?_⟩
  rw [cell_of_row _ _ _ _ _ _ hh, Nat.zero_add]
  have hd : j < s.data.size := hl
  unfold bytesRow
  rw [Array.getElem?_append_left (by simpa using hd)]
  simp only [bytesOfS, List.getElem?_map, Array.getElem?_toList] at hj
  simp only [Array.getElem?_map, Array.getElem?_eq_getElem hd, Option.map_some] at hj ⊢
  injection hj with hj
  rw [← hj]

set_option maxRecDepth 100000 in
set_option maxHeartbeats 400000 in
theorem outtext_as (base g : Nat) (l L : List Nat) (s : ByteArray) (w : World) (hL : L = (l ++ shortN s.size) ++ bytesOfS s) (h : OutAt w base g l) (hs : s.size ≤ 9223372036854775807) (hlen : l.length + 10 + s.size ≤ 140737488355328) :
    Calls Tryd.prog 63 #[.pointer (some ⟨g, 0, none⟩), .string s] w (Puts base g L w) := by
  have HO := hid h
  have HL := hid hL
  have hB := h.base_le
  have h10 := shortN_len10 (show s.size < 18446744073709551616 by omega)
  have hcv := fun (w : World) => run_bytes_of_string (P := Tryd.prog) w 9 39 5 s Tryd.underlying9 Tryd.underlying39 Tryd.underlying5
  have HSL := hid (bytesOfS_len s)
  clear h hL
  go_enter Tryd.func63, Tryd.ntmps63
  go_wp2_with fail
  with_reducible refine (outshort_any base g l s.size _ _ HO.out (by omega) (by omega) (by omega)).mono ?_
  rintro en w1 ⟨rfl, ho, hb⟩
  have HO1 := hid ho
  have HB1 := hid hb
  have hB1 := ho.base_le
  clear ho hb
  go_wp2_with fail
  have HO2 : Hid (OutAt (w1.drew.alloc (.cells (bytesRow s (grownCap w1 s.size 0 5)) 5 ((bytesRow s (grownCap w1 s.size 0 5)).size, (bytesRow s (grownCap w1 s.size 0 5)).size + 1))) base g (l ++ shortN s.size)) := hid (by
    have h1 : OutAt w1.drew base g (l ++ shortN s.size) := HO1.out
    exact h1.alloc _)
  have HB2 : Hid (Below base w (w1.drew.alloc (.cells (bytesRow s (grownCap w1 s.size 0 5)) 5 ((bytesRow s (grownCap w1 s.size 0 5)).size, (bytesRow s (grownCap w1 s.size 0 5)).size + 1)))) := hid ((below_drew HB1.out).alloc (by exact hB1) _)
  have HS2 := hid (sees_bytes w1 s (grownCap w1 s.size 0 5) 5 ((bytesRow s (grownCap w1 s.size 0 5)).size, (bytesRow s (grownCap w1 s.size 0 5)).size + 1))
  refine (put_as base g (some ⟨w1.heap.size, 0, none⟩) (l ++ shortN s.size) (bytesOfS s) L s.size _ _ HL.out HO2.out HSL.out (fun h => nomatch h) HS2.out (by rw [List.length_append]; omega)).mono ?_
  rintro en w2 ⟨rfl, ho, hb⟩
  have HR : Hid (OutAt w2 base g L ∧ Below base w w2) := hid ⟨ho, HB2.out.trans hb⟩
  clear ho hb HS2 HB2 HO2
  go_wp2
  go_ret
  exact ⟨rfl, HR.out.1, HR.out.2⟩

set_option maxRecDepth 100000 in
set_option maxHeartbeats 400000 in
theorem outbytes_any (base g : Nat) (l : List Nat) (w : World) (h : OutAt w base g l) (hlen : l.length ≤ 140737488355328) :
    Calls Tryd.prog 23 #[.pointer (some ⟨g, 0, none⟩)] w (Makes l w) := by
  obtain ⟨hg, v, hb, hown⟩ := h
  have c0 : w.cell? ⟨g, 0, none⟩ = some v := (hb.cell 0).trans rfl
  have f0 := hb.frozen 0
  obtain ⟨Av, cv, rfl, hn, _, hs⟩ := own_slice hown
  have HN := hid hn
  have HS := hid hs
  clear hb hown hn hs
  go_enter Tryd.func23, Tryd.ntmps23
  go_wp2_with fail
  with_reducible refine (clone_any Av l l.length cv _ rfl hlen HN.out HS.out).mono ?_
  rintro en w1 hm
  obtain ⟨s, rfl, hown, hb⟩ := hm
  have HM : Hid (Makes l w (.returned s) w1) := hid ⟨s, rfl, hown, hb⟩
  clear hown hb
  go_wp2
  go_ret
  exact HM.out

/-- The zero Out, in a block that has just been made. -/
theorem out_new (w : World) : OutAt (w.alloc (.cells #[.slice none 0 0] 60)) w.heap.size w.heap.size [] :=
  ⟨Nat.le_refl _, _, Blk.new _ _ _, World.ownsRow_nil _ _ _ _⟩

/-- The document's example. -/
def four : List Nat := [1, 2, 97, 98]

end Go.Proofs.YtapmchkikafpmaaDoor
