/-
  Contracts of putting a name, and a ballot (package mark), into an Out.
-/
import Derived.Test.YtapmchkikafpmaaDoorOutK
import Derived.Test.YtapmchkikafpmaaDoorMWord
import Derived.Deep.RegionHeld3
namespace Go.Proofs.YtapmchkikafpmaaDoor
open Go.ChangeShapes Go.WideShapes Go.ChangeAt Go.RowKit
set_option linter.unusedVariables false

/-- What a putting without an answer does. -/
def PutsN (base g : Nat) (l : List Nat) (w : World) (en : Ending) (w' : World) : Prop := en = .returned (.tuple #[]) ∧ OutAt w' base g l ∧ Below base w w' ∧ Stays g w w'

theorem putk_out {base g : Nat} {l : List Nat} {w w1 w2 : World} {en : Ending} (h : PutsK base g l w1 en w2) (hb : Below base w w1) (hs : Stays g w w1) : Hid (OutAt w2 base g l ∧ Below base w w2 ∧ Stays g w w2) :=
  hid ⟨h.1.2.1, hb.trans h.1.2.2, hs.trans h.2⟩

theorem OutAt.drew {w : World} {base g : Nat} {l : List Nat} (h : OutAt w base g l) : OutAt w.drew base g l := h.later (below_drew (Below.refl _ _))

set_option maxRecDepth 100000 in
set_option maxHeartbeats 1000000 in
theorem idput_any (base g : Nat) (l L : List Nat) (a b : Nat) (w : World) (h : OutAt w base g l) (ha : a < 7) (hb : b < 1024) (hlen : l.length + 11 ≤ 140737488355328) (hL : L = (l ++ [a]) ++ shortN b) :
    Calls Tryd.prog 41 #[nm a b, .pointer (some ⟨g, 0, none⟩)] w (PutsN base g L w) := by
  subst hL
  have hB := h.base_le
  obtain ⟨W, hW⟩ : ∃ W, w.alloc (.cells #[.int .i64 (a : Int), .int .i64 (b : Int)] 23) = W := ⟨_, rfl⟩
  obtain ⟨k, hk⟩ : ∃ k, w.heap.size = k := ⟨_, rfl⟩
  have HO : Hid (OutAt W base g l) := hid (hW ▸ h.alloc _)
  have HK : Hid (Blk W k 23 #[.int .i64 (a : Int), .int .i64 (b : Int)]) := hid (by rw [← hW, ← hk]; exact Blk.new _ _ _)
  have HB : Hid (Below base w W) := hid (by rw [← hW]; exact (Below.refl _ _).alloc hB _)
  have HS : Hid (Stays g w W) := hid (by rw [← hW]; exact Stays.of_below ((Below.refl _ _).alloc (Nat.le_refl _) _))
  have hkg : k ≠ g := by
    obtain ⟨_, v, h1, _⟩ := h
    have := h1.lt
    omega
  have HA := hid (show IntKind.u8.wrap (a : Int) = (a : Int) by rw [IntKind.wrap_u8]; omega)
  have HB6 := hid (show IntKind.u64.wrap (b : Int) = (b : Int) by rw [IntKind.wrap_u64]; omega)
  have hl1 : (l ++ [a]).length + 10 ≤ 140737488355328 := by simp; omega
  have HL1 := hid hl1
  clear h hB hl1
  go_enter Tryd.func41, Tryd.ntmps41
  go_wp2_with fail
  clear hW hk
  go_region_held3 (fun w' => w'.cell? ⟨k, 0, none⟩ = some (.int .i64 (a : Int)) ∧ w'.cell? ⟨k, 1, none⟩ = some (.int .i64 (b : Int)))
    (first | exact (blkn HK.out).1 | exact (blkn HK.out.drew).1 | exact (blkn K6.out).1 | exact (blkn K7.out).1)
    (first
      | (go_at_call 43; (with_reducible refine (outbytek_any base g l a _ _ HO.out.drew HA.out (by omega)).mono ?_); rintro en w6 ⟨⟨rfl, ho6, hb6⟩, hs6⟩; have K6 := hid (hs6.2 k _ _ hkg (by decide) HK.out.drew))
      | (go_at_call 59; (with_reducible refine (outshortk_any base g (l ++ [a]) b _ _ ho6 HB6.out (by omega) HL1.out).mono ?_); rintro en w7 ⟨⟨rfl, ho7, hb7⟩, hs7⟩; have K7 := hid (hs7.2 k _ _ hkg (by decide) K6.out)))
  have HR : Hid (OutAt w7 base g ((l ++ [a]) ++ shortN b) ∧ Below base w w7 ∧ Stays g w w7) := hid ⟨ho7, (below_drew HB.out).trans (hb6.trans hb7), (HS.out.trans (Stays.drew hs6)).trans hs7⟩
  clear ho6 hb6 hs6 ho7 hb7 hs7
  go_wp2
  go_end0
  exact ⟨rfl, HR.out⟩

set_option maxRecDepth 100000 in
set_option maxHeartbeats 400000 in
theorem ballotput_any (base g : Nat) (l : List Nat) (v : Nat) (w : World) (h : OutAt w base g l) (hv : v < 4294967296) (hlen : l.length + 10 ≤ 140737488355328) :
    Calls Tryd.prog 42 #[.int .u32 (v : Int), .pointer (some ⟨g, 0, none⟩)] w (PutsN base g (l ++ shortN v) w) := by
  have HO := hid h
  clear h
  go_enter Tryd.func42, Tryd.ntmps42
  go_wp2_with fail
  with_reducible refine (outshortk_any base g l v _ _ HO.out rfl (by omega) hlen).mono ?_
  rintro en w2 ⟨⟨rfl, ho, hb⟩, hs⟩
  have HR : Hid (OutAt w2 base g (l ++ shortN v) ∧ Below base w w2 ∧ Stays g w w2) := hid ⟨ho, hb, hs⟩
  clear ho hb hs
  go_wp2
  go_end0
  exact ⟨rfl, HR.out⟩

end Go.Proofs.YtapmchkikafpmaaDoor
