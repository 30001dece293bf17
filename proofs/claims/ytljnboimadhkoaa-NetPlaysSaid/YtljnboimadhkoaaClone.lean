/-
  Bytes as a string; the contract of bytes.Clone.
-/
import Derived.Test.YtljnboimadhkoaaBase
import Derived.WalkKit
import Derived.WalkSpells
import Derived.WalkLawsBesides
import Derived.Laws.BytesArg
namespace Go.Proofs.Ytljnboimadhkoaa
open Go.RowKit

def strN (l : List Nat) : ByteArray := strOfNums (l.map fun x : Nat => (x : Int))

theorem run_convert_none0 (P : Program) (w : World) (src dst e : TypeId) (hs : P.underlying src = some (.slice e)) (he : P.underlying e = some (.int .u8)) (hd : P.underlying dst = some .string) (A : Option Addr) (c : Nat) :
    (convert src dst (.slice A 0 c)).run P w = .ok (.string ByteArray.empty) w := by
  rw [run_convert_bytes_string w src dst e _ 0 c hs he hd]
  cases A <;> simp [Conv.bytesToString, loadCells, loadCellsFrom]

theorem sees_convert {w : World} {A : Option Addr} {l : List Nat} {n : Nat} (hS : Sees .u8 w A l) (hn : l.length = n) (c : Nat) :
    (convert 30 9 (.slice A n c)).run Try.prog w = .ok (.string (strN l)) w := by
  cases l with
  | nil =>
    simp at hn
    subst hn
    exact run_convert_none0 _ w _ _ 5 Try.underlying30 Try.underlying5 Try.underlying9 A c
  | cons x l =>
    obtain ⟨b, o, rfl, _, _⟩ := hS 0 x rfl
    refine run_convert_bytes_arg w 30 5 Try.underlying30 Try.underlying5 b o n c _ (by simpa using hn) ?_ 9 Try.underlying9
    intro i hi
    have hi' : i < (x :: l).length := by omega
    obtain ⟨b', o', he, _, hc⟩ := hS i _ (List.getElem?_eq_getElem hi')
    injection he with he
    injection he with h1 h2
    subst h1; subst h2
    rw [hc, List.getD_eq_getElem?_getD, List.getElem?_map, List.getElem?_eq_getElem hi']
    rfl

set_option maxRecDepth 100000 in
set_option maxHeartbeats 400000 in
theorem clone_some (b o : Nat) (l : List Nat) (n c : Nat) (w : World) (hn : l.length = n) (hl : n ≤ 140737488355328) (hA : Sees .u8 w (some ⟨b, o, none⟩) l) :
    Calls Try.prog 26 #[.slice (some ⟨b, o, none⟩) n c] w (Makes l w) := by
  obtain ⟨i0, hi, hz0, hz1, hz2⟩ := info_parts info_u8
  have HA := hid hA
  have HN := hid hn
  clear hA hn
  have q22 : ∀ (w : World) (a : Option Addr) (n c n' c' : Nat), (binOp .eql 30 (.slice a n c) (.slice none n' c')).run Try.prog w = .ok (.bool a.isNone) w := fun w a n c n' c' => Lib.run_eql_slice_nil w _ _ a n c n' c' Try.underlying30
  go_enter Try.func26, Try.ntmps26
  go_wp2_with (first
    | ((with_reducible refine wpList_build_none (o := ⟨some 5, _, _, _, _, _⟩) rfl 30 5 rfl Try.underlying30 i0 hi w.heap.size (Nat.le_refl _) ?_); intro s5 w5 hown5 hb5; have z5 := hb5.size)
    | (at_builtin; refine wpList_append_named rfl (.tmp 5) (.tmp 6) 30 rfl w.heap.size 5 i0 (.int .u8 0) 1 Try.underlying30 hi hz0 hz1 hz2 rfl _ 0 [] rfl hown5 .u8 (some ⟨b, o, none⟩) c l n HN.out rfl (fun h => nomatch h) (HA.out.below hb5) (by unfold maxLen; omega) (by omega) z5 ?_; intro s6 w6 hown6 hg6; simp only [Nat.zero_add, List.nil_append] at hown6; have HO := hid hown6; have HB := hid (hb5.grown hg6 z5 (fun k hk => (hown5.lt k hk).1)); clear hown6 hg6))
  go_ret
  exact ⟨_, rfl, by rw [HN.out]; exact HO.out, HB.out⟩


set_option maxRecDepth 100000 in
set_option maxHeartbeats 400000 in
theorem clone_none (w : World) : Calls Try.prog 26 #[.slice none 0 0] w (Makes [] w) := by
  have q22 : ∀ (w : World) (a : Option Addr) (n c n' c' : Nat), (binOp .eql 30 (.slice a n c) (.slice none n' c')).run Try.prog w = .ok (.bool a.isNone) w := fun w a n c n' c' => Lib.run_eql_slice_nil w _ _ a n c n' c' Try.underlying30
  go_enter Try.func26, Try.ntmps26
  go_wp2
  go_ret
  exact ⟨_, rfl, World.ownsRow_nil _ _ _ _, Below.refl _ _⟩

/-- A slice that starts at a cell, or is empty: as an argument comes. -/
theorem sees_some {w : World} {a : Addr} {l : List Nat} (h : Sees .u8 w (some a) l) : l = [] ∨ ∃ b o, a = ⟨b, o, none⟩ := by
  cases l with
  | nil => exact .inl rfl
  | cons x l =>
    obtain ⟨b, o, he, _⟩ := h 0 x rfl
    injection he with he
    exact .inr ⟨b, o, he⟩
set_option maxRecDepth 100000 in
set_option maxHeartbeats 400000 in
theorem clone_empty (a : Addr) (c : Nat) (w : World) : Calls Try.prog 26 #[.slice (some a) 0 c] w (Makes [] w) := by
  obtain ⟨i0, hi, hz0, hz1, hz2⟩ := info_parts info_u8
  have q22 : ∀ (w : World) (a : Option Addr) (n c n' c' : Nat), (binOp .eql 30 (.slice a n c) (.slice none n' c')).run Try.prog w = .ok (.bool a.isNone) w := fun w a n c n' c' => Lib.run_eql_slice_nil w _ _ a n c n' c' Try.underlying30
  go_enter Try.func26, Try.ntmps26
  go_wp2_with (first
    | ((with_reducible refine wpList_build_none (o := ⟨some 5, _, _, _, _, _⟩) rfl 30 5 rfl Try.underlying30 i0 hi w.heap.size (Nat.le_refl _) ?_); intro s5 w5 hown5 hb5; have z5 := hb5.size)
    | (at_builtin; refine wpList_append_named rfl (.tmp 5) (.tmp 6) 30 rfl w.heap.size 5 i0 (.int .u8 0) 1 Try.underlying30 hi hz0 hz1 hz2 rfl _ 0 [] rfl hown5 .u8 (some a) c [] 0 rfl rfl (fun h => nomatch h) (Sees.nil _ _ _) (by unfold maxLen; omega) (by omega) z5 ?_; intro s6 w6 hown6 hg6; simp only [Nat.zero_add, List.nil_append] at hown6; have HO := hid hown6; have HB := hid (hb5.grown hg6 z5 (fun k hk => (hown5.lt k hk).1)); clear hown6 hg6))
  go_ret
  exact ⟨_, rfl, HO.out, HB.out⟩

theorem clone_any (A : Option Addr) (l : List Nat) (n c : Nat) (w : World) (hn : l.length = n) (hl : n ≤ 140737488355328) (hc : A = none → c = 0) (hA : Sees .u8 w A l) :
    Calls Try.prog 26 #[.slice A n c] w (Makes l w) := by
  cases A with
  | none =>
    have h0 : l = [] := by
      cases l with
      | nil => rfl
      | cons x l => obtain ⟨b, o, he, _⟩ := hA 0 x rfl; cases he
    subst h0
    rw [hc rfl, ← hn]
    exact clone_none w
  | some a =>
    rcases sees_some hA with rfl | ⟨b, o, rfl⟩
    · rw [← hn]
      exact clone_empty a c w
    · exact clone_some b o l n c w hn hl hA

end Go.Proofs.Ytljnboimadhkoaa
