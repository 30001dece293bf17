/-
  Bytes as a string; the contract of bytes.Clone.
-/
import Derived.Test.YtgjbhlianlbflaaGreatBBase
import Derived.WalkKit
import Derived.WalkSpells
import Derived.WalkLawsBesides
import Derived.Laws.BytesArg
namespace Go.Proofs.YtgjbhlianlbflaaGreat
open Go.RowKit
def strN (l : List Nat) : ByteArray := strOfNums (l.map fun x : Nat => (x : Int))
set_option maxRecDepth 100000 in
set_option maxHeartbeats 400000 in
theorem clone_some (b o : Nat) (l : List Nat) (n c : Nat) (w : World) (hn : l.length = n) (hl : n ≤ 140737488355328) (hA : Sees .u8 w (some ⟨b, o, none⟩) l) :
    Calls Tryz.prog 53 #[.slice (some ⟨b, o, none⟩) n c] w (Makes l w) := by
  obtain ⟨i0, hi, hz0, hz1, hz2⟩ := info_parts info_u8
  have HA := hid hA
  have HN := hid hn
  clear hA hn
  have q22 : ∀ (w : World) (a : Option Addr) (n c n' c' : Nat), (binOp .eql 56 (.slice a n c) (.slice none n' c')).run Tryz.prog w = .ok (.bool a.isNone) w := fun w a n c n' c' => Lib.run_eql_slice_nil w _ _ a n c n' c' Tryz.underlying56
  go_enter Tryz.func53, Tryz.ntmps53
  go_wp2_with (first
    | ((with_reducible refine wpList_build_none (o := ⟨some 5, _, _, _, _, _⟩) rfl 56 5 rfl Tryz.underlying56 i0 hi w.heap.size (Nat.le_refl _) ?_); intro s5 w5 hown5 hb5; have z5 := hb5.size)
    | (at_builtin; refine wpList_append_named rfl (.tmp 5) (.tmp 6) 56 rfl w.heap.size 5 i0 (.int .u8 0) 1 Tryz.underlying56 hi hz0 hz1 hz2 rfl _ 0 [] rfl hown5 .u8 (some ⟨b, o, none⟩) c l n HN.out rfl (fun h => nomatch h) (HA.out.below hb5) (by unfold maxLen; omega) (by omega) z5 ?_; intro s6 w6 hown6 hg6; simp only [Nat.zero_add, List.nil_append] at hown6; have HO := hid hown6; have HB := hid (hb5.grown hg6 z5 (fun k hk => (hown5.lt k hk).1)); clear hown6 hg6))
  go_ret
  exact ⟨_, rfl, by rw [HN.out]; exact HO.out, HB.out⟩
set_option maxRecDepth 100000 in
set_option maxHeartbeats 400000 in
theorem clone_none (w : World) : Calls Tryz.prog 53 #[.slice none 0 0] w (Makes [] w) := by
  have q22 : ∀ (w : World) (a : Option Addr) (n c n' c' : Nat), (binOp .eql 56 (.slice a n c) (.slice none n' c')).run Tryz.prog w = .ok (.bool a.isNone) w := fun w a n c n' c' => Lib.run_eql_slice_nil w _ _ a n c n' c' Tryz.underlying56
  go_enter Tryz.func53, Tryz.ntmps53
  go_wp2
  go_ret
  exact ⟨_, rfl, World.ownsRow_nil _ _ _ _, Below.refl _ _⟩
theorem sees_some {w : World} {a : Addr} {l : List Nat} (h : Sees .u8 w (some a) l) : l = [] ∨ ∃ b o, a = ⟨b, o, none⟩ := by
  cases l with
  | nil => exact .inl rfl
  | cons x l =>
    obtain ⟨b, o, he, _⟩ := h 0 x rfl
    injection he with he
    exact .inr ⟨b, o, he⟩
set_option maxRecDepth 100000 in
set_option maxHeartbeats 400000 in
theorem clone_empty (a : Addr) (c : Nat) (w : World) : Calls Tryz.prog 53 #[.slice (some a) 0 c] w (Makes [] w) := by
  obtain ⟨i0, hi, hz0, hz1, hz2⟩ := info_parts info_u8
  have q22 : ∀ (w : World) (a : Option Addr) (n c n' c' : Nat), (binOp .eql 56 (.slice a n c) (.slice none n' c')).run Tryz.prog w = .ok (.bool a.isNone) w := fun w a n c n' c' => Lib.run_eql_slice_nil w _ _ a n c n' c' Tryz.underlying56
  go_enter Tryz.func53, Tryz.ntmps53
  go_wp2_with (first
    | ((with_reducible refine wpList_build_none (o := ⟨some 5, _, _, _, _, _⟩) rfl 56 5 rfl Tryz.underlying56 i0 hi w.heap.size (Nat.le_refl _) ?_); intro s5 w5 hown5 hb5; have z5 := hb5.size)
    | (at_builtin; refine wpList_append_named rfl (.tmp 5) (.tmp 6) 56 rfl w.heap.size 5 i0 (.int .u8 0) 1 Tryz.underlying56 hi hz0 hz1 hz2 rfl _ 0 [] rfl hown5 .u8 (some a) c [] 0 rfl rfl (fun h => nomatch h) (Sees.nil _ _ _) (by unfold maxLen; omega) (by omega) z5 ?_; intro s6 w6 hown6 hg6; simp only [Nat.zero_add, List.nil_append] at hown6; have HO := hid hown6; have HB := hid (hb5.grown hg6 z5 (fun k hk => (hown5.lt k hk).1)); clear hown6 hg6))
  go_ret
  exact ⟨_, rfl, HO.out, HB.out⟩
theorem clone_any (A : Option Addr) (l : List Nat) (n c : Nat) (w : World) (hn : l.length = n) (hl : n ≤ 140737488355328) (hc : A = none → c = 0) (hA : Sees .u8 w A l) :
    Calls Tryz.prog 53 #[.slice A n c] w (Makes l w) := by
  cases A with
  | none =>
    have h0 : l = [] := by
      cases l with
      | nil => rfl
      | cons x l => obtain ⟨b, o, he, _⟩ := hA 0 x rfl; cases he
    subst h0
    rw [hc rfl, ← hn]
    exact clone_none w
  | some a =>
    rcases sees_some hA with rfl | ⟨b, o, rfl⟩
    · rw [← hn]
      exact clone_empty a c w
    · exact clone_some b o l n c w hn hl hA
end Go.Proofs.YtgjbhlianlbflaaGreat
