/-
  Commands: what is small of them, and the document's own right commands, compared.
-/
import Derived.Test.YtohffiehmmcgbaaGreatDoorZKRight
import Derived.Test.YtohffiehmmcgbaaGreatDoorZKRefA
import Derived.Test.YtohffiehmmcgbaaGreatDoorZKRefB
import Derived.Test.YtohffiehmmcgbaaGreatDoorZKRefC
import Derived.Test.YtohffiehmmcgbaaGreatDoorMpD
import Derived.Test.YtohffiehmmcgbaaGreatDoorMpC
import Derived.Deep.Cut
import Derived.Test.YtohffiehmmcgbaaGreatDoorMpA
import Derived.Test.YtohffiehmmcgbaaGreatDoorMpE
/-
  The law's small and of; the document's table of kinds; Client and Foot (package cmd).
-/
namespace Go.Proofs.YtohffiehmmcgbaaGreatDoor
open Go.ChangeShapes Go.WideShapes Go.ChangeAt Go.RowKit Go.Lib

def smallK (c : K) : Bool := decide (c.path.size < 200) && decide (c.foot.size < 200)

set_option maxHeartbeats 400000 in
theorem sclone_any (s : ByteArray) (w : World) (hs : s.size ≤ 281474976710656) : Calls Tryz.prog 132 #[.string s] w (Asks (.string s) w) := by
  go_enter Tryz.func132, Tryz.ntmps132
  go_wp2_with fail
  refine (Tryz.stringslite_Clone s _ hs).mono ?_
  rintro e w1 ⟨rfl, hb⟩
  have HB := hid hb
  clear hb
  go_wp2
  go_ret
  exact ⟨rfl, HB.out⟩

/-- A command's footprint. -/
def footK (c : K) : ByteArray × Bool := if rightK c && h0 c.kind then (if h2 c.kind then c.path else c.foot, true) else (⟨#[]⟩, false)

end Go.Proofs.YtohffiehmmcgbaaGreatDoor
/-
  The contracts of the document's Right and Foot (moothillref07), and of the law's anchor.
-/
namespace Go.Proofs.YtohffiehmmcgbaaGreatDoor
open Go.ChangeShapes Go.WideShapes Go.ChangeAt Go.RowKit Go.Lib
set_option linter.unusedSimpArgs false
set_option linter.unusedVariables false

set_option maxRecDepth 100000 in
set_option maxHeartbeats 1000000 in
theorem ref_off (k u : Int) (f : ByteArray) (q : Int) (s : ByteArray) (m n t : Int) (w : World) (hk : k < 0 ∨ 8 < k) :
    Calls Tryz.prog 57 #[val ⟨k, u, f, q, s, m, n, t⟩] w fun e w' => e = .returned (.bool (docK ⟨k, u, f, q, s, m, n, t⟩)) ∧ Below w.heap.size w w' := by
  have HE : Hid (docK ⟨k, u, f, q, s, m, n, t⟩ = false) := hid (by
    have h : isK k = false := by unfold isK; exact decide_eq_false (by omega)
    simp [docK, h])
  rcases Decidable.em (k < 0) with h | h
  · go_enter Tryz.func57, Tryz.ntmps57
    go_wp2
    go_ret
    exact ⟨ret_bool HE.out.symm, (Below.refl _ _).alloc (Nat.le_refl _) _⟩
  · have h8 : 8 < k := by omega
    go_enter Tryz.func57, Tryz.ntmps57
    go_wp2
    go_ret
    exact ⟨ret_bool HE.out.symm, (Below.refl _ _).alloc (Nat.le_refl _) _⟩

theorem refright7 (c : K) (w : World) (ho : okK c) (hf : c.foot.size ≤ 900) (hp : c.path.size ≤ 900) :
    Calls Tryz.prog 57 #[val c] w fun e w' => e = .returned (.bool (rightK c)) ∧ Below w.heap.size w w' := by
  rw [← doc_right c ho]
  obtain ⟨_, ⟨o1, _⟩, ⟨o2, _⟩, _⟩ := ho
  obtain ⟨k, u, f, q, s, m, n, t⟩ := c
  simp only at o1 o2 hf hp
  have : k < 0 ∨ 8 < k ∨ k = 0 ∨ k = 1 ∨ k = 2 ∨ k = 3 ∨ k = 4 ∨ k = 5 ∨ k = 6 ∨ k = 7 ∨ k = 8 := by omega
  rcases this with h | h | rfl | rfl | rfl | rfl | rfl | rfl | rfl | rfl | rfl
  · exact ref_off k u f q s m n t w (.inl h)
  · exact ref_off k u f q s m n t w (.inr h)
  · exact ref_0 u f q s m n t w hf hp o1 o2
  · exact ref_1 u f q s m n t w hf hp o1 o2
  · exact ref_2 u f q s m n t w hf hp o1 o2
  · exact ref_3 u f q s m n t w hf hp o1 o2
  · exact ref_4 u f q s m n t w hf hp o1 o2
  · exact ref_5 u f q s m n t w hf hp o1 o2
  · exact ref_6 u f q s m n t w hf hp o1 o2
  · exact ref_7 u f q s m n t w hf hp o1 o2
  · exact ref_8 u f q s m n t w hf hp o1 o2

theorem right_kind {c : K} (h : rightK c = true) : 0 ≤ c.kind ∧ c.kind ≤ 8 := by
  unfold rightK at h
  simp only [Bool.and_eq_true] at h
  have := h.1.1
  unfold isK at this
  rw [decide_eq_true_eq] at this
  omega

end Go.Proofs.YtohffiehmmcgbaaGreatDoor
/-
  The document's commands, compared.
-/
namespace Go.Proofs.YtohffiehmmcgbaaGreatDoor
open Go.ChangeShapes Go.WideShapes Go.ChangeAt Go.RowKit
set_option linter.unusedVariables false
set_option linter.unusedSimpArgs false

set_option maxRecDepth 100000 in
theorem eq_rparts0 (k u : Int) (f : ByteArray) (q : Int) (s : ByteArray) (m n t k' u' : Int) (f' : ByteArray) (q' : Int) (s' : ByteArray) (m' n' t' : Int) (w : World) :
    (Op.equalIn 10000 45 (val ⟨k, u, f, q, s, m, n, t⟩) (val ⟨k', u', f', q', s', m', n', t'⟩)).run Tryz.prog w = .ok ((k == k') && ((u == u') && (decide (f = f') && ((q == q') && (decide (s = s') && ((m == m') && ((n == n') && ((t == t') && true)))))))) w := by
  have ht : Tryz.prog.underlying 45 = some (.struct (Tryz.prog.fieldsOf 45)) := by kernel_rfl
  have hp : Tryz.prog.stoodInHeld 45 = false := by kernel_rfl
  rw [run_equalIn_struct w 9999 _ _ _ ht hp]
  have a0 := run_part_plain (P := Tryz.prog) (w := w) (e := 3) (by kernel_rfl) (xs := #[.int .i64 k, .int .u64 u, .string f, .int .u64 q, .string s, .int .i64 m, .int .u64 n, .int .i64 t]) (off := 0) rfl
  have b0 := run_part_plain (P := Tryz.prog) (w := w) (e := 3) (by kernel_rfl) (xs := #[.int .i64 k', .int .u64 u', .string f', .int .u64 q', .string s', .int .i64 m', .int .u64 n', .int .i64 t']) (off := 0) rfl
  have e0 := run_equalIn_int (P := Tryz.prog) w 9998 3 .i64 .i64 k k' Tryz.underlying3
  have a1 := run_part_plain (P := Tryz.prog) (w := w) (e := 28) (by kernel_rfl) (xs := #[.int .i64 k, .int .u64 u, .string f, .int .u64 q, .string s, .int .i64 m, .int .u64 n, .int .i64 t]) (off := 1) rfl
  have b1 := run_part_plain (P := Tryz.prog) (w := w) (e := 28) (by kernel_rfl) (xs := #[.int .i64 k', .int .u64 u', .string f', .int .u64 q', .string s', .int .i64 m', .int .u64 n', .int .i64 t']) (off := 1) rfl
  have e1 := run_equalIn_int (P := Tryz.prog) w 9998 28 .u64 .u64 u u' Tryz.underlying28
  have a2 := run_part_plain (P := Tryz.prog) (w := w) (e := 9) (by kernel_rfl) (xs := #[.int .i64 k, .int .u64 u, .string f, .int .u64 q, .string s, .int .i64 m, .int .u64 n, .int .i64 t]) (off := 2) rfl
  have b2 := run_part_plain (P := Tryz.prog) (w := w) (e := 9) (by kernel_rfl) (xs := #[.int .i64 k', .int .u64 u', .string f', .int .u64 q', .string s', .int .i64 m', .int .u64 n', .int .i64 t']) (off := 2) rfl
  have e2 := run_equalIn_string (P := Tryz.prog) w 9998 9 f f' Tryz.underlying9
  rw [bytes_eq] at e2
  have a3 := run_part_plain (P := Tryz.prog) (w := w) (e := 28) (by kernel_rfl) (xs := #[.int .i64 k, .int .u64 u, .string f, .int .u64 q, .string s, .int .i64 m, .int .u64 n, .int .i64 t]) (off := 3) rfl
  have b3 := run_part_plain (P := Tryz.prog) (w := w) (e := 28) (by kernel_rfl) (xs := #[.int .i64 k', .int .u64 u', .string f', .int .u64 q', .string s', .int .i64 m', .int .u64 n', .int .i64 t']) (off := 3) rfl
  have e3 := run_equalIn_int (P := Tryz.prog) w 9998 28 .u64 .u64 q q' Tryz.underlying28
  have a4 := run_part_plain (P := Tryz.prog) (w := w) (e := 9) (by kernel_rfl) (xs := #[.int .i64 k, .int .u64 u, .string f, .int .u64 q, .string s, .int .i64 m, .int .u64 n, .int .i64 t]) (off := 4) rfl
  have b4 := run_part_plain (P := Tryz.prog) (w := w) (e := 9) (by kernel_rfl) (xs := #[.int .i64 k', .int .u64 u', .string f', .int .u64 q', .string s', .int .i64 m', .int .u64 n', .int .i64 t']) (off := 4) rfl
  have e4 := run_equalIn_string (P := Tryz.prog) w 9998 9 s s' Tryz.underlying9
  rw [bytes_eq] at e4
  have a5 := run_part_plain (P := Tryz.prog) (w := w) (e := 3) (by kernel_rfl) (xs := #[.int .i64 k, .int .u64 u, .string f, .int .u64 q, .string s, .int .i64 m, .int .u64 n, .int .i64 t]) (off := 5) rfl
  have b5 := run_part_plain (P := Tryz.prog) (w := w) (e := 3) (by kernel_rfl) (xs := #[.int .i64 k', .int .u64 u', .string f', .int .u64 q', .string s', .int .i64 m', .int .u64 n', .int .i64 t']) (off := 5) rfl
  have e5 := run_equalIn_int (P := Tryz.prog) w 9998 3 .i64 .i64 m m' Tryz.underlying3
  have a6 := run_part_plain (P := Tryz.prog) (w := w) (e := 28) (by kernel_rfl) (xs := #[.int .i64 k, .int .u64 u, .string f, .int .u64 q, .string s, .int .i64 m, .int .u64 n, .int .i64 t]) (off := 6) rfl
  have b6 := run_part_plain (P := Tryz.prog) (w := w) (e := 28) (by kernel_rfl) (xs := #[.int .i64 k', .int .u64 u', .string f', .int .u64 q', .string s', .int .i64 m', .int .u64 n', .int .i64 t']) (off := 6) rfl
  have e6 := run_equalIn_int (P := Tryz.prog) w 9998 28 .u64 .u64 n n' Tryz.underlying28
  have a7 := run_part_plain (P := Tryz.prog) (w := w) (e := 3) (by kernel_rfl) (xs := #[.int .i64 k, .int .u64 u, .string f, .int .u64 q, .string s, .int .i64 m, .int .u64 n, .int .i64 t]) (off := 7) rfl
  have b7 := run_part_plain (P := Tryz.prog) (w := w) (e := 3) (by kernel_rfl) (xs := #[.int .i64 k', .int .u64 u', .string f', .int .u64 q', .string s', .int .i64 m', .int .u64 n', .int .i64 t']) (off := 7) rfl
  have e7 := run_equalIn_int (P := Tryz.prog) w 9998 3 .i64 .i64 t t' Tryz.underlying3
  simp only [Program.fieldsOf, Tryz.underlying45]
  exact eqf_cons (by decide) a0 b0 e0 (eqf_cons (by decide) a1 b1 e1 (eqf_cons (by decide) a2 b2 e2 (eqf_cons (by decide) a3 b3 e3 (eqf_cons (by decide) a4 b4 e4 (eqf_cons (by decide) a5 b5 e5 (eqf_cons (by decide) a6 b6 e6 (eqf_cons (by decide) a7 b7 e7 eqf_nil)))))))

theorem eq_refc (c d : K) (b : Bool) (hb : decide (c = d) = b) (w : World) : (Op.equalIn 10000 45 (val c) (val d)).run Tryz.prog w = .ok b w := by
  subst hb
  obtain ⟨k, u, f, q, s, m, n, t⟩ := c
  obtain ⟨k', u', f', q', s', m', n', t'⟩ := d
  rw [dec_val2]
  exact eq_rparts0 k u f q s m n t k' u' f' q' s' m' n' t' w
theorem refc_guard : Tryz.prog.eqGuardType Tryz.prog.depth 45 = false := by kernel_rfl

end Go.Proofs.YtohffiehmmcgbaaGreatDoor
