/-
  The law's small and of; the document's table of kinds; Client and Foot (package cmd).
-/
import Derived.Test.YtohffiehmmcgbaaGreatDoorXKRight
import Derived.Test.YtohffiehmmcgbaaGreatDoorXKRefA
import Derived.Test.YtohffiehmmcgbaaGreatDoorXKRefB
import Derived.Test.YtohffiehmmcgbaaGreatDoorXKRefC
import Derived.Test.YtohffiehmmcgbaaGreatDoorXD
import Derived.Test.YtohffiehmmcgbaaGreatDoorXC
import Derived.Deep.Cut
import Derived.Test.YtohffiehmmcgbaaGreatDoorXA
import Derived.Test.YtohffiehmmcgbaaGreatDoorXE
namespace Go.Proofs.YtohffiehmmcgbaaGreatDoor
open Go.ChangeShapes Go.WideShapes Go.ChangeAt Go.RowKit Go.Lib
set_option maxHeartbeats 400000 in
theorem sclone_any (s : ByteArray) (w : World) (hs : s.size ≤ 281474976710656) : Calls Tryz.prog 132 #[.string s] w (Asks (.string s) w) := by
  go_enter Tryz.func132, Tryz.ntmps132
  go_wp2_with fail
  refine (Tryz.stringslite_Clone s _ hs).mono ?_
  rintro e w1 ⟨rfl, hb⟩
  have HB := hid hb
  clear hb
  go_wp2
  go_ret
  exact ⟨rfl, HB.out⟩
end Go.Proofs.YtohffiehmmcgbaaGreatDoor
namespace Go.Proofs.YtohffiehmmcgbaaGreatDoor
open Go.ChangeShapes Go.WideShapes Go.ChangeAt Go.RowKit Go.Lib
set_option linter.unusedSimpArgs false
set_option linter.unusedVariables false
set_option maxRecDepth 100000 in
set_option maxHeartbeats 1000000 in
theorem ref_off (k u : Int) (f : ByteArray) (q : Int) (s : ByteArray) (m n t : Int) (w : World) (hk : k < 0 ∨ 8 < k) :
    Calls Tryz.prog 57 #[val ⟨k, u, f, q, s, m, n, t⟩] w fun e w' => e = .returned (.bool (docK ⟨k, u, f, q, s, m, n, t⟩)) ∧ Below w.heap.size w w' := by
  have HE : Hid (docK ⟨k, u, f, q, s, m, n, t⟩ = false) := hid (by
    have h : isK k = false := by unfold isK; exact decide_eq_false (by omega)
    simp [docK, h])
  rcases Decidable.em (k < 0) with h | h
  · go_enter Tryz.func57, Tryz.ntmps57
    go_wp2
    go_ret
    exact ⟨ret_bool HE.out.symm, (Below.refl _ _).alloc (Nat.le_refl _) _⟩
  · have h8 : 8 < k := by omega
    go_enter Tryz.func57, Tryz.ntmps57
    go_wp2
    go_ret
    exact ⟨ret_bool HE.out.symm, (Below.refl _ _).alloc (Nat.le_refl _) _⟩
theorem refright7 (c : K) (w : World) (ho : okK c) (hf : c.foot.size ≤ 900) (hp : c.path.size ≤ 900) :
    Calls Tryz.prog 57 #[val c] w fun e w' => e = .returned (.bool (rightK c)) ∧ Below w.heap.size w w' := by
  rw [← doc_right c ho]
  obtain ⟨_, ⟨o1, _⟩, ⟨o2, _⟩, _⟩ := ho
  obtain ⟨k, u, f, q, s, m, n, t⟩ := c
  simp only at o1 o2 hf hp
  have : k < 0 ∨ 8 < k ∨ k = 0 ∨ k = 1 ∨ k = 2 ∨ k = 3 ∨ k = 4 ∨ k = 5 ∨ k = 6 ∨ k = 7 ∨ k = 8 := by omega
  rcases this with h | h | rfl | rfl | rfl | rfl | rfl | rfl | rfl | rfl | rfl
  · exact ref_off k u f q s m n t w (.inl h)
  · exact ref_off k u f q s m n t w (.inr h)
  · exact ref_0 u f q s m n t w hf hp o1 o2
  · exact ref_1 u f q s m n t w hf hp o1 o2
  · exact ref_2 u f q s m n t w hf hp o1 o2
  · exact ref_3 u f q s m n t w hf hp o1 o2
  · exact ref_4 u f q s m n t w hf hp o1 o2
  · exact ref_5 u f q s m n t w hf hp o1 o2
  · exact ref_6 u f q s m n t w hf hp o1 o2
  · exact ref_7 u f q s m n t w hf hp o1 o2
  · exact ref_8 u f q s m n t w hf hp o1 o2
end Go.Proofs.YtohffiehmmcgbaaGreatDoor
namespace Go.Proofs.YtohffiehmmcgbaaGreatDoor
open Go.ChangeShapes Go.WideShapes Go.ChangeAt Go.RowKit
end Go.Proofs.YtohffiehmmcgbaaGreatDoor
namespace Go.Proofs.YtohffiehmmcgbaaGreatDoor
open Go.ChangeShapes Go.WideShapes Go.ChangeAt Go.RowKit
end Go.Proofs.YtohffiehmmcgbaaGreatDoor
namespace Go.Proofs.YtohffiehmmcgbaaGreatDoor
open Go.ChangeShapes Go.WideShapes Go.ChangeAt Go.RowKit
set_option linter.unusedVariables false
end Go.Proofs.YtohffiehmmcgbaaGreatDoor
namespace Go.Proofs.YtohffiehmmcgbaaGreatDoor
open Go.ChangeShapes Go.WideShapes Go.ChangeAt Go.RowKit
set_option linter.unusedVariables false
set_option linter.unusedSimpArgs false
abbrev rd3 (A : Option Addr) (n c : Nat) (p e : Int) : Array Value := #[.slice A n c, .int .i64 p, .int .i64 e]
end Go.Proofs.YtohffiehmmcgbaaGreatDoor
namespace Go.Proofs.YtohffiehmmcgbaaGreatDoor
open Go.ChangeShapes Go.WideShapes Go.ChangeAt Go.RowKit Go.Lib
set_option linter.unusedVariables false
set_option linter.unusedSimpArgs false
abbrev rdZ : Array Value := #[.slice none 0 0, .int .i64 0, .int .i64 0]
def RA (w0 w : World) (k m : Nat) (T : TypeId) (zs cs : Array Value) (A : Option Addr) (n c p : Nat) (e : Int) : Prop :=
  Blk w k 42 (rd3 A n c (p : Int) e) ∧ Blk w (k + 1) 42 rdZ ∧ Blk w (k + 1 + 1) T zs ∧ Blk w m T cs ∧ Below k w0 w ∧ k + 1 + 1 < m
section
variable {w0 w w' : World} {k m : Nat} {T : TypeId} {zs cs : Array Value} {A : Option Addr} {n c p : Nat} {e : Int}
theorem RA.r1 (h : RA w0 w k m T zs cs A n c p e) : Blk w (k + 1) 42 rdZ := h.2.1
theorem RA.r2 (h : RA w0 w k m T zs cs A n c p e) : Blk w (k + 1 + 1) T zs := h.2.2.1
theorem RA.obj (h : RA w0 w k m T zs cs A n c p e) : Blk w m T cs := h.2.2.2.1
theorem RA.bel (h : RA w0 w k m T zs cs A n c p e) : Below k w0 w := h.2.2.2.2.1
theorem RA.on (h : RA w0 w k m T zs cs A n c p e) (hb : Below w.heap.size w w') : RA w0 w' k m T zs cs A n c p e :=
  ⟨h.1.below hb h.1.lt, h.r1.below hb h.r1.lt, h.r2.below hb h.r2.lt, h.obj.below hb h.obj.lt, below_pay h.bel (by have := h.1.lt; omega) hb, h.2.2.2.2.2⟩
theorem RA.drew (h : RA w0 w k m T zs cs A n c p e) : RA w0 w.drew k m T zs cs A n c p e :=
  ⟨h.1.drew, h.r1.drew, h.r2.drew, h.obj.drew, below_drew h.bel, h.2.2.2.2.2⟩
theorem RA.alloc (h : RA w0 w k m T zs cs A n c p e) (o : Obj) : RA w0 (w.alloc o) k m T zs cs A n c p e := h.on ((Below.refl _ _).alloc (Nat.le_refl _) o)
theorem RA.set_ (h : RA w0 w k m T zs cs A n c p e) (i : Nat) (u : Value) {ds : Array Value} (hd : cs.setIfInBounds i u = ds) : RA w0 (w.setCell ⟨m, i, none⟩ u) k m T zs ds A n c p e := by
  obtain ⟨h1, h2, h3, h4, h5, h6⟩ := h
  exact ⟨h1.far (by show k ≠ m; omega) _, h2.far (by show k + 1 ≠ m; omega) _, h3.far (by show k + 1 + 1 ≠ m; omega) _, hd ▸ h4.set_ i u, h5.setCell (by show k ≤ m; omega) _, h6⟩
theorem RA.far (h : RA w0 w k m T zs cs A n c p e) {x : Nat} (hx : k + 1 + 1 < x) (hm : m ≠ x) (i : Nat) (u : Value) : RA w0 (w.setCell ⟨x, i, none⟩ u) k m T zs cs A n c p e := by
  obtain ⟨h1, h2, h3, h4, h5, h6⟩ := h
  exact ⟨h1.far (by show k ≠ x; omega) _, h2.far (by show k + 1 ≠ x; omega) _, h3.far (by show k + 1 + 1 ≠ x; omega) _, h4.far hm _, h5.setCell (by show k ≤ x; omega) _, h6⟩
end
end Go.Proofs.YtohffiehmmcgbaaGreatDoor
namespace Go.Proofs.YtohffiehmmcgbaaGreatDoor
open Go.ChangeShapes Go.WideShapes Go.ChangeAt Go.RowKit
set_option linter.unusedVariables false
set_option linter.unusedSimpArgs false
set_option maxRecDepth 100000 in
theorem eq_rparts0 (k u : Int) (f : ByteArray) (q : Int) (s : ByteArray) (m n t k' u' : Int) (f' : ByteArray) (q' : Int) (s' : ByteArray) (m' n' t' : Int) (w : World) :
    (Op.equalIn 10000 45 (val ⟨k, u, f, q, s, m, n, t⟩) (val ⟨k', u', f', q', s', m', n', t'⟩)).run Tryz.prog w = .ok ((k == k') && ((u == u') && (decide (f = f') && ((q == q') && (decide (s = s') && ((m == m') && ((n == n') && ((t == t') && true)))))))) w := by
  have ht : Tryz.prog.underlying 45 = some (.struct (Tryz.prog.fieldsOf 45)) := by kernel_rfl
  have hp : Tryz.prog.stoodInHeld 45 = false := by kernel_rfl
  rw [run_equalIn_struct w 9999 _ _ _ ht hp]
  have a0 := run_part_plain (P := Tryz.prog) (w := w) (e := 3) (by kernel_rfl) (xs := #[.int .i64 k, .int .u64 u, .string f, .int .u64 q, .string s, .int .i64 m, .int .u64 n, .int .i64 t]) (off := 0) rfl
  have b0 := run_part_plain (P := Tryz.prog) (w := w) (e := 3) (by kernel_rfl) (xs := #[.int .i64 k', .int .u64 u', .string f', .int .u64 q', .string s', .int .i64 m', .int .u64 n', .int .i64 t']) (off := 0) rfl
  have e0 := run_equalIn_int (P := Tryz.prog) w 9998 3 .i64 .i64 k k' Tryz.underlying3
  have a1 := run_part_plain (P := Tryz.prog) (w := w) (e := 28) (by kernel_rfl) (xs := #[.int .i64 k, .int .u64 u, .string f, .int .u64 q, .string s, .int .i64 m, .int .u64 n, .int .i64 t]) (off := 1) rfl
  have b1 := run_part_plain (P := Tryz.prog) (w := w) (e := 28) (by kernel_rfl) (xs := #[.int .i64 k', .int .u64 u', .string f', .int .u64 q', .string s', .int .i64 m', .int .u64 n', .int .i64 t']) (off := 1) rfl
  have e1 := run_equalIn_int (P := Tryz.prog) w 9998 28 .u64 .u64 u u' Tryz.underlying28
  have a2 := run_part_plain (P := Tryz.prog) (w := w) (e := 9) (by kernel_rfl) (xs := #[.int .i64 k, .int .u64 u, .string f, .int .u64 q, .string s, .int .i64 m, .int .u64 n, .int .i64 t]) (off := 2) rfl
  have b2 := run_part_plain (P := Tryz.prog) (w := w) (e := 9) (by kernel_rfl) (xs := #[.int .i64 k', .int .u64 u', .string f', .int .u64 q', .string s', .int .i64 m', .int .u64 n', .int .i64 t']) (off := 2) rfl
  have e2 := run_equalIn_string (P := Tryz.prog) w 9998 9 f f' Tryz.underlying9
  rw [bytes_eq] at e2
  have a3 := run_part_plain (P := Tryz.prog) (w := w) (e := 28) (by kernel_rfl) (xs := #[.int .i64 k, .int .u64 u, .string f, .int .u64 q, .string s, .int .i64 m, .int .u64 n, .int .i64 t]) (off := 3) rfl
  have b3 := run_part_plain (P := Tryz.prog) (w := w) (e := 28) (by kernel_rfl) (xs := #[.int .i64 k', .int .u64 u', .string f', .int .u64 q', .string s', .int .i64 m', .int .u64 n', .int .i64 t']) (off := 3) rfl
  have e3 := run_equalIn_int (P := Tryz.prog) w 9998 28 .u64 .u64 q q' Tryz.underlying28
  have a4 := run_part_plain (P := Tryz.prog) (w := w) (e := 9) (by kernel_rfl) (xs := #[.int .i64 k, .int .u64 u, .string f, .int .u64 q, .string s, .int .i64 m, .int .u64 n, .int .i64 t]) (off := 4) rfl
  have b4 := run_part_plain (P := Tryz.prog) (w := w) (e := 9) (by kernel_rfl) (xs := #[.int .i64 k', .int .u64 u', .string f', .int .u64 q', .string s', .int .i64 m', .int .u64 n', .int .i64 t']) (off := 4) rfl
  have e4 := run_equalIn_string (P := Tryz.prog) w 9998 9 s s' Tryz.underlying9
  rw [bytes_eq] at e4
  have a5 := run_part_plain (P := Tryz.prog) (w := w) (e := 3) (by kernel_rfl) (xs := #[.int .i64 k, .int .u64 u, .string f, .int .u64 q, .string s, .int .i64 m, .int .u64 n, .int .i64 t]) (off := 5) rfl
  have b5 := run_part_plain (P := Tryz.prog) (w := w) (e := 3) (by kernel_rfl) (xs := #[.int .i64 k', .int .u64 u', .string f', .int .u64 q', .string s', .int .i64 m', .int .u64 n', .int .i64 t']) (off := 5) rfl
  have e5 := run_equalIn_int (P := Tryz.prog) w 9998 3 .i64 .i64 m m' Tryz.underlying3
  have a6 := run_part_plain (P := Tryz.prog) (w := w) (e := 28) (by kernel_rfl) (xs := #[.int .i64 k, .int .u64 u, .string f, .int .u64 q, .string s, .int .i64 m, .int .u64 n, .int .i64 t]) (off := 6) rfl
  have b6 := run_part_plain (P := Tryz.prog) (w := w) (e := 28) (by kernel_rfl) (xs := #[.int .i64 k', .int .u64 u', .string f', .int .u64 q', .string s', .int .i64 m', .int .u64 n', .int .i64 t']) (off := 6) rfl
  have e6 := run_equalIn_int (P := Tryz.prog) w 9998 28 .u64 .u64 n n' Tryz.underlying28
  have a7 := run_part_plain (P := Tryz.prog) (w := w) (e := 3) (by kernel_rfl) (xs := #[.int .i64 k, .int .u64 u, .string f, .int .u64 q, .string s, .int .i64 m, .int .u64 n, .int .i64 t]) (off := 7) rfl
  have b7 := run_part_plain (P := Tryz.prog) (w := w) (e := 3) (by kernel_rfl) (xs := #[.int .i64 k', .int .u64 u', .string f', .int .u64 q', .string s', .int .i64 m', .int .u64 n', .int .i64 t']) (off := 7) rfl
  have e7 := run_equalIn_int (P := Tryz.prog) w 9998 3 .i64 .i64 t t' Tryz.underlying3
  simp only [Program.fieldsOf, Tryz.underlying45]
  exact eqf_cons (by decide) a0 b0 e0 (eqf_cons (by decide) a1 b1 e1 (eqf_cons (by decide) a2 b2 e2 (eqf_cons (by decide) a3 b3 e3 (eqf_cons (by decide) a4 b4 e4 (eqf_cons (by decide) a5 b5 e5 (eqf_cons (by decide) a6 b6 e6 (eqf_cons (by decide) a7 b7 e7 eqf_nil)))))))
theorem eq_refc (c d : K) (b : Bool) (hb : decide (c = d) = b) (w : World) : (Op.equalIn 10000 45 (val c) (val d)).run Tryz.prog w = .ok b w := by
  subst hb
  obtain ⟨k, u, f, q, s, m, n, t⟩ := c
  obtain ⟨k', u', f', q', s', m', n', t'⟩ := d
  rw [dec_val2]
  exact eq_rparts0 k u f q s m n t k' u' f' q' s' m' n' t' w
theorem refc_guard : Tryz.prog.eqGuardType Tryz.prog.depth 45 = false := by kernel_rfl
end Go.Proofs.YtohffiehmmcgbaaGreatDoor
