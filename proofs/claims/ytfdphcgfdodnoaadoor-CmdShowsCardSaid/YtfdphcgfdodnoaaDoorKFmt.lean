/-
  Contracts of strconv.FormatUint at base 10, show (package cmd), and the law's digits; what the library's variables and the two tables hold.
-/
import Derived.Test.YtfdphcgfdodnoaaDoorKText
import Derived.Test.YtfdphcgfdodnoaaDoorKBase
import Derived.Test.YtfdphcgfdodnoaaDoorPRefJ
import Derived.Test.YtfdphcgfdodnoaaDoorShelf
import Derived.Lib.ItoaMem
import Derived.Lib.AppendIntMem
import Derived.Lib.ItoaWalk
import Derived.BigCall
import Derived.BigGuard
namespace Go.Proofs.YtfdphcgfdodnoaaDoor
open Go.ChangeShapes Go.WideShapes Go.ChangeAt Go.RowKit Go.Lib
set_option linter.unusedVariables false
set_option linter.unusedSimpArgs false

def namesV : Array Value := #[.string (mk (nameL 0)), .string (mk (nameL 1)), .string (mk (nameL 2)), .string (mk (nameL 3)), .string (mk (nameL 4)), .string (mk (nameL 5)), .string (mk (nameL 6)), .string (mk (nameL 7)), .string (mk (nameL 8))]
def NamesIs (w : World) : Prop := w.var? Tryd.prog "moothill/cmd.names" = some namesV
def PowIs (w : World) : Prop := TabIs Tryd.prog w "internal/strconv.uint64pow10" .u64 pow10Tab
/-- What the listed variables hold. -/
def Laid7 (w : World) : Prop :=
  PartsIs w ∧ NamesIs w ∧ PowIs w ∧ (∃ t p, w.var? Tryd.prog "strconv.ErrSyntax" = some #[.iface t p]) ∧ (∃ t p, w.var? Tryd.prog "strconv.ErrRange" = some #[.iface t p])
theorem Laid7.below {w w' : World} (h : Laid7 w) (hb : Below w.heap.size w w') : Laid7 w' := by
  obtain ⟨h0, h1, h2, ⟨t, p, h3⟩, t', p', h4⟩ := h
  exact ⟨h0.below hb, var_below h1 hb, var_below h2 hb, ⟨t, p, var_below h3 hb⟩, t', p', var_below h4 hb⟩
theorem Laid7.pow {w : World} (h : Laid7 w) : PowIs w := h.2.2.1
theorem Laid7.drew {w : World} (h : Laid7 w) : Laid7 w.drew := h

theorem below_grown_dN (w : World) (k : Nat) (os : Array Obj) : Below w.heap.size w (Go.Sort.grow (w.drewN k) os) := by
  refine ⟨rfl, rfl, rfl, ?_, ?_⟩
  · simp [Go.Sort.grow, World.drewN]
  · intro j hj
    simp only [Go.Sort.grow, World.drewN]
    rw [Array.getElem?_append_left hj]

set_option maxRecDepth 100000 in
set_option maxHeartbeats 4000000 in
theorem fmtin_any (u : Nat) (w : World) (hu64 : u < 18446744073709551616) (htab : PowIs w) :
    Calls Tryd.prog 69 #[.int .u64 (u : Int), .int .i64 10] w (TellsL (decDigits u) w) := by
  by_cases hs : u < 100
  · have hw : IntKind.i64.wrap (u : Int) = u := by rw [IntKind.wrap_i64]; omega
    go_enter Tryd.func69, Tryd.ntmps69
    go_wp2_with fail
    refine (Tryd.internal_strconv_small u hs _).mono ?_
    rintro e w' ⟨rfl, rfl⟩
    go_wp2
    go_ret
    exact ⟨_, rfl, L_mk7 _, Below.refl _ _⟩
  · have hu1 : 1 ≤ u := by omega
    have hnd20 : nDigits u ≤ 20 := nDigits_le20 u hu64
    have hal : Tryd.prog.arrayLen 118 = 24 := by kernel_rfl
    have hsl : ∀ W, (Instr.sliceAt 118 (.pointer (some ⟨w.heap.size, 0, none⟩)) none (some (.int .i64 (nDigits u : Int))) none).run Tryd.prog W = .ok (.slice (some ⟨w.heap.size, 0, none⟩) (nDigits u) 24) W := fun W => by
      rw [run_sliceAt_array_h W 118 ⟨w.heap.size, 0, none⟩ (by kernel_rfl) .i64 (nDigits u : Int) (by omega) (by rw [hal]; omega)]
      go_simp
    have hH0 := holds_zero0 w 118 (nDigits u) (by omega)
    have hfmt := Tryd.internal_strconv_formatBase10 w.heap.size 0 24 u (Array.replicate (nDigits u) 0) (w.alloc (.cells zeros24 118)) hH0 (by rw [Array.size_replicate]; exact lt_pow_nDigits u) hu64 (by rw [Array.size_replicate]; omega)
    rw [Array.size_replicate] at hfmt
    have HH0 := Lib.hid hH0
    have HT := hid (tabIs_alloc htab (.cells zeros24 118))
    have hd : decide ((u : Int) < 100) = false := decide_eq_false (by omega)
    clear hH0 hal htab
    go_enter Tryd.func69, Tryd.ntmps69
    go_wp2_with fail
    refine (Tryd.internal_strconv_numDigits u hu1 hu64 _ HT.out).mono ?_
    rintro e w' ⟨rfl, rfl⟩
    go_wp2_with fail
    refine hfmt.mono ?_
    rintro e w' ⟨rfl, k, v', dk, rfl, hF⟩
    have hcv : (convert 56 9 (.slice (some ⟨w.heap.size, 0, none⟩) (nDigits u) 24)).run Tryd.prog ((Go.Sort.putRow (fun (b : UInt8) => Value.int .u8 (b.toNat : Int)) (w.alloc (.cells zeros24 118)) w.heap.size 0 dk).drewN k) = .ok (.string ⟨(decDigits u).toArray⟩) ((Go.Sort.putRow (fun (b : UInt8) => Value.int .u8 (b.toNat : Int)) (w.alloc (.cells zeros24 118)) w.heap.size 0 dk).drewN k) := by
      have h := run_convert_bytes_back (P := Tryd.prog) ((Go.Sort.putRow (fun (b : UInt8) => Value.int .u8 (b.toNat : Int)) (w.alloc (.cells zeros24 118)) w.heap.size 0 dk).drewN k) 56 9 5 ⟨w.heap.size, 0, none⟩ 24 (decDigits u) Tryd.underlying56 Tryd.underlying5 Tryd.underlying9 (fun j hj => by
        rw [row_is_numeral hF j hj, Lib.add_plain, World.cell?_drewN]
        exact Go.Sort.cell?_putRow (fun (b : UInt8) => Value.int .u8 (b.toNat : Int)) _ w.heap.size 0 _ dk HH0.out (by rw [hF.size, Array.size_replicate]) j (by rw [hF.size]; rw [decDigits_length] at hj; exact hj))
      rw [decDigits_length] at h
      exact h
    go_wp2
    go_ret
    obtain ⟨os, eo⟩ := fin_at w (.cells zeros24 118) dk k 0
    exact ⟨_, rfl, L_mk7 _, by rw [eo]; exact below_grown_dN w k os⟩

set_option maxRecDepth 100000 in
set_option maxHeartbeats 400000 in
theorem fmt_any (u : Nat) (w : World) (hu64 : u < 18446744073709551616) (htab : PowIs w) :
    Calls Tryd.prog 51 #[.int .u64 (u : Int), .int .i64 10] w (TellsL (decDigits u) w) := by
  go_enter Tryd.func51, Tryd.ntmps51
  go_wp2_with fail
  with_reducible refine (fmtin_any u _ hu64 htab).mono ?_
  rintro e w1 ⟨r, rfl, hr, hb⟩
  have HR := hid hr
  have HB := hid hb
  clear hr hb
  go_wp2
  go_ret
  exact ⟨r, rfl, HR.out, HB.out⟩

set_option maxRecDepth 100000 in
set_option maxHeartbeats 400000 in
theorem show_any7 (u : Nat) (a : Int) (w : World) (ha : a = (u : Int)) (hu64 : u < 18446744073709551616) (htab : PowIs w) :
    Calls Tryd.prog 33 #[.int .u64 a] w (TellsL (decDigits u) w) := by
  subst ha
  go_enter Tryd.func33, Tryd.ntmps33
  go_wp2_with fail
  with_reducible refine (fmt_any u _ hu64 htab).mono ?_
  rintro e w1 ⟨r, rfl, hr, hb⟩
  have HR := hid hr
  have HB := hid hb
  clear hr hb
  go_wp2
  go_ret
  exact ⟨r, rfl, HR.out, HB.out⟩

end Go.Proofs.YtfdphcgfdodnoaaDoor
