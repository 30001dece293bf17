/-
  Contracts of a name's and a ballot's text (package mark): Show, ReadID, ReadBallot.
-/
import Derived.Test.YtmihfalekbgdhaaDoorMShow
namespace Go.Proofs.YtmihfalekbgdhaaDoor
open Go.ChangeShapes Go.WideShapes Go.ChangeAt Go.RowKit Go.Lib

theorem name_bounds {r s : Int} (h : nameB r s = true) : (0 ≤ r ∧ r ≤ 6) ∧ 0 ≤ s ∧ s ≤ 1023 := by
  unfold nameB at h
  rw [decide_eq_true_eq] at h
  omega

set_option maxRecDepth 100000 in
set_option maxHeartbeats 400000 in
theorem idshow_yes (r s : Int) (w : World) (hL : Laid w) (h : nameB r s = true) :
    Calls Tryd.prog 6 #[nm r s] w fun e w' => (∃ t : ByteArray, e = .returned (.tuple #[.string t, .int .i64 0]) ∧ Sb t = textOf r s) ∧ Below w.heap.size w w' := by
  have HX := hid h
  obtain ⟨⟨hr0, hr1⟩, hs0, hs1⟩ := name_bounds h
  have HL := hid hL
  clear h hL
  go_enter Tryd.func6, Tryd.ntmps6
  go_wp2_with fail
  with_reducible refine (right_any r s _).mono ?_
  rintro e w1 ⟨rfl, hb1⟩
  rw [HX.out]
  have hb0 : Below w.heap.size w w1 := ((Below.refl _ _).alloc (Nat.le_refl _) _).trans (hb1.mono (by simp))
  have HB1 := hid hb0
  have HL1 := hid (HL.out.below hb0)
  obtain ⟨⟨c0, c1⟩, _⟩ := blkn ((Blk.new w 23 #[.int .i64 r, .int .i64 s]).below hb1 (by simp))
  clear hb1 hb0
  go_wp2_with fail
  with_reducible refine (show_any r s _ (by omega) (by omega) (by omega) (by omega) HL1.out).mono ?_
  rintro e w2 ⟨t, rfl, ht, hb2⟩
  have HB2 := hid (below_on HB1.out hb2)
  have HT := hid ht
  clear hb2 ht
  go_wp2
  exact bodyPost_ret (v := .tuple #[.string t, .int .i64 0]) (by simp [results, Tryd.results6, go_sem]) rfl ⟨⟨t, rfl, HT.out⟩, HB2.out⟩

set_option maxRecDepth 100000 in
set_option maxHeartbeats 400000 in
theorem idshow_no (r s : Int) (w : World) (h : nameB r s = false) :
    Calls Tryd.prog 6 #[nm r s] w fun e w' => e = .returned (.tuple #[.string ⟨#[]⟩, .int .i64 12]) ∧ Below w.heap.size w w' := by
  have HX := hid h
  clear h
  go_enter Tryd.func6, Tryd.ntmps6
  go_wp2_with fail
  with_reducible refine (right_any r s _).mono ?_
  rintro e w1 ⟨rfl, hb1⟩
  rw [HX.out]
  have HB1 := hid (((Below.refl w.heap.size w).alloc (Nat.le_refl _) _).trans (hb1.mono (by simp)))
  clear hb1
  go_wp2
  exact bodyPost_ret (v := .tuple #[.string ⟨#[]⟩, .int .i64 12]) (by simp [results, Tryd.results6, go_sem]) rfl ⟨rfl, HB1.out⟩

set_option maxRecDepth 100000 in
set_option maxHeartbeats 400000 in
theorem ballotshow_yes (b : Nat) (w : World) (hb : b < 4294967296) (hL : Laid w) (h : ballotB b = true) :
    Calls Tryd.prog 10 #[.int .u32 (b : Int)] w fun e w' => (∃ t : ByteArray, e = .returned (.tuple #[.string t, .int .i64 0]) ∧ Sb t = textOf ((b / 8 : Nat) : Int) ((b % 8 : Nat) : Int)) ∧ Below w.heap.size w w' := by
  have HX := hid h
  have HL := hid hL
  obtain ⟨x, hx⟩ : ∃ x : Int, ((b / 8 : Nat) : Int) = x := ⟨_, rfl⟩
  obtain ⟨y, hy⟩ : ∃ y : Int, ((b % 8 : Nat) : Int) = y := ⟨_, rfl⟩
  have hx0 : 0 ≤ x := by omega
  have hx1 : x < 4294967296 := by omega
  have hy0 : 0 ≤ y := by omega
  have hy1 : y < 8 := by omega
  rw [hx, hy]
  have HXX := hid hx
  have HYY := hid hy
  clear h hL hx hy
  go_enter Tryd.func10, Tryd.ntmps10
  go_wp2_with (first
    | (go_at_call 19; refine (ballotright_any _ _ hb).mono ?_; rintro e w' ⟨rfl, rfl⟩; rw [HX.out])
    | (go_at_call 20; refine (round_any _ _ hb).mono ?_; rintro e w' ⟨rfl, rfl⟩; rw [HXX.out])
    | (go_at_call 21; refine (replica_any _ _ hb).mono ?_; rintro e w' ⟨rfl, rfl⟩; rw [HYY.out]))
  with_reducible refine (show_any x y _ (by omega) (by omega) (by omega) (by omega) HL.out).mono ?_
  rintro e w2 ⟨t, rfl, ht, hb2⟩
  have HB2 := hid hb2
  have HT := hid ht
  clear hb2 ht
  go_wp2
  exact bodyPost_ret (v := .tuple #[.string t, .int .i64 0]) (by simp [results, Tryd.results10, go_sem]) rfl ⟨⟨t, rfl, HT.out⟩, HB2.out⟩

set_option maxRecDepth 100000 in
set_option maxHeartbeats 400000 in
theorem ballotshow_no (b : Nat) (w : World) (hb : b < 4294967296) (h : ballotB b = false) :
    Calls Tryd.prog 10 #[.int .u32 (b : Int)] w fun e w' => e = .returned (.tuple #[.string ⟨#[]⟩, .int .i64 60]) ∧ w = w' := by
  have HX := hid h
  clear h
  go_enter Tryd.func10, Tryd.ntmps10
  go_wp2_with (go_at_call 19; refine (ballotright_any _ _ hb).mono ?_; rintro e w' ⟨rfl, rfl⟩; rw [HX.out])
  exact bodyPost_ret (v := .tuple #[.string ⟨#[]⟩, .int .i64 60]) (by simp [results, Tryd.results10, go_sem]) rfl ⟨rfl, rfl⟩

/-- A text's name, and the error. -/
def nameOf (l : List UInt8) : (Int × Int) × Nat := match readOf l with
  | some (a, b) => ofN a b
  | none => ((0, 0), 10)
/-- A text's ballot, and the error. -/
def ballotOf (l : List UInt8) : Nat × Nat := match readOf l with
  | some (a, b) => if partsB a b then (a.toNat * 8 + b.toNat, 0) else (0, 60)
  | none => (0, 10)

set_option maxRecDepth 100000 in
set_option maxHeartbeats 400000 in
theorem readid_any (t : ByteArray) (r s : Int) (e : Nat) (w : World) (hs : t.size ≤ 281474976710656) (hL : Laid w) (h : nameOf (Sb t) = ((r, s), e)) :
    Calls Tryd.prog 8 #[.string t] w fun en w' => en = .returned (.tuple #[nm r s, .int .i64 (e : Int)]) ∧ Below w.heap.size w w' := by
  have hal : Below w.heap.size w (w.alloc (.cells #[.int .i64 0, .int .i64 0] 23)) := (Below.refl _ _).alloc (Nat.le_refl _) _
  have HL := hid (hL.below hal)
  have H := hid h
  clear h hL
  cases hr : readOf (Sb t) with
  | none =>
    have HR := hid hr
    have h2 : r = 0 ∧ s = 0 ∧ e = 10 := by have := H.out; unfold nameOf at this; rw [hr] at this; simp only [Prod.mk.injEq] at this; exact ⟨this.1.1.symm, this.1.2.symm, this.2.symm⟩
    obtain ⟨rfl, rfl, rfl⟩ := h2
    clear hr H
    go_enter Tryd.func8, Tryd.ntmps8
    go_wp2_with fail
    with_reducible refine (read_no t _ hs HL.out HR.out).mono ?_
    rintro en w1 ⟨rfl, hb1⟩
    have HB1 := hid (hal.trans (hb1.mono (by simp)))
    obtain ⟨⟨c0, c1⟩, k0, k1⟩ := blkn ((Blk.new w 23 #[.int .i64 0, .int .i64 0]).below hb1 (by simp))
    clear hb1 hal
    go_wp2
    refine bodyPost_ret (v := .tuple #[nm 0 0, .int .i64 10]) (by simp [results, Tryd.results8, go_sem, c0, c1]) rfl ⟨rfl, ?_⟩
    exact Below.setCell (p := ⟨w.heap.size, 1, none⟩) (Below.setCell (p := ⟨w.heap.size, 0, none⟩) HB1.out (Nat.le_refl _) _) (Nat.le_refl _) _
  | some ab =>
    obtain ⟨a, b⟩ := ab
    have HR := hid hr
    have h2 : ofN a b = ((r, s), e) := by have := H.out; unfold nameOf at this; rw [hr] at this; exact this
    have HO1 : Hid ((ofN a b).1.1 = r) := hid (by rw [h2])
    have HO2 : Hid ((ofN a b).1.2 = s) := hid (by rw [h2])
    have HO3 : Hid ((ofN a b).2 = e) := hid (by rw [h2])
    clear hr H h2
    go_enter Tryd.func8, Tryd.ntmps8
    go_wp2_with fail
    with_reducible refine (read_yes t a b _ hs HL.out HR.out).mono ?_
    rintro en w1 ⟨rfl, hb1⟩
    have HB1 := hid (hal.trans (hb1.mono (by simp)))
    have K1 := hid ((Blk.new w 23 #[.int .i64 0, .int .i64 0]).below hb1 (by simp))
    clear hb1 hal
    go_wp2_with fail
    with_reducible refine (rightid_any a b _).mono ?_
    rintro en w2 ⟨rfl, hb2⟩
    rw [HO1.out, HO2.out, HO3.out]
    have HB2 := hid (below_on HB1.out hb2)
    obtain ⟨⟨c0, c1⟩, k0, k1⟩ := blkn (K1.out.below hb2 K1.out.lt)
    clear hb2
    go_wp2
    refine bodyPost_ret (v := .tuple #[nm r s, .int .i64 (e : Int)]) (by simp [results, Tryd.results8, go_sem, c0, c1]) rfl ⟨rfl, ?_⟩
    exact Below.setCell (p := ⟨w.heap.size, 1, none⟩) (Below.setCell (p := ⟨w.heap.size, 0, none⟩) HB2.out (Nat.le_refl _) _) (Nat.le_refl _) _

theorem parts_nat {a b : Int} (h : partsB a b = true) : ∃ n k : Nat, a = n ∧ b = k ∧ n ≤ 16777215 ∧ k < 8 := by
  unfold partsB at h
  rw [decide_eq_true_eq] at h
  exact ⟨a.toNat, b.toNat, by omega, by omega, by omega, by omega⟩

set_option maxRecDepth 100000 in
set_option maxHeartbeats 400000 in
theorem readballot_any (t : ByteArray) (v e : Nat) (w : World) (hs : t.size ≤ 281474976710656) (hL : Laid w) (h : ballotOf (Sb t) = (v, e)) :
    Calls Tryd.prog 12 #[.string t] w fun en w' => en = .returned (.tuple #[.int .u32 (v : Int), .int .i64 (e : Int)]) ∧ Below w.heap.size w w' := by
  have HL := hid hL
  have H := hid h
  clear h hL
  cases hr : readOf (Sb t) with
  | none =>
    have HR := hid hr
    have h2 : v = 0 ∧ e = 10 := by have := H.out; unfold ballotOf at this; rw [hr] at this; simp only [Prod.mk.injEq] at this; exact ⟨this.1.symm, this.2.symm⟩
    obtain ⟨rfl, rfl⟩ := h2
    clear hr H
    go_enter Tryd.func12, Tryd.ntmps12
    go_wp2_with fail
    with_reducible refine (read_no t _ hs HL.out HR.out).mono ?_
    rintro en w1 ⟨rfl, hb1⟩
    have HB1 := hid hb1
    clear hb1
    go_wp2
    exact bodyPost_ret (v := .tuple #[.int .u32 0, .int .i64 10]) (by simp [results, Tryd.results12, go_sem]) rfl ⟨rfl, HB1.out⟩
  | some ab =>
    obtain ⟨a, b⟩ := ab
    have HR := hid hr
    cases hp : partsB a b
    · have h2 : v = 0 ∧ e = 60 := by have := H.out; unfold ballotOf at this; rw [hr] at this; simp only [hp, Bool.false_eq_true, if_false, Prod.mk.injEq] at this; exact ⟨this.1.symm, this.2.symm⟩
      obtain ⟨rfl, rfl⟩ := h2
      have HP := hid hp
      clear hr H hp
      go_enter Tryd.func12, Tryd.ntmps12
      go_wp2_with fail
      with_reducible refine (read_yes t a b _ hs HL.out HR.out).mono ?_
      rintro en w1 ⟨rfl, hb1⟩
      have HB1 := hid hb1
      clear hb1
      go_wp2_with (go_at_call 22; refine (areparts_any _ _ _).mono ?_; rintro e w' ⟨rfl, rfl⟩; rw [HP.out])
      exact bodyPost_ret (v := .tuple #[.int .u32 0, .int .i64 60]) (by simp [results, Tryd.results12, go_sem]) rfl ⟨rfl, HB1.out⟩
    · obtain ⟨n, k, rfl, rfl, hn, hk⟩ := parts_nat hp
      have h2 : n * 8 + k = v ∧ e = 0 := by have := H.out; unfold ballotOf at this; rw [hr] at this; simp only [hp, if_true, Prod.mk.injEq, Int.toNat_natCast] at this; exact ⟨this.1, this.2.symm⟩
      obtain ⟨h3, rfl⟩ := h2
      have HV : Hid (((n * 8 + k : Nat) : Int) = (v : Int)) := hid (by rw [h3])
      have HP := hid hp
      clear hr H hp h3
      go_enter Tryd.func12, Tryd.ntmps12
      go_wp2_with fail
      with_reducible refine (read_yes t n k _ hs HL.out HR.out).mono ?_
      rintro en w1 ⟨rfl, hb1⟩
      have HB1 := hid hb1
      clear hb1
      go_wp2_with (first
        | (go_at_call 22; refine (areparts_any _ _ _).mono ?_; rintro e w' ⟨rfl, rfl⟩; rw [HP.out])
        | (go_at_call 23; refine (join_any n k _ hn hk).mono ?_; rintro e w' ⟨rfl, rfl⟩; rw [HV.out]))
      exact bodyPost_ret (v := .tuple #[.int .u32 (v : Int), .int .i64 0]) (by simp [results, Tryd.results12, go_sem]) rfl ⟨rfl, HB1.out⟩

end Go.Proofs.YtmihfalekbgdhaaDoor
