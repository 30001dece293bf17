/-
  The law's own head of a message's text (package moothilllaw11).
-/
import Derived.Test.YtohffiehmmcgbaaGreatDoorXYuText
import Derived.Test.YtohffiehmmcgbaaGreatDoorXJuText
import Derived.Test.YtohffiehmmcgbaaGreatDoorXJuShowB
import Derived.Test.YtohffiehmmcgbaaGreatDoorXL
import Derived.Test.YtohffiehmmcgbaaGreatDoorXJRef
import Derived.LoopTactic
namespace Go.Proofs.YtohffiehmmcgbaaGreatDoor
open Go.ChangeShapes Go.WideShapes Go.ChangeAt Go.RowKit Go.Lib
set_option linter.unusedVariables false
set_option linter.unusedSimpArgs false
set_option maxRecDepth 100000 in
set_option maxHeartbeats 1000000 in
theorem digits11 (v : Nat) (w : World) (hv : v < 18446744073709551616) :
    Calls Tryz.prog 87 #[.int .u64 (v : Int)] w (TellsL (decDigits v) w) := by
  have hlen : (decDigits v).length ≤ 20 := by rw [decDigits_length]; exact nDigits_le20 v hv
  go_enter Tryz.func87, Tryz.ntmps87
  go_wp2
  go_loopw [0, 3] (fun n s wr => ∃ (u : Nat) (r : ByteArray), n = .int .u64 (u : Int) ∧ s = .string r ∧ u < 18446744073709551616 ∧ Hid (decDigits v = decDigits u ++ L r) ∧ Hid (Below w.heap.size w wr)) (fun n _ _ => (RowKit.intOf n).toNat)
  case atStart => exact ⟨v, ⟨#[]⟩, rfl, rfl, hv, hid (by simp [L]), hid (Below.refl _ _)⟩
  case round =>
    obtain ⟨u, r, rfl, rfl, hu, H, HB⟩ := hrel
    have hr : r.size ≤ 20 := by
      have h := congrArg List.length H.out
      rw [List.length_append, L_length] at h
      omega
    obtain ⟨q, hq⟩ : ∃ q : Int, (u : Int) / 10 = q := ⟨_, rfl⟩
    obtain ⟨m, hm⟩ : ∃ m : Int, (u : Int) % 10 = m := ⟨_, rfl⟩
    have hm0 : 0 ≤ m := by omega
    have hm1 : m < 10 := by omega
    have hq0 : 0 ≤ q := by omega
    have hq1 : q < 18446744073709551616 := by omega
    obtain ⟨c1, hc1⟩ : ∃ c1 : ByteArray, c1 = ⟨#[UInt8.ofNat (48 + m).toNat]⟩ := ⟨_, rfl⟩
    have hcv := conv10 (48 + m) wr c1 hc1
    have hs1 : c1.size ≤ 1 := by rw [hc1]; exact Nat.le_refl _
    have HC : Hid (L (c1 ++ r) = UInt8.ofNat (48 + u % 10) :: L r) := hid (by
      rw [L_append, hc1, show (48 + m).toNat = 48 + u % 10 by omega]; rfl)
    have HB1 := hid (HB.out.alloc HB.out.size (.cells #[.int .u8 (48 + m)] 5))
    clear hc1
    rcases Decidable.em (q = 0) with h0 | h0
    · subst h0
      have HD : Hid (decDigits v = L (c1 ++ r)) := hid (by rw [H.out, HC.out, dec_small (by omega), show u % 10 = u by omega]; rfl)
      go_wp2
      go_ret
      exact ⟨_, rfl, HD.out.symm, HB1.out⟩
    · have hz : (q == 0) = false := beq_eq_false_iff_ne.2 h0
      have HD : Hid (decDigits v = decDigits (u / 10) ++ L (c1 ++ r)) := hid (by rw [H.out, HC.out, dec_big (by omega)]; simp)
      go_wp2
      go_roundw
      case rel => exact ⟨u / 10, _, by rw [← hq]; congr 1, rfl, by omega, HD, HB1⟩
      case measure => simp only [RowKit.intOf]; omega
theorem digits11_at (v : Nat) (x : Int) (w : World) (hx : x = (v : Int)) (hv : v < 18446744073709551616) :
    Calls Tryz.prog 87 #[.int .u64 x] w (TellsL (decDigits v) w) := by
  subst hx
  exact digits11 v w hv
theorem digitsU (q : Int) (w : World) (h0 : 0 ≤ q) (h1 : q < 4294967296) :
    Calls Tryz.prog 87 #[.int .u64 q] w fun e w' => (∃ r : ByteArray, e = .returned (.string r) ∧ Sb r = itoa q ∧ r.size ≤ 20) ∧ Below w.heap.size w w' := by
  obtain ⟨v, rfl⟩ : ∃ v : Nat, q = v := ⟨q.toNat, by omega⟩
  rw [itoa_nonneg]
  refine (digits11_at v (v : Int) w rfl (by omega)).mono ?_
  rintro e w1 ⟨r, rfl, h1, hb⟩
  exact ⟨⟨r, rfl, h1, by have h2 := dec_len9 (v := v) (by omega); have h3 := congrArg List.length h1; rw [L_length] at h3; omega⟩, hb⟩
theorem msg_index (k : Nat) (h0 : 0 < k) (h8 : k < 8) : ∃ W : ByteArray, Sb W = msgL k ∧ W.size ≤ 12 ∧ ∀ w : World, Sem.run Tryz.prog (Instr.index 123 (Value.agg #[Value.string { data := #[] }, Value.string { data := #[112, 114, 101, 97, 99, 99, 101, 112, 116] }, Value.string { data := #[112, 114, 101, 114, 101, 112, 108, 121] }, Value.string { data := #[97, 99, 99, 101, 112, 116] }, Value.string { data := #[97, 99, 99, 101, 112, 116, 114, 101, 112, 108, 121] }, Value.string { data := #[99, 111, 109, 109, 105, 116] }, Value.string { data := #[112, 114, 101, 112, 97, 114, 101] }, Value.string { data := #[112, 114, 101, 112, 97, 114, 101, 114, 101, 112, 108, 121] }]) (Value.int IntKind.i64 (k : Int))) w = .ok (.string W) w := by
  obtain ⟨W, h1, h2, hv⟩ : ∃ W : ByteArray, Sb W = msgL k ∧ W.size ≤ 12 ∧ (#[Value.string { data := #[] }, Value.string { data := #[112, 114, 101, 97, 99, 99, 101, 112, 116] }, Value.string { data := #[112, 114, 101, 114, 101, 112, 108, 121] }, Value.string { data := #[97, 99, 99, 101, 112, 116] }, Value.string { data := #[97, 99, 99, 101, 112, 116, 114, 101, 112, 108, 121] }, Value.string { data := #[99, 111, 109, 109, 105, 116] }, Value.string { data := #[112, 114, 101, 112, 97, 114, 101] }, Value.string { data := #[112, 114, 101, 112, 97, 114, 101, 114, 101, 112, 108, 121] }] : Array Value)[k]? = some (.string W) := by
    have e : k = 1 ∨ k = 2 ∨ k = 3 ∨ k = 4 ∨ k = 5 ∨ k = 6 ∨ k = 7 := by omega
    rcases e with rfl | rfl | rfl | rfl | rfl | rfl | rfl <;> exact ⟨_, by rfl, by decide, rfl⟩
  refine ⟨W, h1, h2, fun w => ?_⟩
  obtain ⟨i, hi⟩ : ∃ i, Tryz.prog.info? 9 = some i := Option.isSome_iff_exists.1 (show (Tryz.prog.info? 9).isSome = true by kernel_rfl)
  have hs := run_sizeOf (P := Tryz.prog) w hi
  rw [show Tryz.prog.cellsOf 9 = 1 by kernel_rfl] at hs
  have hp := run_part_plain (P := Tryz.prog) (w := w) (e := 9) (by kernel_rfl) hv
  have h3 : (0 : Int) ≤ (k : Int) ∧ (k : Int) < ((8 : Nat) : Int) := by omega
  simp only [Instr.index, asIntOf, Sem.run_bind, Sem.run_pure, run_underlying Tryz.underlying123, Result.andThen_ok, Sem.run_ite, if_pos h3, hs, Int.toNat_natCast, Nat.mul_one, hp]
theorem quo8 (v : Nat) (hv : v < 4294967296) : ((v : Int) % 18446744073709551616).tdiv 8 % 18446744073709551616 = (v : Int) / 8 := by
  have h : (v : Int) % 18446744073709551616 = v := Int.emod_eq_of_lt (by omega) (by omega)
  rw [h, Int.tdiv_eq_ediv_of_nonneg (by omega)]
  omega
theorem rem8 (v : Nat) (hv : v < 4294967296) : ((v : Int) % 18446744073709551616).tmod 8 = (v : Int) % 8 := by
  have h : (v : Int) % 18446744073709551616 = v := Int.emod_eq_of_lt (by omega) (by omega)
  rw [h, Int.tmod_eq_emod_of_nonneg (by omega)]
def TelU (w0 : World) (k : Nat) (w : World) (m : Ms) : Prop := Blk w k 67 (rowM m) ∧ Below k w0 w
theorem TelU.on {w0 w w' : World} {k : Nat} {m : Ms} (h : TelU w0 k w m) (hb : Below w.heap.size w w') : TelU w0 k w' m := ⟨h.1.below hb h.1.lt, below_pay h.2 (by have := h.1.lt; omega) hb⟩
theorem TelU.drew {w0 w : World} {k : Nat} {m : Ms} (h : TelU w0 k w m) : TelU w0 k w.drew m := ⟨h.1.drew, below_drew h.2⟩
set_option maxRecDepth 100000 in
set_option maxHeartbeats 16000000 in
theorem mtell_as (kn a b r s v : Nat) (ok : Bool) (x : J) (w : World) (hk0 : 0 < kn) (hk8 : kn < 8) (ha : a ≤ 6) (hb6 : b ≤ 6) (hr7 : r < 7) (hs10 : s < 1024) (hv : v < 4294967296) :
    Calls Tryz.prog 37 #[.agg (rowM ⟨kn, a, b, r, s, v, ok, x⟩)] w fun e w' => (∃ t : ByteArray, e = .returned (.string t) ∧ Sb t = headU ⟨kn, a, b, r, s, v, ok, x⟩ ∧ t.size ≤ 500) ∧ Below w.heap.size w w' := by
  have HTX : Hid (headU ⟨kn, a, b, r, s, v, ok, x⟩ = msgL kn ++ 32 :: (toT a b ++ 32 :: (textOf r s ++ 32 :: (balT v ++ 32 :: saysL kn ok)))) := hid rfl
  obtain ⟨ta, hta, hza, hix⟩ := msg_index kn hk0 hk8
  have TA := hid hta
  clear hta
  have wa : IntKind.u64.wrap (a : Int) = a := by rw [IntKind.wrap_u64]; omega
  have wb : IntKind.u64.wrap (b : Int) = b := by rw [IntKind.wrap_u64]; omega
  have wr : IntKind.u64.wrap (r : Int) = r := by rw [IntKind.wrap_u64]; omega
  have ws : IntKind.u64.wrap (s : Int) = s := by rw [IntKind.wrap_u64]; omega
  go_enter Tryz.func37, Tryz.ntmps37
  go_upto_region 1 with fail
  obtain ⟨W, hW⟩ : ∃ W, w.alloc (.cells (rowM ⟨kn, a, b, r, s, v, ok, x⟩) 67) = W := ⟨_, rfl⟩
  rw [hW]
  obtain ⟨K0, KB⟩ := one_new hW
  clear hW
  obtain ⟨k, hk⟩ : ∃ k, w.heap.size = k := ⟨_, rfl⟩
  rw [hk] at K0 KB
  rw [hk]
  have HK := hid hk
  clear hk
  have T0 : Hid (TelU w k W ⟨kn, a, b, r, s, v, ok, x⟩) := hid ⟨K0.out, KB.out⟩
  clear K0 KB
  have c0 := T0.out.1.m0
  go_upto_region 2 with fail
  clear c0 hix
  refine wp_region_held_drew (S := (fun w' => TelU w k w' ⟨kn, a, b, r, s, v, ok, x⟩)) (by kernel_rfl) (by exact T0.out.drew) (fun hHeld => ?_)
  refine wpAnyH_take (i := 0) (oi := _) (v := ?_) rfl (by kernel_rfl) (by kernel_rfl) (by kernel_rfl) (fun _ _ _ h => h) (Or.inl ⟨by kernel_rfl, ?_⟩) hHeld ?_
  rotate_left 1
  focus (intro w' hSw; (try dsimp only at hSw); go_simp; try with_reducible rfl)
  try simp only [Act.put, List.getElem_toArray, List.getElem_cons_zero, List.getElem_cons_succ, List.setIfInBounds_toArray, List.set_cons_zero, List.set_cons_succ]
  refine wpAnyH_take (i := 1) (oi := _) (v := ?_) rfl (by kernel_rfl) (by kernel_rfl) (by kernel_rfl) (fun _ _ _ h => h) (Or.inl ⟨by kernel_rfl, ?_⟩) hHeld ?_
  rotate_left 1
  focus (intro w' hSw; (try dsimp only at hSw); go_simp; try with_reducible rfl)
  try simp only [Act.put, List.getElem_toArray, List.getElem_cons_zero, List.getElem_cons_succ, List.setIfInBounds_toArray, List.set_cons_zero, List.set_cons_succ]
  refine wpAnyH_take (i := 2) (oi := _) (v := ?_) rfl (by kernel_rfl) (by kernel_rfl) (by kernel_rfl) (fun _ _ _ h => h) (Or.inl ⟨by kernel_rfl, ?_⟩) hHeld ?_
  rotate_left 1
  focus (intro w' hSw; (try dsimp only at hSw); have q0 := Blk.m1 hSw.1; go_simp; try with_reducible rfl)
  try simp only [Act.put, List.getElem_toArray, List.getElem_cons_zero, List.getElem_cons_succ, List.setIfInBounds_toArray, List.set_cons_zero, List.set_cons_succ]
  refine wpAnyH_take (i := 3) (oi := _) (v := ?_) rfl (by kernel_rfl) (by kernel_rfl) (by kernel_rfl) (fun _ _ _ h => h) (Or.inl ⟨by kernel_rfl, ?_⟩) hHeld ?_
  rotate_left 1
  focus (intro w' hSw; (try dsimp only at hSw); go_simp; try with_reducible rfl)
  try simp only [Act.put, List.getElem_toArray, List.getElem_cons_zero, List.getElem_cons_succ, List.setIfInBounds_toArray, List.set_cons_zero, List.set_cons_succ]
  refine wpAnyH_take (i := 7) (oi := _) (v := ?_) rfl (by kernel_rfl) (by kernel_rfl) (by kernel_rfl) (fun _ _ _ h => h) (Or.inl ⟨by kernel_rfl, ?_⟩) hHeld ?_
  rotate_left 1
  focus (intro w' hSw; (try dsimp only at hSw); go_simp; try with_reducible rfl)
  try simp only [Act.put, List.getElem_toArray, List.getElem_cons_zero, List.getElem_cons_succ, List.setIfInBounds_toArray, List.set_cons_zero, List.set_cons_succ]
  refine wpAnyH_take (i := 8) (oi := _) (v := ?_) rfl (by kernel_rfl) (by kernel_rfl) (by kernel_rfl) (fun _ _ _ h => h) (Or.inl ⟨by kernel_rfl, ?_⟩) hHeld ?_
  rotate_left 1
  focus (intro w' hSw; (try dsimp only at hSw); have q0 := Blk.m2 hSw.1; go_simp; try with_reducible rfl)
  try simp only [Act.put, List.getElem_toArray, List.getElem_cons_zero, List.getElem_cons_succ, List.setIfInBounds_toArray, List.set_cons_zero, List.set_cons_succ]
  refine wpAnyH_take (i := 9) (oi := _) (v := ?_) rfl (by kernel_rfl) (by kernel_rfl) (by kernel_rfl) (fun _ _ _ h => h) (Or.inl ⟨by kernel_rfl, ?_⟩) hHeld ?_
  rotate_left 1
  focus (intro w' hSw; (try dsimp only at hSw); go_simp; try with_reducible rfl)
  try simp only [Act.put, List.getElem_toArray, List.getElem_cons_zero, List.getElem_cons_succ, List.setIfInBounds_toArray, List.set_cons_zero, List.set_cons_succ]
  refine wpAnyH_take (i := 13) (oi := _) (v := ?_) rfl (by kernel_rfl) (by kernel_rfl) (by kernel_rfl) (fun _ _ _ h => h) (Or.inl ⟨by kernel_rfl, ?_⟩) hHeld ?_
  rotate_left 1
  focus (intro w' hSw; (try dsimp only at hSw); go_simp; try with_reducible rfl)
  try simp only [Act.put, List.getElem_toArray, List.getElem_cons_zero, List.getElem_cons_succ, List.setIfInBounds_toArray, List.set_cons_zero, List.set_cons_succ]
  refine wpAnyH_take (i := 14) (oi := _) (v := ?_) rfl (by kernel_rfl) (by kernel_rfl) (by kernel_rfl) (fun _ _ _ h => h) (Or.inl ⟨by kernel_rfl, ?_⟩) hHeld ?_
  rotate_left 1
  focus (intro w' hSw; (try dsimp only at hSw); go_simp; try with_reducible rfl)
  try simp only [Act.put, List.getElem_toArray, List.getElem_cons_zero, List.getElem_cons_succ, List.setIfInBounds_toArray, List.set_cons_zero, List.set_cons_succ]
  refine wpAnyH_take (i := 15) (oi := _) (v := ?_) rfl (by kernel_rfl) (by kernel_rfl) (by kernel_rfl) (fun _ _ _ h => h) (Or.inl ⟨by kernel_rfl, ?_⟩) hHeld ?_
  rotate_left 1
  focus (intro w' hSw; (try dsimp only at hSw); have q0 := Blk.m3 hSw.1; go_simp; try with_reducible rfl)
  try simp only [Act.put, List.getElem_toArray, List.getElem_cons_zero, List.getElem_cons_succ, List.setIfInBounds_toArray, List.set_cons_zero, List.set_cons_succ]
  refine wpAnyH_take (i := 16) (oi := _) (v := ?_) rfl (by kernel_rfl) (by kernel_rfl) (by kernel_rfl) (fun _ _ _ h => h) (Or.inl ⟨by kernel_rfl, ?_⟩) hHeld ?_
  rotate_left 1
  focus (intro w' hSw; (try dsimp only at hSw); go_simp; try with_reducible rfl)
  try simp only [Act.put, List.getElem_toArray, List.getElem_cons_zero, List.getElem_cons_succ, List.setIfInBounds_toArray, List.set_cons_zero, List.set_cons_succ]
  refine wpAnyH_take (i := 20) (oi := _) (v := ?_) rfl (by kernel_rfl) (by kernel_rfl) (by kernel_rfl) (fun _ _ _ h => h) (Or.inl ⟨by kernel_rfl, ?_⟩) hHeld ?_
  rotate_left 1
  focus (intro w' hSw; (try dsimp only at hSw); go_simp; try with_reducible rfl)
  try simp only [Act.put, List.getElem_toArray, List.getElem_cons_zero, List.getElem_cons_succ, List.setIfInBounds_toArray, List.set_cons_zero, List.set_cons_succ]
  refine wpAnyH_take (i := 21) (oi := _) (v := ?_) rfl (by kernel_rfl) (by kernel_rfl) (by kernel_rfl) (fun _ _ _ h => h) (Or.inl ⟨by kernel_rfl, ?_⟩) hHeld ?_
  rotate_left 1
  focus (intro w' hSw; (try dsimp only at hSw); go_simp; try with_reducible rfl)
  try simp only [Act.put, List.getElem_toArray, List.getElem_cons_zero, List.getElem_cons_succ, List.setIfInBounds_toArray, List.set_cons_zero, List.set_cons_succ]
  refine wpAnyH_take (i := 22) (oi := _) (v := ?_) rfl (by kernel_rfl) (by kernel_rfl) (by kernel_rfl) (fun _ _ _ h => h) (Or.inl ⟨by kernel_rfl, ?_⟩) hHeld ?_
  rotate_left 1
  focus (intro w' hSw; (try dsimp only at hSw); have q0 := Blk.m4 hSw.1; go_simp; try with_reducible rfl)
  try simp only [Act.put, List.getElem_toArray, List.getElem_cons_zero, List.getElem_cons_succ, List.setIfInBounds_toArray, List.set_cons_zero, List.set_cons_succ]
  refine wpAnyH_take (i := 23) (oi := _) (v := ?_) rfl (by kernel_rfl) (by kernel_rfl) (by kernel_rfl) (fun _ _ _ h => h) (Or.inl ⟨by kernel_rfl, ?_⟩) hHeld ?_
  rotate_left 1
  focus (intro w' hSw; (try dsimp only at hSw); go_simp; try with_reducible rfl)
  try simp only [Act.put, List.getElem_toArray, List.getElem_cons_zero, List.getElem_cons_succ, List.setIfInBounds_toArray, List.set_cons_zero, List.set_cons_succ]
  refine wpAnyH_take (i := 27) (oi := _) (v := ?_) rfl (by kernel_rfl) (by kernel_rfl) (by kernel_rfl) (fun _ _ _ h => h) (Or.inl ⟨by kernel_rfl, ?_⟩) hHeld ?_
  rotate_left 1
  focus (intro w' hSw; (try dsimp only at hSw); go_simp; try with_reducible rfl)
  try simp only [Act.put, List.getElem_toArray, List.getElem_cons_zero, List.getElem_cons_succ, List.setIfInBounds_toArray, List.set_cons_zero, List.set_cons_succ]
  refine wpAnyH_take (i := 28) (oi := _) (v := ?_) rfl (by kernel_rfl) (by kernel_rfl) (by kernel_rfl) (fun _ _ _ h => h) (Or.inl ⟨by kernel_rfl, ?_⟩) hHeld ?_
  rotate_left 1
  focus (intro w' hSw; (try dsimp only at hSw); have q0 := Blk.m5 hSw.1; go_simp; try with_reducible rfl)
  try simp only [Act.put, List.getElem_toArray, List.getElem_cons_zero, List.getElem_cons_succ, List.setIfInBounds_toArray, List.set_cons_zero, List.set_cons_succ]
  refine wpAnyH_take (i := 29) (oi := _) (v := ?_) rfl (by kernel_rfl) (by kernel_rfl) (by kernel_rfl) (fun _ _ _ h => h) (Or.inl ⟨by kernel_rfl, ?_⟩) hHeld ?_
  rotate_left 1
  focus (intro w' hSw; (try dsimp only at hSw); go_simp; try with_reducible rfl)
  try simp only [Act.put, List.getElem_toArray, List.getElem_cons_zero, List.getElem_cons_succ, List.setIfInBounds_toArray, List.set_cons_zero, List.set_cons_succ]
  refine wpAnyH_take (i := 30) (oi := _) (v := ?_) rfl (by kernel_rfl) (by kernel_rfl) (by kernel_rfl) (fun _ _ _ h => h) (Or.inl ⟨by kernel_rfl, ?_⟩) hHeld ?_
  rotate_left 1
  focus (intro w' hSw; (try dsimp only at hSw); go_simp; try with_reducible rfl)
  try simp only [Act.put, List.getElem_toArray, List.getElem_cons_zero, List.getElem_cons_succ, List.setIfInBounds_toArray, List.set_cons_zero, List.set_cons_succ]
  refine wpAnyH_take (i := 34) (oi := _) (v := ?_) rfl (by kernel_rfl) (by kernel_rfl) (by kernel_rfl) (fun _ _ _ h => h) (Or.inl ⟨by kernel_rfl, ?_⟩) hHeld ?_
  rotate_left 1
  focus (intro w' hSw; (try dsimp only at hSw); go_simp; try with_reducible rfl)
  try simp only [Act.put, List.getElem_toArray, List.getElem_cons_zero, List.getElem_cons_succ, List.setIfInBounds_toArray, List.set_cons_zero, List.set_cons_succ]
  refine wpAnyH_take (i := 35) (oi := _) (v := ?_) rfl (by kernel_rfl) (by kernel_rfl) (by kernel_rfl) (fun _ _ _ h => h) (Or.inl ⟨by kernel_rfl, ?_⟩) hHeld ?_
  rotate_left 1
  focus (intro w' hSw; (try dsimp only at hSw); have q0 := Blk.m5 hSw.1; go_simp; try with_reducible rfl)
  try simp only [Act.put, List.getElem_toArray, List.getElem_cons_zero, List.getElem_cons_succ, List.setIfInBounds_toArray, List.set_cons_zero, List.set_cons_succ]
  refine wpAnyH_take (i := 36) (oi := _) (v := ?_) rfl (by kernel_rfl) (by kernel_rfl) (by kernel_rfl) (fun _ _ _ h => h) (Or.inl ⟨by kernel_rfl, ?_⟩) hHeld ?_
  rotate_left 1
  focus (intro w' hSw; (try dsimp only at hSw); go_simp; try with_reducible rfl)
  try simp only [Act.put, List.getElem_toArray, List.getElem_cons_zero, List.getElem_cons_succ, List.setIfInBounds_toArray, List.set_cons_zero, List.set_cons_succ]
  refine wpAnyH_take (i := 37) (oi := _) (v := ?_) rfl (by kernel_rfl) (by kernel_rfl) (by kernel_rfl) (fun _ _ _ h => h) (Or.inl ⟨by kernel_rfl, ?_⟩) hHeld ?_
  rotate_left 1
  focus (intro w' hSw; (try dsimp only at hSw); go_simp; try with_reducible rfl)
  try simp only [Act.put, List.getElem_toArray, List.getElem_cons_zero, List.getElem_cons_succ, List.setIfInBounds_toArray, List.set_cons_zero, List.set_cons_succ]
  refine wpAnyH_ready (rs := [4]) (by kernel_rfl) (by simp) ?_
  refine AllReadyH.cons (o := _) rfl (fun K hK => ?_) AllReadyH.nil
  go_simp
  go_at_call 87
  with_reducible refine (digitsU (a : Int) _ (by omega) (by omega)).mono ?_
  rintro e w1 ⟨⟨r1, rfl, hr, hz1⟩, hb⟩
  have R1 := hid hr
  have T1 := hid (T0.out.drew.on hb)
  clear hr hb T0
  refine hK.out _ _ (by exact T1.out) (fun hHeld => ?_)
  clear hK K
  try simp only [Act.put, List.getElem_toArray, List.getElem_cons_zero, List.getElem_cons_succ, List.setIfInBounds_toArray, List.set_cons_zero, List.set_cons_succ]
  refine wpAnyH_take (i := 5) (oi := _) (v := ?_) rfl (by kernel_rfl) (by kernel_rfl) (by kernel_rfl) (fun _ _ _ h => h) (Or.inl ⟨by kernel_rfl, ?_⟩) hHeld ?_
  rotate_left 1
  focus (intro w' hSw; (try dsimp only at hSw); have q0 := (show ¬ (9223372036854775807 < 1 + r1.size) by omega); go_simp; try with_reducible rfl)
  try simp only [Act.put, List.getElem_toArray, List.getElem_cons_zero, List.getElem_cons_succ, List.setIfInBounds_toArray, List.set_cons_zero, List.set_cons_succ]
  refine wpAnyH_take (i := 6) (oi := _) (v := ?_) rfl (by kernel_rfl) (by kernel_rfl) (by kernel_rfl) (fun _ _ _ h => h) (Or.inl ⟨by kernel_rfl, ?_⟩) hHeld ?_
  rotate_left 1
  focus (intro w' hSw; (try dsimp only at hSw); have q0 := (show ¬ (9223372036854775807 < 1 + r1.size + 1) by omega); go_simp; try with_reducible rfl)
  try simp only [Act.put, List.getElem_toArray, List.getElem_cons_zero, List.getElem_cons_succ, List.setIfInBounds_toArray, List.set_cons_zero, List.set_cons_succ]
  refine wpAnyH_ready (rs := [10]) (by kernel_rfl) (by simp) ?_
  refine AllReadyH.cons (o := _) rfl (fun K hK => ?_) AllReadyH.nil
  go_simp
  go_at_call 87
  with_reducible refine (digitsU (b : Int) _ (by omega) (by omega)).mono ?_
  rintro e w2 ⟨⟨r2, rfl, hr, hz2⟩, hb⟩
  have R2 := hid hr
  have T2 := hid (T1.out.on hb)
  clear hr hb T1
  refine hK.out _ _ (by exact T2.out) (fun hHeld => ?_)
  clear hK K
  try simp only [Act.put, List.getElem_toArray, List.getElem_cons_zero, List.getElem_cons_succ, List.setIfInBounds_toArray, List.set_cons_zero, List.set_cons_succ]
  refine wpAnyH_take (i := 11) (oi := _) (v := ?_) rfl (by kernel_rfl) (by kernel_rfl) (by kernel_rfl) (fun _ _ _ h => h) (Or.inl ⟨by kernel_rfl, ?_⟩) hHeld ?_
  rotate_left 1
  focus (intro w' hSw; (try dsimp only at hSw); have q0 := (show ¬ (9223372036854775807 < 1 + r1.size + 1 + r2.size) by omega); go_simp; try with_reducible rfl)
  try simp only [Act.put, List.getElem_toArray, List.getElem_cons_zero, List.getElem_cons_succ, List.setIfInBounds_toArray, List.set_cons_zero, List.set_cons_succ]
  refine wpAnyH_take (i := 12) (oi := _) (v := ?_) rfl (by kernel_rfl) (by kernel_rfl) (by kernel_rfl) (fun _ _ _ h => h) (Or.inl ⟨by kernel_rfl, ?_⟩) hHeld ?_
  rotate_left 1
  focus (intro w' hSw; (try dsimp only at hSw); have q0 := (show ¬ (9223372036854775807 < 1 + r1.size + 1 + r2.size + 1) by omega); go_simp; try with_reducible rfl)
  try simp only [Act.put, List.getElem_toArray, List.getElem_cons_zero, List.getElem_cons_succ, List.setIfInBounds_toArray, List.set_cons_zero, List.set_cons_succ]
  refine wpAnyH_ready (rs := [17]) (by kernel_rfl) (by simp) ?_
  refine AllReadyH.cons (o := _) rfl (fun K hK => ?_) AllReadyH.nil
  go_simp
  go_at_call 87
  with_reducible refine (digitsU (r : Int) _ (by omega) (by omega)).mono ?_
  rintro e w3 ⟨⟨r3, rfl, hr, hz3⟩, hb⟩
  have R3 := hid hr
  have T3 := hid (T2.out.on hb)
  clear hr hb T2
  refine hK.out _ _ (by exact T3.out) (fun hHeld => ?_)
  clear hK K
  try simp only [Act.put, List.getElem_toArray, List.getElem_cons_zero, List.getElem_cons_succ, List.setIfInBounds_toArray, List.set_cons_zero, List.set_cons_succ]
  refine wpAnyH_take (i := 18) (oi := _) (v := ?_) rfl (by kernel_rfl) (by kernel_rfl) (by kernel_rfl) (fun _ _ _ h => h) (Or.inl ⟨by kernel_rfl, ?_⟩) hHeld ?_
  rotate_left 1
  focus (intro w' hSw; (try dsimp only at hSw); have q0 := (show ¬ (9223372036854775807 < 1 + r1.size + 1 + r2.size + 1 + r3.size) by omega); go_simp; try with_reducible rfl)
  try simp only [Act.put, List.getElem_toArray, List.getElem_cons_zero, List.getElem_cons_succ, List.setIfInBounds_toArray, List.set_cons_zero, List.set_cons_succ]
  refine wpAnyH_take (i := 19) (oi := _) (v := ?_) rfl (by kernel_rfl) (by kernel_rfl) (by kernel_rfl) (fun _ _ _ h => h) (Or.inl ⟨by kernel_rfl, ?_⟩) hHeld ?_
  rotate_left 1
  focus (intro w' hSw; (try dsimp only at hSw); have q0 := (show ¬ (9223372036854775807 < 1 + r1.size + 1 + r2.size + 1 + r3.size + 1) by omega); go_simp; try with_reducible rfl)
  try simp only [Act.put, List.getElem_toArray, List.getElem_cons_zero, List.getElem_cons_succ, List.setIfInBounds_toArray, List.set_cons_zero, List.set_cons_succ]
  refine wpAnyH_ready (rs := [24]) (by kernel_rfl) (by simp) ?_
  refine AllReadyH.cons (o := _) rfl (fun K hK => ?_) AllReadyH.nil
  go_simp
  go_at_call 87
  with_reducible refine (digitsU (s : Int) _ (by omega) (by omega)).mono ?_
  rintro e w4 ⟨⟨r4, rfl, hr, hz4⟩, hb⟩
  have R4 := hid hr
  have T4 := hid (T3.out.on hb)
  clear hr hb T3
  refine hK.out _ _ (by exact T4.out) (fun hHeld => ?_)
  clear hK K
  try simp only [Act.put, List.getElem_toArray, List.getElem_cons_zero, List.getElem_cons_succ, List.setIfInBounds_toArray, List.set_cons_zero, List.set_cons_succ]
  refine wpAnyH_take (i := 25) (oi := _) (v := ?_) rfl (by kernel_rfl) (by kernel_rfl) (by kernel_rfl) (fun _ _ _ h => h) (Or.inl ⟨by kernel_rfl, ?_⟩) hHeld ?_
  rotate_left 1
  focus (intro w' hSw; (try dsimp only at hSw); have q0 := (show ¬ (9223372036854775807 < 1 + r1.size + 1 + r2.size + 1 + r3.size + 1 + r4.size) by omega); go_simp; try with_reducible rfl)
  try simp only [Act.put, List.getElem_toArray, List.getElem_cons_zero, List.getElem_cons_succ, List.setIfInBounds_toArray, List.set_cons_zero, List.set_cons_succ]
  refine wpAnyH_take (i := 26) (oi := _) (v := ?_) rfl (by kernel_rfl) (by kernel_rfl) (by kernel_rfl) (fun _ _ _ h => h) (Or.inl ⟨by kernel_rfl, ?_⟩) hHeld ?_
  rotate_left 1
  focus (intro w' hSw; (try dsimp only at hSw); have q0 := (show ¬ (9223372036854775807 < 1 + r1.size + 1 + r2.size + 1 + r3.size + 1 + r4.size + 1) by omega); go_simp; try with_reducible rfl)
  try simp only [Act.put, List.getElem_toArray, List.getElem_cons_zero, List.getElem_cons_succ, List.setIfInBounds_toArray, List.set_cons_zero, List.set_cons_succ]
  refine wpAnyH_ready (rs := [31]) (by kernel_rfl) (by simp) ?_
  refine AllReadyH.cons (o := _) rfl (fun K hK => ?_) AllReadyH.nil
  go_simp
  go_at_call 87
  with_reducible refine (digits11_at (v / 8) _ _ (by simp [IntKind.wrap, IntKind.bits, IntKind.signed]; first | exact quo8 v hv | exact rem8 v hv | omega) (by omega)).mono ?_
  rintro e w5 ⟨r5, rfl, hrl, hb⟩
  have hr : Sb r5 = itoa ((v / 8 : Nat) : Int) := by rw [itoa_nonneg]; exact hrl
  have hz5 : r5.size ≤ 20 := by have h2 := dec_len9 (v := v / 8) (by omega); have h3 := congrArg List.length hrl; rw [L_length] at h3; omega
  clear hrl
  have R5 := hid hr
  have T5 := hid (T4.out.on hb)
  clear hr hb T4
  refine hK.out _ _ (by exact T5.out) (fun hHeld => ?_)
  clear hK K
  try simp only [Act.put, List.getElem_toArray, List.getElem_cons_zero, List.getElem_cons_succ, List.setIfInBounds_toArray, List.set_cons_zero, List.set_cons_succ]
  refine wpAnyH_take (i := 32) (oi := _) (v := ?_) rfl (by kernel_rfl) (by kernel_rfl) (by kernel_rfl) (fun _ _ _ h => h) (Or.inl ⟨by kernel_rfl, ?_⟩) hHeld ?_
  rotate_left 1
  focus (intro w' hSw; (try dsimp only at hSw); have q0 := (show ¬ (9223372036854775807 < 1 + r1.size + 1 + r2.size + 1 + r3.size + 1 + r4.size + 1 + r5.size) by omega); go_simp; try with_reducible rfl)
  try simp only [Act.put, List.getElem_toArray, List.getElem_cons_zero, List.getElem_cons_succ, List.setIfInBounds_toArray, List.set_cons_zero, List.set_cons_succ]
  refine wpAnyH_take (i := 33) (oi := _) (v := ?_) rfl (by kernel_rfl) (by kernel_rfl) (by kernel_rfl) (fun _ _ _ h => h) (Or.inl ⟨by kernel_rfl, ?_⟩) hHeld ?_
  rotate_left 1
  focus (intro w' hSw; (try dsimp only at hSw); have q0 := (show ¬ (9223372036854775807 < 1 + r1.size + 1 + r2.size + 1 + r3.size + 1 + r4.size + 1 + r5.size + 1) by omega); go_simp; try with_reducible rfl)
  try simp only [Act.put, List.getElem_toArray, List.getElem_cons_zero, List.getElem_cons_succ, List.setIfInBounds_toArray, List.set_cons_zero, List.set_cons_succ]
  refine wpAnyH_ready (rs := [38]) (by kernel_rfl) (by simp) ?_
  refine AllReadyH.cons (o := _) rfl (fun K hK => ?_) AllReadyH.nil
  go_simp
  go_at_call 87
  with_reducible refine (digits11_at (v % 8) _ _ (by simp [IntKind.wrap, IntKind.bits, IntKind.signed]; first | exact quo8 v hv | exact rem8 v hv | omega) (by omega)).mono ?_
  rintro e w6 ⟨r6, rfl, hrl, hb⟩
  have hr : Sb r6 = itoa ((v % 8 : Nat) : Int) := by rw [itoa_nonneg]; exact hrl
  have hz6 : r6.size ≤ 20 := by have h2 := dec_len9 (v := v % 8) (by omega); have h3 := congrArg List.length hrl; rw [L_length] at h3; omega
  clear hrl
  have R6 := hid hr
  have T6 := hid (T5.out.on hb)
  clear hr hb T5
  refine hK.out _ _ (by exact T6.out) (fun hHeld => ?_)
  clear hK K
  try simp only [Act.put, List.getElem_toArray, List.getElem_cons_zero, List.getElem_cons_succ, List.setIfInBounds_toArray, List.set_cons_zero, List.set_cons_succ]
  refine wpAnyH_take (i := 39) (oi := _) (v := ?_) rfl (by kernel_rfl) (by kernel_rfl) (by kernel_rfl) (fun _ _ _ h => h) (Or.inl ⟨by kernel_rfl, ?_⟩) hHeld ?_
  rotate_left 1
  focus (intro w' hSw; (try dsimp only at hSw); have q0 := (show ¬ (9223372036854775807 < 1 + r1.size + 1 + r2.size + 1 + r3.size + 1 + r4.size + 1 + r5.size + 1 + r6.size) by omega); go_simp; try with_reducible rfl)
  try simp only [Act.put, List.getElem_toArray, List.getElem_cons_zero, List.getElem_cons_succ, List.setIfInBounds_toArray, List.set_cons_zero, List.set_cons_succ]
  refine wpAnyH_take (i := 40) (oi := _) (v := ?_) rfl (by kernel_rfl) (by kernel_rfl) (by kernel_rfl) (fun _ _ _ h => h) (Or.inl ⟨by kernel_rfl, ?_⟩) hHeld ?_
  rotate_left 1
  focus (intro w' hSw; (try dsimp only at hSw); have q0 := (show ¬ (9223372036854775807 < ta.size + (1 + r1.size + 1 + r2.size + 1 + r3.size + 1 + r4.size + 1 + r5.size + 1 + r6.size)) by omega); go_simp; try with_reducible rfl)
  try simp only [Act.put, List.getElem_toArray, List.getElem_cons_zero, List.getElem_cons_succ, List.setIfInBounds_toArray, List.set_cons_zero, List.set_cons_succ]
  refine wpAnyH_take (i := 41) (oi := _) (v := ?_) rfl (by kernel_rfl) (by kernel_rfl) (by kernel_rfl) (fun _ _ _ h => h) (Or.inl ⟨by kernel_rfl, ?_⟩) hHeld ?_
  rotate_left 1
  focus (intro w' hSw; (try dsimp only at hSw); go_simp; try with_reducible rfl)
  try simp only [Act.put, List.getElem_toArray, List.getElem_cons_zero, List.getElem_cons_succ, List.setIfInBounds_toArray, List.set_cons_zero, List.set_cons_succ]
  refine wpAnyH_done (by kernel_rfl) ?_ _
  clear hHeld
  obtain ⟨s0, hs0⟩ : ∃ s0 : ByteArray, ta ++ (⟨#[32]⟩ ++ r1 ++ ⟨#[62]⟩ ++ r2 ++ ⟨#[32]⟩ ++ r3 ++ ⟨#[46]⟩ ++ r4 ++ ⟨#[32]⟩ ++ r5 ++ ⟨#[46]⟩ ++ r6) = s0 := ⟨_, rfl⟩
  have S0 : Hid (Sb s0 = msgL kn ++ 32 :: (toT a b ++ 32 :: (textOf r s ++ 32 :: balT v))) := hid (by
    rw [← hs0]
    simp only [Sb_append]
    rw [TA.out, R1.out, R2.out, R3.out, R4.out, R5.out, R6.out, show Sb ⟨#[46]⟩ = [46] from rfl, show Sb ⟨#[32]⟩ = [32] from rfl, show Sb ⟨#[62]⟩ = [62] from rfl]
    unfold toT textOf balT textOf
    simp)
  have Z0 : Hid (s0.size ≤ 200) := hid (by rw [← hs0]; simp only [ByteArray.size_append, show (⟨#[46]⟩ : ByteArray).size = 1 from rfl, show (⟨#[32]⟩ : ByteArray).size = 1 from rfl, show (⟨#[62]⟩ : ByteArray).size = 1 from rfl]; omega)
  have HF : Hid (∀ L : ByteArray, Sb L = 32 :: saysL (kn : Int) ok → Sb (s0 ++ L) = headU ⟨kn, a, b, r, s, v, ok, x⟩) := hid (fun L h => by rw [HTX.out, Sb_append, S0.out, h]; simp)
  try rw [hs0]
  clear hs0 HTX hz1 hz2 hz3 hz4 hz5 hz6 hza R1 R2 R3 R4 R5 R6 TA wa wb wr ws
  have z0 := Z0.out
  have c0 := T6.out.1.m0
  have c6 := T6.out.1.m6
  have e : kn = 1 ∨ kn = 2 ∨ kn = 3 ∨ kn = 4 ∨ kn = 5 ∨ kn = 6 ∨ kn = 7 := by omega
  rcases e with rfl | rfl | rfl | rfl | rfl | rfl | rfl
  · go_wp2
    exact bodyPost_ret (v := .string (s0 ++ ⟨#[32, 97, 115, 107, 115]⟩)) (by simp [results, Tryz.results37, go_sem]) rfl ⟨⟨_, rfl, HF.out ⟨#[32, 97, 115, 107, 115]⟩ rfl, by rw [ByteArray.size_append]; have h : (⟨#[32, 97, 115, 107, 115]⟩ : ByteArray).size ≤ 5 := (by decide); omega⟩, by rw [HK.out]; exact T6.out.2⟩
  · cases ok
    · go_wp2
      exact bodyPost_ret (v := .string (s0 ++ ⟨#[32, 110, 111]⟩)) (by simp [results, Tryz.results37, go_sem]) rfl ⟨⟨_, rfl, HF.out ⟨#[32, 110, 111]⟩ rfl, by rw [ByteArray.size_append]; have h : (⟨#[32, 110, 111]⟩ : ByteArray).size ≤ 5 := (by decide); omega⟩, by rw [HK.out]; exact T6.out.2⟩
    · go_wp2
      exact bodyPost_ret (v := .string (s0 ++ ⟨#[32, 121, 101, 115]⟩)) (by simp [results, Tryz.results37, go_sem]) rfl ⟨⟨_, rfl, HF.out ⟨#[32, 121, 101, 115]⟩ rfl, by rw [ByteArray.size_append]; have h : (⟨#[32, 121, 101, 115]⟩ : ByteArray).size ≤ 5 := (by decide); omega⟩, by rw [HK.out]; exact T6.out.2⟩
  · go_wp2
    exact bodyPost_ret (v := .string (s0 ++ ⟨#[32, 97, 115, 107, 115]⟩)) (by simp [results, Tryz.results37, go_sem]) rfl ⟨⟨_, rfl, HF.out ⟨#[32, 97, 115, 107, 115]⟩ rfl, by rw [ByteArray.size_append]; have h : (⟨#[32, 97, 115, 107, 115]⟩ : ByteArray).size ≤ 5 := (by decide); omega⟩, by rw [HK.out]; exact T6.out.2⟩
  · cases ok
    · go_wp2
      exact bodyPost_ret (v := .string (s0 ++ ⟨#[32, 110, 111]⟩)) (by simp [results, Tryz.results37, go_sem]) rfl ⟨⟨_, rfl, HF.out ⟨#[32, 110, 111]⟩ rfl, by rw [ByteArray.size_append]; have h : (⟨#[32, 110, 111]⟩ : ByteArray).size ≤ 5 := (by decide); omega⟩, by rw [HK.out]; exact T6.out.2⟩
    · go_wp2
      exact bodyPost_ret (v := .string (s0 ++ ⟨#[32, 121, 101, 115]⟩)) (by simp [results, Tryz.results37, go_sem]) rfl ⟨⟨_, rfl, HF.out ⟨#[32, 121, 101, 115]⟩ rfl, by rw [ByteArray.size_append]; have h : (⟨#[32, 121, 101, 115]⟩ : ByteArray).size ≤ 5 := (by decide); omega⟩, by rw [HK.out]; exact T6.out.2⟩
  · go_wp2
    exact bodyPost_ret (v := .string (s0 ++ ⟨#[32, 97, 115, 107, 115]⟩)) (by simp [results, Tryz.results37, go_sem]) rfl ⟨⟨_, rfl, HF.out ⟨#[32, 97, 115, 107, 115]⟩ rfl, by rw [ByteArray.size_append]; have h : (⟨#[32, 97, 115, 107, 115]⟩ : ByteArray).size ≤ 5 := (by decide); omega⟩, by rw [HK.out]; exact T6.out.2⟩
  · go_wp2
    exact bodyPost_ret (v := .string (s0 ++ ⟨#[32, 97, 115, 107, 115]⟩)) (by simp [results, Tryz.results37, go_sem]) rfl ⟨⟨_, rfl, HF.out ⟨#[32, 97, 115, 107, 115]⟩ rfl, by rw [ByteArray.size_append]; have h : (⟨#[32, 97, 115, 107, 115]⟩ : ByteArray).size ≤ 5 := (by decide); omega⟩, by rw [HK.out]; exact T6.out.2⟩
  · cases ok
    · go_wp2
      exact bodyPost_ret (v := .string (s0 ++ ⟨#[32, 110, 111]⟩)) (by simp [results, Tryz.results37, go_sem]) rfl ⟨⟨_, rfl, HF.out ⟨#[32, 110, 111]⟩ rfl, by rw [ByteArray.size_append]; have h : (⟨#[32, 110, 111]⟩ : ByteArray).size ≤ 5 := (by decide); omega⟩, by rw [HK.out]; exact T6.out.2⟩
    · go_wp2
      exact bodyPost_ret (v := .string (s0 ++ ⟨#[32, 121, 101, 115]⟩)) (by simp [results, Tryz.results37, go_sem]) rfl ⟨⟨_, rfl, HF.out ⟨#[32, 121, 101, 115]⟩ rfl, by rw [ByteArray.size_append]; have h : (⟨#[32, 121, 101, 115]⟩ : ByteArray).size ≤ 5 := (by decide); omega⟩, by rw [HK.out]; exact T6.out.2⟩
theorem mtell_any (m : Ms) (w : World) (hok : okM m) (hr : rightM m = true) :
    Calls Tryz.prog 37 #[.agg (rowM m)] w fun e w' => (∃ t : ByteArray, e = .returned (.string t) ∧ Sb t = headU m ∧ t.size ≤ 500) ∧ Below w.heap.size w w' := by
  obtain ⟨k, a, b, r, s, v, hk, ha, hb, hrr, hs, hv, hk0, hk8, ha6, hb6, hr7, hs10, hv32, hvb, h6, hn6⟩ := rightM_in hok hr
  obtain ⟨nk, na, nb, nr, ns, nv, nok, nx⟩ := m
  simp only at hk ha hb hrr hs hv
  subst hk ha hb hrr hs hv
  exact mtell_as k a b r s v nok nx w hk0 hk8 ha6 hb6 hr7 hs10 hv32
end Go.Proofs.YtohffiehmmcgbaaGreatDoor
