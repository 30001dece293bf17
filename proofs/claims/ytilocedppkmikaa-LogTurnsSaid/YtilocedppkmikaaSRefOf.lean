/-
  The contract of the document's own sum, bit by bit: its walk.
-/
import Derived.Test.YtilocedppkmikaaSRef
namespace Go.Proofs.Ytilocedppkmikaa
open Go.RowKit

theorem polyCells : ∃ cs : Array Value, cs = ((bitsL crcPoly).map iv).toArray ∧ cs.all (·.oneCell') = true ∧ cs.size = 32 := ⟨_, rfl, by kernel_rfl, by kernel_rfl⟩

set_option maxRecDepth 100000 in
set_option maxHeartbeats 2000000 in
theorem refof_any (A : Option Addr) (l : List Nat) (n c : Nat) (w : World) (hn : l.length = n) (hl : n ≤ 9223372036854775807) (h8 : ∀ x ∈ l, x < 256) (hA : Sees .u8 w A l) :
    Calls Try.prog 20 #[.slice A n c] w fun e w' => e = .returned (.int .u32 (crcOf l)) ∧ Below w.heap.size w w' := by
  have HA := hid hA
  have H8 := hid h8
  have HN := hid hn
  clear hA h8 hn
  go_enter Try.func20, Try.ntmps20
  go_wp2
  go_loopw [4] (fun tv wr => RelI w tv wr) (fun tv _ => 32 - (intOf tv).toNat)
  case atStart => exact ⟨0, by omega, rfl, by rw [halfway_none]; exact arr_one (l := zeros32) rfl, (Below.refl _ _).alloc (Nat.le_refl _) _⟩
  case round =>
    obtain ⟨k, hk, rfl, h1, hb⟩ := hrel
    by_cases hlt : k < 32
    · have hc := h1.cell ((halfway_new ones_len (by omega) (Nat.le_refl k)).trans (zeros_get hlt))
      have hf := h1.frozen k
      have HS : Hid (RelI w (.int .i64 ((k : Int) + 1)) (wr.setCell ⟨w.heap.size, k, none⟩ (.int .i64 1))) := hid (by
        have h2 := h1.set_ k 1
        rw [halfway_set ones_len zeros_len hlt (ones_get hlt)] at h2
        exact ⟨k + 1, hlt, by go_num, h2, hb.setCell (by simp) _⟩)
      clear h1
      go_wp2
      go_roundw
      case rel => exact HS.out
      case measure => simp only [intOf]; omega
    · have e : halfway ones32 zeros32 k = bitsL 4294967295 := by rw [bits_ones]; exact halfway_same ones_len zeros_len hk (fun i h1 h2 => by omega)
      rw [e] at h1
      have H1 := hid h1
      have HB := hid hb
      obtain ⟨cs, hcs, hc1, hc32⟩ := polyCells
      obtain ⟨zs, hzs⟩ : ∃ zs, zs = (zeros32.map iv).toArray := ⟨_, rfl⟩
      have HC := hid hcs
      have HZ := hid hzs
      have H5 := hid hc1
      have H4 := hid (show (Try.prog.info? 49).map (·.size) = some cs.size by rw [hcs]; kernel_rfl)
      have H6 := hid (show zs.size = cs.size by rw [hcs, hzs]; kernel_rfl)
      have H7 := hid hc32
      clear e h1 hb hcs hzs hc1 hc32
      go_wp2_with (first
        | (go_at_call 26; refine (word_any _).mono ?_; rintro e w2 ⟨rfl, hb2⟩; rw [← HC.out])
        | ((with_reducible refine wpList_store_start (o := ⟨none, _, _, _, _, _⟩) rfl (.tmp 5) (.tmp 21) rfl rfl rfl H4.out H5.out H1.out HB.out hb2 HC.out ?_ ?hold); (case hold => rw [H7.out]; rfl); intro w3 htwo; have HT := hid htwo; have HG : Hid (w.heap.size < w2.heap.size) := hid htwo.1; clear htwo; generalize w2.heap.size = pg at *))
      clear hb2 HC HZ H4 H5 H6 H7 H1 HB
      obtain rfl := HN.out
      go_loopw [6] (fun tv wr => RelA l w pg tv wr) (fun tv _ => l.length - (intOf tv).toNat)
      case atStart => exact ⟨0, Nat.zero_le _, rfl, HT.out⟩
      case round =>
        obtain ⟨i, hi, rfl, htwo⟩ := hrel
        have hs32 : crcFold 4294967295 (l.take i) < 4294967296 := crcFold_lt (by decide) (fun x hx => H8.out x (List.mem_of_mem_take hx))
        by_cases hli : i < l.length
        · have hc8 := H8.out _ (take_one hli)
          have HEC := hid (fun (wr : World) => endC (pg := pg) (w0 := w) (wr := wr) hli)
          obtain ⟨b, o, rfl, hbl, hcA⟩ := HA.out i l[i] (List.getElem?_eq_getElem hli)
          generalize crcFold 4294967295 (l.take i) = s at *
          generalize l[i] = y at *
          have hcw := (htwo.2.2.2.cell (p := ⟨b, o + i, none⟩) (by exact hbl)).trans hcA
          have HT2 := hid htwo
          have hy0 : (y : Int) < 256 := by omega
          clear htwo hcA
          obtain ⟨wo, rfl⟩ : ∃ wo : World, wo = wr := ⟨_, rfl⟩
          go_wp2
          go_loopw [7, 8] (fun xv kv wr => RelB s y w pg xv kv wr) (fun _ kv _ => 8 - (intOf kv).toNat)
          case atStart => exact ⟨0, y, by omega, hc8, rfl, rfl, by simp, by rw [halfway_none]; exact HT2.out⟩
          case round =>
            obtain ⟨k, x, hk, hx, rfl, rfl, he, htwo⟩ := hrel
            by_cases hk8 : k < 8
            · have HS := hid (stepB hk8 hx he htwo rfl rfl)
              have hc := htwo.cell ((halfway_new (n := 32) (bitsL_len _) (by omega) (Nat.le_refl k)).trans (bitsL_get _ (by omega)))
              have hf := htwo.frozen k
              have hb1 := bitAt_le s k
              clear htwo he
              generalize bitAt s k = u at *
              go_wp2
              go_roundw
              case rel => exact HS.out
              case measure => simp only [intOf]; omega
            · have HC : Hid (RelC (s ^^^ y) w pg (.int .i64 0) wr) := hid (by
                obtain rfl : k = 8 := by omega
                exact endB hc8 htwo)
              have HL := hid (xor_lt32 hs32 (show y < 4294967296 by omega))
              clear htwo he
              generalize s ^^^ y = t at *
              obtain ⟨wp, rfl⟩ : ∃ wp : World, wp = wr := ⟨_, rfl⟩
              go_wp2
              go_loopw [9] (fun kv wr => RelC t w pg kv wr) (fun kv _ => 8 - (intOf kv).toNat)
              case atStart => exact HC.out
              case round =>
                obtain ⟨k2, hk2, rfl, htwo⟩ := hrel
                have hq32 : crcRounds k2 t < 4294967296 := crcRounds_lt k2 HL.out
                by_cases hk28 : k2 < 8
                · obtain ⟨q, hq⟩ : ∃ q, q = crcRounds k2 t := ⟨_, rfl⟩
                  rw [← hq] at htwo hq32
                  have HE := hid (fun (wr : World) => endE (pg := pg) (w0 := w) (wr := wr) hk28 hq)
                  have HT3 := hid htwo
                  have hc := htwo.cell (bitsL_get q (show 0 < 32 by omega))
                  have HQ := hid hq
                  have hb0 := bitAt_le q 0
                  clear htwo hq
                  generalize hz : bitAt q 0 = z at *
                  have HZ := hid hz
                  clear hz
                  obtain ⟨wq, rfl⟩ : ∃ wq : World, wq = wr := ⟨_, rfl⟩
                  have hd8 : decide ((k2 : Int) < 8) = true := decide_eq_true (by omega)
                  go_wp2
                  go_loopw [11] (fun jv wr => RelD q w pg jv wr) (fun jv _ => 31 - (intOf jv).toNat)
                  case atStart => exact ⟨0, by omega, rfl, by rw [halfway_none]; exact HT3.out⟩
                  case round =>
                    obtain ⟨j, hj, rfl, htwo⟩ := hrel
                    by_cases hj31 : j < 31
                    · have HS := hid (stepD hj31 htwo rfl)
                      have hc1 := htwo.cell ((halfway_new (n := 32) (i := j + 1) (bitsL_len _) (by omega) (Nat.le_succ j)).trans (bitsL_get _ (by omega)))
                      have hc2 := htwo.cell ((halfway_new (n := 32) (bitsL_len _) (by omega) (Nat.le_refl j)).trans (bitsL_get _ (by omega)))
                      have hf := htwo.frozen j
                      have hb1 := bitAt_le q (j + 1)
                      clear htwo
                      generalize bitAt q (j + 1) = u at *
                      go_wp2
                      go_roundw
                      case rel => exact HS.out
                      case measure => simp only [intOf]; omega
                    · have HD : Hid (RelE q w pg (.int .i64 0) (wr.setCell ⟨w.heap.size, 31, none⟩ (.int .i64 0))) := hid (by
                        obtain rfl : j = 31 := by omega
                        exact endD hq32 htwo)
                      have hc1 := htwo.cell (i := 31) ((halfway_new (n := 32) (bitsL_len _) (by omega) (by omega)).trans (bitsL_get _ (by omega)))
                      have hf := htwo.frozen 31
                      clear htwo
                      obtain ⟨wt, rfl⟩ : ∃ wt : World, wt = wr := ⟨_, rfl⟩
                      go_wp2
                      go_loopw [12] (fun jv wr => RelE q w pg jv wr) (fun jv _ => 32 - (intOf jv).toNat)
                      case atStart => exact HD.out
                      case round =>
                        obtain ⟨m, hm, rfl, htwo⟩ := hrel
                        by_cases hm32 : m < 32
                        · have HS := hid (fun (y : Int) (hy : y = (((bitAt (q / 2) m : Nat) : Int) + (z : Int) * ((bitAt crcPoly m : Nat) : Int)) % 2) => stepE (y := y) hm32 htwo.drew_ (by rw [HZ.out]; exact hy))
                          have hc2 := htwo.cell ((halfway_new (n := 32) (bitsL_len _) (by omega) (Nat.le_refl m)).trans (bitsL_get _ hm32))
                          have hc3 := htwo.poly hm32
                          have hf2 := htwo.frozen m
                          have hb1 := bitAt_le (q / 2) m
                          have hb2 := bitAt_le crcPoly m
                          clear htwo
                          generalize bitAt (q / 2) m = u at *
                          generalize bitAt crcPoly m = v at *
                          have hm0 : (0 : Int) ≤ (z : Int) * (v : Int) := Int.mul_nonneg (by omega) (by omega)
                          have hm1 : (z : Int) * (v : Int) ≤ 1 := by
                            rcases (show z = 0 ∨ z = 1 by omega) with h | h <;> subst h <;> omega
                          have hmI : (m : Int) < 32 := by omega
                          go_wp2
                          go_still_tail 12, (by kernel_rfl)
                          change wpList _ _ _ _ _ wr.drew
                          have hc4 : wr.drew.cell? ⟨w.heap.size, m, none⟩ = some (.int .i64 (u : Int)) := hc2
                          have hf4 : wr.drew.frozen? ⟨w.heap.size, m, none⟩ = false := hf2
                          generalize wr.drew = wd at *
                          go_wp2
                          go_roundw
                          case rel => exact HS.out _ rfl
                          case measure => simp only [intOf]; omega
                        · have HR : Hid (RelC t w pg (.int .i64 ((k2 : Int) + 1)) wr) := hid (by
                            obtain rfl : m = 32 := by omega
                            exact HE.out _ htwo)
                          clear htwo
                          go_wp2
                          go_roundw
                          case rel => exact HR.out
                          case measure => simp only [intOf]; omega
                · have HR : Hid (RelA l w pg (.int .i64 ((i : Int) + 1)) wr) := hid (by
                    obtain rfl : k2 = 8 := by omega
                    exact HEC.out _ htwo)
                  clear htwo
                  go_wp2
                  go_roundw
                  case rel => exact HR.out
                  case measure => simp only [intOf]; omega
        · have HE : Hid (crcFold 4294967295 (l.take i) = crcFold 4294967295 l) := hid (by rw [List.take_of_length_le (by omega)])
          have HT2 := hid htwo
          clear htwo
          generalize crcFold 4294967295 (l.take i) = s at *
          have HE2 : Hid (crcOf l = 4294967295 - s) := hid (by rw [HE.out]; rfl)
          have HS := hid hs32
          go_wp2
          go_loop [13, 14] (fun vv jv => RelF s vv jv) (fun _ jv => (intOf jv + 1).toNat)
          case atStart => exact ⟨32, 0, by omega, by go_num, rfl, tops_start.symm⟩
          case round =>
            obtain ⟨j, v, hj, rfl, rfl, hv⟩ := hrel
            have hvl := tops_le s j
            rw [← hv] at hvl
            have HV := hid hv
            clear hv
            rcases Nat.eq_zero_or_pos j with h0 | hpos
            · have HZ : Hid (v = crcOf l) := hid (by rw [HV.out, h0, tops_end, HE2.out])
              have hneg : (j : Int) - 1 < 0 := by omega
              have hng : decide ((0 : Int) ≤ (j : Int) - 1) = false := decide_eq_false (by omega)
              clear h0
              go_wp2
              go_ret
              exact ⟨ret_num (by rw [HZ.out]), HT2.out.2.2.2⟩
            · obtain ⟨m, rfl⟩ : ∃ m, j = m + 1 := ⟨j - 1, by omega⟩
              have hm32 : m < 32 := by omega
              have HW := hid (tops_step HS.out hm32)
              have hc1 := HT2.out.cell (bitsL_get s hm32)
              have hb1 := bitAt_le s m
              have e1 : ((m + 1 : Nat) : Int) - 1 = (m : Int) := by omega
              have HX : Hid (v ≤ 2147483647) := hid (by
                have h3 := tops_le s m
                rw [HW.out, ← HV.out] at h3
                omega)
              have hx := HX.out
              have HY : Hid (tops s m = v * 2 + (1 - bitAt s m)) := hid (by rw [HW.out, ← HV.out])
              generalize bitAt s m = u at *
              go_wp2
              go_round
              case rel => exact ⟨m, v * 2 + (1 - u), by omega, rfl, by congr 1; omega, HY.out.symm⟩
              case measure => simp only [intOf]; omega

end Go.Proofs.Ytilocedppkmikaa
