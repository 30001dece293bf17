/-
  The law MsgTurns, walked.
-/
import Derived.Test.YtohffiehmmcgbaaGreatDoorZYFramesLaw
import Derived.Test.YtohffiehmmcgbaaGreatDoorZYArg
namespace Go.Proofs.YtohffiehmmcgbaaGreatDoor.msgTurns
open Go.ChangeShapes Go.WideShapes Go.ChangeAt Go.RowKit Go.Lib
set_option linter.unusedVariables false
set_option linter.unusedSimpArgs false

theorem mul_xor (k a b : Nat) : 2 ^ k * (a ^^^ b) = 2 ^ k * a ^^^ 2 ^ k * b := by
  simp only [Nat.mul_comm (2 ^ k), ← Nat.shiftLeft_eq, Nat.shiftLeft_xor_distrib]

theorem pow_lt8 {r : Nat} (h : r < 8) : 2 ^ r < 256 := Nat.pow_lt_pow_right (a := 2) (by decide) h

theorem set_byte {L : List Nat} (h : ∀ x ∈ L, x < 256) (q y : Nat) (hy : y < 256) : ∀ x ∈ L.set q y, x < 256 := fun x hx => by
  rcases List.mem_or_eq_of_mem_set hx with h1 | h1
  · exact h x h1
  · omega

/-- One bit turned. -/
theorem turn_num : ∀ (L : List Nat) (q r : Nat) (hq : q < L.length), r < 8 → (∀ x ∈ L, x < 256) → numLE (L.set q (L[q] ^^^ 2 ^ r)) = numLE L ^^^ 2 ^ (8 * q + r) := by
  intro L
  induction L with
  | nil => intro q r hq; simp at hq
  | cons c l ih =>
    intro q r hq hr hx
    have hc := hx c (by simp)
    cases q with
    | zero =>
      simp only [List.set_cons_zero, List.getElem_cons_zero]
      rw [numLE_cons _ (xor_lt8 hc (pow_lt8 hr)), numLE_cons _ hc, Nat.mul_zero, Nat.zero_add, Nat.xor_assoc, Nat.xor_comm (2 ^ r), ← Nat.xor_assoc]
    | succ q =>
      simp only [List.set_cons_succ, List.getElem_cons_succ]
      rw [numLE_cons _ hc, numLE_cons _ hc, ih q r (by simpa using hq) hr (fun x h => hx x (by simp [h])), mul_xor, ← Nat.xor_assoc, ← Nat.pow_add, show 8 + (8 * q + r) = 8 * (q + 1) + r by omega]

/-- Of two sealed texts of one length, a row of at most 32 bits cannot be all in which they differ. -/
theorem sealed_far {p p' t' : List Nat} {N at_ m : Nat} (xp : ∀ x ∈ p, x < 256) (xp' : ∀ x ∈ p', x < 256) (hl : p.length = N) (hl' : p'.length = N) (hat : at_ ≤ 8 * (N + 4)) (hm : m < 4294967296) (h0 : m ≠ 0)
    (hd : numLE (p' ++ t') = numLE (sealed p) ^^^ 2 ^ at_ * m) (ht : t' = le4 (crcOf p')) : False := by
  have key : ∀ q : List Nat, (∀ x ∈ q, x < 256) → q.length = N → crcRounds (8 * (N + 4)) (4294967295 ^^^ numLE (sealed q)) = crcRounds 32 4294967295 := by
    intro q xq hq
    have h1 := crcFold_num 4294967295 (sealed_byte xq)
    rw [sealed_len, hq] at h1
    rw [← h1]
    unfold sealed
    rw [crcFold_append, crcFold_num _ (le4_byte _), numLE_le4 (crcOf_lt q), le4_len, crcOf_xor xq, ← Nat.xor_assoc, Nat.xor_comm (crcFold 4294967295 q), Nat.xor_assoc, Nat.xor_self, Nat.xor_zero]
  have k1 := key p xp hl
  have k2 := key p' xp' hl'
  have e : sealed p' = p' ++ t' := by rw [ht]; rfl
  rw [e, hd, ← Nat.xor_assoc, crcRounds_xor _ (4294967295 ^^^ numLE (sealed p)), k1] at k2
  have h3 : crcRounds (8 * (N + 4)) (2 ^ at_ * m) = 0 := by
    have h4 := congrArg (fun z => crcRounds 32 4294967295 ^^^ z) k2
    simpa only [← Nat.xor_assoc, Nat.xor_self, Nat.zero_xor] using h4
  exact crcRounds_burst hat hm h0 h3

/-- What the loop holds: which bits were turned so far, as one number. -/
def TurnRel (l : List Nat) (n g c at_ : Nat) (w : World) (tv iv : Value) (wr : World) : Prop :=
  ∃ (i m : Nat) (L : List Nat), i ≤ 32 ∧ iv = .int .i64 (i : Int) ∧ L.length = n + 4 ∧ (∀ x ∈ L, x < 256) ∧ m < 2 ^ i ∧ numLE L = numLE (sealed l) ^^^ 2 ^ at_ * m ∧ (m = 0 → L = sealed l) ∧ tv = .bool (m != 0) ∧
    wr.ownsRow w.heap.size 5 1 (.slice (some ⟨g, 0, none⟩) (n + 4) c) (n + 4) (L.map bv) ∧ Below w.heap.size w wr

theorem turn_step {l L : List Nat} {n g c at_ i m q r : Nat} {w wr : World} {x : Int} (hi : i < 32) (hgb : w.heap.size ≤ g) (hL : L.length = n + 4) (hx : ∀ x ∈ L, x < 256) (hm : m < 2 ^ i) (hd : numLE L = numLE (sealed l) ^^^ 2 ^ at_ * m) (h0 : m = 0 → L = sealed l)
    (hown : wr.ownsRow w.heap.size 5 1 (.slice (some ⟨g, 0, none⟩) (n + 4) c) (n + 4) (L.map bv)) (hb : Below w.heap.size w wr) (hq : q < n + 4) (hr : r < 8) (hk : at_ + i = 8 * q + r) (hxx : x = ((L[q]'(by omega) ^^^ 2 ^ r : Nat) : Int)) :
    TurnRel l n g c at_ w (.bool true) (.int .i64 ((i : Int) + 1)) (wr.setCell ⟨g, q, none⟩ (.int .u8 x)) := by
  subst hxx
  have hy : L[q]'(by omega) ^^^ 2 ^ r < 256 := xor_lt8 (hx _ (take_one _)) (pow_lt8 hr)
  have hp : 2 ^ (i + 1) = 2 ^ i + 2 ^ i := by rw [Nat.pow_succ]; omega
  refine ⟨i + 1, m + 2 ^ i, L.set q (L[q]'(by omega) ^^^ 2 ^ r), hi, by go_num, by rw [List.length_set]; exact hL, set_byte hx q _ hy, by omega, ?_, fun h => absurd h (by have := Nat.two_pow_pos i; omega), ?_, ?_, hb.setCell (by exact hgb) _⟩
  · rw [turn_num L q r (by omega) hr hx, hd, ← hk, Nat.xor_assoc]
    congr 1
    have e := add_xor i (1 : Nat) hm
    rw [Nat.mul_one] at e
    rw [e, mul_xor, Nat.pow_add]
  · simp
  · have hs := (hown.stored q (bv (L[q]'(by omega) ^^^ 2 ^ r))).1
    rw [← List.map_set] at hs
    exact hs

theorem turn_same {l L : List Nat} {n g c at_ i m : Nat} {w wr : World} (hi : i < 32) (hL : L.length = n + 4) (hx : ∀ x ∈ L, x < 256) (hm : m < 2 ^ i) (hd : numLE L = numLE (sealed l) ^^^ 2 ^ at_ * m) (h0 : m = 0 → L = sealed l)
    (hown : wr.ownsRow w.heap.size 5 1 (.slice (some ⟨g, 0, none⟩) (n + 4) c) (n + 4) (L.map bv)) (hb : Below w.heap.size w wr) :
    TurnRel l n g c at_ w (.bool (m != 0)) (.int .i64 ((i : Int) + 1)) wr := by
  have hp : 2 ^ (i + 1) = 2 ^ i + 2 ^ i := by rw [Nat.pow_succ]; omega
  exact ⟨i + 1, m, L, hi, by go_num, hL, hx, by omega, hd, h0, rfl, hown, hb⟩

theorem turn_walk (y r : Nat) (hy : y < 256) (hr : r < 8) : bits BinOp.xor IntKind.u8 (y : Int) ((2 : Int) ^ r % 256) = ((y ^^^ 2 ^ r : Nat) : Int) := by
  have hp := pow_lt8 hr
  have e : (2 : Int) ^ r % 256 = ((2 ^ r : Nat) : Int) := by
    have e0 : (2 : Int) ^ r = ((2 ^ r : Nat) : Int) := by simp
    rw [e0]
    generalize (2 : Nat) ^ r = z at *
    omega
  rw [e]
  exact u8_xor_nat y (2 ^ r) hy hp


set_option maxRecDepth 100000 in
set_option maxHeartbeats 8000000 in
theorem walk (m : Ms) (a b : Int) (hok : okM m) (wa : (Lit.int .i64 a).wf = true) (wb : (Lit.int .u32 b).wf = true) (w : World) (hP : PartsIs w) :
    Calls Tryz.prog 7 #[.agg (rowM m), .int .i64 a, .int .u32 b] w fun e w' => e = .returned (.bool true) ∧ Below w.heap.size w w' := by
  obtain ⟨sx, hsx⟩ : ∃ a, smallM m = a := ⟨_, rfl⟩
  obtain ⟨rx, hrx⟩ : ∃ a, rightM m = a := ⟨_, rfl⟩
  have SX := hid hsx
  have RX := hid hrx
  have HO := hid hok
  have HP := hid hP
  have WB := hid (u32_of wb)
  have L1 := hid (len_msg m)
  have L3 := hid (rowM_one m)
  clear hsx hrx hok hP wa wb
  go_enter Tryz.func7, Tryz.ntmps7
  go_upto_region 1 with fail
  obtain ⟨W, hW⟩ : ∃ W, w.alloc (.cells (rowM m) 64) = W := ⟨_, rfl⟩
  rw [hW]
  obtain ⟨K0, KB⟩ := one_new hW
  have PW := hid (HP.out.below KB.out)
  clear hW HP
  obtain ⟨k, hk⟩ : ∃ k, w.heap.size = k := ⟨_, rfl⟩
  rw [hk] at K0 KB
  rw [hk]
  have A0 : Hid (OneM w k W m) := hid ⟨K0.out, KB.out, PW.out⟩
  have HK := hid hk
  clear hk K0 KB PW
  go_wp2_with fail
  with_reducible refine (anchor11 _ A0.out.parts).mono ?_
  rintro e w1 ⟨rfl, hb⟩
  have A1 := hid (A0.out.on hb)
  clear hb A0
  go_wp2_with (with_reducible refine wpList_load_row (o := ⟨some 15, _, _, _, _, _⟩) rfl 64 (.tmp 3) rfl k rfl 64 (rowM m) (0, 0) _ A1.out.blk.heap Tryz.underlying64 rfl L1.out ?_)
  with_reducible refine (small11 m _).mono ?_
  rw [SX.out]
  rintro e w2 ⟨rfl, hb⟩
  have A2 := hid (A1.out.on hb)
  clear hb A1
  cases sx
  · go_wp2
    go_ret
    exact ⟨rfl, by rw [HK.out]; exact A2.out.bel⟩
  have hsf := smallM_in SX.out
  have HF := hid (show m.x.c.foot.size ≤ 4611686018427387903 by omega)
  have HQ := hid (show m.x.c.path.size ≤ 4611686018427387903 by omega)
  go_wp2_with (with_reducible refine wpList_load_rowg (o := ⟨some 19, _, _, _, _, _⟩) (by kernel_rfl) 64 (.tmp 3) rfl k rfl 64 (rowM m) (0, 0) _ A2.out.blk.heap Tryz.underlying64 rfl L1.out ?_)
  with_reducible refine (of11 m _).mono ?_
  rintro e w3 ⟨rfl, hb⟩
  have A3 := hid (A2.out.on hb)
  clear hb A2
  go_wp2_with fail
  with_reducible refine (refmright_any m HO.out _ (by omega) (by omega)).mono ?_
  rw [RX.out]
  rintro e w4 ⟨rfl, hb⟩
  have A4 := hid (A3.out.on hb)
  clear hb A3 hsf
  cases rx
  · go_wp2
    go_ret
    exact ⟨rfl, by rw [HK.out]; exact A4.out.bel⟩
  obtain ⟨n, hn⟩ : ∃ n, (encM m).length = n := ⟨_, rfl⟩
  have hlen := encM_len m HO.out RX.out
  have hnl : n ≤ 440 := by omega
  have HN := hid hn
  have H8 := hid (encM_byte m HO.out RX.out)
  clear hn hlen
  go_wp2_with (with_reducible refine wpList_load_row (o := ⟨some 24, _, _, _, _, _⟩) rfl 64 (.tmp 3) rfl k rfl 64 (rowM m) (0, 0) _ A4.out.blk.heap Tryz.underlying64 rfl L1.out ?_)
  with_reducible refine (frame_any m _ A4.out.parts HO.out RX.out n HN.out HF.out HQ.out).mono ?_
  rintro e w5 ⟨g, c, rfl, hg, hc, hown, hb⟩
  have A5 := hid (A4.out.on hb)
  have HO5 := hid hown
  have H5 := hid hb
  clear hown hb
  have H1 := hid A4.out.bel
  have P4 := hid A4.out.parts
  have hk4 : k ≤ w4.heap.size := by have := A4.out.blk.lt; omega
  rcases Int.lt_or_le a 0 with ha | ha
  · clear HO5
    go_wp2
    go_ret
    exact ⟨rfl, by rw [HK.out]; exact A5.out.bel⟩
  have ha' : ¬ a < 0 := by omega
  rcases Int.lt_or_le a (((n : Int) + 4) * 8) with hin | hout
  · obtain ⟨at_, rfl⟩ := Int.eq_ofNat_of_zero_le ha
    have hin' : at_ < (n + 4) * 8 := by omega
    clear ha hin A4 A5
    go_wp2_with fail
    go_loopw [8, 35] (fun tv iv wr => TurnRel (encM m) n g c at_ w4 tv iv wr) (fun _ iv _ => 32 - (RowKit.intOf iv).toNat)
    case atStart => exact ⟨0, 0, sealed (encM m), by omega, rfl, by rw [sealed_len, HN.out], sealed_byte H8.out, by decide, by simp, fun _ => rfl, rfl, HO5.out, H5.out⟩
    case round =>
      obtain ⟨i, mm, L, hi, rfl, hlen, hx, hm, hd, hz, rfl, hown, hbel⟩ := hrel
      by_cases h32 : i < 32
      · have HS := hid (turn_same h32 hlen hx hm hd hz hown hbel)
        obtain ⟨kk, hkk⟩ : ∃ kk, kk = at_ + i := ⟨_, rfl⟩
        have e1 : (at_ : Int) + (i : Int) = (kk : Int) := by omega
        have hki : kk ≤ 4000 := by omega
        by_cases hk8 : kk < (n + 4) * 8
        · obtain ⟨q, r, hr, hqr⟩ : ∃ q r, r < 8 ∧ kk = 8 * q + r := ⟨kk / 8, kk % 8, by omega, by omega⟩
          have hq : q < n + 4 := by omega
          have e2 : (kk : Int) / 8 = (q : Int) := by omega
          have e3 : (kk : Int) % 8 = (r : Int) := by omega
          have hcell : wr.cell? ⟨g, q, none⟩ = some (.int .u8 ((L[q]'(by omega) : Nat) : Int)) := (hown.cellAt q (by omega)).trans (by rw [List.getElem?_map, List.getElem?_eq_getElem (by omega)]; rfl)
          have hf := hown.frozenAt q
          have HJ := hid (fun (x : Int) => turn_step (x := x) h32 hg hlen hx hm hd hz hown hbel hq hr (by omega))
          have HY := hid (hx _ (take_one (show q < L.length by omega)))
          have HM := hid hm
          clear hown hm hd hx hz hkk hqr
          generalize L[q]'(by omega) = y at *
          go_wp2_with fail
          · go_roundw
            case rel => exact HJ.out _ (turn_walk y r HY.out hr)
            case measure => simp only [RowKit.intOf]; omega
          · go_roundw
            case rel => exact HS.out
            case measure => simp only [RowKit.intOf]; omega
        · have hk9 : (n + 4) * 8 ≤ at_ + i := by omega
          clear hown e1 hk8 hkk
          go_wp2_with fail
          go_roundw
          case rel => exact HS.out
          case measure => simp only [RowKit.intOf]; omega
      · obtain rfl : i = 32 := by omega
        obtain ⟨p, t, rfl, hpl, htl⟩ : ∃ p t, L = p ++ t ∧ p.length = n ∧ t.length = 4 := ⟨L.take n, L.drop n, (List.take_append_drop n L).symm, by rw [List.length_take]; omega, by rw [List.length_drop]; omega⟩
        have xp : ∀ x ∈ p, x < 256 := fun x h => hx x (List.mem_append_left _ h)
        have xt : ∀ x ∈ t, x < 256 := fun x h => hx x (List.mem_append_right _ h)
        have HS := hid (Sees.of_own hown)
        have H9 := hid (below_pay H1.out hk4 hbel)
        have P9 := hid (P4.out.below hbel)
        have XP := hid xp
        have XT := hid xt
        have HPL := hid hpl
        have HTL := hid htl
        by_cases ht : t = le4 (crcOf p)
        · have hm0 : mm = 0 := by
            refine Classical.byContradiction fun h0 => ?_
            exact sealed_far H8.out xp HN.out hpl (by omega) hm h0 hd ht
          subst hm0
          have HZ := hid (hz rfl)
          have HS2 : Hid (Sees .u8 wr (some ⟨g, 0, none⟩) (sealed (encM m))) := hid (by rw [← HZ.out]; exact HS.out)
          clear hown hd hx hlen ht xp xt hpl htl hm hz
          go_wp2_with fail
          with_reducible refine (mopen_ok g 0 m n c wr P9.out HO.out RX.out HN.out (by omega) HS2.out HF.out HQ.out).mono ?_
          rintro e w6 ⟨rfl, hb⟩
          have hkr : k ≤ wr.heap.size := by rw [← HK.out]; exact H9.out.size
          have B6 := hid (below_pay H9.out hkr hb)
          have hk6 : k ≤ w6.heap.size := by rw [← HK.out]; exact B6.out.size
          clear hb
          obtain ⟨q, hq⟩ : ∃ q, w6.heap.size = q := ⟨_, rfl⟩
          have E0 : Hid (Blk (w6.alloc (.cells zrowM 64)) q 64 zrowM) := hid (by rw [← hq]; exact Blk.new w6 64 zrowM)
          have B7 : Hid (Below k w ((w6.alloc (.cells zrowM 64)).setRow q (rowM m))) := hid (below_setRow_ (B6.out.trans ((Below.refl _ w6).alloc hk6 _)) (by omega))
          go_wp2_with (refine wpList_store_row (o := ⟨none, _, _, _, _, _⟩) rfl 64 (.tmp 11) (.tmp 69) rfl q (rowM m) rfl rfl 64 zrowM E0.out.heap L1.out rfl L3.out ?_)
          go_ret
          exact ⟨rfl, by rw [HK.out]; exact B7.out⟩
        · have HE := hid ht
          clear hown hd hx hlen ht xp xt hpl htl hm hz
          go_wp2_with fail
          with_reducible refine (mopen_no g 0 p t n c wr HPL.out HTL.out (by omega) (by omega) XP.out HS.out XT.out HE.out).mono ?_
          rintro e w6 ⟨rfl, hb⟩
          have hkr : k ≤ wr.heap.size := by rw [← HK.out]; exact H9.out.size
          have B6 := hid (below_pay H9.out hkr hb)
          have hk6 : k ≤ w6.heap.size := by rw [← HK.out]; exact B6.out.size
          clear hb
          obtain ⟨q, hq⟩ : ∃ q, w6.heap.size = q := ⟨_, rfl⟩
          have E0 : Hid (Blk (w6.alloc (.cells zrowM 64)) q 64 zrowM) := hid (by rw [← hq]; exact Blk.new w6 64 zrowM)
          have Z1 := hid (len_msg zeroM)
          have Z3 := hid (rowM_one zeroM)
          have B7 : Hid (Below k w ((w6.alloc (.cells zrowM 64)).setRow q (rowM zeroM))) := hid (below_setRow_ (B6.out.trans ((Below.refl _ w6).alloc hk6 _)) (by omega))
          go_wp2_with (refine wpList_store_row (o := ⟨none, _, _, _, _, _⟩) rfl 64 (.tmp 11) (.tmp 69) rfl q (rowM zeroM) rfl rfl 64 zrowM E0.out.heap Z1.out rfl Z3.out ?_)
          go_ret
          exact ⟨rfl, by rw [HK.out]; exact B7.out⟩
  · have hout' : ¬ a < ((n : Int) + 4) * 8 := by omega
    clear HO5
    go_wp2
    go_ret
    exact ⟨rfl, by rw [HK.out]; exact A5.out.bel⟩

end Go.Proofs.YtohffiehmmcgbaaGreatDoor.msgTurns
