/-
  SumTurns: a sealed text of which any of 32 bits in a row were turned, at least one, isn't opened. No condition.
-/
import Derived.Test.YtbkfdgbchigapaaOpen
namespace Go.Proofs.Ytbkfdgbchigapaa.sumTurns
open Go.ChangeShapes Go.WideShapes Go.ChangeAt Go.RowKit
set_option linter.unusedVariables false

theorem own : ownKnob Try.prog.godebug = none := by kernel_rfl
theorem laidOut : laidOutB Try.prog = true := by kernel_rfl
theorem bytes_u8 : Try.prog.bytesOf 5 = 1 := by kernel_rfl
theorem cells_u8 : Try.prog.cellsOf 5 = 1 := by kernel_rfl

theorem mul_xor (k a b : Nat) : 2 ^ k * (a ^^^ b) = 2 ^ k * a ^^^ 2 ^ k * b := by
  simp only [Nat.mul_comm (2 ^ k), ← Nat.shiftLeft_eq, Nat.shiftLeft_xor_distrib]

theorem pow_lt8 {r : Nat} (h : r < 8) : 2 ^ r < 256 := Nat.pow_lt_pow_right (a := 2) (by decide) h

theorem set_byte {L : List Nat} (h : ∀ x ∈ L, x < 256) (q y : Nat) (hy : y < 256) : ∀ x ∈ L.set q y, x < 256 := fun x hx => by
  rcases List.mem_or_eq_of_mem_set hx with h1 | h1
  · exact h x h1
  · omega

theorem u32_pos (n : Int) (h : (Lit.int .u32 n).wf = true) : 0 ≤ n := by
  have h1 : IntKind.u32.min = 0 := rfl
  simp only [Lit.wf, Bool.and_eq_true, decide_eq_true_eq] at h
  omega
theorem u32_lt (n : Int) (h : (Lit.int .u32 n).wf = true) : n ≤ 4294967295 := by
  have h1 : IntKind.u32.max = 4294967295 := rfl
  simp only [Lit.wf, Bool.and_eq_true, decide_eq_true_eq] at h
  omega

/-- One bit turned. -/
theorem turn_num : ∀ (L : List Nat) (q r : Nat) (hq : q < L.length), r < 8 → (∀ x ∈ L, x < 256) → numLE (L.set q (L[q] ^^^ 2 ^ r)) = numLE L ^^^ 2 ^ (8 * q + r) := by
  intro L
  induction L with
  | nil => intro q r hq; simp at hq
  | cons c l ih =>
    intro q r hq hr hx
    have hc := hx c (by simp)
    cases q with
    | zero =>
      simp only [List.set_cons_zero, List.getElem_cons_zero]
      rw [numLE_cons _ (xor_lt8 hc (pow_lt8 hr)), numLE_cons _ hc, Nat.mul_zero, Nat.zero_add, Nat.xor_assoc, Nat.xor_comm (2 ^ r), ← Nat.xor_assoc]
    | succ q =>
      simp only [List.set_cons_succ, List.getElem_cons_succ]
      rw [numLE_cons _ hc, numLE_cons _ hc, ih q r (by simpa using hq) hr (fun x h => hx x (by simp [h])), mul_xor, ← Nat.xor_assoc, ← Nat.pow_add, show 8 + (8 * q + r) = 8 * (q + 1) + r by omega]

/-- Of two sealed texts of one length, a row of at most 32 bits cannot be all in which they differ. -/
theorem sealed_far {p p' t' : List Nat} {N at_ m : Nat} (xp : ∀ x ∈ p, x < 256) (xp' : ∀ x ∈ p', x < 256) (hl : p.length = N) (hl' : p'.length = N) (hat : at_ ≤ 8 * (N + 4)) (hm : m < 4294967296) (h0 : m ≠ 0)
    (hd : numLE (p' ++ t') = numLE (sealed p) ^^^ 2 ^ at_ * m) (ht : t' = le4 (crcOf p')) : False := by
  have key : ∀ q : List Nat, (∀ x ∈ q, x < 256) → q.length = N → crcRounds (8 * (N + 4)) (4294967295 ^^^ numLE (sealed q)) = crcRounds 32 4294967295 := by
    intro q xq hq
    have h1 := crcFold_num 4294967295 (sealed_byte xq)
    rw [sealed_len, hq] at h1
    rw [← h1]
    unfold sealed
    rw [crcFold_append, crcFold_num _ (le4_byte _), numLE_le4 (crcOf_lt q), le4_len, crcOf_xor xq, ← Nat.xor_assoc, Nat.xor_comm (crcFold 4294967295 q), Nat.xor_assoc, Nat.xor_self, Nat.xor_zero]
  have k1 := key p xp hl
  have k2 := key p' xp' hl'
  have e : sealed p' = p' ++ t' := by rw [ht]; rfl
  rw [e, hd, ← Nat.xor_assoc, crcRounds_xor _ (4294967295 ^^^ numLE (sealed p)), k1] at k2
  have h3 : crcRounds (8 * (N + 4)) (2 ^ at_ * m) = 0 := by
    have h4 := congrArg (fun z => crcRounds 32 4294967295 ^^^ z) k2
    simpa only [← Nat.xor_assoc, Nat.xor_self, Nat.zero_xor] using h4
  exact crcRounds_burst hat hm h0 h3

/-- What the loop holds: which bits were turned so far, as one number. -/
def TurnRel (l : List Nat) (n g c at_ : Nat) (w : World) (tv iv : Value) (wr : World) : Prop :=
  ∃ (i m : Nat) (L : List Nat), i ≤ 32 ∧ iv = .int .i64 (i : Int) ∧ L.length = n + 4 ∧ (∀ x ∈ L, x < 256) ∧ m < 2 ^ i ∧ numLE L = numLE (sealed l) ^^^ 2 ^ at_ * m ∧ tv = .bool (m != 0) ∧
    wr.ownsRow w.heap.size 5 1 (.slice (some ⟨g, 0, none⟩) (n + 4) c) (n + 4) (L.map bv) ∧ Below w.heap.size w wr

theorem turn_step {l L : List Nat} {n g c at_ i m q r : Nat} {w wr : World} {x : Int} (hi : i < 32) (hgb : w.heap.size ≤ g) (hL : L.length = n + 4) (hx : ∀ x ∈ L, x < 256) (hm : m < 2 ^ i) (hd : numLE L = numLE (sealed l) ^^^ 2 ^ at_ * m)
    (hown : wr.ownsRow w.heap.size 5 1 (.slice (some ⟨g, 0, none⟩) (n + 4) c) (n + 4) (L.map bv)) (hb : Below w.heap.size w wr) (hq : q < n + 4) (hr : r < 8) (hk : at_ + i = 8 * q + r) (hxx : x = ((L[q]'(by omega) ^^^ 2 ^ r : Nat) : Int)) :
    TurnRel l n g c at_ w (.bool true) (.int .i64 ((i : Int) + 1)) (wr.setCell ⟨g, q, none⟩ (.int .u8 x)) := by
  subst hxx
  have hy : L[q]'(by omega) ^^^ 2 ^ r < 256 := xor_lt8 (hx _ (take_one _)) (pow_lt8 hr)
  have hp : 2 ^ (i + 1) = 2 ^ i + 2 ^ i := by rw [Nat.pow_succ]; omega
  refine ⟨i + 1, m + 2 ^ i, L.set q (L[q]'(by omega) ^^^ 2 ^ r), hi, by go_num, by rw [List.length_set]; exact hL, set_byte hx q _ hy, by omega, ?_, ?_, ?_, hb.setCell (by exact hgb) _⟩
  · rw [turn_num L q r (by omega) hr hx, hd, ← hk, Nat.xor_assoc]
    congr 1
    have e := add_xor i (1 : Nat) hm
    rw [Nat.mul_one] at e
    rw [e, mul_xor, Nat.pow_add]
  · simp
  · have hs := (hown.stored q (bv (L[q]'(by omega) ^^^ 2 ^ r))).1
    rw [← List.map_set] at hs
    exact hs

theorem turn_same {l L : List Nat} {n g c at_ i m : Nat} {w wr : World} (hi : i < 32) (hL : L.length = n + 4) (hx : ∀ x ∈ L, x < 256) (hm : m < 2 ^ i) (hd : numLE L = numLE (sealed l) ^^^ 2 ^ at_ * m)
    (hown : wr.ownsRow w.heap.size 5 1 (.slice (some ⟨g, 0, none⟩) (n + 4) c) (n + 4) (L.map bv)) (hb : Below w.heap.size w wr) :
    TurnRel l n g c at_ w (.bool (m != 0)) (.int .i64 ((i : Int) + 1)) wr := by
  have hp : 2 ^ (i + 1) = 2 ^ i + 2 ^ i := by rw [Nat.pow_succ]; omega
  exact ⟨i + 1, m, L, hi, by go_num, hL, hx, by omega, hd, rfl, hown, hb⟩

theorem turn_walk (y r : Nat) (hy : y < 256) (hr : r < 8) : bits BinOp.xor IntKind.u8 (y : Int) ((2 : Int) ^ r % 256) = ((y ^^^ 2 ^ r : Nat) : Int) := by
  have hp := pow_lt8 hr
  have e : (2 : Int) ^ r % 256 = ((2 ^ r : Nat) : Int) := by
    have e0 : (2 : Int) ^ r = ((2 ^ r : Nat) : Int) := by simp
    rw [e0]
    generalize (2 : Nat) ^ r = z at *
    omega
  rw [e]
  exact u8_xor_nat y (2 ^ r) hy hp

/-- What Seal hands back, as one who writes into it reads it. -/
theorem seal_owns (A : Option Addr) (l : List Nat) (n c : Nat) (w : World) (hn : l.length = n) (hl : n ≤ 140737488351232) (hA0 : A = none → c = 0) (h8 : ∀ x ∈ l, x < 256) (hA : Sees .u8 w A l) :
    Calls Try.prog 11 #[.slice A n c] w fun e w' => ∃ g cap, e = .returned (.slice (some ⟨g, 0, none⟩) (n + 4) cap) ∧ w.heap.size ≤ g ∧ n + 4 ≤ cap ∧ w'.ownsRow w.heap.size 5 1 (.slice (some ⟨g, 0, none⟩) (n + 4) cap) (n + 4) ((sealed l).map bv) ∧ Below w.heap.size w w' := by
  refine (seal_any A l n c w hn hl hA0 h8 hA).mono ?_
  rintro e w' ⟨s, rfl, hown, hb⟩
  have hlen := sealed_len l
  rw [hn] at hlen
  rw [hlen] at hown
  rcases hown.2 with ⟨rfl, h0⟩ | ⟨g, cap, cur, rfl, hg, _, hc, _⟩
  · omega
  · exact ⟨g, cap, rfl, hg, hc, hown, hb⟩

set_option maxRecDepth 100000 in
set_option maxHeartbeats 400000 in
theorem walk_long (A : Option Addr) (n ca : Nat) (a b : Int) (w : World) (hn : 400 < n) :
    Calls Try.prog 5 #[.slice A n ca, .int .i64 a, .int .u32 b] w fun e w' => e = .returned (.bool true) ∧ Below w.heap.size w w' := by
  go_enter Try.func5, Try.ntmps5
  go_wp2_with (go_at_call 8; refine (anchor_any _).mono ?_; rintro e w1 ⟨rfl, hw1⟩)
  go_ret
  exact ⟨rfl, hw1⟩

set_option maxRecDepth 100000 in
set_option maxHeartbeats 400000 in
theorem walk_none (A : Option Addr) (n ca : Nat) (a : Int) (w : World) (hn : n ≤ 400) :
    Calls Try.prog 5 #[.slice A n ca, .int .i64 a, .int .u32 0] w fun e w' => e = .returned (.bool true) ∧ Below w.heap.size w w' := by
  go_enter Try.func5, Try.ntmps5
  go_wp2_with (go_at_call 8; refine (anchor_any _).mono ?_; rintro e w1 ⟨rfl, hw1⟩)
  go_ret
  exact ⟨rfl, hw1⟩

set_option maxRecDepth 100000 in
set_option maxHeartbeats 400000 in
theorem walk_out (A : Option Addr) (l : List Nat) (n ca : Nat) (a b : Int) (w : World) (hln : l.length = n) (hn : A = none → ca = 0) (hl : n ≤ 400) (hb : b ≠ 0) (hout : a < 0 ∨ (n : Int) * 8 + 32 ≤ a) (h8 : ∀ x ∈ l, x < 256) (hA : Sees .u8 w A l) :
    Calls Try.prog 5 #[.slice A n ca, .int .i64 a, .int .u32 b] w fun e w' => e = .returned (.bool true) ∧ Below w.heap.size w w' := by
  have HA := hid hA
  have H8 := hid h8
  have HN := hid hn
  have HL := hid hln
  have hb0 : (b == 0) = false := by simpa using hb
  clear hA h8 hn hln hb
  rcases hout with h | h
  · go_enter Try.func5, Try.ntmps5
    go_wp2_with (first
      | (go_at_call 8; refine (anchor_any _).mono ?_; rintro e w1 ⟨rfl, hw1⟩; have H1 := hid hw1; clear hw1)
      | (go_at_call 11; ((with_reducible refine (seal_owns A l n ca _ HL.out (by omega) HN.out H8.out (HA.out.below H1.out)).mono ?_); rintro e w2 ⟨g, c, rfl, hg, hc, hown, hb⟩; have H2 := hid (below_on H1.out hb); clear hown hb)))
    go_ret
    exact ⟨rfl, H2.out⟩
  · have h' : ¬ a < 0 := by omega
    go_enter Try.func5, Try.ntmps5
    go_wp2_with (first
      | (go_at_call 8; refine (anchor_any _).mono ?_; rintro e w1 ⟨rfl, hw1⟩; have H1 := hid hw1; clear hw1)
      | (go_at_call 11; ((with_reducible refine (seal_owns A l n ca _ HL.out (by omega) HN.out H8.out (HA.out.below H1.out)).mono ?_); rintro e w2 ⟨g, c, rfl, hg, hc, hown, hb⟩; have H2 := hid (below_on H1.out hb); clear hown hb)))
    go_ret
    exact ⟨rfl, H2.out⟩

set_option maxRecDepth 100000 in
set_option maxHeartbeats 1000000 in
theorem walk_mid (A : Option Addr) (l : List Nat) (n ca a b : Nat) (w : World) (hln : l.length = n) (hn : A = none → ca = 0) (hl : n ≤ 400) (hb : b ≠ 0) (hb32 : b < 4294967296) (hin : a < (n + 4) * 8) (h8 : ∀ x ∈ l, x < 256) (hA : Sees .u8 w A l) :
    Calls Try.prog 5 #[.slice A n ca, .int .i64 a, .int .u32 b] w fun e w' => e = .returned (.bool true) ∧ Below w.heap.size w w' := by
  have HA := hid hA
  have H8 := hid h8
  have HN := hid hn
  have HL := hid hln
  have hb0 : ((b : Int) == 0) = false := by simp; omega
  clear hA h8 hn hln
  go_enter Try.func5, Try.ntmps5
  go_wp2_with (first
    | (go_at_call 8; refine (anchor_any _).mono ?_; rintro e w1 ⟨rfl, hw1⟩; have H1 := hid hw1; clear hw1)
    | (go_at_call 11; ((with_reducible refine (seal_owns A l n ca _ HL.out (by omega) HN.out H8.out (HA.out.below H1.out)).mono ?_); rintro e w2 ⟨g, c, rfl, hg, hc, hown, hb⟩; have HO := hid hown; have H2 := hid hb; clear hown hb)))
  go_loopw [8, 33] (fun tv iv wr => TurnRel l n g c a w1 tv iv wr) (fun _ iv _ => 32 - (intOf iv).toNat)
  case atStart => exact ⟨0, 0, sealed l, by omega, rfl, by rw [sealed_len, HL.out], sealed_byte H8.out, by decide, by simp, rfl, HO.out, H2.out⟩
  case round =>
    obtain ⟨i, m, L, hi, rfl, hlen, hx, hm, hd, rfl, hown, hbel⟩ := hrel
    by_cases h32 : i < 32
    · have HS := hid (turn_same h32 hlen hx hm hd hown hbel)
      obtain ⟨k, hk⟩ : ∃ k, k = a + i := ⟨_, rfl⟩
      have e1 : (a : Int) + (i : Int) = (k : Int) := by omega
      have hki : k ≤ 4000 := by omega
      by_cases hk8 : k < (n + 4) * 8
      · obtain ⟨q, r, hr, hqr⟩ : ∃ q r, r < 8 ∧ k = 8 * q + r := ⟨k / 8, k % 8, by omega, by omega⟩
        have hq : q < n + 4 := by omega
        have e2 : (k : Int) / 8 = (q : Int) := by omega
        have e3 : (k : Int) % 8 = (r : Int) := by omega
        have hcell : wr.cell? ⟨g, q, none⟩ = some (.int .u8 ((L[q]'(by omega) : Nat) : Int)) := (hown.cellAt q (by omega)).trans (by rw [List.getElem?_map, List.getElem?_eq_getElem (by omega)]; rfl)
        have hf := hown.frozenAt q
        have HJ := hid (fun (x : Int) => turn_step (x := x) h32 hg hlen hx hm hd hown hbel hq hr (by omega))
        have HY := hid (hx _ (take_one (show q < L.length by omega)))
        have HM := hid hm
        clear hown hm hd hx hk hqr
        generalize L[q]'(by omega) = y at *
        go_wp2_with fail
        · go_roundw
          case rel => exact HJ.out _ (turn_walk y r HY.out hr)
          case measure => simp only [intOf]; omega
        · go_roundw
          case rel => exact HS.out
          case measure => simp only [intOf]; omega
      · have hk9 : (n + 4) * 8 ≤ a + i := by omega
        clear hown e1 hk8 hk
        go_wp2_with fail
        go_roundw
        case rel => exact HS.out
        case measure => simp only [intOf]; omega
    · obtain rfl : i = 32 := by omega
      obtain ⟨p, t, rfl, hpl, htl⟩ : ∃ p t, L = p ++ t ∧ p.length = n ∧ t.length = 4 := ⟨L.take n, L.drop n, (List.take_append_drop n L).symm, by rw [List.length_take]; omega, by rw [List.length_drop]; omega⟩
      have xp : ∀ x ∈ p, x < 256 := fun x h => hx x (List.mem_append_left _ h)
      have xt : ∀ x ∈ t, x < 256 := fun x h => hx x (List.mem_append_right _ h)
      have HS := hid (Sees.of_own hown)
      have H9 := hid (below_on H1.out hbel)
      have XP := hid xp
      have XT := hid xt
      have HP := hid hpl
      have HT := hid htl
      by_cases ht : t = le4 (crcOf p)
      · have hm0 : m = 0 := by
          refine Classical.byContradiction fun h0 => ?_
          exact sealed_far H8.out xp HL.out hpl (by omega) hm h0 hd ht
        subst hm0
        have HE := hid ht
        clear hown hd hx hlen ht xp xt hpl htl hm
        go_wp2_with (go_at_call 12; ((with_reducible refine (open_ok g 0 p t n c wr HP.out HT.out (by omega) hc XP.out HS.out HE.out).mono ?_); rintro e w3 ⟨A3, c3, rfl, _, hs3, hb3⟩; have H3 := hid (below_on H9.out hb3); clear hs3 hb3))
        go_ret
        exact ⟨rfl, H3.out⟩
      · have HE := hid ht
        clear hown hd hx hlen ht xp xt hpl htl hm
        go_wp2_with (go_at_call 12; ((with_reducible refine (open_no g 0 p t n c wr HP.out HT.out (by omega) hc XP.out HS.out XT.out HE.out).mono ?_); rintro e w3 ⟨rfl, hb3⟩; have H3 := hid (below_on H9.out hb3); clear hb3))
        go_ret
        exact ⟨rfl, H3.out⟩

/-- The Go text returns true. -/
theorem walk (A : Option Addr) (l : List Nat) (ca : Nat) (a b : Int) (hn : A = none → ca = 0) (hl : l.length ≤ ca) (hm : ca ≤ maxLen) (hr : l.length * 1 ≤ 140737488351232) (h8 : ∀ x ∈ l, (Lit.int .u8 (x : Int)).wf = true) (wa : (Lit.int .i64 a).wf = true) (wb : (Lit.int .u32 b).wf = true) (w : World) (hA : Sees .u8 w A l) :
    Calls Try.prog 5 #[.slice A l.length ca, .int .i64 a, .int .u32 b] w fun e w' => e = .returned (.bool true) ∧ Below w.heap.size w w' := by
  have x8 : ∀ x ∈ l, x < 256 := fun x hx => by have := u8_lt _ (h8 x hx); omega
  have b0 := u32_pos b wb
  have b1 := u32_lt b wb
  by_cases hlong : 400 < l.length
  · exact walk_long A l.length ca a b w hlong
  · by_cases hb : b = 0
    · subst hb
      exact walk_none A l.length ca a w (by omega)
    · by_cases hin : 0 ≤ a ∧ a < ((l.length : Int) + 4) * 8
      · obtain ⟨n, rfl⟩ := Int.eq_ofNat_of_zero_le hin.1
        obtain ⟨m, rfl⟩ := Int.eq_ofNat_of_zero_le b0
        exact walk_mid A l l.length ca n m w rfl hn (by omega) (by omega) (by omega) (by omega) x8 hA
      · exact walk_out A l l.length ca a b w rfl hn (by omega) hb (by omega) x8 hA

set_option maxRecDepth 100000 in
theorem lifted (os : Os) (started : os.Started) (H : Type) (enc : TypeId × Value → H) :
    ReturnsInHanded {} Try.checked os 5 .any (Rows.sumTurnsSpec.pre6 enc Try.prog Try.f5 Rows.sumTurnsRow.domain false) (Rows.sumTurnsSpec.post enc Try.prog Try.f5 false true false false) := by
  refine returnsInHanded_of_change_sized (C := Try.checked) own started (by kernel_rfl) Try.func5
    (ChangeSpec.witness6 (enc := enc) (C := Try.checked) false ⟨#[], #[.slice none 0 0, .int .i64 0, .int .u32 0], []⟩ 8 (by kernel_rfl) (by kernel_rfl) (by kernel_rfl) (by kernel_rfl)) ?_
  intro W base args ds gs before hval0 hW _ hsz0 _
  have hsz : (DataW.weightsEach Try.prog (Try.f5.params.toList ++ Rows.sumTurnsSpec.plain.varTypes Try.prog) (ds ++ gs)).all (· ≤ reachBytes) = true := hsz0
  have hval : ∀ (j : Nat) t v, Try.f5.params[j]? = some t → args[j]? = some v → Value.okWide Try.prog W .any base t v := hval0
  have hW' := hW
  obtain ⟨p, q, hA0, hV, rfl, _, _⟩ := hW
  have hA : DataW.TrodAll enc Try.prog W 0 (fun _ => true) true Try.f5.params.toList args.toList ds p := hA0
  rw [Try.params5] at hA hval hsz
  have hlt : ∀ x ∈ p, x.block < W.heap.size := fun x hx => by simpa using hW'.lt x (List.mem_append_left _ hx)
  obtain ⟨v0, vs0, d0, ds0, p0, q0, hargs, rfl, rfl, g0, r0⟩ := trodAll_cons hA
  obtain ⟨v1, vs1, d1, ds1, p1, q1, rfl, rfl, rfl, g1, r1⟩ := trodAll_cons r0
  obtain ⟨v2, vs2, d2, ds2, p2, q2, rfl, rfl, rfl, g2, r2⟩ := trodAll_cons r1
  obtain ⟨rfl, rfl, rfl⟩ := trodAll_nil r2
  obtain rfl : args = #[v0, v1, v2] := by cases args; simp_all
  obtain ⟨rfl, rfl⟩ := trodVars_none hV
  obtain ⟨A0, c0, l0, rfl, hn0, hl0, hm0, hs0, hw0, hd0⟩ := open_nums Try.underlying22 Try.underlying5 cells_u8 u8_pos (hval 0 22 v0 rfl rfl) g0 (fun x hx => hlt x <| List.mem_append_left _ hx)
  have hr0 : l0.length * 1 ≤ 140737488351232 := by
    rcases hd0 with rfl | ⟨es, sp, hd, hlen⟩
    · simp
    · have := sized_slice hsz (j := 0) (t := 22) (e := 5) rfl (by rw [hd]; rfl) Try.underlying22
      rw [bytes_u8] at this
      simp only [reachBytes] at this
      omega
  obtain ⟨a1, rfl, rfl, rfl, w1⟩ := open_int Try.underlying3 (hval 1 3 v1 rfl rfl) g1
  obtain ⟨a2, rfl, rfl, rfl, w2⟩ := open_int Try.underlying24 (hval 2 24 v2 rfl rfl) g2
  refine (walk A0 l0 c0 a1 a2 hn0 hl0 hm0 hr0 hw0 w1 w2 W hs0).mono fun e W' ⟨he, hg⟩ => ?_
  subst he
  exact ⟨_, rfl, law_post laidOut hW' (by kernel_rfl) rfl rfl Try.underlying4 rfl hg⟩

theorem proved : Rows.SumTurnsSaid :=
  OpenClaim.holds_of_wide 5 Try.f5 rfl rfl rfl rfl rfl rfl rfl ⟨rfl, rfl, rfl, rfl, rfl⟩ rfl rfl rfl rfl rfl (by kernel_rfl) Try.func5 (by kernel_rfl)
    (of_decide_eq_true (by kernel_rfl)) (by unfold Func.isWrapper; first | (rw [if_pos (by decide +kernel)]; kernel_rfl) | (rw [if_neg (by decide +kernel)]; exact ⟨rfl, rfl⟩))
    (fun os started H enc _ => lifted os started H enc)
#print axioms proved

end Go.Proofs.Ytbkfdgbchigapaa.sumTurns
