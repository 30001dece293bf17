/-
  Spoil: a frame taken with a bit turned.
-/
import Derived.Test.YtljnboimadhkoaaNtTake
namespace Go.Proofs.Ytljnboimadhkoaa
open Go.ChangeShapes Go.WideShapes Go.ChangeAt Go.RowKit
set_option linter.unusedVariables false
set_option linter.unusedSimpArgs false

/-- A bit turned, if there is such a byte. -/
def turnL (d : List Nat) (bit : Int) : List Nat := if 0 ≤ bit ∧ bit / 8 < d.length then d.set (bit / 8).toNat (d.getD (bit / 8).toNat 0 ^^^ 2 ^ (bit % 8).toNat) else d
theorem pow_lt8N {r : Nat} (h : r < 8) : 2 ^ r < 256 := Nat.pow_lt_pow_right (a := 2) (by decide) h
theorem turn_walkN (y r : Nat) (hy : y < 256) (hr : r < 8) : bits BinOp.xor IntKind.u8 (y : Int) ((2 : Int) ^ r % 256) = ((y ^^^ 2 ^ r : Nat) : Int) := by
  have hp := pow_lt8N hr
  have e : (2 : Int) ^ r % 256 = ((2 ^ r : Nat) : Int) := by
    have e0 : (2 : Int) ^ r = ((2 ^ r : Nat) : Int) := by simp
    rw [e0]
    generalize (2 : Nat) ^ r = z at *
    omega
  rw [e]
  exact u8_xor_nat y (2 ^ r) hy hp
theorem own_setN {w : World} {base g cap n k : Nat} {e : TypeId} {xs : List Value} (h : w.ownsRow base e 1 (.slice (some ⟨g, 0, none⟩) n cap) n xs) (u : Value) :
    (w.setCell ⟨g, k, none⟩ u).ownsRow base e 1 (.slice (some ⟨g, 0, none⟩) n cap) n (xs.set k u) := by
  obtain ⟨h1, h2⟩ := h
  refine ⟨by rw [List.length_set]; exact h1, ?_⟩
  rcases h2 with ⟨h2, _⟩ | ⟨g', cap', cur, he, hb, hg, hc, hm, hs, ht⟩
  · cases h2
  · injection he with he1 he2 he3
    injection he1 with he1
    injection he1 with he1
    subst he1; subst he3
    refine .inr ⟨g, cap, cur.setIfInBounds k u, rfl, hb, Blk.set_ (t := e) hg k u, hc, hm, by simpa using hs, ?_⟩
    rw [Array.toList_setIfInBounds, List.take_set, ht]
theorem own_atN {w : World} {base n s : Nat} {e : TypeId} {v : Value} {xs : List Value} (h : w.ownsRow base e s v n xs) (hn : 0 < n) : ∃ b c, v = .slice (some ⟨b, 0, none⟩) n c ∧ base ≤ b ∧ b < w.heap.size := by
  rcases h.2 with ⟨_, h0⟩ | ⟨g, cap, cur, rfl, hb, hg, _⟩
  · omega
  · exact ⟨g, cap, rfl, hb, (Array.getElem?_eq_some_iff.1 hg).1⟩
theorem num_atN {w : World} {base b n c i : Nat} {d : List Nat} (h : w.ownsRow base 5 1 (.slice (some ⟨b, 0, none⟩) n c) n (numsN d)) (hi : i < d.length) : w.cell? ⟨b, i, none⟩ = some (.int .u8 (d[i] : Int)) ∧ w.frozen? ⟨b, i, none⟩ = false := by
  have h1 := h.cells (g := b) rfl i (.int .u8 (d[i] : Int)) (by simp [numsN, hi])
  rw [add_plain, Nat.zero_add] at h1
  obtain ⟨cs, hb⟩ := own_type h (b := b) rfl
  exact ⟨h1, hb.frozen i⟩
theorem turns_cellN (w : World) (b q : Nat) (u : Value) : TurnsD (fun x => x = b) w (w.setCell ⟨b, q, none⟩ u) := (TurnsD.refl (fun x => x = b) w).set (p := ⟨b, q, none⟩) (.inl rfl) u
theorem turnL_len (d : List Nat) (bit : Int) : (turnL d bit).length = d.length := by unfold turnL; split <;> simp
/-- What Spoil leaves. -/
def SpoiltN (base g : Nat) (lim : Int) (v : Value) (l : List FrV) (j : Nat) (p : FrV) (bit : Int) (w : World) (e : Ending) (w' : World) : Prop :=
  ∃ v', e = .returned (.tuple #[frV p, .int .i64 0]) ∧ NetAt w' base g lim v' (l.eraseIdx j) ∧ w'.ownsRow base 5 1 p.2 p.1.d.length (numsN (turnL p.1.d bit)) ∧ TurnsD (fun b => RowN g v b ∨ p.2.ownBlock = some b) w w' ∧ v'.ownBlock = v.ownBlock
/-- From Take's world on: boxes above. -/
theorem TakenN.spoils {w w4 w5 : World} {base g : Nat} {lim : Int} {v v' : Value} {l : List FrV} {j : Nat} {p : FrV} {bit : Int} (h : NetAt w base g lim v l) (hj : l[j]? = some p) (t : TakenN base g lim v l j p v' w w4) (hb : Below w.heap.size w4 w5) (hm : turnL p.1.d bit = p.1.d) :
    SpoiltN base g lim v l j p bit w (.returned (.tuple #[frV p, .int .i64 0])) w5 := by
  have t5 := TakenN.box h hj t hb
  exact ⟨v', rfl, t5.net, by rw [hm]; exact t5.row, t5.turns.more (fun i _ hi => .inl hi), t5.same⟩
theorem TakenN.spoilt {w w4 w5 w6 : World} {base g : Nat} {lim : Int} {v v' : Value} {l : List FrV} {j : Nat} {f : FrL} {ba c q : Nat} {bit : Int} {u : Nat} (h : NetAt w base g lim v l) (hj : l[j]? = some (f, .slice (some ⟨ba, 0, none⟩) f.d.length c)) (t : TakenN base g lim v l j (f, .slice (some ⟨ba, 0, none⟩) f.d.length c) v' w w4) (hb : Below w.heap.size w4 w5)
    (hm : turnL f.d bit = f.d.set q u) (hb6 : Below w.heap.size (w5.setCell ⟨ba, q, none⟩ (.int .u8 (u : Int))) w6) :
    SpoiltN base g lim v l j (f, .slice (some ⟨ba, 0, none⟩) f.d.length c) bit w (.returned (.tuple #[frV (f, .slice (some ⟨ba, 0, none⟩) f.d.length c), .int .i64 0])) w6 := by
  have t5 := TakenN.box h hj t hb
  have hset : (numsN f.d).set q (.int .u8 (u : Int)) = numsN (f.d.set q u) := by
    show (f.d.map fun y : Nat => Value.int .u8 (y : Int)).set q (.int .u8 (u : Int)) = (f.d.set q u).map fun y : Nat => Value.int .u8 (y : Int)
    rw [List.map_set]
  have r5 := own_setN (k := q) t5.row (.int .u8 (u : Int))
  simp only at r5
  rw [hset] at r5
  have n5 : NetAt (w5.setCell ⟨ba, q, none⟩ (.int .u8 (u : Int))) base g lim v' (l.eraseIdx j) := t5.net.stay (turns_cellN w5 ba q _) (fun b hb e => t5.far ba rfl (by rw [← e]; exact hb))
  have t6 := turns_high hb6 hb6.size
  have hlow : ∀ b, OwnN g v' (l.eraseIdx j) b → ¬ w.heap.size ≤ b := fun b ho => by
    have : OwnN g v l b := by
      rcases ho with (rfl | ho) | ⟨q, hq, ho⟩
      · exact .inl (.inl rfl)
      · exact .inl (.inr (by rw [← t.same]; exact ho))
      · exact .inr ⟨q, (List.eraseIdx_sublist l j).subset hq, ho⟩
    have := (h.own this).2
    omega
  have hba : ba < w.heap.size := (h.own (.inr ⟨_, List.mem_of_getElem? hj, rfl⟩)).2
  refine ⟨v', rfl, n5.stay t6 hlow, ?_, ?_, t.same⟩
  · rw [hm]
    exact row_turnsN r5 t6 (fun b ho => by have : ba = b := by simpa [Value.ownBlock] using ho
                                           omega)
  · have a1 : TurnsD (fun b => RowN g v b ∨ (Value.slice (some ⟨ba, 0, none⟩) f.d.length c).ownBlock = some b) w (w5.setCell ⟨ba, q, none⟩ (.int .u8 (u : Int))) := (t5.turns.more (T := fun b => RowN g v b ∨ (Value.slice (some ⟨ba, 0, none⟩) f.d.length c).ownBlock = some b) (fun i _ hi => .inl hi)).trans (turns_cellN w5 ba q _) (fun i _ hi => .inr (by rw [hi]; rfl))
    exact a1.trans t6 (fun i hi hi2 => absurd hi2 (by omega))
theorem TakenN.since {w W w4 : World} {base g : Nat} {lim : Int} {v v' : Value} {l : List FrV} {j : Nat} {p : FrV} (t : TakenN base g lim v l j p v' W w4) (hb : Below w.heap.size w W) : TakenN base g lim v l j p v' w w4 :=
  ⟨t.net, t.row, t.far, (TurnsD.of_below (S := RowN g v) hb).trans t.turns (fun _ _ h => h), t.same⟩
theorem turnL_no {d : List Nat} {bit : Int} (h : ¬ (0 ≤ bit ∧ bit / 8 < d.length)) : turnL d bit = d := by unfold turnL; rw [if_neg h]
theorem turnL_at {d : List Nat} {b : Nat} (h : b / 8 < d.length) : turnL d (b : Int) = d.set (b / 8) (d[b / 8] ^^^ 2 ^ (b % 8)) := by
  unfold turnL
  rw [if_pos (by omega), show ((b : Int) / 8).toNat = b / 8 by omega, show ((b : Int) % 8).toNat = b % 8 by omega]
  simp [h]
theorem i64_and7 (n : Int) : bits .and .i64 n 7 = n % 8 := by
  have h7 : (BitVec.ofInt 64 7).toNat = 2 ^ 3 - 1 := by decide
  have key : (BitVec.ofInt 64 n &&& BitVec.ofInt 64 7).toNat = (n % ((2 ^ 64 : Nat) : Int)).toNat % 2 ^ 3 := by
    rw [BitVec.toNat_and, BitVec.toNat_ofInt, h7, Nat.and_two_pow_sub_one_eq_mod]
  show IntKind.i64.wrap ((BitVec.ofInt 64 n &&& BitVec.ofInt 64 7).toNat : Nat) = n % 8
  rw [key, IntKind.wrap_i64]
  omega
set_option maxRecDepth 100000 in
set_option maxHeartbeats 1000000 in
theorem ntspoil_ok (base g : Nat) (lim : Int) (v : Value) (l : List FrV) (j : Nat) (p : FrV) (i bit : Int) (hi : i = j) (w : World) (h : NetAt w base g lim v l) (hj : l[j]? = some p) (h8 : ∀ x ∈ p.1.d, x < 256) :
    Calls Try.prog 17 #[.pointer (some ⟨g, 0, none⟩), .int .i64 i, .int .i64 bit] w (SpoiltN base g lim v l j p bit w) := by
  have HD := hid h
  have HT := hid (fun w1 (hb : Below w.heap.size w w1) => nttake_ok base g lim v l j p i hi w1 (h.on hb) hj)
  obtain ⟨⟨fr, to, d⟩, s⟩ := p
  obtain ⟨A, c, e0⟩ := own_shapeN (h.dat _ (List.mem_of_getElem? hj))
  simp only at e0
  subst e0
  have HS := h.small _ (List.mem_of_getElem? hj)
  simp only at HS h8
  have H8 := hid h8
  have HJ := hid hj
  have HK0 : Hid (g < w.heap.size ∧ ∀ b, v.ownBlock = some b → b < w.heap.size) := hid ⟨h.lt, fun b hb => (h.row.lt b hb).2⟩
  clear h hj hi h8
  go_enter Try.func17, Try.ntmps17
  go_upto_region 1 with fail
  obtain ⟨W, hW⟩ : ∃ W, w.alloc (.cells zeroF 32) = W := ⟨_, rfl⟩
  rw [hW]
  obtain ⟨K0, KB⟩ := lone_new hW
  have HTs := hid (HT.out W KB.out)
  obtain ⟨k, hk⟩ : ∃ k, w.heap.size = k := ⟨_, rfl⟩
  rw [hk] at K0 ⊢
  have HK := hid hk
  clear hW hk HT
  go_upto_region 3 with (go_at_call 15; (with_reducible refine HTs.out.mono ?_); rintro e w' ⟨v', rfl, hT⟩; have HTk := hid hT; clear hT)
  have TK := hid (HTk.out.since KB.out)
  have K1 := hid (K0.out.turns HTk.out.turns (fun e => e.elim (fun e => by have := HK0.out.1; have := HK.out; omega) (fun e => by have := HK0.out.2 _ e; have := HK.out; omega)))
  clear HTk K0 HTs
  obtain ⟨W2, hW2⟩ : ∃ W2, w'.alloc (.cells #[.int .i64 fr, .int .i64 to, .slice A d.length c] 32) = W2 := ⟨_, rfl⟩
  rw [hW2]
  obtain ⟨K2, KB2⟩ := lone_new hW2
  have K12 := hid (K1.out.below KB2.out K1.out.lt)
  have TB2 : Hid (Below w.heap.size w' W2) := hid (KB2.out.mono TK.out.turns.size)
  have HKL : Hid (k < w'.heap.size) := hid K1.out.lt
  obtain ⟨k2, hk2⟩ : ∃ k2, w'.heap.size = k2 := ⟨_, rfl⟩
  rw [hk2] at K2 HKL ⊢
  clear hW2 hk2 K1
  obtain ⟨c0, c1, c2⟩ := lcells3N K2.out
  obtain ⟨r0, r1, r2⟩ := lcells3N K12.out
  obtain ⟨f0, f1, f2⟩ := lfrozen3N K12.out
  have HMiss : Hid (turnL d bit = d → SpoiltN base g lim v l j (⟨fr, to, d⟩, .slice A d.length c) bit w (.returned (.tuple #[frV (⟨fr, to, d⟩, .slice A d.length c), .int .i64 0])) (put3N W2 k (.int .i64 fr) (.int .i64 to) (.slice A d.length c))) := hid (fun hm => TK.out.spoils HD.out HJ.out (put3N_below TB2.out (Nat.le_of_eq HK.out) _ _ _) hm)
  have HQ := hid (put3N_blk K12.out (.int .i64 fr) (.int .i64 to) (.slice A d.length c))
  unfold put3N at HMiss HQ
  by_cases hb0 : bit < 0
  · have HM2 := hid (HMiss.out (turnL_no (by omega)))
    have hb1 : ¬ 0 ≤ bit / 8 := by omega
    have hb2 : ¬ 0 ≤ bit := by omega
    clear HMiss
    go_wp2
    obtain ⟨y0, y1, y2⟩ := lcells3N HQ.out
    refine bodyPost_ret (v := .tuple #[.agg #[.int .i64 fr, .int .i64 to, .slice A d.length c], .int .i64 0]) (by simp [results, Try.results17, go_sem, y0, y1, y2]) rfl HM2.out
  obtain ⟨b, rfl⟩ : ∃ b : Nat, bit = b := ⟨bit.toNat, by omega⟩
  obtain ⟨q, hq⟩ : ∃ q, b / 8 = q := ⟨_, rfl⟩
  have hqi : (b : Int) / 8 = (q : Int) := by omega
  have hb1 : 0 ≤ (b : Int) / 8 := by omega
  by_cases hqn : q < d.length
  · obtain ⟨ba, ca, hA, hba, hba2⟩ := own_atN TK.out.row (Nat.lt_of_le_of_lt (Nat.zero_le q) hqn)
    simp only at hA
    injection hA with hA1 _ hA3
    subst hA1 hA3
    obtain ⟨r, hr⟩ : ∃ r, b % 8 = r := ⟨_, rfl⟩
    have hr8 : r < 8 := by omega
    have hand : bits BinOp.and IntKind.i64 (b : Int) 7 = (r : Int) := by rw [i64_and7]; omega
    obtain ⟨x, hx⟩ : ∃ x, d[q] = x := ⟨_, rfl⟩
    have hx8 : x < 256 := by rw [← hx]; exact H8.out _ (List.getElem_mem hqn)
    have hxor := turn_walkN x r hx8 hr8
    have hRow2 := row_turnsN (S := fun _ => False) TK.out.row (TurnsD.of_below KB2.out) (fun _ _ h => h)
    obtain ⟨n1, n2⟩ := num_atN hRow2 hqn
    rw [hx] at n1
    have hqn2 : (q : Int) < (d.length : Int) := by omega
    have hnek : ba ≠ k := fun e => own_neB hRow2 K12.out (by decide) (by rw [e]; rfl)
    have hnek2 : ba ≠ k2 := fun e => own_neB hRow2 K2.out (by decide) (by rw [e]; rfl)
    have HM5 : Hid (turnL d (b : Int) = d.set q (x ^^^ 2 ^ r)) := hid (by
      subst hq hr
      rw [turnL_at hqn, hx])
    obtain ⟨z, hz⟩ : ∃ z, x ^^^ 2 ^ r = z := ⟨_, rfl⟩
    rw [hz] at hxor HM5
    clear HMiss HQ hx hz
    go_upto_region 4 with fail
    have KA := hid ((K12.out.far (p := ⟨ba, q, none⟩) (fun e => hnek e.symm) (.int .u8 (z : Int))).drew)
    have KC := hid ((K2.out.far (p := ⟨ba, q, none⟩) (fun e => hnek2 e.symm) (.int .u8 (z : Int))).drew)
    have HFin := hid (TK.out.spoilt (bit := (b : Int)) (q := q) (u := z) (w5 := W2) (w6 := put3N (W2.setCell ⟨ba, q, none⟩ (.int .u8 (z : Int))).drew k (.int .i64 fr) (.int .i64 to) (.slice (some ⟨ba, 0, none⟩) d.length c)) HD.out HJ.out TB2.out HM5.out (put3N_below (below_drew (Below.refl _ _)) (Nat.le_of_eq HK.out) _ _ _))
    go_region
    obtain ⟨W5, hW5⟩ : ∃ W5, (W2.setCell ⟨ba, q, none⟩ (.int .u8 (z : Int))).drew = W5 := ⟨_, rfl⟩
    rw [hW5] at KA KC HFin ⊢
    clear hW5 c0 c1 c2 r0 r1 r2 f0 f1 f2 n1 n2 hRow2
    obtain ⟨c0, c1, c2⟩ := lcells3N KC.out
    obtain ⟨r0, r1, r2⟩ := lcells3N KA.out
    obtain ⟨f0, f1, f2⟩ := lfrozen3N KA.out
    have HQ := hid (put3N_blk KA.out (.int .i64 fr) (.int .i64 to) (.slice (some ⟨ba, 0, none⟩) d.length c))
    unfold put3N at HFin HQ
    go_wp2
    obtain ⟨y0, y1, y2⟩ := lcells3N HQ.out
    refine bodyPost_ret (v := .tuple #[.agg #[.int .i64 fr, .int .i64 to, .slice (some ⟨ba, 0, none⟩) d.length c], .int .i64 0]) (by simp [results, Try.results17, go_sem, y0, y1, y2]) rfl HFin.out
  · have HM2 := hid (HMiss.out (turnL_no (by omega)))
    have hb2 : ¬ ((q : Int) < (d.length : Int)) := by omega
    clear HMiss
    go_wp2
    obtain ⟨y0, y1, y2⟩ := lcells3N HQ.out
    refine bodyPost_ret (v := .tuple #[.agg #[.int .i64 fr, .int .i64 to, .slice A d.length c], .int .i64 0]) (by simp [results, Try.results17, go_sem, y0, y1, y2]) rfl HM2.out
set_option maxRecDepth 100000 in
set_option maxHeartbeats 1000000 in
theorem ntspoil_no (base g : Nat) (lim : Int) (v : Value) (l : List FrV) (i bit : Int) (w : World) (h : NetAt w base g lim v l) (hi : hasN l.length i = false) :
    Calls Try.prog 17 #[.pointer (some ⟨g, 0, none⟩), .int .i64 i, .int .i64 bit] w fun e w' => e = .returned (.tuple #[.agg zeroF, .int .i64 13]) ∧ Below w.heap.size w w' := by
  have HT := hid (fun w1 (hb : Below w.heap.size w w1) => nttake_no base g lim v l i w1 (h.on hb) hi)
  clear h hi
  go_enter Try.func17, Try.ntmps17
  go_upto_region 1 with fail
  obtain ⟨W, hW⟩ : ∃ W, w.alloc (.cells zeroF 32) = W := ⟨_, rfl⟩
  rw [hW]
  obtain ⟨K0, KB⟩ := lone_new hW
  have HTs := hid (HT.out W KB.out)
  obtain ⟨k, hk⟩ : ∃ k, w.heap.size = k := ⟨_, rfl⟩
  rw [hk] at K0 ⊢
  have HK := hid hk
  clear hW hk HT
  go_upto_region 3 with (go_at_call 15; (with_reducible refine HTs.out.mono ?_); rintro e w' ⟨rfl, hT⟩; have HTk := hid hT; clear hT)
  have K1 := hid (K0.out.below HTk.out K0.out.lt)
  obtain ⟨W2, hW2⟩ : ∃ W2, w'.alloc (.cells zeroF 32) = W2 := ⟨_, rfl⟩
  rw [hW2]
  obtain ⟨K2, KB2⟩ := lone_new hW2
  have K12 := hid (K1.out.below KB2.out K1.out.lt)
  have TB2 : Hid (Below w.heap.size w W2) := hid (below_on (below_on KB.out HTk.out) KB2.out)
  obtain ⟨k2, hk2⟩ : ∃ k2, w'.heap.size = k2 := ⟨_, rfl⟩
  rw [hk2] at K2 ⊢
  clear hW2 hk2 K1 KB2 KB HTk HTs
  obtain ⟨c0, c1, c2⟩ := lcells3N K2.out
  obtain ⟨r0, r1, r2⟩ := lcells3N K12.out
  obtain ⟨f0, f1, f2⟩ := lfrozen3N K12.out
  have HFin := hid (put3N_below TB2.out (Nat.le_of_eq HK.out) (.int .i64 0) (.int .i64 0) (.slice none 0 0))
  have HQ := hid (put3N_blk K12.out (.int .i64 0) (.int .i64 0) (.slice none 0 0))
  unfold put3N at HFin HQ
  by_cases hb0 : 0 ≤ bit
  · have hb1 : 0 ≤ bit / 8 := by omega
    have hb2 : ¬ bit / 8 < 0 := by omega
    go_wp2
    obtain ⟨y0, y1, y2⟩ := lcells3N HQ.out
    refine bodyPost_ret (v := .tuple #[.agg zeroF, .int .i64 13]) (by simp [results, Try.results17, go_sem, y0, y1, y2]) rfl ⟨rfl, HFin.out⟩
  · have hb1 : ¬ 0 ≤ bit / 8 := by omega
    go_wp2
    obtain ⟨y0, y1, y2⟩ := lcells3N HQ.out
    refine bodyPost_ret (v := .tuple #[.agg zeroF, .int .i64 13]) (by simp [results, Try.results17, go_sem, y0, y1, y2]) rfl ⟨rfl, HFin.out⟩
end Go.Proofs.Ytljnboimadhkoaa
