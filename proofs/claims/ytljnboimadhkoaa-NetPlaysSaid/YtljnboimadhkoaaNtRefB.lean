/-
  The document's frames (moothillref19): a slice of them by value; Without, Turned.
-/
import Derived.Test.YtljnboimadhkoaaNtSpoil
import Derived.Test.YtljnboimadhkoaaNtRef
import Derived.Maps.AppendAt
import Derived.Laws.AppendOwnNone
namespace Go.Proofs.Ytljnboimadhkoaa
open Go.ChangeShapes Go.WideShapes Go.ChangeAt Go.RowKit
set_option linter.unusedVariables false
set_option linter.unusedSimpArgs false

/-- Cells behind those of a row of the call's own, whatever they are read from. -/
theorem nappend_cells {P : Program} {w : World} {ops : Array Oper} {rest : List Oper} {o : Oper} {a : Act} {Q : Exit → Act → World → Prop} (hgd : o.guard = none) (s x : Operand) (t : TypeId)
    (ho : o.op = .call { callee := .builtin .append, args := #[s, x], argTypes := #[t, t] })
    (base : Nat) (e : TypeId) (i : TypeInfo) (z : Value) (size bytes : Nat) (ht : P.underlying t = some (.slice e)) (hi : P.info? e = some i) (hz : i.zero = some z)
    (hsize : i.size = size) (hby : i.bytes = bytes) (hzs : z.cells.size = size) (hsz : 0 < size) (v : Value) (n : Nat) (xs : List Value) (hs : a.eval s = v) (hown : w.ownsRow base e size v n xs)
    (X : Option Addr) (m c : Nat) (news : List Value) (hx : a.eval x = .slice X m c) (hnone : X = none → m = 0 ∧ c = 0) (hl : news.length = m * size) (hnews : ∀ ad, X = some ad → ∀ j u, news[j]? = some u → w.cell? (ad.add j) = some u)
    (h1 : ∀ u ∈ news, u.oneCell' = true) (h63 : n + m ≤ maxLen) (hbytes : (n + m) * bytes ≤ 140737488355328) (hbase : base ≤ w.heap.size)
    (h : ∀ v' w', w'.ownsRow base e size v' (n + m) (xs ++ news) → w.grownBy w' v.ownBlock → wpList P ops Q rest (a.put o.dst v') w') : wpList P ops Q (o :: rest) a w := by
  cases X with
  | none =>
    obtain ⟨h2, h3⟩ := hnone rfl
    subst h2 h3
    have hn : news = [] := List.eq_nil_of_length_eq_zero (by rw [hl]; simp)
    subst hn
    exact wpList_append_own_none hgd s x t ho base e i size ht hi v n xs hs hown hx (h v w (by simpa using hown) (World.grownBy.refl _ _))
  | some ad =>
    exact wpList_append_own_at w hgd s x t ho base e i z size bytes ht hi hz hsize hby hzs hsz v n xs hs hown ad m c news hx hl (hnews ad rfl) h1 h63 hbytes hbase fun v' w' a1 a2 _ _ => h v' w' a1 a2
/-- The document's frames: a row of the law's own, bytes among the arguments. -/
structure RefAt (w : World) (N B : Nat) (rv : Value) (l : List FrV) : Prop where
  row : w.ownsRow B 41 3 rv l.length (flatN l)
  arg : ∀ p ∈ l, ∃ A c, p.2 = .slice A p.1.d.length c ∧ (A = none → c = 0) ∧ Held N w A p.1.d
theorem RefAt.turns {S : Nat → Prop} {w w' : World} {N B : Nat} {rv : Value} {l : List FrV} (h : RefAt w N B rv l) (t : TurnsD S w w') (hN : N ≤ w.heap.size) (hS : ∀ i, i < N → ¬ S i) (hR : ∀ b, rv.ownBlock = some b → ¬ S b) : RefAt w' N B rv l :=
  ⟨row_turnsN h.row t hR, fun p hp => by
    obtain ⟨A, c, h1, h2, h3⟩ := h.arg p hp
    exact ⟨A, c, h1, h2, h3.below (t.below hN hS)⟩⟩
theorem RefAt.on {w w' : World} {N B : Nat} {rv : Value} {l : List FrV} (h : RefAt w N B rv l) (hN : N ≤ w.heap.size) (b : Below w.heap.size w w') : RefAt w' N B rv l :=
  h.turns (S := fun _ => False) (TurnsD.of_below b) hN (fun _ _ h => h) (fun _ _ h => h)
theorem RefAt.nil (w : World) (N B : Nat) : RefAt w N B (.slice none 0 0) [] := ⟨World.ownsRow_nil _ _ _ _, fun p hp => by simp at hp⟩
theorem info_rf : (Try.prog.info? 41).map (fun i => (i.zero, i.size, i.bytes)) = some (some (.agg #[.int .i64 0, .int .i64 0, .slice none 0 0]), 3, 40) := by kernel_rfl
theorem RefAt.one {w : World} {N B : Nat} {rv : Value} {l : List FrV} (h : RefAt w N B rv l) : ∀ u ∈ flatN l, u.oneCell' = true := flatN_one (fun p hp => by obtain ⟨A, c, h1, _⟩ := h.arg p hp; rw [h1]; rfl)
set_option maxRecDepth 100000 in
set_option maxHeartbeats 1000000 in
theorem refwithout_any (N B : Nat) (rv : Value) (l : List FrV) (j : Nat) (i : Int) (hi : i = j) (w : World) (h : RefAt w N B rv l) (hN : N ≤ w.heap.size) (hj : j < l.length) (hl : l.length ≤ 4096) :
    Calls Try.prog 19 #[rv, .int .i64 i] w fun e w' => ∃ rv', e = .returned rv' ∧ RefAt w' N w.heap.size rv' (l.eraseIdx j) ∧ Below w.heap.size w w' := by
  subst hi
  obtain ⟨b, c, rfl, hbB, hbl⟩ := own_atN h.row (by omega)
  have HX := hid h
  have HN := hid hN
  have hc : l.length ≤ c := by
    rcases h.row.2 with ⟨hh, _⟩ | ⟨g, cap, cur, hv, _, _, hcc, _⟩
    · cases hh
    · injection hv with _ _ hv; omega
  obtain ⟨i0, hi, hz0, hz1, hz2⟩ := info_parts info_rf
  have HI := hid (And.intro hi (And.intro hz0 (And.intro hz1 hz2)))
  obtain ⟨n, hn⟩ : ∃ n, l.length = n := ⟨_, rfl⟩
  have HLn := hid hn
  rw [hn] at hj hl hc ⊢
  have hcell : ∀ w', Below w.heap.size w w' → ∀ k u, (flatN l)[k]? = some u → w'.cell? ⟨b, k, none⟩ = some u := fun w' hb k u hu => by
    have := (h.on hN hb).row.cells (g := b) rfl k u hu
    rw [add_plain, Nat.zero_add] at this
    exact this
  have HCell := hid hcell
  have hfl : (flatN l).length = n * 3 := by rw [flatN_len, hn]
  have hc1 := fun w => cut_headN (P := Try.prog) 29 41 i0 Try.underlying29 hi (some ⟨b, 0, none⟩) (Nat.le_of_lt hj) hc w
  obtain ⟨A1, hA1, hc2⟩ := cut_atN (P := Try.prog) 29 41 i0 Try.underlying29 hi b n c (j + 1) hj hc
  rw [hz1] at hA1
  have HA1 : Hid (∀ w', Below w.heap.size w w' → ∀ t u, ((flatN l).drop ((j + 1) * 3))[t]? = some u → w'.cell? (A1.add t) = some u) := hid (fun w' hb t u hu => by
    have ht := (List.getElem?_eq_some_iff.1 hu).1
    rw [List.length_drop, hfl] at ht
    rw [hA1, if_neg (by omega), add_plain]
    rw [List.getElem?_drop] at hu
    exact hcell w' hb _ _ hu)
  have HA0 : Hid (∀ t u, ((flatN l).take (j * 3))[t]? = some u → w.cell? ((⟨b, 0, none⟩ : Addr).add t) = some u) := hid (fun t u hu => by
    rw [add_plain, Nat.zero_add]
    rw [List.getElem?_take] at hu
    split at hu
    · exact HCell.out w (Below.refl _ _) t u hu
    · cases hu)
  have hA2 : (if c = j + 1 then (some ⟨b, 0, none⟩ : Option Addr) else some ⟨b, (j + 1) * 3, none⟩) = some A1 := by rw [hA1]; split <;> rfl
  have hkc : j ≤ c := by omega
  have hb0 : 0 ≤ (j : Int) + 1 := by omega
  have hb1 : (j : Int) + 1 ≤ (n : Int) := by omega
  have qi : IntKind.i64.wrap ((j : Int) + 1) = (j : Int) + 1 := IntWalk.i64_in _ (by omega)
  have h1 := hid h.one
  have HFl := hid hfl
  have HArg := hid h.arg
  clear hcell hfl h hN hn hbl hi hz0 hz1 hz2 hA1 hc1 hc2 hbB
  have e0 := World.ownsRow_nil w w.heap.size 41 3
  go_enter Try.func19, Try.ntmps19
  obtain ⟨hi, hz0, hz1, hz2⟩ := HI.out
  go_wp2_with (first
    | (at_builtin; refine nappend_cells rfl (.tmp 6) (.tmp 9) 29 rfl w.heap.size 41 i0 _ 3 40 Try.underlying29 hi hz0 hz1 hz2 rfl (by decide) (.slice none 0 0) 0 [] rfl e0 (some ⟨b, 0, none⟩) j c ((flatN l).take (j * 3)) rfl (fun h => nomatch h) (by rw [List.length_take, HFl.out]; omega) (fun ad had t u hu => by injection had with had; subst had; exact HA0.out t u hu) (fun u hu => h1.out u (List.mem_of_mem_take hu)) (by unfold maxLen; omega) (by omega) (Nat.le_refl _) ?_; intro v1 w1 hown1 hg1; have O1 := hid hown1; have B1 := hid (lbelow_grown hg1); obtain ⟨X1, x1, rfl⟩ := own_shapeN hown1; clear hown1 hg1)
    | (at_builtin; refine nappend_cells rfl (.tmp 11) (.tmp 15) 29 rfl w.heap.size 41 i0 _ 3 40 Try.underlying29 hi hz0 hz1 hz2 rfl (by decide) (.slice X1 (0 + j) x1) (0 + j) ([] ++ (flatN l).take (j * 3)) (by simp [Act.eval, Act.put]) O1.out (some A1) (n - (j + 1)) (c - (j + 1)) ((flatN l).drop ((j + 1) * 3)) (by simp [Act.eval, Act.put]) (fun h => nomatch h) (by rw [List.length_drop, HFl.out]; omega) (fun ad had t u hu => by injection had with had; subst had; exact HA1.out w1 B1.out t u hu) (fun u hu => h1.out u (List.mem_of_mem_drop hu)) (by unfold maxLen; omega) (by omega) B1.out.size ?_; intro v2 w2 hown2 hg2; have O2 := hid hown2; have B2 := hid (B1.out.grown hg2 B1.out.size (fun k hk => (O1.out.lt k hk).1)); obtain ⟨X2, x2, rfl⟩ := own_shapeN hown2; clear hown2 hg2))
  go_ret
  refine ⟨.slice X2 (0 + j + (n - (j + 1))) x2, by simp, ⟨?_, fun p hp => ?_⟩, B2.out⟩
  · have h2 := O2.out
    rw [List.nil_append, ← flatN_erase] at h2
    rw [List.length_eraseIdx, if_pos (by rw [HLn.out]; exact hj), HLn.out]
    rw [show 0 + j + (n - (j + 1)) = n - 1 by omega] at h2 ⊢
    exact h2
  · obtain ⟨A, cc, e1, e2, e3⟩ := HArg.out p ((List.eraseIdx_sublist l j).subset hp)
    exact ⟨A, cc, e1, e2, e3.below (B2.out.mono HN.out)⟩
theorem turn_num8 : ∀ x, x < 256 → ∀ r, r < 8 → (x ^^^ 2 ^ r) = (if x / 2 ^ r % 2 = 1 then x - 2 ^ r else x + 2 ^ r) ∧ (x ^^^ 2 ^ r) < 256 ∧ (x / 2 ^ r % 2 = 1 → 2 ^ r ≤ x) := by decide +kernel
theorem turn_arith {x P y z : Nat} (hx : x < 256) (hP0 : 1 ≤ P) (hy : x / P = y) (hz1 : z = if y % 2 = 1 then x - P else x + P) (hz8 : z < 256) (hle : y % 2 = 1 → P ≤ x) :
    (x : Int).tdiv (P : Int) = (y : Int) ∧ IntKind.i64.wrap (y : Int) = (y : Int) ∧ (y : Int).tmod 2 = ((y % 2 : Nat) : Int) ∧ (y % 2 = 0 → IntKind.i64.wrap ((x : Int) + (P : Int)) = (z : Int)) ∧ (y % 2 = 1 → IntKind.i64.wrap ((x : Int) - (P : Int)) = (z : Int)) ∧ (z : Int) % 256 = (z : Int) := by
  have hyb : y ≤ 256 := by rw [← hy]; exact Nat.le_trans (Nat.div_le_self x P) (by omega)
  refine ⟨by rw [Int.tdiv_eq_ediv_of_nonneg (by omega), ← hy]; rfl, IntWalk.i64_in _ (by omega), by rw [Int.tmod_eq_emod_of_nonneg (by omega)]; rfl, fun h => ?_, fun h => ?_, by omega⟩
  · rw [if_neg (by omega)] at hz1
    rw [IntWalk.i64_in _ (by omega)]
    omega
  · have h2 := hle h
    rw [if_pos h] at hz1
    rw [IntWalk.i64_in _ (by omega)]
    omega
/-- What Turned tells. -/
def TurnedN (f : FrL) (n : Nat) (bit : Int) (w : World) (e : Ending) (w' : World) : Prop := ∃ A c, e = .returned (.agg #[.int .i64 f.fr, .int .i64 f.to, .slice A n c]) ∧ Sees .u8 w' A (turnL f.d bit) ∧ Below w.heap.size w w'
set_option maxRecDepth 100000 in
set_option maxHeartbeats 2000000 in
theorem refturned_any (f : FrL) (A : Option Addr) (n c : Nat) (bit : Int) (w : World) (hn : f.d.length = n) (hl : n ≤ 512) (hc : A = none → c = 0) (hbit : bit ≤ 9223372036854775807) (h8 : ∀ x ∈ f.d, x < 256) (hS : Sees .u8 w A f.d) :
    Calls Try.prog 18 #[.agg #[.int .i64 f.fr, .int .i64 f.to, .slice A n c], .int .i64 bit] w (TurnedN f n bit w) := by
  have HS := hid hS
  have HN := hid hn
  have HC := hid hc
  have H8 := hid h8
  obtain ⟨fr, to, d⟩ := f
  clear hS hn hc h8
  go_enter Try.func18, Try.ntmps18
  go_upto_region 1 with fail
  obtain ⟨W, hW⟩ : ∃ W, (w.alloc (.cells #[.int .i64 fr, .int .i64 to, .slice A n c] 41)).alloc (.cells zeroF 41) = W := ⟨_, rfl⟩
  rw [hW]
  obtain ⟨K0, K1, KB⟩ := ltwo_new hW
  have HS1 := hid (HS.out.below KB.out)
  obtain ⟨k, hk⟩ : ∃ k, w.heap.size = k := ⟨_, rfl⟩
  rw [hk] at K0 K1 ⊢
  have HK := hid hk
  clear hW hk
  obtain ⟨c0, c1, c2⟩ := lcells3N K0.out
  obtain ⟨d0, d1, d2⟩ := lcells3N K1.out
  obtain ⟨f0, f1, f2⟩ := lfrozen3N K1.out
  have HMiss : Hid (turnL d bit = d → TurnedN ⟨fr, to, d⟩ n bit w (.returned (.agg #[.int .i64 fr, .int .i64 to, .slice A n c])) (put3N W (k + 1) (.int .i64 fr) (.int .i64 to) (.slice A n c))) := hid (fun hm => by
    have hb := put3N_below KB.out (by have := HK.out; omega) (.int .i64 fr) (.int .i64 to) (.slice A n c) (g := k + 1)
    exact ⟨A, c, rfl, by rw [hm]; exact HS.out.below hb, hb⟩)
  have HQ := hid (put3N_blk K1.out (.int .i64 fr) (.int .i64 to) (.slice A n c))
  unfold put3N at HMiss HQ
  by_cases hb0 : bit < 0
  · have HM2 := hid (HMiss.out (turnL_no (by omega)))
    clear HMiss
    go_wp2
    obtain ⟨y0, y1, y2⟩ := lcells3N HQ.out
    refine bodyPost_ret (v := .agg #[.int .i64 fr, .int .i64 to, .slice A n c]) (by simp [results, Try.results18, go_sem, y0, y1, y2]) rfl HM2.out
  obtain ⟨b, rfl⟩ : ∃ b : Nat, bit = b := ⟨bit.toNat, by omega⟩
  obtain ⟨q, hq⟩ : ∃ q, b / 8 = q := ⟨_, rfl⟩
  obtain ⟨r, hr⟩ : ∃ r, b % 8 = r := ⟨_, rfl⟩
  have hr8 : r < 8 := by omega
  have hdiv : (b : Int).tdiv 8 = (q : Int) := by rw [Int.tdiv_eq_ediv_of_nonneg (by omega)]; omega
  have hmod : (b : Int).tmod 8 = (r : Int) := by rw [Int.tmod_eq_emod_of_nonneg (by omega)]; omega
  by_cases hqn : q < n
  · have hb2 : ¬ (n : Int) ≤ (q : Int) := by omega
    obtain ⟨i0, hi, hz0, hz1, hz2⟩ := info_parts info_u8
    have e0 := World.ownsRow_nil W W.heap.size 5 1
    clear HMiss HQ
    go_upto_region 7 with (at_builtin; refine wpList_append_named rfl (.tmp 20) (.tmp 22) 30 rfl W.heap.size 5 i0 (.int .u8 0) 1 Try.underlying30 hi hz0 hz1 hz2 rfl (.slice none 0 0) 0 [] rfl e0 .u8 A c d n HN.out rfl HC.out HS1.out (by unfold maxLen; omega) (by omega) (Nat.le_refl _) ?_; intro s6 w6 hown6 hg6; simp only [Nat.zero_add, List.nil_append] at hown6; have O6 := hid hown6; have B6 := hid (lbelow_grown hg6); clear hown6 hg6)
    obtain ⟨b6, c6, rfl, hb6, _⟩ := own_atN O6.out (by omega)
    have K06 := hid (K0.out.below B6.out K0.out.lt)
    have K16 := hid (K1.out.below B6.out K1.out.lt)
    have BW := hid (below_on KB.out B6.out)
    have hqd : q < d.length := by have : d.length = n := HN.out; omega
    obtain ⟨x, hx⟩ : ∃ x, d[q] = x := ⟨_, rfl⟩
    obtain ⟨n1, n2⟩ := num_atN (d := d) O6.out hqd
    rw [hx] at n1
    have hx8 : x < 256 := by rw [← hx]; exact H8.out _ (List.getElem_mem hqd)
    obtain ⟨hz1', hz8, hle⟩ := turn_num8 x hx8 r hr8
    have HM5 : Hid (turnL d (b : Int) = d.set q (x ^^^ 2 ^ r)) := hid (by
      subst hq hr
      rw [turnL_at hqd, hx])
    have hset : Hid ((numsN d).set q (.int .u8 ((x ^^^ 2 ^ r : Nat) : Int)) = numsN (turnL d (b : Int))) := hid (by
      rw [HM5.out]
      show (d.map fun y : Nat => Value.int .u8 (y : Int)).set q _ = (d.set q _).map fun y : Nat => Value.int .u8 (y : Int)
      rw [List.map_set])
    have HEnd : Hid (∀ w9, w9 = put3N ((w6.setCell ⟨b6, q, none⟩ (.int .u8 ((x ^^^ 2 ^ r : Nat) : Int))).setCell ⟨k, 2, none⟩ (.slice (some ⟨b6, 0, none⟩) n c6)) (k + 1) (.int .i64 fr) (.int .i64 to) (.slice (some ⟨b6, 0, none⟩) n c6) → TurnedN ⟨fr, to, d⟩ n (b : Int) w (.returned (.agg #[.int .i64 fr, .int .i64 to, .slice (some ⟨b6, 0, none⟩) n c6])) w9) := hid (fun w9 e9 => by
      subst e9
      have r7 := own_setN (k := q) O6.out (.int .u8 ((x ^^^ 2 ^ r : Nat) : Int))
      rw [show List.map (fun y : Nat => Value.int .u8 (y : Int)) d = numsN d from rfl, hset.out] at r7
      have hne : ∀ kk cs, Blk w6 kk 41 cs → (Value.slice (some ⟨b6, 0, none⟩) n c6).ownBlock ≠ some kk := fun kk cs hk => own_neB O6.out hk (by decide)
      have r8 := r7.kept (row := some k) (w' := (w6.setCell ⟨b6, q, none⟩ (.int .u8 ((x ^^^ 2 ^ r : Nat) : Int))).setCell ⟨k, 2, none⟩ (.slice (some ⟨b6, 0, none⟩) n c6)) (only_setCell (World.grownBy.refl _ _) (.inl rfl) _) (.inr (hne _ _ K06.out))
      have r9 := r8.kept (put3N_grown _ (k + 1) (.int .i64 fr) (.int .i64 to) (.slice (some ⟨b6, 0, none⟩) n c6)) (.inr (hne _ _ K16.out))
      have hln : (turnL d (b : Int)).length = n := by rw [HM5.out, List.length_set]; exact HN.out
      refine ⟨_, c6, rfl, Sees.of_own r9, put3N_below ?_ (by have := HK.out; omega) _ _ _⟩
      exact (BW.out.setCell (p := ⟨b6, q, none⟩) (Nat.le_trans (by have := KB.out.size; exact this) hb6) _).setCell (p := ⟨k, 2, none⟩) (Nat.le_of_eq HK.out) _)
    have hbk : b6 ≠ k := fun e => own_neB O6.out K06.out (by decide) (by rw [e]; rfl)
    have hbk1 : b6 ≠ k + 1 := fun e => own_neB O6.out K16.out (by decide) (by rw [e]; rfl)
    clear c0 c1 c2 d0 d1 d2 f0 f1 f2 e0 hi hz0 hz1 hz2 hb6 K0 K1 KB HS HS1 hx hset
    go_loopw [6, 7] (fun pv iv wr => ∃ i : Nat, i ≤ r ∧ iv = .int .i64 (i : Int) ∧ pv = .int .i64 ((2 ^ i : Nat) : Int) ∧ wr = w6) (fun _ iv _ => r - (intOf iv).toNat)
    case atStart => exact ⟨0, Nat.zero_le _, rfl, rfl, rfl⟩
    case round =>
      obtain ⟨i, hi, rfl, rfl, rfl⟩ := hrel
      by_cases hlt : i < r
      · have hlt' : (i : Int) < (r : Int) := by omega
        obtain ⟨Pw, hP⟩ : ∃ Pw, 2 ^ i = Pw := ⟨_, rfl⟩
        have hP2 : 2 ^ (i + 1) = Pw * 2 := by rw [Nat.pow_succ, hP]
        have hPs : Pw ≤ 128 := by rw [← hP]; exact Nat.le_trans (Nat.pow_le_pow_right (by decide) (by omega : i ≤ 7)) (by decide)
        have qi : IntKind.i64.wrap ((i : Int) + 1) = ((i + 1 : Nat) : Int) := by rw [IntWalk.i64_in _ (by omega)]; omega
        have qp : IntKind.i64.wrap ((Pw : Int) * 2) = ((2 ^ (i + 1) : Nat) : Int) := by rw [IntWalk.i64_in _ (by omega), hP2]; omega
        rw [hP]
        clear hP
        go_wp2
        go_roundw
        case rel => exact ⟨i + 1, by omega, by push_cast; rfl, by rw [hP2]; push_cast; rfl, trivial⟩
        case measure => simp only [intOf]; omega
      · have hir : i = r := by omega
        subst hir
        have hlt' : ¬ ((i : Int) < (i : Int)) := by omega
        obtain ⟨Pw, hP⟩ : ∃ Pw, 2 ^ i = Pw := ⟨_, rfl⟩
        have hP0 : 1 ≤ Pw := by rw [← hP]; exact Nat.one_le_two_pow
        have hPs : Pw ≤ 128 := by rw [← hP]; exact Nat.le_trans (Nat.pow_le_pow_right (by decide) (by omega : i ≤ 7)) (by decide)
        rw [hP] at hz1' hz8 hle HEnd ⊢
        obtain ⟨z, hz⟩ : ∃ z, x ^^^ Pw = z := ⟨_, rfl⟩
        rw [hz] at hz1' hz8 HEnd
        obtain ⟨y, hy⟩ : ∃ y, x / Pw = y := ⟨_, rfl⟩
        rw [hy] at hz1' hle
        obtain ⟨hd1, qw, hd2, qz0, qz1, hz256⟩ := turn_arith hx8 hP0 hy hz1' hz8 hle
        have qx : IntKind.i64.wrap (x : Int) = (x : Int) := IntWalk.i64_in _ (by clear hz1' hle; omega)
        have hPne : ¬ ((Pw : Int) = 0) := by clear hz1' hle; omega
        clear hz1' hz8 hle hP0 hPs hx8 hlt hy hP
        have hqn2 : (q : Int) < (n : Int) := by omega
        have KA := hid ((K06.out.far (p := ⟨b6, q, none⟩) (fun e => hbk e.symm) (.int .u8 (z : Int))))
        have KC := hid ((K16.out.far (p := ⟨b6, q, none⟩) (fun e => hbk1 e.symm) (.int .u8 (z : Int))).far (p := ⟨k, 2, none⟩) (by simp) (.slice (some ⟨b6, 0, none⟩) n c6))
        have KD : Hid (Blk (((wr.setCell ⟨b6, q, none⟩ (.int .u8 (z : Int))).setCell ⟨k, 2, none⟩ (.slice (some ⟨b6, 0, none⟩) n c6))) k 41 #[.int .i64 fr, .int .i64 to, .slice (some ⟨b6, 0, none⟩) n c6]) := hid (by
          have h := KA.out.set_ 2 (.slice (some ⟨b6, 0, none⟩) n c6)
          simpa only [List.setIfInBounds_toArray, List.set_cons_succ, List.set_cons_zero] using h)
        have hk2 := (lcells3N KA.out).2.2
        have hk3 := KA.out.frozen 2
        rcases Nat.mod_two_eq_zero_or_one y with ho | ho
        · have hd4 : (y : Int).tmod 2 = 0 := by rw [hd2, ho]; rfl
          clear hd2
          have qz := qz0 ho
          clear qz0 qz1 ho hr8 hz
          go_upto_region 14 with fail
          clear hd1 qw hd4 qz qx hmod hPne
          go_upto_region 15 with fail
          go_upto_region 16 with fail
          have HE2 := hid (HEnd.out _ rfl)
          obtain ⟨w8, hw8⟩ : ∃ w8, (wr.setCell ⟨b6, q, none⟩ (.int .u8 (z : Int))).setCell ⟨k, 2, none⟩ (.slice (some ⟨b6, 0, none⟩) n c6) = w8 := ⟨_, rfl⟩
          rw [hw8] at KD KC HE2 ⊢
          clear hw8 hk2 hk3 n1 n2 HEnd KA
          obtain ⟨y0, y1, y2⟩ := lcells3N KD.out
          obtain ⟨e0, e1, e2⟩ := lcells3N KC.out
          obtain ⟨f0, f1, f2⟩ := lfrozen3N KC.out
          go_wp2
          have Q := put3N_blk KC.out (.int .i64 fr) (.int .i64 to) (.slice (some ⟨b6, 0, none⟩) n c6)
          have QE := HE2.out
          unfold put3N at Q QE
          obtain ⟨y0, y1, y2⟩ := lcells3N Q
          refine bodyPost_ret (v := .agg #[.int .i64 fr, .int .i64 to, .slice (some ⟨b6, 0, none⟩) n c6]) (by simp [results, Try.results18, go_sem, y0, y1, y2]) rfl QE
        · have hd4 : (y : Int).tmod 2 = 1 := by rw [hd2, ho]; rfl
          clear hd2
          have qz := qz1 ho
          clear qz0 qz1 ho hr8 hz
          go_upto_region 14 with fail
          clear hd1 qw hd4 qz qx hmod hPne
          go_upto_region 15 with fail
          go_upto_region 16 with fail
          have HE2 := hid (HEnd.out _ rfl)
          obtain ⟨w8, hw8⟩ : ∃ w8, (wr.setCell ⟨b6, q, none⟩ (.int .u8 (z : Int))).setCell ⟨k, 2, none⟩ (.slice (some ⟨b6, 0, none⟩) n c6) = w8 := ⟨_, rfl⟩
          rw [hw8] at KD KC HE2 ⊢
          clear hw8 hk2 hk3 n1 n2 HEnd KA
          obtain ⟨y0, y1, y2⟩ := lcells3N KD.out
          obtain ⟨e0, e1, e2⟩ := lcells3N KC.out
          obtain ⟨f0, f1, f2⟩ := lfrozen3N KC.out
          go_wp2
          have Q := put3N_blk KC.out (.int .i64 fr) (.int .i64 to) (.slice (some ⟨b6, 0, none⟩) n c6)
          have QE := HE2.out
          unfold put3N at Q QE
          obtain ⟨y0, y1, y2⟩ := lcells3N Q
          refine bodyPost_ret (v := .agg #[.int .i64 fr, .int .i64 to, .slice (some ⟨b6, 0, none⟩) n c6]) (by simp [results, Try.results18, go_sem, y0, y1, y2]) rfl QE
  · have HM2 := hid (HMiss.out (turnL_no (by have : d.length = n := HN.out; omega)))
    have hb2 : (n : Int) ≤ (q : Int) := by omega
    clear HMiss
    go_wp2
    obtain ⟨y0, y1, y2⟩ := lcells3N HQ.out
    refine bodyPost_ret (v := .agg #[.int .i64 fr, .int .i64 to, .slice A n c]) (by simp [results, Try.results18, go_sem, y0, y1, y2]) rfl HM2.out
end Go.Proofs.Ytljnboimadhkoaa
