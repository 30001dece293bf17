/-
  Sessions and entries compared with ==; the contracts of lock's stamp, held.
-/
import Derived.Test.YtgjbhlianlbflaaGreatBLkRange
namespace Go.Proofs.YtgjbhlianlbflaaGreat
open Go.ChangeShapes Go.WideShapes Go.ChangeAt Go.RowKit Go.Maps Go.WideMaps
set_option linter.unusedVariables false
set_option linter.unusedSimpArgs false
theorem lkeq_text (a b : ByteArray) : (a.toList == b.toList) = decide (a = b) := by
  rw [toList_L, toList_L]
  by_cases h : a = b
  · subst h; simp
  · rw [decide_eq_false h, beq_eq_false_iff_ne]
    exact fun e => h (L_inj.1 e)
theorem eqk_cons {P : Program} {d : Nat} {xs ys : Array Value} {f : Field} {fs : List Field} {w : World} {a b : Value} {x y : Bool} (hf : f.name ≠ "_") (h1 : (part f.type xs f.offset).run P w = .ok a w) (h2 : (part f.type ys f.offset).run P w = .ok b w)
    (h3 : (Op.equalIn d f.type a b).run P w = .ok x w) (h4 : (Op.eqFields d xs ys fs).run P w = .ok y w) : (Op.eqFields d xs ys (f :: fs)).run P w = .ok (x && y) w := by
  simp only [Op.eqFields, if_pos hf, Sem.run_bind, h1, h2, h3, Result.andThen_ok]
  cases x
  · simp
  · simpa using h4
theorem eqk_nil {P : Program} {d : Nat} {xs ys : Array Value} {w : World} : (Op.eqFields d xs ys []).run P w = .ok true w := by simp [Op.eqFields]
theorem eqk_ses (d : Nat) (u : Int) (f : ByteArray) (u2 : Int) (f2 : ByteArray) (w : World) :
    (Op.equalIn (d + 2) 33 (.agg #[.int .u64 u, .string f]) (.agg #[.int .u64 u2, .string f2])).run Tryz.prog w = .ok (u == u2 && decide (f = f2)) w := by
  have ht : Tryz.prog.underlying 33 = some (.struct (Tryz.prog.fieldsOf 33)) := by kernel_rfl
  have hp : Tryz.prog.stoodInHeld 33 = false := by kernel_rfl
  rw [run_equalIn_struct w (d + 1) _ _ _ ht hp]
  have p1 := run_part_plain (P := Tryz.prog) (w := w) (e := 22) (by kernel_rfl) (xs := #[.int .u64 u, .string f]) (off := 0) rfl
  have p2 := run_part_plain (P := Tryz.prog) (w := w) (e := 9) (by kernel_rfl) (xs := #[.int .u64 u, .string f]) (off := 1) rfl
  have p3 := run_part_plain (P := Tryz.prog) (w := w) (e := 22) (by kernel_rfl) (xs := #[.int .u64 u2, .string f2]) (off := 0) rfl
  have p4 := run_part_plain (P := Tryz.prog) (w := w) (e := 9) (by kernel_rfl) (xs := #[.int .u64 u2, .string f2]) (off := 1) rfl
  have q1 := run_equalIn_int (P := Tryz.prog) w d 22 .u64 .u64 u u2 Tryz.underlying22
  have q2 := run_equalIn_string (P := Tryz.prog) w d 9 f f2 Tryz.underlying9
  rw [lkeq_text] at q2
  cases h : (u == u2) <;> simp [Program.fieldsOf, Tryz.underlying33, Op.eqFields, p1, p2, p3, p4, q1, q2, h, Sem.run_bind, Sem.run_ite, Result.andThen_ok]
  by_cases h2 : f = f2 <;> simp [h2]
def eqE (a b : EnL) : Bool := decide (a.path = b.path) && ((a.num == b.num && decide (a.foot = b.foot)) && ((a.mode == b.mode) && ((a.n == b.n) && (a.stamp == b.stamp))))
theorem eqE_iff {a b : EnL} : eqE a b = true ↔ a = b := by
  obtain ⟨p, u, f, m, n, s⟩ := a
  obtain ⟨p', u', f', m', n', s'⟩ := b
  unfold eqE
  simp [and_assoc]
theorem part_ses (a : Value) (u : Int) (f : ByteArray) (c d e : Value) (w : World) : (part 33 #[a, .int .u64 u, .string f, c, d, e] 1).run Tryz.prog w = .ok (.agg #[.int .u64 u, .string f]) w := by
  simp [go_sem, part]
set_option maxRecDepth 100000 in
theorem eqk_ent (a b : EnL) (w : World) : (Op.equalIn 10000 44 (entV a) (entV b)).run Tryz.prog w = .ok (eqE a b) w := by
  obtain ⟨p, u, f, m, n, s⟩ := a
  obtain ⟨p', u', f', m', n', s'⟩ := b
  have ht : Tryz.prog.underlying 44 = some (.struct (Tryz.prog.fieldsOf 44)) := by kernel_rfl
  have hp : Tryz.prog.stoodInHeld 44 = false := by kernel_rfl
  unfold eqE
  dsimp only
  rw [run_equalIn_struct w 9999 _ _ _ ht hp]
  have a0 := run_part_plain (P := Tryz.prog) (w := w) (e := 9) (by kernel_rfl) (xs := #[.string p, .int .u64 u, .string f, .int .i64 m, .int .u64 n, .int .i64 s]) (off := 0) rfl
  have b0 := run_part_plain (P := Tryz.prog) (w := w) (e := 9) (by kernel_rfl) (xs := #[.string p', .int .u64 u', .string f', .int .i64 m', .int .u64 n', .int .i64 s']) (off := 0) rfl
  have a1 := run_part_plain (P := Tryz.prog) (w := w) (e := 3) (by kernel_rfl) (xs := #[.string p, .int .u64 u, .string f, .int .i64 m, .int .u64 n, .int .i64 s]) (off := 3) rfl
  have b1 := run_part_plain (P := Tryz.prog) (w := w) (e := 3) (by kernel_rfl) (xs := #[.string p', .int .u64 u', .string f', .int .i64 m', .int .u64 n', .int .i64 s']) (off := 3) rfl
  have a2 := run_part_plain (P := Tryz.prog) (w := w) (e := 22) (by kernel_rfl) (xs := #[.string p, .int .u64 u, .string f, .int .i64 m, .int .u64 n, .int .i64 s]) (off := 4) rfl
  have b2 := run_part_plain (P := Tryz.prog) (w := w) (e := 22) (by kernel_rfl) (xs := #[.string p', .int .u64 u', .string f', .int .i64 m', .int .u64 n', .int .i64 s']) (off := 4) rfl
  have a3 := run_part_plain (P := Tryz.prog) (w := w) (e := 3) (by kernel_rfl) (xs := #[.string p, .int .u64 u, .string f, .int .i64 m, .int .u64 n, .int .i64 s]) (off := 5) rfl
  have b3 := run_part_plain (P := Tryz.prog) (w := w) (e := 3) (by kernel_rfl) (xs := #[.string p', .int .u64 u', .string f', .int .i64 m', .int .u64 n', .int .i64 s']) (off := 5) rfl
  have s1 := part_ses (.string p) u f (.int .i64 m) (.int .u64 n) (.int .i64 s) w
  have s2 := part_ses (.string p') u' f' (.int .i64 m') (.int .u64 n') (.int .i64 s') w
  have s3 := eqk_ses 9997 u f u' f' w
  have e0 := run_equalIn_string (P := Tryz.prog) w 9998 9 p p' Tryz.underlying9
  rw [lkeq_text] at e0
  have e2 := run_equalIn_int (P := Tryz.prog) w 9998 3 .i64 .i64 m m' Tryz.underlying3
  have e3 := run_equalIn_int (P := Tryz.prog) w 9998 22 .u64 .u64 n n' Tryz.underlying22
  have e4 := run_equalIn_int (P := Tryz.prog) w 9998 3 .i64 .i64 s s' Tryz.underlying3
  rw [← Bool.and_true (s == s')]
  simp only [Program.fieldsOf, Tryz.underlying44]
  exact eqk_cons (by decide) a0 b0 e0 (eqk_cons (by decide) s1 s2 s3 (eqk_cons (by decide) a1 b1 e2 (eqk_cons (by decide) a2 b2 e3 (eqk_cons (by decide) a3 b3 e4 eqk_nil))))
theorem top_seen {l ks : List EnL} (hs : ∀ e ∈ ks, e ∈ l) {k : Int} (h0 : 0 ≤ k) (h : ∀ e ∈ l, e.stamp ≤ k) (p : ByteArray) : topE ks p ≤ k := top_le p h0 (fun e he => h e (hs e he))
set_option maxRecDepth 100000 in
set_option maxHeartbeats 4000000 in
theorem lkstamp_any (base b de dc n : Nat) (first : Int) (l : List EnL) (cs : CnL) (p : ByteArray) (w : World) (h : BkK w base b de dc n first l cs) (hn : n ≤ 1000000) (hp : OkK p) :
    Calls Tryz.prog 37 #[.pointer (some ⟨b, 0, none⟩), .string p] w (Asks (.int .i64 (stampE l p)) w) := by
  have HB := hid h.blk
  have HL := hid h.lt
  have HR := hid h.good
  obtain ⟨D, hD, hM⟩ := h.es
  have HD := hid hD
  have HM : Hid (EnD l D) := hid hM
  have HN := hid hn
  have HTop := hid h.many.2
  have HC := hid (fun s (hs : s ∈ l) w => overlap_any s.path p w (h.good.keys s hs).2.1.le4 hp.le4)
  clear h hD hM hn hp
  have c1 : w.cell? ⟨b, 1, none⟩ = some (.map (some de)) := (HB.out.cell 1).trans rfl
  go_enter Tryz.func37, Tryz.ntmps37
  go_wp2_with (first
    | (at_range; with_reducible refine wpList_range_own _ rfl _ 75 rfl 84 44 law_lkey Tryz.underlying75 idK de n D rfl HD.out ?_; intro w0 hrg0 hg0 hs0))
  go_frame
  obtain ⟨rr, hrr⟩ : ∃ r, w.heap.size = r := ⟨_, rfl⟩
  rw [hrr] at hrg0 hs0
  rw [hrr]
  have A0 : Hid (RngK w w0 de rr n D l [] (Maps.has D) (Maps.size D)) := hid ⟨hrg0, fun _ h => h, KkAt.start HR.out HM.out, lbelow_grown hg0, by omega, by have := HD.out.size_le; simpa using this⟩
  clear hrg0 hg0 hs0 c1
  go_loopw [5] (fun lv wr => ∃ ks left cnt, lv = .int .i64 (topE ks p) ∧ Hid (RngK w wr de rr n D l ks left cnt)) (fun _ wr => wr.rangeLeft de rr)
  case atStart => exact ⟨[], _, _, rfl, A0⟩
  case round =>
    obtain ⟨ks, left, cnt, rfl, HA⟩ := hrel
    clear A0
    have HG : Hid (wr.ranges Tryz.prog 84 idK de rr n D left cnt) := hid HA.out.1
    have HT2 : Hid (topE ks p ≤ 1000000 ∧ 0 ≤ topE ks p) := hid ⟨top_seen (fun e he => (HA.out.2.2.1.2.1 e he).1) (by omega) (fun e he => by have := HTop.out e he; have := HN.out; omega) p, (top_ge ks p).1⟩
    go_wp2_with (first
      | (at_next; with_reducible refine wpList_next_ranges _ rfl _ rfl 84 law_lkey idK (fun x : ByteArray × Int × ByteArray => (lkeyV x.1 x.2.1 x.2.2 : Value)) (fun c : Value => c) inv_lkey inv_idK de rr n D left cnt rfl HG.out ?_ ?_))
    · intro _ hl0
      have HP : Hid (topE ks p = topE l p) := hid (top_perm (HA.out.2.2.1.perm HR.out hl0) p)
      have HB2 := hid HA.out.2.2.2.1
      clear hl0 HA HG
      obtain ⟨t, ht⟩ : ∃ t, topE ks p = t := ⟨_, rfl⟩
      have hq := HT2.out
      rw [ht] at HP hq ⊢
      have qi : IntKind.i64.wrap (t + 1) = t + 1 := IntWalk.i64_in _ (by omega)
      clear ht
      go_wp2
      go_ret
      exact ⟨ret_num (by unfold stampE; rw [← HP.out]), HB2.out⟩
    · intro p2 u2 f2 c kl y yp w1 cnt1 hkey hlk hv hat hrg1 hlt1 hg1 hs1 hen
      obtain ⟨s, hs, e1, e2, e3, rfl, rfl⟩ := entry_lk (y := (y, yp)) HR.out HM.out hkey (HA.out.2.1 _ hlk) hv hat
      rw [e1, e2, e3] at hen ⊢
      have HS := hid hs
      have HC2 := hid (HA.out.2.2.1.step HR.out hs hlk)
      have BG := hid hrg1
      have BH : Hid (∀ kl, (left kl && !kl.sameKey (lklit s.path s.num s.foot)) = true → Maps.has D kl = true) := hid (fun kl h => HA.out.2.1 kl (by simp at h; exact h.1))
      have BB : Hid (Below w.heap.size w w1) := hid (HA.out.2.2.2.1.trans (lbelow_only hg1 (by have := HA.out.2.2.2.2.1; omega) (by have := HG.out.lt; have := HA.out.2.2.2.1.size; omega)))
      have BL := hid hlt1
      have BT : Hid (wr.rangeLeft de rr = cnt) := hid HG.out.left_eq
      have BS : Hid (rr < w1.heap.size) := hid (by rw [hs1]; exact HG.out.lt)
      have BO := hid HA.out.2.2.2.2.1
      have BN : Hid (topE (ks ++ [s]) p = stepT p (topE ks p) s) := hid (top_snoc _ _ _)
      have BC : Hid ((ks ++ [s]).length + cnt1 ≤ n) := hid (by have := HA.out.2.2.2.2.2; simp; omega)
      clear hkey hlk hv hat hrg1 hlt1 hg1 hs1 HA HG e1 e2 e3
      go_upto_region 5 with fail
      obtain ⟨W1, hW1⟩ : ∃ W1, w1.alloc (.cells (entC s) 44) = W1 := ⟨_, rfl⟩
      rw [hW1]
      obtain ⟨v, hv⟩ : ∃ v, w1.heap.size = v := ⟨_, rfl⟩
      obtain ⟨E6, EB⟩ := lone_new hW1
      rw [hv] at E6 EB BS ⊢
      have cG := hid (BG.out.kept (row := none) (by have h := EB.out; rw [← hv] at h; exact only_of_below h none) (by simp) (by simp))
      have cB : Hid (Below w.heap.size w W1) := hid (BB.out.trans (EB.out.mono (by have := BB.out.size; omega)))
      clear hv hW1 BB BG EB hen
      have HCs := hid (HC.out s HS.out)
      have KG : Hid (∀ W2 : World, Below W1.heap.size W1 W2 → Blk W2 v 44 (entC s) ∧ W2.ranges Tryz.prog 84 idK de rr n D (fun z => left z && !z.sameKey (lklit s.path s.num s.foot)) cnt1 ∧ Below w.heap.size w W2) := hid (fun W2 hb =>
        ⟨E6.out.below hb E6.out.lt, cG.out.kept (row := none) (only_of_below hb none) (by simp) (by simp), cB.out.trans (hb.mono (by have := E6.out.lt; have := cB.out.size; omega))⟩)
      have KG1 := hid (KG.out W1 (RowKit.Below.refl _ _))
      obtain ⟨d0, d1, d2, d3, d4, d5⟩ := lcells6 E6.out
      obtain ⟨t, ht⟩ : ∃ t, topE ks p = t := ⟨_, rfl⟩
      have hq := HT2.out
      rw [ht] at BN hq ⊢
      clear ht HT2
      by_cases hlt : t < s.stamp
      · obtain ⟨o, ho⟩ : ∃ o, overlap (L s.path) (L p) = o := ⟨_, rfl⟩
        rw [ho] at HCs
        have HX : Hid (stepT p t s = if o = true then s.stamp else t) := hid (by unfold stepT ovE; rw [ho]; simp [hlt])
        clear ho
        cases o with
        | true =>
          go_wp2_with (go_at_call 65; (with_reducible refine (HCs.out _).mono ?_); rintro r w2 ⟨rfl, b2⟩; have G2 := hid (KG.out _ b2); clear b2 d0 d1 d2 d3 d4 d5; obtain ⟨d0, d1, d2, d3, d4, d5⟩ := lcells6 G2.out.1)
          go_roundw
          case rel => exact ⟨ks ++ [s], _, cnt1, by rw [BN.out, HX.out]; rfl, hid ⟨G2.out.2.1, BH.out, HC2.out, G2.out.2.2, BO.out, BC.out⟩⟩
          case measure => rw [G2.out.2.1.left_eq, BT.out]; exact BL.out
        | false =>
          go_wp2_with (go_at_call 65; (with_reducible refine (HCs.out _).mono ?_); rintro r w2 ⟨rfl, b2⟩; have G2 := hid (KG.out _ b2); clear b2)
          go_roundw
          case rel => exact ⟨ks ++ [s], _, cnt1, by rw [BN.out, HX.out]; rfl, hid ⟨G2.out.2.1, BH.out, HC2.out, G2.out.2.2, BO.out, BC.out⟩⟩
          case measure => rw [G2.out.2.1.left_eq, BT.out]; exact BL.out
      · have HX : Hid (stepT p t s = t) := hid (by unfold stepT; rw [if_neg (fun h => hlt h.1)])
        go_wp2
        go_roundw
        case rel => exact ⟨ks ++ [s], _, cnt1, by rw [BN.out, HX.out], hid ⟨KG1.out.2.1, BH.out, HC2.out, KG1.out.2.2, BO.out, BC.out⟩⟩
        case measure => rw [KG1.out.2.1.left_eq, BT.out]; exact BL.out
theorem lkheld1_any (p : ByteArray) (u : Int) (f : ByteArray) (k : Nat) (u2 : Int) (f2 : ByteArray) (w : World) (hk : Blk w k 33 #[.int .u64 u2, .string f2]) :
    Calls Tryz.prog 88 #[lkeyV p u f, .pointer (some ⟨k, 0, none⟩)] w (Asks (.bool (u == u2 && decide (f = f2))) w) := by
  have HK := hid hk
  have HE := fun w => eqk_ses 9998 u f u2 f2 w
  obtain ⟨r, hr⟩ : ∃ r, (u == u2 && decide (f = f2)) = r := ⟨_, rfl⟩
  rw [hr] at HE ⊢
  clear hr hk
  go_enter Tryz.func88, Tryz.ntmps88
  go_upto_region 1 with fail
  obtain ⟨W, hW⟩ : ∃ W, w.alloc (.cells #[.string p, .int .u64 u, .string f] 84) = W := ⟨_, rfl⟩
  rw [hW]
  obtain ⟨K0, KB⟩ := lone_new hW
  clear hW
  have K1 := hid (ent_low HK.out KB.out)
  have y1 := (K0.out.cell 1).trans rfl
  have y2 := (K0.out.cell 2).trans rfl
  obtain ⟨x0, x1⟩ := lcells2 K1.out
  obtain ⟨q, hq⟩ : ∃ q, w.heap.size = q := ⟨_, rfl⟩
  have y1 : W.cell? ⟨q, 1, none⟩ = some (.int .u64 u) := by rw [← hq]; exact (K0.out.cell 1).trans rfl
  have y2 : W.cell? ⟨q, 2, none⟩ = some (.string f) := by rw [← hq]; exact (K0.out.cell 2).trans rfl
  rw [hq] at KB ⊢
  have HQ := hid hq
  clear hq
  go_wp2
  go_ret
  exact ⟨rfl, by rw [HQ.out]; exact KB.out⟩
theorem held_snoc (ks : List EnL) (s : EnL) (u : Int) (f : ByteArray) : heldE (ks ++ [s]) u f = heldE ks u f + if ofE u f s = true then 1 else 0 := by unfold heldE; simp [List.countP_append, List.countP_cons]
theorem ofE_eq (u : Int) (f : ByteArray) (s : EnL) : (s.num == u && decide (s.foot = f)) = ofE u f s := by
  unfold ofE
  rw [Bool.eq_iff_iff]
  simp
set_option maxRecDepth 100000 in
set_option maxHeartbeats 4000000 in
theorem lkcount_any (de n : Nat) (first : Int) (l : List EnL) (cs : CnL) (u : Int) (f : ByteArray) (k : Nat) (w : World) (hM0 : EsM w de n l) (hg : GoodK first l cs) (hk : Blk w k 33 #[.int .u64 u, .string f]) (hn : n ≤ 1000000) :
    Calls Tryz.prog 87 #[.map (some de), .func (.func 88) #[] #[.pointer (some ⟨k, 0, none⟩)]] w (Asks (.int .i64 ((heldE l u f : Nat) : Int)) w) := by
  have HR := hid hg
  have HK := hid hk
  obtain ⟨D, hD, hM⟩ := hM0
  have HD := hid hD
  have HM : Hid (EnD l D) := hid hM
  have HN := hid hn
  have HC := hid (fun (s : EnL) w (hk : Blk w k 33 #[.int .u64 u, .string f]) => lkheld1_any s.path s.num s.foot k u f w hk)
  clear hg hD hM hn hk
  go_enter Tryz.func87, Tryz.ntmps87
  go_wp2_with (first
    | (at_range; with_reducible refine wpList_range_own _ rfl _ 75 rfl 84 44 law_lkey Tryz.underlying75 idK de n D rfl HD.out ?_; intro w0 hrg0 hg0 hs0))
  go_frame
  obtain ⟨rr, hrr⟩ : ∃ r, w.heap.size = r := ⟨_, rfl⟩
  rw [hrr] at hrg0 hs0
  rw [hrr]
  have A0 : Hid (RngK w w0 de rr n D l [] (Maps.has D) (Maps.size D)) := hid ⟨hrg0, fun _ h => h, KkAt.start HR.out HM.out, lbelow_grown hg0, by omega, by have := HD.out.size_le; simpa using this⟩
  clear hrg0 hg0 hs0
  go_loopw [5] (fun lv wr => ∃ ks left cnt, lv = .int .i64 ((heldE ks u f : Nat) : Int) ∧ Hid (RngK w wr de rr n D l ks left cnt)) (fun _ wr => wr.rangeLeft de rr)
  case atStart => exact ⟨[], _, _, rfl, A0⟩
  case round =>
    obtain ⟨ks, left, cnt, rfl, HA⟩ := hrel
    clear A0
    have HG : Hid (wr.ranges Tryz.prog 84 idK de rr n D left cnt) := hid HA.out.1
    have HT2 : Hid (heldE ks u f ≤ 1000000) := hid (by
      have h1 := List.countP_le_length (p := ofE u f) (l := ks)
      have := HA.out.2.2.2.2.2
      have := HN.out
      unfold heldE
      omega)
    go_wp2_with (first
      | (at_next; with_reducible refine wpList_next_ranges _ rfl _ rfl 84 law_lkey idK (fun x : ByteArray × Int × ByteArray => (lkeyV x.1 x.2.1 x.2.2 : Value)) (fun c : Value => c) inv_lkey inv_idK de rr n D left cnt rfl HG.out ?_ ?_))
    · intro _ hl0
      have HP : Hid (heldE ks u f = heldE l u f) := hid ((HA.out.2.2.1.perm HR.out hl0).countP_eq (ofE u f))
      have HB2 := hid HA.out.2.2.2.1
      clear hl0 HA HG
      go_wp2
      go_ret
      exact ⟨ret_num (by rw [HP.out]), HB2.out⟩
    · intro p2 u2 f2 c kl y yp w1 cnt1 hkey hlk hv hat hrg1 hlt1 hg1 hs1 hen
      obtain ⟨s, hs, e1, e2, e3, rfl, rfl⟩ := entry_lk (y := (y, yp)) HR.out HM.out hkey (HA.out.2.1 _ hlk) hv hat
      rw [e1, e2, e3] at hen ⊢
      have HS := hid hs
      have HC2 := hid (HA.out.2.2.1.step HR.out hs hlk)
      have BG := hid hrg1
      have BH : Hid (∀ kl, (left kl && !kl.sameKey (lklit s.path s.num s.foot)) = true → Maps.has D kl = true) := hid (fun kl h => HA.out.2.1 kl (by simp at h; exact h.1))
      have BB : Hid (Below w.heap.size w w1) := hid (HA.out.2.2.2.1.trans (lbelow_only hg1 (by have := HA.out.2.2.2.2.1; omega) (by have := HG.out.lt; have := HA.out.2.2.2.1.size; omega)))
      have BL := hid hlt1
      have BT : Hid (wr.rangeLeft de rr = cnt) := hid HG.out.left_eq
      have BS : Hid (rr < w1.heap.size) := hid (by rw [hs1]; exact HG.out.lt)
      have BO := hid HA.out.2.2.2.2.1
      have BN := hid (held_snoc ks s u f)
      have BC : Hid ((ks ++ [s]).length + cnt1 ≤ n) := hid (by have := HA.out.2.2.2.2.2; simp; omega)
      clear hkey hlk hv hat hrg1 hlt1 hg1 hs1 HA HG e1 e2 e3
      go_upto_region 5 with fail
      obtain ⟨W1, hW1⟩ : ∃ W1, w1.alloc (.cells #[.string s.path, .int .u64 s.num, .string s.foot] 84) = W1 := ⟨_, rfl⟩
      rw [hW1]
      obtain ⟨v, hv⟩ : ∃ v, w1.heap.size = v := ⟨_, rfl⟩
      obtain ⟨E6, EB⟩ := lone_new hW1
      rw [hv] at E6 EB BS ⊢
      have cG := hid (BG.out.kept (row := none) (by have h := EB.out; rw [← hv] at h; exact only_of_below h none) (by simp) (by simp))
      have cB : Hid (Below w.heap.size w W1) := hid (BB.out.trans (EB.out.mono (by have := BB.out.size; omega)))
      clear hv hW1 BB BG EB hen
      have KW := hid (ent_low HK.out cB.out)
      have HCs := hid (HC.out s W1 KW.out)
      have d0 : W1.cell? ⟨v, 0, none⟩ = some (.string s.path) := (E6.out.cell 0).trans rfl
      have d1 : W1.cell? ⟨v, 1, none⟩ = some (.int .u64 s.num) := (E6.out.cell 1).trans rfl
      have d2 : W1.cell? ⟨v, 2, none⟩ = some (.string s.foot) := (E6.out.cell 2).trans rfl
      have KG : Hid (∀ W2 : World, Below W1.heap.size W1 W2 → W2.ranges Tryz.prog 84 idK de rr n D (fun z => left z && !z.sameKey (lklit s.path s.num s.foot)) cnt1 ∧ Below w.heap.size w W2) := hid (fun W2 hb =>
        ⟨cG.out.kept (row := none) (only_of_below hb none) (by simp) (by simp), cB.out.trans (hb.mono (by have := E6.out.lt; have := cB.out.size; omega))⟩)
      obtain ⟨t, ht⟩ : ∃ t, heldE ks u f = t := ⟨_, rfl⟩
      have hq := HT2.out
      rw [ht] at BN hq ⊢
      clear ht HT2
      have qi : IntKind.i64.wrap ((t : Int) + 1) = ((t + 1 : Nat) : Int) := by rw [IntWalk.i64_in _ (by omega)]; omega
      rw [ofE_eq] at HCs
      obtain ⟨o, ho⟩ : ∃ o, ofE u f s = o := ⟨_, rfl⟩
      rw [ho] at HCs BN
      clear ho
      cases o with
      | true =>
        go_wp2_with (go_at_call 88; (with_reducible refine HCs.out.mono ?_); rintro r w2 ⟨rfl, b2⟩; have G2 := hid (KG.out _ b2); clear b2)
        go_roundw
        case rel => exact ⟨ks ++ [s], _, cnt1, by rw [BN.out]; rfl, hid ⟨G2.out.1, BH.out, HC2.out, G2.out.2, BO.out, BC.out⟩⟩
        case measure => rw [G2.out.1.left_eq, BT.out]; exact BL.out
      | false =>
        go_wp2_with (go_at_call 88; (with_reducible refine HCs.out.mono ?_); rintro r w2 ⟨rfl, b2⟩; have G2 := hid (KG.out _ b2); clear b2)
        go_roundw
        case rel => exact ⟨ks ++ [s], _, cnt1, by rw [BN.out]; rfl, hid ⟨G2.out.1, BH.out, HC2.out, G2.out.2, BO.out, BC.out⟩⟩
        case measure => rw [G2.out.1.left_eq, BT.out]; exact BL.out
theorem lkheld_any (base b de dc n : Nat) (first : Int) (l : List EnL) (cs : CnL) (u : Int) (f : ByteArray) (w : World) (h : BkK w base b de dc n first l cs) (hn : n ≤ 1000000) :
    Calls Tryz.prog 59 #[.pointer (some ⟨b, 0, none⟩), .agg #[.int .u64 u, .string f]] w (Asks (.int .i64 ((heldE l u f : Nat) : Int)) w) := by
  have HB := hid h.blk
  have HL := hid h.lt
  have HC := hid (fun W k (he : W.heap[de]? = w.heap[de]?) hk => lkcount_any de n first l cs u f k W (h.es.same he) h.good hk hn)
  clear h
  go_enter Tryz.func59, Tryz.ntmps59
  go_upto_region 1 with fail
  obtain ⟨W, hW⟩ : ∃ W, w.alloc (.cells #[.int .u64 u, .string f] 33) = W := ⟨_, rfl⟩
  rw [hW]
  obtain ⟨K0, KB⟩ := lone_new hW
  clear hW
  obtain ⟨k, hk⟩ : ∃ k, w.heap.size = k := ⟨_, rfl⟩
  rw [hk] at K0 KB HL ⊢
  have HK := hid hk
  have c1 : W.cell? ⟨b, 1, none⟩ = some (.map (some de)) := ((HB.out.below KB.out HL.out.1).cell 1).trans rfl
  have HCs := hid (HC.out W k (KB.out.block de HL.out.2.1) K0.out)
  clear hk
  go_wp2_with (go_at_call 87; (with_reducible refine HCs.out.mono ?_); rintro r w2 ⟨rfl, b2⟩; have G2 := hid (KB.out.trans (b2.mono (by have := K0.out.lt; omega))); clear b2)
  go_ret
  exact ⟨rfl, by rw [HK.out]; exact G2.out⟩
end Go.Proofs.YtgjbhlianlbflaaGreat
