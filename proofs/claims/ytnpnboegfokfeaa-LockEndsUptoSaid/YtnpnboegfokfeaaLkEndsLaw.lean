/-
  LockEnds: where a path's counter is at the end nothing is added on it any more; on other paths it is.
-/
import Derived.Test.YtnpnboegfokfeaaLkAnch
import Derived.Test.YtnpnboegfokfeaaLkThose
import Derived.Test.YtnpnboegfokfeaaPRefJ
namespace Go.Proofs.Ytnpnboegfokfeaa
open Go.ChangeShapes Go.WideShapes Go.ChangeAt Go.RowKit Go.Maps Go.WideMaps
set_option linter.unusedVariables false
set_option linter.unusedSimpArgs false

/-- A book, and a session's box beside it. -/
def SesAt (w W : World) (b de dc n g : Nat) (first u : Int) (f : ByteArray) (l : List EnL) (cs : CnL) : Prop := BkK W w.heap.size b de dc n first l cs ∧ Blk W g 30 #[.int .u64 u, .string f] ∧ Below w.heap.size w W ∧ g ≠ b ∧ g ≠ de ∧ g ≠ dc ∧ w.heap.size ≤ g
theorem SesAt.on {w W W2 : World} {b de dc n g : Nat} {first u : Int} {f : ByteArray} {l : List EnL} {cs : CnL} (h : SesAt w W b de dc n g first u f l cs) (k : Below W.heap.size W W2) : SesAt w W2 b de dc n g first u f l cs :=
  ⟨h.1.on k, ent_low h.2.1 k, below_on h.2.2.1 k, h.2.2.2⟩
theorem SesAt.move {w W W2 : World} {b de dc n m g : Nat} {first u : Int} {f : ByteArray} {l l2 : List EnL} {cs cs2 : CnL} (h : SesAt w W b de dc n g first u f l cs) (hb : BkK W2 w.heap.size b de dc m first l2 cs2) (t : TurnsD (OwnK de dc) W W2) : SesAt w W2 b de dc m g first u f l2 cs2 :=
  ⟨hb, h.2.1.turns t (fun e => by rcases e with e | e; exact h.2.2.2.2.1 e; exact h.2.2.2.2.2.1 e), h.2.2.1.trans (t.below h.2.2.1.size (fun i hi e => by have := h.1.low; rcases e with e | e <;> omega)), h.2.2.2⟩
theorem SesAt.book {w W : World} {b de dc n g : Nat} {first u : Int} {f : ByteArray} {l : List EnL} {cs : CnL} (h : SesAt w W b de dc n g first u f l cs) : BkK W w.heap.size b de dc n first l cs := h.1
theorem SesAt.ses {w W : World} {b de dc n g : Nat} {first u : Int} {f : ByteArray} {l : List EnL} {cs : CnL} (h : SesAt w W b de dc n g first u f l cs) : W.cell? ⟨g, 0, none⟩ = some (.int .u64 u) ∧ W.cell? ⟨g, 1, none⟩ = some (.string f) := lcells2 h.2.1
theorem turnsE_own {de dc : Nat} {w w' : World} (t : TurnsD (fun i => i = de) w w') : TurnsD (OwnK de dc) w w' := t.more (fun i _ h => .inl h)
theorem ends_rm (e : EnL) : rmE ([] ++ [e]) e.path e.num e.foot = [] := by
  have : isE e.path e.num e.foot e = true := isE_iff.2 ⟨rfl, rfl, rfl⟩
  simp [rmE, this]
theorem ends_find (e : EnL) : (findE ([] ++ [e]) e.path e.num e.foot).isSome = true := by
  have : isE e.path e.num e.foot e = true := isE_iff.2 ⟨rfl, rfl, rfl⟩
  simp [findE, this]
theorem ends_may {first : Int} {cs : CnL} {p : ByteArray} {u : Int} {f : ByteArray} {mode : Int} (hr : right (L p) = true) (hm : mode = 1 ∨ mode = 2) : mayE first [] cs p u f mode = if 9223372036854775807 ≤ cntE first cs p then 53 else 0 := by
  unfold mayE
  have : rightE p mode = true := by unfold rightE; rw [hr]; simpa using hm
  rw [if_pos this]
  simp [findE, heldE]
/-- Where the loop stands. -/
def EndsAt (w W : World) (b de dc g j : Nat) (first u : Int) (f p : ByteArray) : Prop :=
  ∃ cs, SesAt w W b de dc j g first u f [] cs ∧ cntE first cs p = first + (j : Int) ∧ ∀ q, ¬ p = q → cntE first cs q = first

set_option maxRecDepth 100000 in
set_option maxHeartbeats 8000000 in
theorem lkends_any (u : Int) (f p q : ByteArray) (mode short : Int) (w : World) (hu : IsUk u) (hf : OkK f) (hp : p.size ≤ 1100000) (hq : q.size ≤ 1100000) (hs : IsUk short) :
    Calls Try.prog 4 #[.agg #[.int .u64 u, .string f], .string p, .string q, .int .i64 mode, .int .u64 short] w (Asks (.bool true) w) := by
  have HA := hid (fun w => lkanchor_any w)
  have HR1 := hid (fun w => refright_big p w hp)
  have HR2 := hid (fun w => refright_big q w hq)
  have HS := hid hs
  have HUF := hid (And.intro hu hf)
  obtain ⟨r1, h1⟩ : ∃ r, right (L p) = r := ⟨_, rfl⟩
  obtain ⟨r2, h2⟩ : ∃ r, right (L q) = r := ⟨_, rfl⟩
  have HRp := hid h1
  have HRq := hid h2
  rw [h1] at HR1
  rw [h2] at HR2
  have HPq : Hid (¬ p = q → (p.toList == q.toList) = false) := hid (fun h => by rw [lkeq_text]; exact decide_eq_false h)
  have HPq1 : Hid (p = q → (p.toList == q.toList) = true) := hid (fun h => by rw [lkeq_text]; exact decide_eq_true h)
  clear h1 h2 hp hq hs hu hf
  go_enter Try.func4, Try.ntmps4
  go_upto_region 1 with fail
  obtain ⟨W, hW⟩ : ∃ W, w.alloc (.cells #[.int .u64 u, .string f] 30) = W := ⟨_, rfl⟩
  rw [hW]
  obtain ⟨K0, KB⟩ := lone_new hW
  clear hW
  obtain ⟨k, hk⟩ : ∃ k, w.heap.size = k := ⟨_, rfl⟩
  rw [hk] at K0 KB ⊢
  have HK := hid hk
  clear hk
  cases r1 with
  | false =>
    go_wp2_with (first
      | (go_at_call 6; (with_reducible refine (HA.out _).mono ?_); rintro e w1 ⟨rfl, b1⟩; have K1 := hid (ent_low K0.out b1); have B1 := hid (KB.out.trans (b1.mono (by have := K0.out.lt; omega))); clear b1)
      | (go_at_call 14; (with_reducible refine (HR1.out _).mono ?_); rintro e w2 ⟨rfl, b2⟩; have K2 := hid (ent_low K1.out b2); have B2 := hid (B1.out.trans (b2.mono (by have := K1.out.lt; omega))); clear b2))
    go_ret
    exact ⟨rfl, by rw [HK.out]; exact B2.out⟩
  | true =>
    cases r2 with
    | false =>
      go_wp2_with (first
        | (go_at_call 6; (with_reducible refine (HA.out _).mono ?_); rintro e w1 ⟨rfl, b1⟩; have K1 := hid (ent_low K0.out b1); have B1 := hid (KB.out.trans (b1.mono (by have := K0.out.lt; omega))); clear b1)
        | (go_at_call 14; (with_reducible refine (HR1.out _).mono ?_); rintro e w2 ⟨rfl, b2⟩; have K2 := hid (ent_low K1.out b2); have B2 := hid (B1.out.trans (b2.mono (by have := K1.out.lt; omega))); clear b2)
        | (go_at_call 14; (with_reducible refine (HR2.out _).mono ?_); rintro e w3 ⟨rfl, b3⟩; have K3 := hid (ent_low K2.out b3); have B3 := hid (B2.out.trans (b3.mono (by have := K2.out.lt; omega))); clear b3))
      go_ret
      exact ⟨rfl, by rw [HK.out]; exact B3.out⟩
    | true =>
      by_cases hpq : p = q
      · subst hpq
        go_wp2_with (first
          | (go_at_call 6; (with_reducible refine (HA.out _).mono ?_); rintro e w1 ⟨rfl, b1⟩; have K1 := hid (ent_low K0.out b1); have B1 := hid (KB.out.trans (b1.mono (by have := K0.out.lt; omega))); clear b1)
          | (go_at_call 14; (with_reducible refine (HR1.out _).mono ?_); rintro e w2 ⟨rfl, b2⟩; have K2 := hid (ent_low K1.out b2); have B2 := hid (B1.out.trans (b2.mono (by have := K1.out.lt; omega))); clear b2)
          | (go_at_call 14; (with_reducible refine (HR2.out _).mono ?_); rintro e w3 ⟨rfl, b3⟩; have K3 := hid (ent_low K2.out b3); have B3 := hid (B2.out.trans (b3.mono (by have := K2.out.lt; omega))); clear b3))
        go_ret
        exact ⟨rfl, by rw [HK.out]; exact B3.out⟩
      have q1 := HPq.out hpq
      have HNe := hid hpq
      clear hpq
      by_cases hm1 : mode < 1
      · skip
        go_wp2_with (first
          | (go_at_call 6; (with_reducible refine (HA.out _).mono ?_); rintro e w1 ⟨rfl, b1⟩; have K1 := hid (ent_low K0.out b1); have B1 := hid (KB.out.trans (b1.mono (by have := K0.out.lt; omega))); clear b1)
          | (go_at_call 14; (with_reducible refine (HR1.out _).mono ?_); rintro e w2 ⟨rfl, b2⟩; have K2 := hid (ent_low K1.out b2); have B2 := hid (B1.out.trans (b2.mono (by have := K1.out.lt; omega))); clear b2)
          | (go_at_call 14; (with_reducible refine (HR2.out _).mono ?_); rintro e w3 ⟨rfl, b3⟩; have K3 := hid (ent_low K2.out b3); have B3 := hid (B2.out.trans (b3.mono (by have := K2.out.lt; omega))); clear b3))
        go_ret
        exact ⟨rfl, by rw [HK.out]; exact B3.out⟩
      by_cases hm2 : 2 < mode
      · skip
        go_wp2_with (first
          | (go_at_call 6; (with_reducible refine (HA.out _).mono ?_); rintro e w1 ⟨rfl, b1⟩; have K1 := hid (ent_low K0.out b1); have B1 := hid (KB.out.trans (b1.mono (by have := K0.out.lt; omega))); clear b1)
          | (go_at_call 14; (with_reducible refine (HR1.out _).mono ?_); rintro e w2 ⟨rfl, b2⟩; have K2 := hid (ent_low K1.out b2); have B2 := hid (B1.out.trans (b2.mono (by have := K1.out.lt; omega))); clear b2)
          | (go_at_call 14; (with_reducible refine (HR2.out _).mono ?_); rintro e w3 ⟨rfl, b3⟩; have K3 := hid (ent_low K2.out b3); have B3 := hid (B2.out.trans (b3.mono (by have := K2.out.lt; omega))); clear b3))
        go_ret
        exact ⟨rfl, by rw [HK.out]; exact B3.out⟩
      by_cases hsh : 20 < short
      · skip
        go_wp2_with (first
          | (go_at_call 6; (with_reducible refine (HA.out _).mono ?_); rintro e w1 ⟨rfl, b1⟩; have K1 := hid (ent_low K0.out b1); have B1 := hid (KB.out.trans (b1.mono (by have := K0.out.lt; omega))); clear b1)
          | (go_at_call 14; (with_reducible refine (HR1.out _).mono ?_); rintro e w2 ⟨rfl, b2⟩; have K2 := hid (ent_low K1.out b2); have B2 := hid (B1.out.trans (b2.mono (by have := K1.out.lt; omega))); clear b2)
          | (go_at_call 14; (with_reducible refine (HR2.out _).mono ?_); rintro e w3 ⟨rfl, b3⟩; have K3 := hid (ent_low K2.out b3); have B3 := hid (B2.out.trans (b3.mono (by have := K2.out.lt; omega))); clear b3))
        go_ret
        exact ⟨rfl, by rw [HK.out]; exact B3.out⟩
      have HMode : Hid (mode = 1 ∨ mode = 2) := hid (by omega)
      have hs0 : 0 ≤ short := HS.out.1
      have hsub : IntKind.u64.wrap (9223372036854775807 - short) = 9223372036854775807 - short := IntWalk.u64_in _ (by omega)
      obtain ⟨first, hfirst⟩ : ∃ x, 9223372036854775807 - short = x := ⟨_, rfl⟩
      have HFi := hid hfirst
      rw [hfirst] at hsub
      have HN := hid (fun w => lknew_any first w (by unfold IsUk; omega))
      go_upto_region 6 with (first
        | (go_at_call 6; (with_reducible refine (HA.out _).mono ?_); rintro e w1 ⟨rfl, b1⟩; have K1 := hid (ent_low K0.out b1); have B1 := hid (KB.out.trans (b1.mono (by have := K0.out.lt; omega))); clear b1)
        | (go_at_call 14; (with_reducible refine (HR1.out _).mono ?_); rintro e w2 ⟨rfl, b2⟩; have K2 := hid (ent_low K1.out b2); have B2 := hid (B1.out.trans (b2.mono (by have := K1.out.lt; omega))); clear b2)
        | (go_at_call 14; (with_reducible refine (HR2.out _).mono ?_); rintro e w3 ⟨rfl, b3⟩; have K3 := hid (ent_low K2.out b3); have B3 := hid (B2.out.trans (b3.mono (by have := K2.out.lt; omega))); clear b3)
        | (go_at_call 8; (with_reducible refine (HN.out _).mono ?_); rintro e w4 ⟨rfl, b4, bk⟩; have K4 := hid (ent_low K3.out b4); have B4 := hid (B3.out.trans (b4.mono (by have := K3.out.lt; omega))); have BK := hid bk; clear b4 bk))
      have hk3 : k < w3.heap.size := K3.out.lt
      have S0 : Hid (SesAt w w4 (w3.heap.size + 2) w3.heap.size (w3.heap.size + 1) 0 k first u f [] []) := hid (by
        have hw := HK.out
        refine ⟨⟨BK.out.blk, BK.out.es, BK.out.ct, BK.out.good, BK.out.many, BK.out.ne, by omega, by omega, by omega⟩, K4.out, by rw [hw]; exact B4.out, by omega, by omega, by omega, by omega⟩)
      obtain ⟨de, hde⟩ : ∃ x, w3.heap.size = x := ⟨_, rfl⟩
      rw [hde] at S0
      rw [hde]
      obtain ⟨b, hb⟩ : ∃ x, de + 2 = x := ⟨_, rfl⟩
      obtain ⟨dc, hdc⟩ : ∃ x, de + 1 = x := ⟨_, rfl⟩
      rw [hb, hdc] at S0
      rw [hb]
      clear hde hb hdc BK K0 K1 K2 K3 K4 B1 B2 B3 B4 HN HR1 HR2 HA KB hk3
      have E0 : Hid (EndsAt w w4 b de dc k 0 first u f p) := hid ⟨[], S0.out, by simp [cntE], fun q _ => by simp [cntE]⟩
      have HMay := hid (fun cs (x : ByteArray) (hr : right (L x) = true) => ends_may (first := first) (cs := cs) (p := x) (u := u) (f := f) hr HMode.out)
      have hpz : OkK p := by have := size_right HRp.out; unfold OkK; omega
      have hqz : OkK q := by have := size_right HRq.out; unfold OkK; omega
      have HAdd := hid (fun n cs W2 (h : BkK W2 w.heap.size b de dc n first [] cs) (hn : n < 1000000) (hm : mayE first [] cs p u f mode = 0) => lkadd_ok w.heap.size b de dc n first [] cs p u f mode W2 h hn hpz HUF.out.1 HUF.out.2 hm)
      have HAddN := hid (fun n cs W2 (h : BkK W2 w.heap.size b de dc n first [] cs) (hn : n ≤ 1000000) (hm : mayE first [] cs p u f mode ≠ 0) => lkadd_no w.heap.size b de dc n first [] cs p u f mode W2 h hn hpz HUF.out.1 HUF.out.2 hm)
      have HAdq := hid (fun n cs W2 (h : BkK W2 w.heap.size b de dc n first [] cs) (hn : n < 1000000) (hm : mayE first [] cs q u f mode = 0) => lkadd_ok w.heap.size b de dc n first [] cs q u f mode W2 h hn hqz HUF.out.1 HUF.out.2 hm)
      have HAdqN := hid (fun n cs W2 (h : BkK W2 w.heap.size b de dc n first [] cs) (hn : n ≤ 1000000) (hm : mayE first [] cs q u f mode ≠ 0) => lkadd_no w.heap.size b de dc n first [] cs q u f mode W2 h hn hqz HUF.out.1 HUF.out.2 hm)
      have HRem := hid (fun n cs W2 (h : BkK W2 w.heap.size b de dc n first ([] ++ [addE first [] cs p u f mode]) (setC cs p (cntE first cs p + 1))) => lkremove_any w.heap.size b de dc n first _ _ p u f W2 h hpz HUF.out.1 HUF.out.2)
      have HCnt := hid (fun n cs W2 (h : BkK W2 w.heap.size b de dc n first [] cs) => lkcounter_any w.heap.size b de dc n first [] cs p W2 h hpz)
      have HLst := hid (fun n cs W2 (h : BkK W2 w.heap.size b de dc n first [] cs) (hn : n ≤ 1000000) => lklist_any w.heap.size b de dc n first [] cs W2 h hn)
      clear hpz hqz
      go_wp2_with fail
      go_loopw [49] (fun iv wr => ∃ j : Nat, iv = .int .u64 (j : Int) ∧ (j : Int) ≤ short ∧ Hid (EndsAt w wr b de dc k j first u f p)) (fun iv _ => 20 - (intOf iv).toNat)
      case atStart => exact ⟨0, rfl, hs0, E0⟩
      case round =>
        obtain ⟨j, rfl, hj, HE⟩ := hrel
        clear E0 S0
        obtain ⟨cs, hSes, hCn, hOth⟩ := HE.out
        have HSs := hid hSes
        have HCn := hid hCn
        have HOth := hid hOth
        clear hSes hCn hOth HE
        obtain ⟨c0, c1⟩ := HSs.out.ses
        by_cases hlt : (j : Int) < short
        · have hm0 : mayE first [] cs p u f mode = 0 := by rw [HMay.out cs p HRp.out, HCn.out, if_neg (by omega)]
          have D1 := hid (HAdd.out j cs wr HSs.out.book (by omega) hm0)
          have HEn : Hid (addE first [] cs p u f mode = ⟨p, u, f, mode, first + j + 1, 1⟩) := hid (by
            have : addE first [] cs p u f mode = ⟨p, u, f, mode, cntE first cs p + 1, stampE [] p⟩ := rfl
            rw [this, HCn.out]
            rfl)
          have hwrap : IntKind.u64.wrap ((j : Int) + 1) = ((j + 1 : Nat) : Int) := by rw [IntWalk.u64_in _ (by omega)]; omega
          have hle : ¬ (first + (j : Int) + 1 ≤ first) := by omega
          have HRm := hid (ends_rm (addE first [] cs p u f mode))
          have HFd := hid (ends_find (addE first [] cs p u f mode))
          obtain ⟨fj, hfj⟩ : ∃ x, first + (j : Int) + 1 = x := ⟨_, rfl⟩
          rw [hfj] at HEn hle
          have HFj := hid hfj
          clear hfj
          go_upto_region 9 with (go_at_call 15; (with_reducible refine D1.out.mono ?_); rintro e w5 ⟨rfl, bk5, t5⟩; have S5 := hid (HSs.out.move bk5 t5); clear bk5 t5 c0 c1; rw [HEn.out])
          obtain ⟨V, hV⟩ : ∃ V, w5.alloc (.cells #[.string p, .int .u64 u, .string f, .int .i64 mode, .int .u64 fj, .int .i64 1] 41) = V := ⟨_, rfl⟩
          rw [hV]
          obtain ⟨E0, EB⟩ := lone_new hV
          clear hV
          have S6 := hid (S5.out.on EB.out)
          have D2 := hid (HRem.out _ _ _ S6.out.book)
          obtain ⟨c0, c1⟩ := S6.out.ses
          obtain ⟨g, hg⟩ : ∃ x, w5.heap.size = x := ⟨_, rfl⟩
          rw [hg] at E0 ⊢
          have HGd : Hid (g ≠ de) := hid (by have := S5.out.book.lt; omega)
          have e4 : V.cell? ⟨g, 4, none⟩ = some (.int .u64 fj) := (lcells6 E0.out).2.2.2.2.1
          rw [show rmE ([] ++ [addE first [] cs p u f mode]) p u f = [] from HRm.out, if_pos (show (findE ([] ++ [addE first [] cs p u f mode]) p u f).isSome = true from HFd.out)] at D2
          go_wp2_with (go_at_call 16; (with_reducible refine D2.out.mono ?_); rintro e w7 ⟨rfl, bk7, t7⟩; have S7 := hid (S6.out.move bk7 (turnsE_own t7)); have e7 : w7.cell? ⟨g, 4, none⟩ = some (.int .u64 fj) := (lcells6 (E0.out.turns t7 HGd.out)).2.2.2.2.1; clear bk7 t7 e4 c0 c1)
          go_roundw
          case rel => exact ⟨j + 1, rfl, by push_cast; omega, hid ⟨_, S7.out, by rw [cnt_set, if_pos rfl, HCn.out]; push_cast; omega, fun x hx => by rw [cnt_set, if_neg hx]; exact HOth.out x hx⟩⟩
          case measure => simp only [intOf]; omega
        · have hjs : (j : Int) = short := by omega
          have hm1 : mayE first [] cs p u f mode = 53 := by rw [HMay.out cs p HRp.out, HCn.out, if_pos (by omega)]
          have D1 := hid (HAddN.out j cs wr HSs.out.book (by omega) (by rw [hm1]; decide))
          rw [hm1] at D1
          go_upto_region 13 with (go_at_call 15; (with_reducible refine D1.out.mono ?_); rintro e w5 ⟨rfl, b5⟩; have S5 := hid (HSs.out.on b5); clear b5 c0 c1)
          obtain ⟨V, hV⟩ : ∃ V, w5.alloc (.cells zeroEC 41) = V := ⟨_, rfl⟩
          change Code.wp _ _ _ _ (w5.alloc (.cells zeroEC 41))
          rw [hV]
          obtain ⟨E0, EB⟩ := lone_new hV
          clear hV
          have S6 := hid (S5.out.on EB.out)
          obtain ⟨g, hg⟩ : ∃ x, w5.heap.size = x := ⟨_, rfl⟩
          rw [hg] at E0 ⊢
          obtain ⟨e0, e1, e2, e3, e4, e5⟩ := lcells6 E0.out
          have D2 := hid (HCnt.out j cs V S6.out.book)
          rw [HCn.out, show first + (j : Int) = 9223372036854775807 by omega] at D2
          have D3 := hid (HLst.out j cs V S6.out.book (by omega))
          have HMq := hid (HMay.out cs q HRq.out)
          rw [HOth.out q HNe.out] at HMq
          go_upto_region 15 with (first
            | (go_at_call 17; (with_reducible refine D2.out.mono ?_); rintro e w6 ⟨rfl, rfl⟩)
            | (go_at_call 10; (with_reducible refine D3.out.mono ?_); rintro e w7 ⟨ds, A, c, _, hp0, rfl, _, _, _, _, b7⟩; have S7 := hid (S6.out.on b7); have hds : ds = [] := hp0.eq_nil; subst hds; clear b7 hp0 e0 e1 e2 e3 e4 e5; dsimp only [List.length_nil]))
          obtain ⟨c0, c1⟩ := S7.out.ses
          by_cases hz : short = 0
          · have D4 := hid (HAdqN.out j cs w7 S7.out.book (by omega) (by rw [HMq.out, if_pos (by omega)]; decide))
            rw [HMq.out, if_pos (show 9223372036854775807 ≤ first by omega)] at D4
            subst hz
            go_wp2_with (go_at_call 15; (with_reducible refine D4.out.mono ?_); rintro e w8 ⟨rfl, b8⟩; have S8 := hid (S7.out.on b8); clear b8)
            go_ret
            exact ⟨rfl, S8.out.2.2.1.alloc S8.out.2.2.1.size _⟩
          · have D4 := hid (HAdq.out j cs w7 S7.out.book (by omega) (by rw [HMq.out, if_neg (by omega)]))
            have hgz : 0 < short := by omega
            obtain ⟨aq, haq⟩ : ∃ x, addE first [] cs q u f mode = x := ⟨_, rfl⟩
            rw [haq] at D4
            clear haq
            go_wp2_with (go_at_call 15; (with_reducible refine D4.out.mono ?_); rintro e w8 ⟨rfl, bk8, t8⟩; have S8 := hid (S7.out.move bk8 t8); clear bk8 t8)
            go_ret
            exact ⟨rfl, S8.out.2.2.1.alloc S8.out.2.2.1.size _⟩
end Go.Proofs.Ytnpnboegfokfeaa
