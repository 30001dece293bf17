/-
  The document's Could, Check; that they are the program's.
-/
import Derived.Test.YtgjbhlianlbflaaGreatLkCould
import Derived.Test.YtgjbhlianlbflaaGreatLkAheadMath
namespace Go.Proofs.YtgjbhlianlbflaaGreat
open Go.ChangeShapes Go.WideShapes Go.ChangeAt Go.RowKit Go.Maps Go.WideMaps
set_option linter.unusedVariables false
set_option linter.unusedSimpArgs false

def aftE (p : ByteArray) (mode : Int) : EnL := ⟨p, 0, ⟨#[]⟩, mode, 0, 0⟩
def couldD (l : List EnL) (p : ByteArray) (mode : Int) : Bool := (l.all fun y => !wayE y (aftE p mode)) && rightE p mode
theorem could_same (l : List EnL) (p : ByteArray) (mode : Int) : couldD l p mode = couldE l p mode := by
  unfold couldD couldE
  rw [Bool.and_comm]
  congr 1
  unfold freeE
  rw [Bool.eq_iff_iff, List.all_eq_true, List.all_eq_true]
  have key : ∀ x ∈ l, behE (nowE l p mode) x = wayE x (aftE p mode) := fun x hx => by
    have h1 : wayE (nowE l p mode) x = wayE x (aftE p mode) := by rw [way_comm]; rfl
    unfold behE
    rw [h1]
    cases hw : wayE x (aftE p mode) with
    | false => rw [Bool.and_false]
    | true =>
      have hov : ovE p x = true := way_ov hw
      have := (top_ge l p).2 x hx hov
      have h2 : x.stamp < (nowE l p mode).stamp := by show x.stamp < topE l p + 1; omega
      simp [h2]
  exact ⟨fun h x hx => by rw [key x hx]; exact h x hx, fun h x hx => by rw [← key x hx]; exact h x hx⟩
/-- The first entry on a path that has a sequencer. -/
def checkD (l : List EnL) (p : ByteArray) (k : Int) : Nat → Bool
  | j => if h : j < l.length then (if (l[j]'h).path = p ∧ (l[j]'h).n = k then freeD l j (l[j]'h) else checkD l p k (j + 1)) else false
  termination_by j => l.length - j
theorem checkD_at {l : List EnL} {p : ByteArray} {k : Int} {j : Nat} {e : EnL} (hj : l[j]? = some e) : checkD l p k j = if e.path = p ∧ e.n = k then freeD l j e else checkD l p k (j + 1) := by
  obtain ⟨h1, h2⟩ := List.getElem?_eq_some_iff.1 hj
  rw [checkD, dif_pos h1, h2]
theorem checkD_end {l : List EnL} {p : ByteArray} {k : Int} : checkD l p k l.length = false := by rw [checkD, dif_neg (by omega)]
theorem freeD_at {first : Int} {l : List EnL} {cs : CnL} (h : GoodK first l cs) {i : Nat} {e : EnL} (hi : l[i]? = some e) : freeE l e = freeD l i e := by
  unfold freeE freeD
  rw [Bool.eq_iff_iff, List.all_eq_true, List.all_eq_true]
  constructor
  · intro ha y hy
    obtain ⟨j, hj⟩ := List.mem_iff_getElem?.1 hy
    rw [List.getElem?_take] at hj
    split at hj
    · next hlt =>
      have h1 := ha y (List.mem_of_getElem? hj)
      cases hw : wayE y e with
      | false => rfl
      | true =>
        rw [(beh_at h hi hj).2 ⟨hlt, hw⟩] at h1
        exact absurd h1 (by decide)
    · cases hj
  · intro ha y hy
    obtain ⟨j, hj⟩ := List.mem_iff_getElem?.1 hy
    cases hb : behE e y with
    | false => rfl
    | true =>
      obtain ⟨hlt, hw⟩ := (beh_at h hi hj).1 hb
      have h1 := ha y (List.mem_iff_getElem?.2 ⟨j, by rw [List.getElem?_take, if_pos hlt]; exact hj⟩)
      rw [hw] at h1
      exact absurd h1 (by decide)
theorem check_from {first : Int} {l : List EnL} {cs : CnL} (h : GoodK first l cs) (p : ByteArray) (k : Int) : ∀ (m j : Nat), m + j = l.length → checkD l p k j = (l.drop j).any (chkE l p k)
  | 0, j, hm => by
    have : j = l.length := by omega
    subst this
    rw [checkD_end, List.drop_length]
    rfl
  | m + 1, j, hm => by
    have hjl : j < l.length := by omega
    have hj : l[j]? = some l[j] := List.getElem?_eq_getElem hjl
    rw [checkD_at hj, List.drop_eq_getElem_cons hjl, List.any_cons]
    by_cases hc : l[j].path = p ∧ l[j].n = k
    · rw [if_pos hc, ← freeD_at h hj]
      have h1 : chkE l p k l[j] = freeE l l[j] := by unfold chkE; simp [hc.1, hc.2]
      rw [h1]
      have h2 : (l.drop (j + 1)).any (chkE l p k) = false := by
        rw [List.any_eq_false]
        intro y hy
        obtain ⟨i, hi⟩ := List.mem_iff_getElem?.1 hy
        rw [List.getElem?_drop] at hi
        obtain ⟨h3, h4⟩ := List.getElem?_eq_some_iff.1 hi
        intro hy2
        unfold chkE at hy2
        simp only [Bool.and_eq_true, decide_eq_true_eq] at hy2
        have := List.pairwise_iff_getElem.1 h.seq j (j + 1 + i) hjl h3 (by omega) (by rw [h4, hc.1, hy2.1])
        rw [h4, hc.2, hy2.2.1] at this
        omega
      rw [h2, Bool.or_false]
    · rw [if_neg hc, check_from h p k m (j + 1) (by omega)]
      have h1 : chkE l p k l[j] = false := by
        unfold chkE
        by_cases ha : l[j].path = p
        · have : ¬ l[j].n = k := fun e => hc ⟨ha, e⟩
          simp [this]
        · simp [ha]
      rw [h1, Bool.false_or]
theorem check_same {first : Int} {l : List EnL} {cs : CnL} (h : GoodK first l cs) (p : ByteArray) (k : Int) : checkD l p k 0 = checkE l p k := by
  rw [check_from h p k l.length 0 (by omega)]
  rfl

theorem SeesE.atC {w : World} {A : Option Addr} {l : List EnL} (h : SeesE w A l) {j : Nat} {e : EnL} (he : l[j]? = some e) : ∃ b o, A = some ⟨b, o, none⟩ ∧ b < w.heap.size ∧ w.cell? ⟨b, o + j * 6, none⟩ = some (.string e.path) ∧ w.cell? ⟨b, o + j * 6 + 1, none⟩ = some (.int .u64 e.num) ∧ w.cell? ⟨b, o + j * 6 + 2, none⟩ = some (.string e.foot) ∧ w.cell? ⟨b, o + j * 6 + 3, none⟩ = some (.int .i64 e.mode) ∧ w.cell? ⟨b, o + j * 6 + 4, none⟩ = some (.int .u64 e.n) ∧ w.cell? ⟨b, o + j * 6 + 5, none⟩ = some (.int .i64 e.stamp) := by
  obtain ⟨b, o, h1, h2, h3⟩ := h j e he
  exact ⟨b, o, h1, h2, h3 0 _ rfl, h3 1 _ rfl, h3 2 _ rfl, h3 3 _ rfl, h3 4 _ rfl, h3 5 _ rfl⟩

set_option maxRecDepth 100000 in
set_option maxHeartbeats 4000000 in
theorem dlcould_any (v : Value) (first : Int) (l : List EnL) (cs : CnL) (p : ByteArray) (mode : Int) (w : World) (h : DocK w v first l cs) (hl : l.length ≤ 1000000) (hp : p.size ≤ 900) (hpl : ∀ e ∈ l, e.path.size ≤ 900) :
    Calls Tryz.prog 13 #[v, .string p, .int .i64 mode] w (Asks (.bool (couldD l p mode)) w) := by
  have HWy := hid (fun a (ha : a ∈ l) w => dlway_any a (aftE p mode) w (hpl a ha) hp)
  have HRg := hid (fun w => refright_any p w hp)
  obtain ⟨A, c, A', c', rfl, hc, hc', hS, hS'⟩ := h
  have HS := hid hS
  obtain ⟨n, hn⟩ : ∃ n, l.length = n := ⟨_, rfl⟩
  have HN := hid hn
  have HCd : Hid (couldD l p mode = ((l.take n).all (fun y => !wayE y (aftE p mode)) && rightE p mode)) := hid (by rw [← hn, List.take_length]; rfl)
  have HRE : Hid (rightE p mode = (right (L p) && (decide (mode = 1) || decide (mode = 2)))) := hid rfl
  obtain ⟨rt, hrt⟩ : ∃ x, right (L p) = x := ⟨_, rfl⟩
  rw [hrt] at HRg HRE
  rw [hn] at hl ⊢
  clear hS hS' hn hpl hc hc' hrt hp
  unfold aftE at HWy
  go_enter Tryz.func13, Tryz.ntmps13
  go_upto_region 1 with fail
  obtain ⟨W, hW⟩ : ∃ W, w.alloc (.cells #[.int .u64 first, .slice A n c, .slice A' cs.length c'] 31) = W := ⟨_, rfl⟩
  rw [hW]
  obtain ⟨K0, KB⟩ := lone_new hW
  clear hW
  obtain ⟨k, hk⟩ : ∃ k, w.heap.size = k := ⟨_, rfl⟩
  rw [hk] at K0 KB ⊢
  have HK := hid hk
  clear hk
  go_wp2_with fail
  go_loopw [7] (fun iv wr => ∃ j : Nat, iv = .int .i64 (j : Int) ∧ j ≤ n ∧ Hid ((l.take j).all (fun y => !wayE y (aftE p mode)) = true) ∧ Hid (Blk wr k 31 #[.int .u64 first, .slice A n c, .slice A' cs.length c'] ∧ Below k w wr)) (fun iv _ => n - (intOf iv).toNat)
  case atStart => exact ⟨0, rfl, by omega, hid rfl, hid ⟨K0.out, KB.out⟩⟩
  case round =>
    obtain ⟨j, rfl, hj, HF, HD⟩ := hrel
    have c1 : wr.cell? ⟨k, 1, none⟩ = some (.slice A n c) := (HD.out.1.cell 1).trans rfl
    by_cases hlt : j < n
    · have hlt' : (j : Int) < (n : Int) := by omega
      obtain ⟨e, he⟩ : ∃ e, l[j]? = some e := ⟨_, List.getElem?_eq_getElem (by rw [HN.out]; omega)⟩
      have HE := hid he
      obtain ⟨b, o, hA, hb, y0, y1, y2, y3, y4, y5⟩ := (HS.out.below (w' := wr) (by rw [HK.out]; exact HD.out.2)).atC he
      subst hA
      have qi : IntKind.i64.wrap ((j : Int) + 1) = ((j + 1 : Nat) : Int) := by rw [IntWalk.i64_in _ (by omega)]; omega
      have HC := hid (HWy.out e (List.mem_of_getElem? HE.out))
      obtain ⟨wy, hwy⟩ : ∃ y, wayE e (aftE p mode) = y := ⟨_, rfl⟩
      have HSn : Hid ((l.take (j + 1)).all (fun y => !wayE y (aftE p mode)) = !wy) := hid (by rw [take_snoc' HE.out, List.all_append, HF.out, ← hwy]; simp)
      have HWv := hid hwy
      unfold aftE at hwy
      rw [hwy] at HC
      have hkw : k ≤ wr.heap.size := by have := HD.out.1.lt; omega
      clear he hb hwy
      cases wy with
      | true =>
        go_wp2_with (first
          | (go_at_call 38; (with_reducible refine (HC.out _).mono ?_); rintro r w1 ⟨rfl, b1⟩; have B1 := hid (HD.out.2.trans (b1.mono hkw)); clear b1))
        go_ret
        refine ⟨?_, by rw [HK.out]; exact B1.out⟩
        have hfx : couldD l p mode = false := by
          unfold couldD
          have : (l.all fun y => !wayE y (aftE p mode)) = false := by
            rw [List.all_eq_false]
            exact ⟨e, List.mem_of_getElem? HE.out, by rw [HWv.out]; decide⟩
          rw [this]; rfl
        rw [hfx]; rfl
      | false =>
        go_wp2_with (first
          | (go_at_call 38; (with_reducible refine (HC.out _).mono ?_); rintro r w1 ⟨rfl, b1⟩; have B1 := hid (And.intro (HD.out.1.below b1 HD.out.1.lt) (HD.out.2.trans (b1.mono hkw))); clear b1))
        go_roundw
        case rel => exact ⟨j + 1, by push_cast; rfl, by omega, hid (by rw [HSn.out]; rfl), B1⟩
        case measure => simp only [intOf]; omega
    · have hlt' : ¬ (j : Int) < (n : Int) := by omega
      have hji : j = n := by omega
      subst hji
      have hkw : k ≤ wr.heap.size := by have := HD.out.1.lt; omega
      rw [HF.out] at HCd
      cases rt with
      | false =>
        have HX : Hid (couldD l p mode = false) := hid (by rw [HCd.out, HRE.out]; simp)
        go_wp2_with (first
          | (go_at_call 39; (with_reducible refine (HRg.out _).mono ?_); rintro r w1 ⟨rfl, b1⟩; have B1 := hid (HD.out.2.trans (b1.mono hkw)); clear b1))
        go_ret
        exact ⟨by rw [HX.out]; rfl, by rw [HK.out]; exact B1.out⟩
      | true =>
        by_cases h1 : 1 ≤ mode
        · by_cases h2 : mode ≤ 2
          · have HX : Hid (couldD l p mode = true) := hid (by rw [HCd.out, HRE.out]; simp; omega)
            go_wp2_with (first
              | (go_at_call 39; (with_reducible refine (HRg.out _).mono ?_); rintro r w1 ⟨rfl, b1⟩; have B1 := hid (HD.out.2.trans (b1.mono hkw)); clear b1))
            go_ret
            exact ⟨by rw [HX.out]; rfl, by rw [HK.out]; exact B1.out⟩
          · have HX : Hid (couldD l p mode = false) := hid (by rw [HCd.out, HRE.out]; simp; omega)
            go_wp2_with (first
              | (go_at_call 39; (with_reducible refine (HRg.out _).mono ?_); rintro r w1 ⟨rfl, b1⟩; have B1 := hid (HD.out.2.trans (b1.mono hkw)); clear b1))
            have h2d : decide (mode ≤ 2) = false := by simp; omega
            go_ret
            exact ⟨by rw [HX.out, ← h2d]; rfl, by rw [HK.out]; exact B1.out⟩
        · have HX : Hid (couldD l p mode = false) := hid (by rw [HCd.out, HRE.out]; simp; omega)
          go_wp2_with (first
            | (go_at_call 39; (with_reducible refine (HRg.out _).mono ?_); rintro r w1 ⟨rfl, b1⟩; have B1 := hid (HD.out.2.trans (b1.mono hkw)); clear b1))
          go_ret
          exact ⟨by rw [HX.out]; rfl, by rw [HK.out]; exact B1.out⟩

set_option maxRecDepth 100000 in
set_option maxHeartbeats 4000000 in
theorem dlcheck_any (v : Value) (first : Int) (l : List EnL) (cs : CnL) (p : ByteArray) (k0 : Int) (w : World) (h : DocK w v first l cs) (hl : l.length ≤ 1000000) (hpl : ∀ e ∈ l, e.path.size ≤ 900) :
    Calls Tryz.prog 11 #[v, .string p, .int .u64 k0] w (Asks (.bool (checkD l p k0 0)) w) := by
  have HG := hid (fun (i : Nat) (x : EnL) (hx : l[i]? = some x) w' (hb : Below w.heap.size w w') => dlgranted_any v first l cs i x w' (h.below hb) hl hx hpl)
  obtain ⟨A, c, A', c', rfl, hc, hc', hS, hS'⟩ := h
  have HS := hid hS
  obtain ⟨n, hn⟩ : ∃ n, l.length = n := ⟨_, rfl⟩
  have HN := hid hn
  rw [hn] at hl HG ⊢
  clear hS hS' hn hpl hc hc'
  go_enter Tryz.func11, Tryz.ntmps11
  go_upto_region 1 with fail
  obtain ⟨W, hW⟩ : ∃ W, w.alloc (.cells #[.int .u64 first, .slice A n c, .slice A' cs.length c'] 31) = W := ⟨_, rfl⟩
  rw [hW]
  obtain ⟨K0, KB⟩ := lone_new hW
  clear hW
  obtain ⟨k, hk⟩ : ∃ k, w.heap.size = k := ⟨_, rfl⟩
  rw [hk] at K0 KB HG ⊢
  have HK := hid hk
  clear hk
  go_wp2_with fail
  go_loopw [7] (fun iv wr => ∃ j : Nat, iv = .int .i64 (j : Int) ∧ j ≤ n ∧ Hid (checkD l p k0 0 = checkD l p k0 j) ∧ Hid (Blk wr k 31 #[.int .u64 first, .slice A n c, .slice A' cs.length c'] ∧ Below k w wr)) (fun iv _ => n - (intOf iv).toNat)
  case atStart => exact ⟨0, rfl, by omega, hid rfl, hid ⟨K0.out, KB.out⟩⟩
  case round =>
    obtain ⟨j, rfl, hj, HF, HD⟩ := hrel
    have c0 : wr.cell? ⟨k, 0, none⟩ = some (.int .u64 first) := (HD.out.1.cell 0).trans rfl
    have c1 : wr.cell? ⟨k, 1, none⟩ = some (.slice A n c) := (HD.out.1.cell 1).trans rfl
    have c2 : wr.cell? ⟨k, 2, none⟩ = some (.slice A' cs.length c') := (HD.out.1.cell 2).trans rfl
    by_cases hlt : j < n
    · have hlt' : (j : Int) < (n : Int) := by omega
      obtain ⟨e, he⟩ : ∃ e, l[j]? = some e := ⟨_, List.getElem?_eq_getElem (by rw [HN.out]; omega)⟩
      have HE := hid he
      obtain ⟨b, o, hA, hb, y0, y1, y2, y3, y4, y5⟩ := (HS.out.below (w' := wr) (by rw [HK.out]; exact HD.out.2)).atC he
      subst hA
      have qi : IntKind.i64.wrap ((j : Int) + 1) = ((j + 1 : Nat) : Int) := by rw [IntWalk.i64_in _ (by omega)]; omega
      have HAt := hid (checkD_at (p := p) (k := k0) HE.out)
      have HGr := hid (HG.out j e HE.out)
      obtain ⟨fr, hfr⟩ : ∃ x, freeD l j e = x := ⟨_, rfl⟩
      rw [hfr] at HAt HGr
      have hkw : k ≤ wr.heap.size := by have := HD.out.1.lt; omega
      clear he hb hfr
      by_cases h1 : e.path = p
      · by_cases h2 : e.n = k0
        · have HX : Hid (checkD l p k0 0 = fr) := hid (by rw [HF.out, HAt.out, if_pos ⟨h1, h2⟩])
          rw [h1] at y0
          rw [h2] at y4
          go_wp2_with (first
            | (go_at_call 20; (with_reducible refine (HGr.out _ HD.out.2).mono ?_); rintro r w1 ⟨rfl, b1⟩; have B1 := hid (HD.out.2.trans (b1.mono hkw)); clear b1))
          go_ret
          exact ⟨by rw [HX.out]; rfl, by rw [HK.out]; exact B1.out⟩
        · have HX : Hid (checkD l p k0 0 = checkD l p k0 (j + 1)) := hid (by rw [HF.out, HAt.out, if_neg (fun h => h2 h.2)])
          have q2 : (e.n == k0) = false := by simpa using h2
          rw [h1] at y0
          go_wp2_with fail
          go_roundw
          case rel => exact ⟨j + 1, by push_cast; rfl, by omega, HX, HD⟩
          case measure => simp only [intOf]; omega
      · have HX : Hid (checkD l p k0 0 = checkD l p k0 (j + 1)) := hid (by rw [HF.out, HAt.out, if_neg (fun h => h1 h.1)])
        have q1 : (e.path.toList == p.toList) = false := by rw [lkeq_text]; simpa using h1
        go_wp2_with fail
        go_roundw
        case rel => exact ⟨j + 1, by push_cast; rfl, by omega, HX, HD⟩
        case measure => simp only [intOf]; omega
    · have hlt' : ¬ (j : Int) < (n : Int) := by omega
      have hji : j = n := by omega
      subst hji
      have HX : Hid (checkD l p k0 0 = false) := hid (by rw [HF.out, ← HN.out, checkD_end])
      go_wp2_with fail
      go_ret
      exact ⟨by rw [HX.out]; rfl, by rw [HK.out]; exact HD.out.2⟩
end Go.Proofs.YtgjbhlianlbflaaGreat
