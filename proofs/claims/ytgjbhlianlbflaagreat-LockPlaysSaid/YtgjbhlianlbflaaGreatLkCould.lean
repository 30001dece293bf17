/-
  The contracts of lock's Could, Check.
-/
import Derived.Test.YtgjbhlianlbflaaGreatLkOver
namespace Go.Proofs.YtgjbhlianlbflaaGreat
open Go.ChangeShapes Go.WideShapes Go.ChangeAt Go.RowKit Go.Maps Go.WideMaps
set_option linter.unusedVariables false
set_option linter.unusedSimpArgs false

/-- Has an entry on a path a sequencer, and is it granted? -/
def chkE (l : List EnL) (p : ByteArray) (k : Int) (e : EnL) : Bool := decide (e.path = p) && (decide (e.n = k) && freeE l e)
def checkE (l : List EnL) (p : ByteArray) (k : Int) : Bool := l.any (chkE l p k)
/-- Would one that came now be granted? -/
def nowE (l : List EnL) (p : ByteArray) (mode : Int) : EnL := ⟨p, 0, ⟨#[]⟩, mode, 0, stampE l p⟩
def couldE (l : List EnL) (p : ByteArray) (mode : Int) : Bool := rightE p mode && freeE l (nowE l p mode)

theorem any_perm {l k : List EnL} (h : l.Perm k) (q : EnL → Bool) : l.any q = k.any q := by
  rw [Bool.eq_iff_iff, List.any_eq_true, List.any_eq_true]
  exact ⟨fun ⟨x, hx, hq⟩ => ⟨x, h.mem_iff.1 hx, hq⟩, fun ⟨x, hx, hq⟩ => ⟨x, h.mem_iff.2 hx, hq⟩⟩
theorem any_snoc {l : List EnL} {e : EnL} (q : EnL → Bool) : (l ++ [e]).any q = (l.any q || q e) := by simp
theorem any_hit {l : List EnL} {e : EnL} {q : EnL → Bool} (he : e ∈ l) (hq : q e = true) : l.any q = true := List.any_eq_true.2 ⟨e, he, hq⟩

set_option maxRecDepth 100000 in
set_option maxHeartbeats 4000000 in
theorem lkcould_any (base b de dc n : Nat) (first : Int) (l : List EnL) (cs : CnL) (p : ByteArray) (mode : Int) (w : World) (h : BkK w base b de dc n first l cs) (hn : n ≤ 1000000) (hp : OkK p) :
    Calls Tryz.prog 12 #[.pointer (some ⟨b, 0, none⟩), .string p, .int .i64 mode] w (Asks (.bool (couldE l p mode)) w) := by
  have HR := hid (fun w => lkright_any p mode w hp.le4)
  have HS := hid (fun w' (k : Below w.heap.size w w') => lkstamp_any base b de dc n first l cs p w' (h.on k) hn hp)
  have HF := hid (fun w' (k : Below w.heap.size w w') => lkfree_any base b de dc n first l cs (nowE l p mode) w' (h.on k) hn hp)
  unfold couldE
  unfold nowE at HF ⊢
  obtain ⟨st, hst⟩ : ∃ x, stampE l p = x := ⟨_, rfl⟩
  rw [hst] at HS HF ⊢
  obtain ⟨r, hr⟩ : ∃ x, rightE p mode = x := ⟨_, rfl⟩
  rw [hr] at HR ⊢
  obtain ⟨fr, hfr⟩ : ∃ x, freeE l ⟨p, 0, ⟨#[]⟩, mode, 0, st⟩ = x := ⟨_, rfl⟩
  rw [hfr] at HF ⊢
  clear hst hr hfr h hp
  go_enter Tryz.func12, Tryz.ntmps12
  cases r with
  | false =>
    go_wp2_with (first
      | (go_at_call 36; (with_reducible refine (HR.out _).mono ?_); rintro e w1 ⟨rfl, b1⟩; have B1 := hid b1; clear b1))
    go_ret
    exact ⟨rfl, B1.out⟩
  | true =>
    go_wp2_with (first
      | (go_at_call 36; (with_reducible refine (HR.out _).mono ?_); rintro e w1 ⟨rfl, b1⟩; have B1 := hid b1; clear b1)
      | (go_at_call 37; (with_reducible refine (HS.out _ B1.out).mono ?_); rintro e w2 ⟨rfl, b2⟩; have B2 := hid (below_on B1.out b2); clear b2)
      | (go_at_call 35; (with_reducible refine (HF.out _ B2.out).mono ?_); rintro e w3 ⟨rfl, b3⟩; have B3 := hid (below_on B2.out b3); clear b3))
    go_ret
    exact ⟨by cases fr <;> rfl, B3.out⟩

set_option maxRecDepth 100000 in
set_option maxHeartbeats 4000000 in
theorem lkcheck_any (base b de dc n : Nat) (first : Int) (l : List EnL) (cs : CnL) (p : ByteArray) (k0 : Int) (w : World) (h : BkK w base b de dc n first l cs) (hn : n ≤ 1000000) :
    Calls Tryz.prog 10 #[.pointer (some ⟨b, 0, none⟩), .string p, .int .u64 k0] w (Asks (.bool (checkE l p k0)) w) := by
  have HB := hid h.blk
  have HL := hid h.lt
  have HR := hid h.good
  obtain ⟨D, hD, hM⟩ := h.es
  have HD := hid hD
  have HM : Hid (EnD l D) := hid hM
  have HC := hid (fun s (hs : s ∈ l) w' (k : Below w.heap.size w w') => lkfree_any base b de dc n first l cs s w' (h.on k) hn (h.good.keys s hs).2.1)
  clear h hD hM hn
  have c1 : w.cell? ⟨b, 1, none⟩ = some (.map (some de)) := (HB.out.cell 1).trans rfl
  go_enter Tryz.func10, Tryz.ntmps10
  go_wp2_with (first
    | (at_range; with_reducible refine wpList_range_own _ rfl _ 75 rfl 84 44 law_lkey Tryz.underlying75 idK de n D rfl HD.out ?_; intro w0 hrg0 hg0 hs0))
  go_frame
  obtain ⟨rr, hrr⟩ : ∃ r, w.heap.size = r := ⟨_, rfl⟩
  have HRR := hid hrr
  rw [hrr] at hrg0 hs0
  rw [hrr]
  have A0 : Hid (RngK w w0 de rr n D l [] (Maps.has D) (Maps.size D)) := hid ⟨hrg0, fun _ h => h, KkAt.start HR.out HM.out, lbelow_grown hg0, by omega, by have := HD.out.size_le; simpa using this⟩
  clear hrg0 hg0 hs0 c1
  obtain ⟨q, hq⟩ : ∃ q, chkE l p k0 = q := ⟨_, rfl⟩
  have HQ : Hid (∀ s, q s = (decide (s.path = p) && (decide (s.n = k0) && freeE l s))) := hid (fun s => by rw [← hq]; rfl)
  have HCk : Hid (checkE l p k0 = l.any q) := hid (by unfold checkE; rw [hq])
  clear hq
  go_loopw [] (fun wr => ∃ ks left cnt, Hid (RngK w wr de rr n D l ks left cnt) ∧ Hid (ks.any q = false)) (fun wr => wr.rangeLeft de rr)
  case atStart => exact ⟨[], _, _, A0, hid rfl⟩
  case round =>
    obtain ⟨ks, left, cnt, HA, HF⟩ := hrel
    clear A0
    have HG : Hid (wr.ranges Tryz.prog 84 idK de rr n D left cnt) := hid HA.out.1
    go_wp2_with (first
      | (at_next; with_reducible refine wpList_next_ranges _ rfl _ rfl 84 law_lkey idK (fun x : ByteArray × Int × ByteArray => (lkeyV x.1 x.2.1 x.2.2 : Value)) (fun c : Value => c) inv_lkey inv_idK de rr n D left cnt rfl HG.out ?_ ?_))
    · intro _ hl0
      have HP : Hid (l.any q = false) := hid (by rw [← any_perm (HA.out.2.2.1.perm HR.out hl0)]; exact HF.out)
      have HB2 := hid HA.out.2.2.2.1
      clear hl0 HA HG
      go_wp2
      go_ret
      exact ⟨by rw [HCk.out, HP.out]; rfl, HB2.out⟩
    · intro p2 u2 f2 c kl y yp w1 cnt1 hkey hlk hv hat hrg1 hlt1 hg1 hs1 hen
      obtain ⟨s, hs, e1, e2, e3, rfl, rfl⟩ := entry_lk (y := (y, yp)) HR.out HM.out hkey (HA.out.2.1 _ hlk) hv hat
      rw [e1, e2, e3] at hen ⊢
      have HS := hid hs
      have HC2 := hid (HA.out.2.2.1.step HR.out hs hlk)
      have BG := hid hrg1
      have BH : Hid (∀ kl, (left kl && !kl.sameKey (lklit s.path s.num s.foot)) = true → Maps.has D kl = true) := hid (fun kl h => HA.out.2.1 kl (by simp at h; exact h.1))
      have BB : Hid (Below w.heap.size w w1) := hid (HA.out.2.2.2.1.trans (lbelow_only hg1 (by have := HA.out.2.2.2.2.1; omega) (by have := HG.out.lt; have := HA.out.2.2.2.1.size; omega)))
      have BL := hid hlt1
      have BT : Hid (wr.rangeLeft de rr = cnt) := hid HG.out.left_eq
      have BS : Hid (rr < w1.heap.size) := hid (by rw [hs1]; exact HG.out.lt)
      have BO := hid HA.out.2.2.2.2.1
      have BN : Hid ((ks ++ [s]).any q = (ks.any q || q s)) := hid (any_snoc _)
      have BC : Hid ((ks ++ [s]).length + cnt1 ≤ n) := hid (by have := HA.out.2.2.2.2.2; simp; omega)
      clear hkey hlk hv hat hrg1 hlt1 hg1 hs1 HA HG e1 e2 e3
      go_upto_region 4 with fail
      obtain ⟨W1, hW1⟩ : ∃ W1, w1.alloc (.cells (entC s) 44) = W1 := ⟨_, rfl⟩
      rw [hW1]
      obtain ⟨v, hv⟩ : ∃ v, w1.heap.size = v := ⟨_, rfl⟩
      obtain ⟨E6, EB⟩ := lone_new hW1
      rw [hv] at E6 EB BS ⊢
      have cG := hid (BG.out.kept (row := none) (by have h := EB.out; rw [← hv] at h; exact only_of_below h none) (by simp) (by simp))
      have cB : Hid (Below w.heap.size w W1) := hid (BB.out.trans (EB.out.mono (by have := BB.out.size; omega)))
      clear hv hW1 BB BG EB hen
      obtain ⟨d0, d1, d2, d3, d4, d5⟩ := lcells6 E6.out
      have HX := hid (HQ.out s)
      have HCs := hid (fun w' k => HC.out s HS.out w' k)
      obtain ⟨fr, hfr⟩ : ∃ x, freeE l s = x := ⟨_, rfl⟩
      rw [hfr] at HX HCs
      clear hfr
      have KG : Hid (∀ W2 : World, Below W1.heap.size W1 W2 → W2.ranges Tryz.prog 84 idK de rr n D (fun z => left z && !z.sameKey (lklit s.path s.num s.foot)) cnt1 ∧ Below w.heap.size w W2) := hid (fun W2 hb =>
        ⟨cG.out.kept (row := none) (only_of_below hb none) (by simp) (by simp), cB.out.trans (hb.mono (by have := E6.out.lt; have := cB.out.size; omega))⟩)
      have KG1 := hid (KG.out W1 (RowKit.Below.refl _ _))
      by_cases h1 : s.path = p
      · by_cases h2 : s.n = k0
        · have HXv : Hid (q s = fr) := hid (by rw [HX.out]; simp [h1, h2])
          have ev : entV s = .agg #[.string p, .int .u64 s.num, .string s.foot, .int .i64 s.mode, .int .u64 k0, .int .i64 s.stamp] := by rw [← h1, ← h2]
          rw [ev] at HCs
          rw [h1] at d0
          rw [h2] at d4
          clear ev h1 h2
          cases fr with
          | true =>
            go_wp2_with (go_at_call 35; (with_reducible refine (HCs.out _ cB.out).mono ?_); rintro r w2 ⟨rfl, b2⟩; have G2 := hid (KG.out _ b2); clear b2)
            go_ret
            exact ⟨by rw [HCk.out, any_hit HS.out HXv.out]; rfl, G2.out.2⟩
          | false =>
            go_wp2_with (go_at_call 35; (with_reducible refine (HCs.out _ cB.out).mono ?_); rintro r w2 ⟨rfl, b2⟩; have G2 := hid (KG.out _ b2); clear b2)
            go_roundw
            case rel => exact ⟨ks ++ [s], _, cnt1, hid ⟨G2.out.1, BH.out, HC2.out, G2.out.2, BO.out, BC.out⟩, hid (by rw [BN.out, HF.out, HXv.out]; rfl)⟩
            case measure => rw [G2.out.1.left_eq, BT.out]; exact BL.out
        · have HXv : Hid (q s = false) := hid (by rw [HX.out]; simp [h2])
          have q2 : (s.n == k0) = false := by simpa using h2
          rw [h1] at d0
          go_wp2
          go_roundw
          case rel => exact ⟨ks ++ [s], _, cnt1, hid ⟨KG1.out.1, BH.out, HC2.out, KG1.out.2, BO.out, BC.out⟩, hid (by rw [BN.out, HF.out, HXv.out]; rfl)⟩
          case measure => rw [KG1.out.1.left_eq, BT.out]; exact BL.out
      · have HXv : Hid (q s = false) := hid (by rw [HX.out]; simp [h1])
        have q1 : (s.path.toList == p.toList) = false := by rw [lkeq_text]; simpa using h1
        go_wp2
        go_roundw
        case rel => exact ⟨ks ++ [s], _, cnt1, hid ⟨KG1.out.1, BH.out, HC2.out, KG1.out.2, BO.out, BC.out⟩, hid (by rw [BN.out, HF.out, HXv.out]; rfl)⟩
        case measure => rw [KG1.out.1.left_eq, BT.out]; exact BL.out
end Go.Proofs.YtgjbhlianlbflaaGreat
