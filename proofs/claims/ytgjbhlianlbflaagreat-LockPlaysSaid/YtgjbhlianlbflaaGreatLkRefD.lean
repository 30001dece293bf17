/-
  The document's way, Granted; the law's entry, as the document has it.
-/
import Derived.Test.YtgjbhlianlbflaaGreatLkRefC
import Derived.StillTailTactics
namespace Go.Proofs.YtgjbhlianlbflaaGreat
open Go.ChangeShapes Go.WideShapes Go.ChangeAt Go.RowKit Go.Maps Go.WideMaps
set_option linter.unusedVariables false
set_option linter.unusedSimpArgs false

set_option maxRecDepth 100000 in
theorem lkof_any (e : EnL) (w : World) : Calls Tryz.prog 18 #[entV e] w (Asks (entV e) w) := by
  obtain ⟨p, u, f, mo, n, st⟩ := e
  go_enter Tryz.func18, Tryz.ntmps18
  go_upto_region 1 with fail
  obtain ⟨W, hW⟩ : ∃ W, (w.alloc (.cells #[.string p, .int .u64 u, .string f, .int .i64 mo, .int .u64 n, .int .i64 st] 44)).alloc (.cells zeroEC 47) = W := ⟨_, rfl⟩
  rw [hW]
  obtain ⟨K0, K1, KB⟩ := ltwo_new hW
  clear hW
  obtain ⟨k, hk⟩ : ∃ k, w.heap.size = k := ⟨_, rfl⟩
  rw [hk] at K0 K1 KB ⊢
  have HK := hid hk
  clear hk
  obtain ⟨y0, y1, y2, y3, y4, y5⟩ := lcells6 K0.out
  obtain ⟨x0, x1, x2, x3, x4, x5⟩ := lcells6 K1.out
  obtain ⟨g0, g1, g2, g3, g4, g5⟩ := lkfrozen6 K1.out
  go_wp2_with fail
  have Q := put6_blk K1.out (.string p) (.int .u64 u) (.string f) (.int .i64 mo) (.int .u64 n) (.int .i64 st)
  have QB := put6_below KB.out (Nat.le_succ k) (.string p) (.int .u64 u) (.string f) (.int .i64 mo) (.int .u64 n) (.int .i64 st)
  unfold put6 at Q QB
  obtain ⟨w9, hw9⟩ : ∃ w9, ((((((W.setCell ⟨k + 1, 0, none⟩ (.string p)).setCell ⟨k + 1, 1, none⟩ (.int .u64 u)).setCell ⟨k + 1, 2, none⟩ (.string f)).setCell ⟨k + 1, 3, none⟩ (.int .i64 mo)).setCell ⟨k + 1, 4, none⟩ (.int .u64 n)).setCell ⟨k + 1, 5, none⟩ (.int .i64 st)) = w9 := ⟨_, rfl⟩
  rw [hw9] at Q QB ⊢
  clear hw9 x0 x1 x2 x3 x4 x5 y0 y1 y2 y3 y4 y5
  obtain ⟨c0, c1, c2, c3, c4, c5⟩ := lcells6 Q
  exact bodyPost_ret (v := entV ⟨p, u, f, mo, n, st⟩) (by simp [results, Tryz.results18, go_sem, c0, c1, c2, c3, c4, c5]) rfl ⟨rfl, by rw [HK.out]; exact QB⟩
set_option maxRecDepth 100000 in
theorem dlway_any (a b : EnL) (w : World) (ha : a.path.size ≤ 900) (hb : b.path.size ≤ 900) : Calls Tryz.prog 38 #[entV a, entV b] w (Asks (.bool (wayE a b)) w) := by
  have HO := hid (fun w => lkoverlap_any a.path b.path w ha hb)
  have HW : Hid (wayE a b = ((decide (a.mode = 2) || decide (b.mode = 2)) && overlap (L a.path) (L b.path))) := hid rfl
  obtain ⟨o, ho⟩ : ∃ o, overlap (L a.path) (L b.path) = o := ⟨_, rfl⟩
  rw [ho] at HO HW
  clear ho ha hb
  obtain ⟨p, u, f, mo, n, st⟩ := a
  obtain ⟨p2, u2, f2, mo2, n2, st2⟩ := b
  go_enter Tryz.func38, Tryz.ntmps38
  go_upto_region 1 with fail
  obtain ⟨W, hW⟩ : ∃ W, (w.alloc (.cells #[.string p, .int .u64 u, .string f, .int .i64 mo, .int .u64 n, .int .i64 st] 47)).alloc (.cells #[.string p2, .int .u64 u2, .string f2, .int .i64 mo2, .int .u64 n2, .int .i64 st2] 47) = W := ⟨_, rfl⟩
  rw [hW]
  obtain ⟨K0, K1, KB⟩ := ltwo_new hW
  clear hW
  obtain ⟨k, hk⟩ : ∃ k, w.heap.size = k := ⟨_, rfl⟩
  rw [hk] at K0 K1 KB ⊢
  have HK := hid hk
  clear hk
  obtain ⟨y0, y1, y2, y3, y4, y5⟩ := lcells6 K0.out
  obtain ⟨x0, x1, x2, x3, x4, x5⟩ := lcells6 K1.out
  have hkk : k ≤ W.heap.size := by have := K1.out.lt; omega
  by_cases h1 : mo = 2
  · have HX : Hid (wayE ⟨p, u, f, mo, n, st⟩ ⟨p2, u2, f2, mo2, n2, st2⟩ = o) := hid (by rw [HW.out]; simp [h1])
    rw [h1] at y3
    clear h1
    go_wp2_with (first
      | (go_at_call 63; (with_reducible refine (HO.out _).mono ?_); rintro r w1 ⟨rfl, b1⟩; have B1 := hid (KB.out.trans (b1.mono hkk)); clear b1))
    go_ret
    exact ⟨by rw [HX.out]; rfl, by rw [HK.out]; exact B1.out⟩
  · have hq : (mo == 2) = false := by simpa using h1
    by_cases h2 : mo2 = 2
    · have HX : Hid (wayE ⟨p, u, f, mo, n, st⟩ ⟨p2, u2, f2, mo2, n2, st2⟩ = o) := hid (by rw [HW.out]; simp [h2])
      rw [h2] at x3
      clear h2
      go_wp2_with (first
        | (go_at_call 63; (with_reducible refine (HO.out _).mono ?_); rintro r w1 ⟨rfl, b1⟩; have B1 := hid (KB.out.trans (b1.mono hkk)); clear b1))
      go_ret
      exact ⟨by rw [HX.out]; rfl, by rw [HK.out]; exact B1.out⟩
    · have HX : Hid (wayE ⟨p, u, f, mo, n, st⟩ ⟨p2, u2, f2, mo2, n2, st2⟩ = false) := hid (by rw [HW.out]; simp [h1, h2])
      have hq2 : (mo2 == 2) = false := by simpa using h2
      go_wp2_with fail
      go_ret
      exact ⟨by rw [HX.out]; rfl, by rw [HK.out]; exact KB.out⟩
/-- Nothing that came earlier is in an entry's way. -/
def freeD (l : List EnL) (i : Nat) (x : EnL) : Bool := (l.take i).all fun y => !wayE y x
theorem freeD_snoc {l : List EnL} {x e : EnL} {j : Nat} (hj : l[j]? = some e) : freeD l (j + 1) x = (freeD l j x && !wayE e x) := by
  unfold freeD
  rw [take_snoc' hj, List.all_append]
  simp
set_option maxRecDepth 100000 in
set_option maxHeartbeats 4000000 in
theorem dlgranted_any (v : Value) (first : Int) (l : List EnL) (cs : CnL) (i : Nat) (x : EnL) (w : World) (h : DocK w v first l cs) (hl : l.length ≤ 1000000) (hx : l[i]? = some x) (hpl : ∀ e ∈ l, e.path.size ≤ 900) :
    Calls Tryz.prog 20 #[v, .int .i64 (i : Int)] w (Asks (.bool (freeD l i x)) w) := by
  have HWy := hid (fun a (ha : a ∈ l) w => dlway_any a x w (hpl a ha) (hpl x (List.mem_of_getElem? hx)))
  obtain ⟨A, c, A', c', rfl, hc, hc', hS, hS'⟩ := h
  have HS := hid hS
  have HXi := hid hx
  obtain ⟨n, hn⟩ : ∃ n, l.length = n := ⟨_, rfl⟩
  have HN := hid hn
  have hi : i < n := by rw [← hn]; exact (List.getElem?_eq_some_iff.1 hx).1
  rw [hn] at hl ⊢
  clear hS hS' hn hx hpl hc hc'
  go_enter Tryz.func20, Tryz.ntmps20
  go_upto_region 1 with fail
  obtain ⟨W, hW⟩ : ∃ W, w.alloc (.cells #[.int .u64 first, .slice A n c, .slice A' cs.length c'] 31) = W := ⟨_, rfl⟩
  rw [hW]
  obtain ⟨K0, KB⟩ := lone_new hW
  clear hW
  obtain ⟨k, hk⟩ : ∃ k, w.heap.size = k := ⟨_, rfl⟩
  rw [hk] at K0 KB ⊢
  have HK := hid hk
  clear hk
  go_wp2_with fail
  go_loopw [5] (fun iv wr => ∃ j : Nat, iv = .int .i64 (j : Int) ∧ j ≤ i ∧ Hid (freeD l j x = true) ∧ Hid (Blk wr k 31 #[.int .u64 first, .slice A n c, .slice A' cs.length c'] ∧ Below k w wr)) (fun iv _ => i - (intOf iv).toNat)
  case atStart => exact ⟨0, rfl, by omega, hid rfl, hid ⟨K0.out, KB.out⟩⟩
  case round =>
    obtain ⟨j, rfl, hj, HF, HD⟩ := hrel
    by_cases hlt : j < i
    · have hlt' : (j : Int) < (i : Int) := by omega
      obtain ⟨e, he⟩ : ∃ e, l[j]? = some e := ⟨_, List.getElem?_eq_getElem (by rw [HN.out]; omega)⟩
      have HE := hid he
      have HSw := HS.out.below (w' := wr) (by rw [HK.out]; exact HD.out.2)
      obtain ⟨b, o, hA, hb, hr⟩ := HSw j e he
      have hr2 := (HSw i x HXi.out)
      subst hA
      obtain ⟨b2, o2, hA2, hb2, hr2⟩ := hr2
      injection hA2 with hA2
      injection hA2 with hb3 ho3
      subst hb3 ho3
      have c1 : wr.cell? ⟨k, 1, none⟩ = some (.slice (some ⟨b, o, none⟩) n c) := (HD.out.1.cell 1).trans rfl
      have y0 : wr.cell? ⟨b, o + j * 6, none⟩ = some (.string e.path) := hr 0 _ rfl
      have y1 : wr.cell? ⟨b, o + j * 6 + 1, none⟩ = some (.int .u64 e.num) := hr 1 _ rfl
      have y2 : wr.cell? ⟨b, o + j * 6 + 2, none⟩ = some (.string e.foot) := hr 2 _ rfl
      have y3 : wr.cell? ⟨b, o + j * 6 + 3, none⟩ = some (.int .i64 e.mode) := hr 3 _ rfl
      have y4 : wr.cell? ⟨b, o + j * 6 + 4, none⟩ = some (.int .u64 e.n) := hr 4 _ rfl
      have y5 : wr.cell? ⟨b, o + j * 6 + 5, none⟩ = some (.int .i64 e.stamp) := hr 5 _ rfl
      have z0 : wr.cell? ⟨b, o + i * 6, none⟩ = some (.string x.path) := hr2 0 _ rfl
      have z1 : wr.cell? ⟨b, o + i * 6 + 1, none⟩ = some (.int .u64 x.num) := hr2 1 _ rfl
      have z2 : wr.cell? ⟨b, o + i * 6 + 2, none⟩ = some (.string x.foot) := hr2 2 _ rfl
      have z3 : wr.cell? ⟨b, o + i * 6 + 3, none⟩ = some (.int .i64 x.mode) := hr2 3 _ rfl
      have z4 : wr.cell? ⟨b, o + i * 6 + 4, none⟩ = some (.int .u64 x.n) := hr2 4 _ rfl
      have z5 : wr.cell? ⟨b, o + i * 6 + 5, none⟩ = some (.int .i64 x.stamp) := hr2 5 _ rfl
      have hln : (j : Int) < (n : Int) := by omega
      have hin : (i : Int) < (n : Int) := by omega
      clear hr hr2 he hb hb2 HSw
      have qi : IntKind.i64.wrap ((j : Int) + 1) = ((j + 1 : Nat) : Int) := by rw [IntWalk.i64_in _ (by omega)]; omega
      have HC := hid (HWy.out e (List.mem_of_getElem? HE.out))
      have HSn := hid (freeD_snoc (x := x) HE.out)
      rw [HF.out] at HSn
      obtain ⟨wy, hwy⟩ : ∃ y, wayE e x = y := ⟨_, rfl⟩
      rw [hwy] at HC HSn
      have HWv := hid hwy
      clear hwy
      have HDr := hid (And.intro HD.out.1.drew (below_drew HD.out.2))
      go_upto_region 4 with fail
      go_still_tail 10, (by kernel_rfl)
      change wpList _ _ _ _ _ wr.drew
      obtain ⟨wd, hwd⟩ : ∃ wd, wr.drew = wd := ⟨_, rfl⟩
      rw [hwd] at HDr ⊢
      clear hwd
      have hkd : k ≤ wd.heap.size := by have := HDr.out.1.lt; omega
      cases wy with
      | true =>
        go_wp2_with (first
          | (go_at_call 38; (with_reducible refine (HC.out _).mono ?_); rintro r w1 ⟨rfl, b1⟩; have B1 := hid (HDr.out.2.trans (b1.mono hkd)); clear b1))
        go_ret
        refine ⟨?_, by rw [HK.out]; exact B1.out⟩
        have hfx : freeD l i x = false := by
          unfold freeD
          rw [List.all_eq_false]
          exact ⟨e, List.mem_iff_getElem?.2 ⟨j, by rw [List.getElem?_take, if_pos hlt]; exact HE.out⟩, by rw [HWv.out]; decide⟩
        rw [hfx]; rfl
      | false =>
        go_wp2_with (first
          | (go_at_call 38; (with_reducible refine (HC.out _).mono ?_); rintro r w1 ⟨rfl, b1⟩; have B1 := hid (And.intro (HDr.out.1.below b1 HDr.out.1.lt) (HDr.out.2.trans (b1.mono hkd))); clear b1))
        go_roundw
        case rel => exact ⟨j + 1, by push_cast; rfl, by omega, hid (by rw [HSn.out]; rfl), B1⟩
        case measure => simp only [intOf]; omega
    · have hlt' : ¬ (j : Int) < (i : Int) := by omega
      have hji : j = i := by omega
      subst hji
      go_wp2_with fail
      go_ret
      exact ⟨by rw [HF.out]; rfl, by rw [HK.out]; exact HD.out.2⟩
end Go.Proofs.YtgjbhlianlbflaaGreat
