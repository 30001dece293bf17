/-
  The document's Drop.
-/
import Derived.Test.YtgjbhlianlbflaaGreatBLkRefB
namespace Go.Proofs.YtgjbhlianlbflaaGreat
open Go.ChangeShapes Go.WideShapes Go.ChangeAt Go.RowKit Go.Maps Go.WideMaps
set_option linter.unusedVariables false
set_option linter.unusedSimpArgs false
def keptE (all : Bool) (p : ByteArray) (u : Int) (f : ByteArray) (e : EnL) : Bool := if all = true then !ofE u f e else !isE p u f e
theorem kept_snoc {l : List EnL} {j : Nat} {e : EnL} (hj : l[j]? = some e) (K : EnL → Bool) : (l.take (j + 1)).filter K = (l.take j).filter K ++ if K e = true then [e] else [] := by
  rw [take_snoc' hj, List.filter_append]
  congr 1
  by_cases h : K e = true <;> simp [h]
def DrD (w W : World) (k ln n : Nat) (first : Int) (A : Option Addr) (c : Nat) (A' : Option Addr) (c' : Nat) (v : Value) (xs : List EnL) : Prop :=
  Blk W k 31 #[.int .u64 first, .slice A ln c, .slice A' n c'] ∧ Blk W (k + 1) 31 zeroBK ∧ Below k w W ∧ W.ownsRow (k + 2) 47 6 v xs.length (flatE xs)
section
variable {w W : World} {k ln n : Nat} {first : Int} {A : Option Addr} {c : Nat} {A' : Option Addr} {c' : Nat} {v : Value} {xs : List EnL}
theorem DrD.bel (h : DrD w W k ln n first A c A' c' v xs) : Below k w W := h.2.2.1
theorem DrD.c1 (h : DrD w W k ln n first A c A' c' v xs) : W.cell? ⟨k, 1, none⟩ = some (.slice A ln c) := (h.1.cell 1).trans rfl
theorem DrD.lt (h : DrD w W k ln n first A c A' c' v xs) : k + 2 ≤ W.heap.size := h.2.1.lt
theorem DrD.app (h : DrD w W k ln n first A c A' c' v xs) (e : EnL) {o : Obj} {W2 : World} {v2 : Value} (own : W2.ownsRow (k + 2) 47 6 v2 (xs.length + 1) (flatE xs ++ entL e)) (hg : (W.alloc o).grownBy W2 v.ownBlock) : DrD w W2 k ln n first A c A' c' v2 (xs ++ [e]) := by
  have hr : ∀ b, v.ownBlock = some b → k + 2 ≤ b := fun b e => (h.2.2.2.lt b e).1
  refine ⟨(h.1.alloc o).grown hg (fun e => by have := hr _ e.symm; omega), (h.2.1.alloc o).grown hg (fun e => by have := hr _ e.symm; omega),
    (h.2.2.1.alloc (by have := h.1.lt; omega) o).grown hg (by have := h.1.lt; simp; omega) (fun b e => by have := hr b e; omega), ?_⟩
  rw [flatE_app, List.length_append]
  exact own
end
set_option maxRecDepth 100000 in
set_option maxHeartbeats 4000000 in
theorem dldrop_any (v : Value) (first : Int) (l : List EnL) (cs : CnL) (p : ByteArray) (u : Int) (f : ByteArray) (all : Bool) (w : World) (h : DocK w v first l cs) (hl : l.length ≤ 1000000) :
    Calls Tryz.prog 34 #[v, .string p, .int .u64 u, .string f, .bool all] w fun e w' => ∃ v', e = .returned v' ∧ DocK w' v' first (l.filter (keptE all p u f)) cs ∧ Below w.heap.size w w' := by
  obtain ⟨A, c, A', c', rfl, hc, hc', hS, hS'⟩ := h
  have HS := hid hS
  have HSC := hid hS'
  have HCC := hid hc'
  obtain ⟨ln, hln⟩ : ∃ n, l.length = n := ⟨_, rfl⟩
  have HLN := hid hln
  obtain ⟨n, hn⟩ : ∃ n, cs.length = n := ⟨_, rfl⟩
  have HN := hid hn
  rw [hln] at hl ⊢
  rw [hn]
  obtain ⟨i0, hi0, hz0, hz1, hz2⟩ := info_parts info_entD
  clear hS hS' hn hln hc hc'
  obtain ⟨K, hK⟩ : ∃ K, keptE all p u f = K := ⟨_, rfl⟩
  have HKp := hid hK
  rw [hK]
  clear hK
  go_enter Tryz.func34, Tryz.ntmps34
  go_upto_region 1 with fail
  obtain ⟨W, hW⟩ : ∃ W, (w.alloc (.cells #[.int .u64 first, .slice A ln c, .slice A' n c'] 31)).alloc (.cells zeroBK 31) = W := ⟨_, rfl⟩
  rw [hW]
  obtain ⟨K0, K1, KB⟩ := ltwo_new hW
  clear hW
  obtain ⟨k, hk⟩ : ∃ k, w.heap.size = k := ⟨_, rfl⟩
  rw [hk] at K0 K1 KB ⊢
  have HK := hid hk
  have D0 : Hid (DrD w W k ln n first A c A' c' (.slice none 0 0) []) := hid ⟨K0.out, K1.out, KB.out, World.ownsRow_nil _ _ _ _⟩
  clear hk K0 K1 KB
  go_wp2_with fail
  go_loopw [11, 12] (fun ov iv wr => ∃ (j : Nat) (vv : Value), vv = ov ∧ iv = .int .i64 (j : Int) ∧ j ≤ ln ∧ Hid (DrD w wr k ln n first A c A' c' vv ((l.take j).filter K))) (fun _ iv _ => ln - (intOf iv).toNat)
  case atStart => exact ⟨0, _, rfl, rfl, by omega, D0⟩
  case round =>
    obtain ⟨j, vv, hvv, rfl, hj, HD⟩ := hrel
    subst hvv
    obtain ⟨xs, hxs⟩ : ∃ xs, (l.take j).filter K = xs := ⟨_, rfl⟩
    have HXS := hid hxs
    have hxl : xs.length ≤ j := by rw [← hxs]; exact Nat.le_trans (List.length_filter_le _ _) (by rw [List.length_take]; omega)
    rw [hxs] at HD
    clear hxs
    have c1 := HD.out.c1
    have hkW := HD.out.lt
    by_cases hlt : j < ln
    · have hlt' : (j : Int) < (ln : Int) := by omega
      obtain ⟨e, he⟩ : ∃ e, l[j]? = some e := ⟨_, List.getElem?_eq_getElem (by rw [HLN.out]; exact hlt)⟩
      have HE := hid he
      obtain ⟨b, o, hA, hb, hr⟩ := (HS.out.below (w' := wr) (by rw [HK.out]; exact HD.out.bel)) j e he
      subst hA
      have y0 : wr.cell? ⟨b, o + j * 6, none⟩ = some (.string e.path) := hr 0 _ rfl
      have y1 : wr.cell? ⟨b, o + j * 6 + 1, none⟩ = some (.int .u64 e.num) := hr 1 _ rfl
      have y2 : wr.cell? ⟨b, o + j * 6 + 2, none⟩ = some (.string e.foot) := hr 2 _ rfl
      have y3 : wr.cell? ⟨b, o + j * 6 + 3, none⟩ = some (.int .i64 e.mode) := hr 3 _ rfl
      have y4 : wr.cell? ⟨b, o + j * 6 + 4, none⟩ = some (.int .u64 e.n) := hr 4 _ rfl
      have y5 : wr.cell? ⟨b, o + j * 6 + 5, none⟩ = some (.int .i64 e.stamp) := hr 5 _ rfl
      clear hr he hb
      have HSn := hid (kept_snoc HE.out K)
      rw [HXS.out] at HSn
      have qi : IntKind.i64.wrap ((j : Int) + 1) = ((j + 1 : Nat) : Int) := by rw [IntWalk.i64_in _ (by omega)]; omega
      by_cases hu : e.num = u
      · by_cases hf : e.foot = f
        · cases all with
          | true =>
            have HX : Hid ((l.take (j + 1)).filter K = xs) := hid (by rw [HSn.out, if_neg (by rw [← HKp.out]; simp [keptE, ofE, isE, hu, hf])]; simp)
            rw [hu] at y1
            rw [hf] at y2
            clear hu hf
            go_wp2_with fail
            go_roundw
            case rel => exact ⟨j + 1, _, rfl, by push_cast; rfl, by omega, by rw [HX.out]; exact HD⟩
            case measure => simp only [intOf]; omega
          | false =>
            by_cases hp : e.path = p
            · have HX : Hid ((l.take (j + 1)).filter K = xs) := hid (by rw [HSn.out, if_neg (by rw [← HKp.out]; simp [keptE, ofE, isE, hu, hf, hp])]; simp)
              rw [hu] at y1
              rw [hf] at y2
              rw [hp] at y0
              clear hu hf hp
              go_wp2_with fail
              go_roundw
              case rel => exact ⟨j + 1, _, rfl, by push_cast; rfl, by omega, by rw [HX.out]; exact HD⟩
              case measure => simp only [intOf]; omega
            · have hq3 := lkeq_text e.path p
              rw [decide_eq_false hp] at hq3
              have HX : Hid ((l.take (j + 1)).filter K = xs ++ [⟨e.path, u, f, e.mode, e.n, e.stamp⟩]) := hid (by rw [HSn.out, if_pos (by rw [← HKp.out]; simp [keptE, ofE, isE, hp]), show (⟨e.path, u, f, e.mode, e.n, e.stamp⟩ : EnL) = e from by rw [← hu, ← hf]])
              rw [hu] at y1
              rw [hf] at y2
              clear hu hf hp
              have HOld : Hid ((wr.alloc (.cells #[.string e.path, .int .u64 u, .string f, .int .i64 e.mode, .int .u64 e.n, .int .i64 e.stamp] 47)).ownsRow (k + 2) 47 6 vv xs.length (flatE xs)) := hid (HD.out.2.2.2.alloc _)
              have HNw := hid (Blk.new wr 47 #[.string e.path, .int .u64 u, .string f, .int .i64 e.mode, .int .u64 e.n, .int .i64 e.stamp])
              go_wp2_with (first
                | (at_builtin; refine wpList_append_own_at _ rfl (.tmp 52) (.tmp 58) 28 rfl (k + 2) 47 i0 _ 6 64 Tryz.underlying28 hi0 hz0 hz1 hz2 rfl (by decide) vv xs.length (flatE xs) rfl HOld.out ⟨wr.heap.size, 0, none⟩ 1 1 (entL ⟨e.path, u, f, e.mode, e.n, e.stamp⟩) rfl rfl (ent_at (e := ⟨e.path, u, f, e.mode, e.n, e.stamp⟩) HNw.out) (entL_one _) (by unfold maxLen; omega) (by omega) (by simp; omega) ?_; intro v2 w2 own2 hg2 _ _; have D2 := hid (HD.out.app ⟨e.path, u, f, e.mode, e.n, e.stamp⟩ own2 hg2); clear own2 hg2 y0 y1 y2 y3 y4 y5 c1))
              go_roundw
              case rel => exact ⟨j + 1, _, rfl, by push_cast; rfl, by omega, by rw [HX.out]; exact D2⟩
              case measure => simp only [intOf]; omega
        · have hq2 := lkeq_text e.foot f
          rw [decide_eq_false hf] at hq2
          have HX : Hid ((l.take (j + 1)).filter K = xs ++ [⟨e.path, u, e.foot, e.mode, e.n, e.stamp⟩]) := hid (by rw [HSn.out, if_pos (by rw [← HKp.out]; simp [keptE, ofE, isE, hf]), show (⟨e.path, u, e.foot, e.mode, e.n, e.stamp⟩ : EnL) = e from by rw [← hu]])
          rw [hu] at y1
          clear hu hf
          have HOld : Hid ((wr.alloc (.cells #[.string e.path, .int .u64 u, .string e.foot, .int .i64 e.mode, .int .u64 e.n, .int .i64 e.stamp] 47)).ownsRow (k + 2) 47 6 vv xs.length (flatE xs)) := hid (HD.out.2.2.2.alloc _)
          have HNw := hid (Blk.new wr 47 #[.string e.path, .int .u64 u, .string e.foot, .int .i64 e.mode, .int .u64 e.n, .int .i64 e.stamp])
          go_wp2_with (first
            | (at_builtin; refine wpList_append_own_at _ rfl (.tmp 52) (.tmp 58) 28 rfl (k + 2) 47 i0 _ 6 64 Tryz.underlying28 hi0 hz0 hz1 hz2 rfl (by decide) vv xs.length (flatE xs) rfl HOld.out ⟨wr.heap.size, 0, none⟩ 1 1 (entL ⟨e.path, u, e.foot, e.mode, e.n, e.stamp⟩) rfl rfl (ent_at (e := ⟨e.path, u, e.foot, e.mode, e.n, e.stamp⟩) HNw.out) (entL_one _) (by unfold maxLen; omega) (by omega) (by simp; omega) ?_; intro v2 w2 own2 hg2 _ _; have D2 := hid (HD.out.app ⟨e.path, u, e.foot, e.mode, e.n, e.stamp⟩ own2 hg2); clear own2 hg2 y0 y1 y2 y3 y4 y5 c1))
          go_roundw
          case rel => exact ⟨j + 1, _, rfl, by push_cast; rfl, by omega, by rw [HX.out]; exact D2⟩
          case measure => simp only [intOf]; omega
      · have hq1 : (e.num == u) = false := by simpa using hu
        have HX : Hid ((l.take (j + 1)).filter K = xs ++ [⟨e.path, e.num, e.foot, e.mode, e.n, e.stamp⟩]) := hid (by rw [HSn.out, if_pos (by rw [← HKp.out]; simp [keptE, ofE, isE, hu]), show (⟨e.path, e.num, e.foot, e.mode, e.n, e.stamp⟩ : EnL) = e from by rfl])
        have HOld : Hid ((wr.alloc (.cells #[.string e.path, .int .u64 e.num, .string e.foot, .int .i64 e.mode, .int .u64 e.n, .int .i64 e.stamp] 47)).ownsRow (k + 2) 47 6 vv xs.length (flatE xs)) := hid (HD.out.2.2.2.alloc _)
        have HNw := hid (Blk.new wr 47 #[.string e.path, .int .u64 e.num, .string e.foot, .int .i64 e.mode, .int .u64 e.n, .int .i64 e.stamp])
        go_wp2_with (first
          | (at_builtin; refine wpList_append_own_at _ rfl (.tmp 52) (.tmp 58) 28 rfl (k + 2) 47 i0 _ 6 64 Tryz.underlying28 hi0 hz0 hz1 hz2 rfl (by decide) vv xs.length (flatE xs) rfl HOld.out ⟨wr.heap.size, 0, none⟩ 1 1 (entL ⟨e.path, e.num, e.foot, e.mode, e.n, e.stamp⟩) rfl rfl (ent_at (e := ⟨e.path, e.num, e.foot, e.mode, e.n, e.stamp⟩) HNw.out) (entL_one _) (by unfold maxLen; omega) (by omega) (by simp; omega) ?_; intro v2 w2 own2 hg2 _ _; have D2 := hid (HD.out.app ⟨e.path, e.num, e.foot, e.mode, e.n, e.stamp⟩ own2 hg2); clear own2 hg2 y0 y1 y2 y3 y4 y5 c1))
        go_roundw
        case rel => exact ⟨j + 1, _, rfl, by push_cast; rfl, by omega, by rw [HX.out]; exact D2⟩
        case measure => simp only [intOf]; omega
    · have hlt' : ¬ (j : Int) < (ln : Int) := by omega
      have hX : l.filter K = xs := by rw [← HXS.out, List.take_of_length_le (by rw [HLN.out]; omega)]
      have HX := hid hX
      clear hX
      obtain ⟨A3, c3, e3, hA3, hS3⟩ := SeesE.of_own HD.out.2.2.2
      have HFar : Hid (∀ b o, A3 = some ⟨b, o, none⟩ → k + 2 ≤ b) := hid (fun b o e => by subst e; subst e3; exact (HD.out.2.2.2.lt b rfl).1)
      obtain ⟨n3, hn3⟩ : ∃ x, xs.length = x := ⟨_, rfl⟩
      rw [hn3] at e3 hA3
      have HN3 := hid hn3
      have HA3 := hid hA3
      have HS3 := hid hS3
      have D1 := hid HD.out.1
      have D2 := hid HD.out.2.1
      have DB := hid HD.out.2.2.1
      clear HD hn3 hA3 hS3 c1
      subst e3
      obtain ⟨b0, b1, b2⟩ := lcells3K D1.out
      have z1 := D1.out.frozen 1
      obtain ⟨x0, x1, x2⟩ := lcells3K D2.out
      have g0 := D2.out.frozen 0
      have g1 := D2.out.frozen 1
      have g2 := D2.out.frozen 2
      go_wp2_with fail
      have T2 := D2.out.far (p := ⟨k, 1, none⟩) (by simp) (.slice A3 n3 c3)
      have T3 := put3K_blk T2 (.int .u64 first) (.slice A3 n3 c3) (.slice A' n c')
      have B2 := DB.out.setCell (p := ⟨k, 1, none⟩) (Nat.le_refl k) (.slice A3 n3 c3)
      have B3 := put3K_below B2 (Nat.le_succ k) (.int .u64 first) (.slice A3 n3 c3) (.slice A' n c')
      have C1 := HS3.out.setK (p := ⟨k, 1, none⟩) (fun b o e => by have := HFar.out b o e; show b ≠ k; omega) (.slice A3 n3 c3)
      have C2 := ((C1.setK (p := ⟨k + 1, 0, none⟩) (fun b o e => by have := HFar.out b o e; show b ≠ k + 1; omega) (.int .u64 first)).setK (p := ⟨k + 1, 1, none⟩) (fun b o e => by have := HFar.out b o e; show b ≠ k + 1; omega) (.slice A3 n3 c3)).setK (p := ⟨k + 1, 2, none⟩) (fun b o e => by have := HFar.out b o e; show b ≠ k + 1; omega) (.slice A' n c')
      unfold put3K at T3 B3
      obtain ⟨w9, hw9⟩ : ∃ w9, ((((wr.setCell ⟨k, 1, none⟩ (.slice A3 n3 c3)).setCell ⟨k + 1, 0, none⟩ (.int .u64 first)).setCell ⟨k + 1, 1, none⟩ (.slice A3 n3 c3)).setCell ⟨k + 1, 2, none⟩ (.slice A' n c')) = w9 := ⟨_, rfl⟩
      rw [hw9] at T3 B3 C2 ⊢
      clear hw9 x0 x1 x2 g0 g1 g2
      obtain ⟨q0, q1, q2⟩ := lcells3K T3
      have TW : Below w.heap.size w w9 := by rw [HK.out]; exact B3
      refine bodyPost_ret (v := .agg #[.int .u64 first, .slice A3 n3 c3, .slice A' n c']) (by simp [results, Tryz.results34, go_sem, q0, q1, q2]) rfl
        ⟨_, rfl, DocK.mk (by rw [HX.out, HN3.out]) HN.out HA3.out (by have := HCC.out; rw [HN.out] at this; exact this) (by rw [HX.out]; exact C2) (HSC.out.below TW), TW⟩
end Go.Proofs.YtgjbhlianlbflaaGreat
