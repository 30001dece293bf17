/-
  The contracts of lock's Granted, Could, Check.
-/
import Derived.Test.YtgjbhlianlbflaaGreatBLkAdd
namespace Go.Proofs.YtgjbhlianlbflaaGreat
open Go.ChangeShapes Go.WideShapes Go.ChangeAt Go.RowKit Go.Maps Go.WideMaps
set_option linter.unusedVariables false
set_option linter.unusedSimpArgs false
def grantE (l : List EnL) (e : EnL) : Bool := (findE l e.path e.num e.foot).isSome && (eqE (getE l e.path e.num e.foot) e && freeE l e)
set_option maxRecDepth 100000 in
set_option maxHeartbeats 4000000 in
theorem lkgranted_any (base b de dc n : Nat) (first : Int) (l : List EnL) (cs : CnL) (e : EnL) (w : World) (h : BkK w base b de dc n first l cs) (hn : n ≤ 1000000) (hp : OkK e.path) (hu : IsUk e.num) (hf : OkK e.foot) :
    Calls Tryz.prog 19 #[.pointer (some ⟨b, 0, none⟩), entV e] w (Asks (.bool (grantE l e)) w) := by
  have HB := hid h.blk
  have HL := hid h.lt
  have HU := hid (h.es.look_all hp hu hf)
  have HC := hid (fun w' (k : Below w.heap.size w w') => lkfree_any base b de dc n first l cs e w' (h.on k) hn hp)
  unfold grantE
  obtain ⟨s, hs⟩ : ∃ s, getE l e.path e.num e.foot = s := ⟨_, rfl⟩
  obtain ⟨o, ho⟩ : ∃ o, (findE l e.path e.num e.foot).isSome = o := ⟨_, rfl⟩
  obtain ⟨fr, hfr⟩ : ∃ r, freeE l e = r := ⟨_, rfl⟩
  rw [hs, ho] at HU
  rw [hfr] at HC
  rw [hs, ho, hfr]
  clear hs ho hfr h hp hu hf
  obtain ⟨p, u, f, mo, nn, st⟩ := e
  have LS := hid (len_lent s)
  have HQ := hid (lkbuild_key p u f)
  have HEq := hid (eqk_ent s ⟨p, u, f, mo, nn, st⟩)
  simp only [lkeyV] at HQ HU
  try dsimp only at HU HEq HC ⊢
  go_enter Tryz.func19, Tryz.ntmps19
  go_upto_region 1 with fail
  obtain ⟨W, hW⟩ : ∃ W, w.alloc (.cells #[.string p, .int .u64 u, .string f, .int .i64 mo, .int .u64 nn, .int .i64 st] 44) = W := ⟨_, rfl⟩
  rw [hW]
  obtain ⟨K0, KB⟩ := lone_new hW
  clear hW
  obtain ⟨k, hk⟩ : ∃ k, w.heap.size = k := ⟨_, rfl⟩
  rw [hk] at K0 KB HL HC ⊢
  have HK := hid hk
  have hbk := HL.out
  have HB1 := hid (HB.out.below KB.out hbk.1)
  clear hk
  have KL : Hid (k < W.heap.size) := hid K0.out.lt
  have HM1 : Hid (W.heap[de]? = w.heap[de]?) := hid (KB.out.block de hbk.2.1)
  refine wp_region_held_drew (S := fun w' => Blk w' b 78 #[.int .u64 first, .map (some de), .map (some dc)] ∧ Blk w' k 44 #[.string p, .int .u64 u, .string f, .int .i64 mo, .int .u64 nn, .int .i64 st] ∧ w'.heap[de]? = w.heap[de]?) (by kernel_rfl) (by exact ⟨HB1.out.drew, K0.out.drew, HM1.out⟩) (fun hHeld => ?_)
  refine tl 0 ?_ rfl ?_ hHeld ?_
  rotate_left 1
  focus (intro w' hSw; go_simp; try with_reducible rfl)
  try simp only [Act.put, List.getElem_toArray, List.getElem_cons_zero, List.getElem_cons_succ, List.setIfInBounds_toArray, List.set_cons_zero, List.set_cons_succ]
  refine tl 1 ?_ rfl ?_ hHeld ?_
  rotate_left 1
  focus (intro w' hSw; go_simp; try with_reducible rfl)
  try simp only [Act.put, List.getElem_toArray, List.getElem_cons_zero, List.getElem_cons_succ, List.setIfInBounds_toArray, List.set_cons_zero, List.set_cons_succ]
  refine tl 2 ?_ rfl ?_ hHeld ?_
  rotate_left 1
  focus (intro w' hSw; go_simp; try with_reducible rfl)
  try simp only [Act.put, List.getElem_toArray, List.getElem_cons_zero, List.getElem_cons_succ, List.setIfInBounds_toArray, List.set_cons_zero, List.set_cons_succ]
  refine tl 3 ?_ rfl ?_ hHeld ?_
  rotate_left 1
  focus (intro w' hSw; (have q0 : w'.cell? ⟨b, 1, none⟩ = some (.map (some de)) := ((And.left hSw).cell 1).trans rfl); go_simp; try with_reducible rfl)
  try simp only [Act.put, List.getElem_toArray, List.getElem_cons_zero, List.getElem_cons_succ, List.setIfInBounds_toArray, List.set_cons_zero, List.set_cons_succ]
  refine tl 4 ?_ rfl ?_ hHeld ?_
  rotate_left 1
  focus (intro w' hSw; go_simp; try with_reducible rfl)
  try simp only [Act.put, List.getElem_toArray, List.getElem_cons_zero, List.getElem_cons_succ, List.setIfInBounds_toArray, List.set_cons_zero, List.set_cons_succ]
  refine tl 5 ?_ rfl ?_ hHeld ?_
  rotate_left 1
  focus (intro w' hSw; (have c0 : w'.cell? ⟨k, 0, none⟩ = some (.string p) := ((And.left (And.right hSw)).cell 0).trans rfl); go_simp; try with_reducible rfl)
  try simp only [Act.put, List.getElem_toArray, List.getElem_cons_zero, List.getElem_cons_succ, List.setIfInBounds_toArray, List.set_cons_zero, List.set_cons_succ]
  refine tl 6 ?_ rfl ?_ hHeld ?_
  rotate_left 1
  focus (intro w' hSw; go_simp; try with_reducible rfl)
  try simp only [Act.put, List.getElem_toArray, List.getElem_cons_zero, List.getElem_cons_succ, List.setIfInBounds_toArray, List.set_cons_zero, List.set_cons_succ]
  refine tl 7 ?_ rfl ?_ hHeld ?_
  rotate_left 1
  focus (intro w' hSw; (have c1 : w'.cell? ⟨k, 1, none⟩ = some (.int .u64 u) := ((And.left (And.right hSw)).cell 1).trans rfl); (have c2 : w'.cell? ⟨k, 2, none⟩ = some (.string f) := ((And.left (And.right hSw)).cell 2).trans rfl); go_simp; try with_reducible rfl)
  try simp only [Act.put, List.getElem_toArray, List.getElem_cons_zero, List.getElem_cons_succ, List.setIfInBounds_toArray, List.set_cons_zero, List.set_cons_succ]
  refine tl 8 ?_ rfl ?_ hHeld ?_
  rotate_left 1
  focus (intro w' hSw; (have q2 := HQ.out w'); go_simp; try with_reducible rfl)
  try simp only [Act.put, List.getElem_toArray, List.getElem_cons_zero, List.getElem_cons_succ, List.setIfInBounds_toArray, List.set_cons_zero, List.set_cons_succ]
  refine tl 9 ?_ rfl ?_ hHeld ?_
  rotate_left 1
  focus (intro w' hSw; (have q1 := HU.out w' (And.right (And.right hSw))); go_simp; try with_reducible rfl)
  try simp only [Act.put, List.getElem_toArray, List.getElem_cons_zero, List.getElem_cons_succ, List.setIfInBounds_toArray, List.set_cons_zero, List.set_cons_succ]
  refine tl 10 ?_ rfl ?_ hHeld ?_
  rotate_left 1
  focus (intro w' hSw; go_simp; try with_reducible rfl)
  try simp only [Act.put, List.getElem_toArray, List.getElem_cons_zero, List.getElem_cons_succ, List.setIfInBounds_toArray, List.set_cons_zero, List.set_cons_succ]
  refine tl 11 ?_ rfl ?_ hHeld ?_
  rotate_left 1
  focus (intro w' hSw; go_simp; try with_reducible rfl)
  try simp only [Act.put, List.getElem_toArray, List.getElem_cons_zero, List.getElem_cons_succ, List.setIfInBounds_toArray, List.set_cons_zero, List.set_cons_succ]
  refine tl 12 ?_ rfl ?_ hHeld ?_
  rotate_left 1
  focus (intro w' hSw; go_simp; try with_reducible rfl)
  try simp only [Act.put, List.getElem_toArray, List.getElem_cons_zero, List.getElem_cons_succ, List.setIfInBounds_toArray, List.set_cons_zero, List.set_cons_succ]
  refine wpAnyH_ready (rs := [13]) (by kernel_rfl) (by simp) ?_
  refine AllReadyH.cons (o := _) rfl (fun K hK => ?_) AllReadyH.nil
  go_simp
  have KB3 : Hid (Below W.drew.heap.size W.drew (W.drew.alloc (.cells zeroEC 44))) := hid ((Below.refl _ _).alloc (Nat.le_refl _) _)
  have HB3 := hid (HB1.out.drew.alloc (.cells zeroEC 44))
  have K3 := hid (K0.out.drew.alloc (.cells zeroEC 44))
  have HM3 : Hid ((W.drew.alloc (.cells zeroEC 44)).heap[de]? = w.heap[de]?) := hid ((KB3.out.block de (by have := KL.out; have := hbk; show de < W.heap.size; omega)).trans HM1.out)
  have E3 : Hid (Blk (W.drew.alloc (.cells zeroEC 44)) W.drew.heap.size 44 zeroEC) := hid (Blk.new W.drew 44 zeroEC)
  have T3 : Hid (Below k w (W.drew.alloc (.cells zeroEC 44))) := hid ((below_drew KB.out).alloc (by have := KL.out; show k ≤ W.heap.size; omega) _)
  refine hK.out _ _ (by exact ⟨HB3.out, K3.out, HM3.out⟩) (fun hHeld => ?_)
  clear hK K
  try simp only [Act.put, List.getElem_toArray, List.getElem_cons_zero, List.getElem_cons_succ, List.setIfInBounds_toArray, List.set_cons_zero, List.set_cons_succ]
  obtain ⟨q, hq⟩ : ∃ q, W.heap.size = q := ⟨_, rfl⟩
  have hkq : k < q := by rw [← hq]; exact KL.out
  have HWQ := hid hq
  have HN3 : Hid (((W.alloc (.cells zeroEC 44)).drew).heap.size = q + 1) := hid (by rw [← hq]; simp [World.drew])
  have T3 : Hid (Below k w ((W.alloc (.cells zeroEC 44)).drew)) := T3
  have K3 : Hid (Blk ((W.alloc (.cells zeroEC 44)).drew) k 44 #[.string p, .int .u64 u, .string f, .int .i64 mo, .int .u64 nn, .int .i64 st]) := K3
  have HB3 : Hid (Blk ((W.alloc (.cells zeroEC 44)).drew) b 78 #[.int .u64 first, .map (some de), .map (some dc)]) := HB3
  have HM3 : Hid (((W.alloc (.cells zeroEC 44)).drew).heap[de]? = w.heap[de]?) := HM3
  have E3 : Hid (Blk ((W.alloc (.cells zeroEC 44)).drew) W.heap.size 44 zeroEC) := E3
  obtain ⟨WA, hWA⟩ : ∃ WA, ((W.alloc (.cells zeroEC 44)).drew) = WA := ⟨_, rfl⟩
  rw [hq] at E3
  rw [hWA] at T3 K3 HB3 HM3 E3 HN3
  rw [hWA, hq]
  have HW0 : Hid (∀ g, g < q → WA.heap[g]? = W.heap[g]?) := hid (fun g hg => by rw [← hWA]; exact Below.heap_alloc W _ g (by rw [hq]; exact hg))
  clear hWA hq hHeld KB3
  have TR := hid (lturns_setRow WA q (entC s))
  have E4 : Hid (Blk (WA.setRow q (entC s)) q 44 (entC s)) := hid (Blk.rowL E3.out)
  have K4 := hid (K3.out.turns TR.out (by omega))
  have HB4 := hid (HB3.out.turns TR.out (by omega))
  have HM4 : Hid ((WA.setRow q (entC s)).heap[de]? = w.heap[de]?) := hid ((TR.out.block de (by have := HN3.out; omega) (by omega)).trans HM3.out)
  have T4 : Hid (Below k w (WA.setRow q (entC s))) := hid (lbelow_setRow T3.out (by omega))
  have HW4 : Hid (∀ g, g < q → (WA.setRow q (entC s)).heap[g]? = W.heap[g]?) := hid (fun g hg => (TR.out.block g (by have := HN3.out; omega) (by omega)).trans (HW0.out g hg))
  refine wpAnyH_ready (rs := [14]) (by kernel_rfl) (by simp) ?_
  refine AllReadyH.cons (o := _) rfl (fun K hK => ?_) AllReadyH.nil
  refine lready_store_row (by kernel_rfl) 44 (.tmp 5) (.tmp 18) rfl q (entC s) rfl rfl 44 zeroEC E3.out.heap LS.out rfl (by simp [Value.oneCell']) ?_
  refine hK.out _ _ (by exact ⟨HB4.out, K4.out, HM4.out⟩) (fun hHeld => ?_)
  clear hK K
  try simp only [Act.put, List.getElem_toArray, List.getElem_cons_zero, List.getElem_cons_succ, List.setIfInBounds_toArray, List.set_cons_zero, List.set_cons_succ]
  refine tl 15 ?_ rfl ?_ hHeld ?_
  rotate_left 1
  focus (intro w' hSw; go_simp; try with_reducible rfl)
  try simp only [Act.put, List.getElem_toArray, List.getElem_cons_zero, List.getElem_cons_succ, List.setIfInBounds_toArray, List.set_cons_zero, List.set_cons_succ]
  refine wpAnyH_done (by kernel_rfl) ?_ _
  clear hHeld
  obtain ⟨w9, hw9⟩ : ∃ w9, WA.setRow q (entC s) = w9 := ⟨_, rfl⟩
  rw [hw9] at E4 K4 HB4 HM4 T4 HW4
  rw [hw9]
  clear hw9 TR T3 K3 HB3 HM3 E3 HW0 HN3
  have HQ9 : Hid (k < w9.heap.size) := hid (K4.out.lt)
  obtain ⟨z0, z1, z2, z3, z4, z5⟩ := lcells6 E4.out
  obtain ⟨y0, y1, y2, y3, y4, y5⟩ := lcells6 K4.out
  have HCs := hid (HC.out w9 T4.out)
  clear HU HQ HB3 K3 HM3 E3 T3 K4 HB4 HM4 hHeld HC HEq
  cases o with
  | false =>
    go_wp2
    go_ret
    exact ⟨rfl, by rw [HK.out]; exact T4.out⟩
  | true =>
    by_cases hse : s = ⟨p, u, f, mo, nn, st⟩
    · subst hse
      have HX : Hid (eqE ⟨p, u, f, mo, nn, st⟩ ⟨p, u, f, mo, nn, st⟩ = true) := hid (eqE_iff.2 rfl)
      go_wp2_with (go_at_call 35; (with_reducible refine HCs.out.mono ?_); rintro r w2 ⟨rfl, b2⟩; have G2 := hid (T4.out.trans (b2.mono (by have := HQ9.out; omega))); clear b2)
      go_ret
      exact ⟨by rw [HX.out]; cases fr <;> rfl, by rw [HK.out]; exact G2.out⟩
    · have HX : Hid (eqE s ⟨p, u, f, mo, nn, st⟩ = false) := hid (by
        cases h : eqE s ⟨p, u, f, mo, nn, st⟩
        · rfl
        · exact absurd (eqE_iff.1 h) hse)
      have HNE : Hid (s.path.toList = p.toList → s.num = u → s.foot.toList = f.toList → s.mode = mo → s.n = nn → s.stamp = st → False) := hid (fun a1 a2 a3 a4 a5 a6 => hse (by
        obtain ⟨p1, u1, f1, m1, n1, t1⟩ := s
        have b1 : p1 = p := of_decide_eq_true (by rw [← lkeq_text]; simpa using a1)
        have b3 : f1 = f := of_decide_eq_true (by rw [← lkeq_text]; simpa using a3)
        simp only at a2 a4 a5 a6
        rw [b1, a2, b3, a4, a5, a6]))
      clear hse
      go_wp2_with (go_at_call 35; exfalso; apply HNE.out <;> assumption)
      all_goals go_ret
      all_goals exact ⟨by rw [HX.out]; rfl, by rw [HK.out]; exact T4.out⟩
end Go.Proofs.YtgjbhlianlbflaaGreat
