/-
  The contracts of lock's has, Find, Granted.
-/
import Derived.Test.YtgjbhlianlbflaaGreatBLkBook
import Derived.Test.YtgjbhlianlbflaaGreatBLsStill
import Derived.Deep.DeepCutAuto
namespace Go.Proofs.YtgjbhlianlbflaaGreat
open Go.ChangeShapes Go.WideShapes Go.ChangeAt Go.RowKit Go.Maps Go.WideMaps
set_option linter.unusedVariables false
set_option linter.unusedSimpArgs false
theorem EsM.look_all {w : World} {d n : Nat} {l : List EnL} (h : EsM w d n l) {p : ByteArray} {u : Int} {f : ByteArray} (hp : OkK p) (hu : IsUk u) (hf : OkK f) :
    ∀ w', w'.heap[d]? = w.heap[d]? → (Instr.lookup 75 (.map (some d)) (lkeyV p u f) true).run Tryz.prog w' = .ok (.tuple #[.agg (entC (getE l p u f)), .bool (findE l p u f).isSome]) w' := fun w' e => (h.same e).look hp hu hf
theorem lkbuild_key (p : ByteArray) (u : Int) (f : ByteArray) (w : World) : (Instr.build 84 #[(0, .string p), (1, .agg #[.int .u64 u, .string f])]).run Tryz.prog w = .ok (lkeyV p u f) w := by kernel_rfl
theorem len_lent (e : EnL) : (Tryz.prog.info? 44).map (·.size) = some (entC e).size := by kernel_rfl
set_option maxRecDepth 100000 in
set_option maxHeartbeats 4000000 in
theorem lkhas_any (base b de dc n : Nat) (first : Int) (l : List EnL) (cs : CnL) (p : ByteArray) (u : Int) (f : ByteArray) (w : World) (h : BkK w base b de dc n first l cs) (hp : OkK p) (hu : IsUk u) (hf : OkK f) :
    Calls Tryz.prog 62 #[.pointer (some ⟨b, 0, none⟩), .string p, .agg #[.int .u64 u, .string f]] w (Asks (.bool (findE l p u f).isSome) w) := by
  have HB := hid h.blk
  have HL := hid h.lt
  have HU := hid (h.es.look_all hp hu hf)
  obtain ⟨s, hs⟩ : ∃ s, getE l p u f = s := ⟨_, rfl⟩
  obtain ⟨o, ho⟩ : ∃ o, (findE l p u f).isSome = o := ⟨_, rfl⟩
  rw [hs, ho] at HU
  rw [ho]
  clear hs ho h hp hu hf
  have LS := hid (len_lent s)
  have HQ := hid (lkbuild_key p u f)
  simp only [lkeyV] at HQ HU
  go_enter Tryz.func62, Tryz.ntmps62
  go_upto_region 1 with fail
  obtain ⟨W, hW⟩ : ∃ W, (w.alloc (.cells #[.int .u64 u, .string f] 33)) = W := ⟨_, rfl⟩
  rw [hW]
  obtain ⟨K0, KB⟩ := lone_new hW
  clear hW
  obtain ⟨k, hk⟩ : ∃ k, w.heap.size = k := ⟨_, rfl⟩
  rw [hk] at K0 KB HL ⊢
  have HK := hid hk
  have hbk := HL.out
  have HB1 := hid (HB.out.below KB.out hbk.1)
  clear hk
  have KL : Hid (k < W.heap.size) := hid K0.out.lt
  have HM1 : Hid (W.heap[de]? = w.heap[de]?) := hid (KB.out.block de hbk.2.1)
  refine wp_region_held_drew (S := fun w' => Blk w' b 78 #[.int .u64 first, .map (some de), .map (some dc)] ∧ Blk w' k 33 #[.int .u64 u, .string f] ∧ w'.heap[de]? = w.heap[de]?) (by kernel_rfl) (by exact ⟨HB1.out.drew, K0.out.drew, HM1.out⟩) (fun hHeld => ?_)
  refine tl 0 ?_ rfl ?_ hHeld ?_
  rotate_left 1
  focus (intro w' hSw; go_simp; try with_reducible rfl)
  try simp only [Act.put, List.getElem_toArray, List.getElem_cons_zero, List.getElem_cons_succ, List.setIfInBounds_toArray, List.set_cons_zero, List.set_cons_succ]
  refine tl 1 ?_ rfl ?_ hHeld ?_
  rotate_left 1
  focus (intro w' hSw; go_simp; try with_reducible rfl)
  try simp only [Act.put, List.getElem_toArray, List.getElem_cons_zero, List.getElem_cons_succ, List.setIfInBounds_toArray, List.set_cons_zero, List.set_cons_succ]
  refine tl 2 ?_ rfl ?_ hHeld ?_
  rotate_left 1
  focus (intro w' hSw; go_simp; try with_reducible rfl)
  try simp only [Act.put, List.getElem_toArray, List.getElem_cons_zero, List.getElem_cons_succ, List.setIfInBounds_toArray, List.set_cons_zero, List.set_cons_succ]
  refine tl 3 ?_ rfl ?_ hHeld ?_
  rotate_left 1
  focus (intro w' hSw; (have q0 : w'.cell? ⟨b, 1, none⟩ = some (.map (some de)) := ((And.left hSw).cell 1).trans rfl); go_simp; try with_reducible rfl)
  try simp only [Act.put, List.getElem_toArray, List.getElem_cons_zero, List.getElem_cons_succ, List.setIfInBounds_toArray, List.set_cons_zero, List.set_cons_succ]
  refine tl 4 ?_ rfl ?_ hHeld ?_
  rotate_left 1
  focus (intro w' hSw; go_simp; try with_reducible rfl)
  try simp only [Act.put, List.getElem_toArray, List.getElem_cons_zero, List.getElem_cons_succ, List.setIfInBounds_toArray, List.set_cons_zero, List.set_cons_succ]
  refine tl 5 ?_ rfl ?_ hHeld ?_
  rotate_left 1
  focus (intro w' hSw; (have c0 : w'.cell? ⟨k, 0, none⟩ = some (.int .u64 u) := ((And.left (And.right hSw)).cell 0).trans rfl); (have c1 : w'.cell? ⟨k, 1, none⟩ = some (.string f) := ((And.left (And.right hSw)).cell 1).trans rfl); go_simp; try with_reducible rfl)
  try simp only [Act.put, List.getElem_toArray, List.getElem_cons_zero, List.getElem_cons_succ, List.setIfInBounds_toArray, List.set_cons_zero, List.set_cons_succ]
  refine tl 6 ?_ rfl ?_ hHeld ?_
  rotate_left 1
  focus (intro w' hSw; (have q2 := HQ.out w'); go_simp; try with_reducible rfl)
  try simp only [Act.put, List.getElem_toArray, List.getElem_cons_zero, List.getElem_cons_succ, List.setIfInBounds_toArray, List.set_cons_zero, List.set_cons_succ]
  refine tl 7 ?_ rfl ?_ hHeld ?_
  rotate_left 1
  focus (intro w' hSw; (have q1 := HU.out w' (And.right (And.right hSw))); go_simp; try with_reducible rfl)
  try simp only [Act.put, List.getElem_toArray, List.getElem_cons_zero, List.getElem_cons_succ, List.setIfInBounds_toArray, List.set_cons_zero, List.set_cons_succ]
  refine tl 8 ?_ rfl ?_ hHeld ?_
  rotate_left 1
  focus (intro w' hSw; go_simp; try with_reducible rfl)
  try simp only [Act.put, List.getElem_toArray, List.getElem_cons_zero, List.getElem_cons_succ, List.setIfInBounds_toArray, List.set_cons_zero, List.set_cons_succ]
  refine tl 9 ?_ rfl ?_ hHeld ?_
  rotate_left 1
  focus (intro w' hSw; go_simp; try with_reducible rfl)
  try simp only [Act.put, List.getElem_toArray, List.getElem_cons_zero, List.getElem_cons_succ, List.setIfInBounds_toArray, List.set_cons_zero, List.set_cons_succ]
  refine tl 10 ?_ rfl ?_ hHeld ?_
  rotate_left 1
  focus (intro w' hSw; go_simp; try with_reducible rfl)
  try simp only [Act.put, List.getElem_toArray, List.getElem_cons_zero, List.getElem_cons_succ, List.setIfInBounds_toArray, List.set_cons_zero, List.set_cons_succ]
  refine wpAnyH_ready (rs := [11]) (by kernel_rfl) (by simp) ?_
  refine AllReadyH.cons (o := _) rfl (fun K hK => ?_) AllReadyH.nil
  go_simp
  have KB3 : Hid (Below W.drew.heap.size W.drew (W.drew.alloc (.cells zeroEC 44))) := hid ((Below.refl _ _).alloc (Nat.le_refl _) _)
  have HB3 := hid (HB1.out.drew.alloc (.cells zeroEC 44))
  have K3 := hid (K0.out.drew.alloc (.cells zeroEC 44))
  have HM3 : Hid ((W.drew.alloc (.cells zeroEC 44)).heap[de]? = w.heap[de]?) := hid ((KB3.out.block de (by have := KL.out; have := hbk; show de < W.heap.size; omega)).trans HM1.out)
  have E3 : Hid (Blk (W.drew.alloc (.cells zeroEC 44)) W.drew.heap.size 44 zeroEC) := hid (Blk.new W.drew 44 zeroEC)
  have T3 : Hid (Below k w (W.drew.alloc (.cells zeroEC 44))) := hid ((below_drew KB.out).alloc (by have := KL.out; show k ≤ W.heap.size; omega) _)
  refine hK.out _ _ (by exact ⟨HB3.out, K3.out, HM3.out⟩) (fun hHeld => ?_)
  clear hK K
  try simp only [Act.put, List.getElem_toArray, List.getElem_cons_zero, List.getElem_cons_succ, List.setIfInBounds_toArray, List.set_cons_zero, List.set_cons_succ]
  obtain ⟨q, hq⟩ : ∃ q, W.heap.size = q := ⟨_, rfl⟩
  have hkq : k < q := by rw [← hq]; exact KL.out
  have HWQ := hid hq
  have HN3 : Hid (((W.alloc (.cells zeroEC 44)).drew).heap.size = q + 1) := hid (by rw [← hq]; simp [World.drew])
  have T3 : Hid (Below k w ((W.alloc (.cells zeroEC 44)).drew)) := T3
  have K3 : Hid (Blk ((W.alloc (.cells zeroEC 44)).drew) k 33 #[.int .u64 u, .string f]) := K3
  have HB3 : Hid (Blk ((W.alloc (.cells zeroEC 44)).drew) b 78 #[.int .u64 first, .map (some de), .map (some dc)]) := HB3
  have HM3 : Hid (((W.alloc (.cells zeroEC 44)).drew).heap[de]? = w.heap[de]?) := HM3
  have E3 : Hid (Blk ((W.alloc (.cells zeroEC 44)).drew) W.heap.size 44 zeroEC) := E3
  obtain ⟨WA, hWA⟩ : ∃ WA, ((W.alloc (.cells zeroEC 44)).drew) = WA := ⟨_, rfl⟩
  rw [hq] at E3
  rw [hWA] at T3 K3 HB3 HM3 E3 HN3
  rw [hWA, hq]
  have HW0 : Hid (∀ g, g < q → WA.heap[g]? = W.heap[g]?) := hid (fun g hg => by rw [← hWA]; exact Below.heap_alloc W _ g (by rw [hq]; exact hg))
  clear hWA hq hHeld KB3
  have TR := hid (lturns_setRow WA q (entC s))
  have E4 : Hid (Blk (WA.setRow q (entC s)) q 44 (entC s)) := hid (Blk.rowL E3.out)
  have K4 := hid (K3.out.turns TR.out (by omega))
  have HB4 := hid (HB3.out.turns TR.out (by omega))
  have HM4 : Hid ((WA.setRow q (entC s)).heap[de]? = w.heap[de]?) := hid ((TR.out.block de (by have := HN3.out; omega) (by omega)).trans HM3.out)
  have T4 : Hid (Below k w (WA.setRow q (entC s))) := hid (lbelow_setRow T3.out (by omega))
  have HW4 : Hid (∀ g, g < q → (WA.setRow q (entC s)).heap[g]? = W.heap[g]?) := hid (fun g hg => (TR.out.block g (by have := HN3.out; omega) (by omega)).trans (HW0.out g hg))
  refine wpAnyH_ready (rs := [12]) (by kernel_rfl) (by simp) ?_
  refine AllReadyH.cons (o := _) rfl (fun K hK => ?_) AllReadyH.nil
  refine lready_store_row (by kernel_rfl) 44 (.tmp 7) (.tmp 18) rfl q (entC s) rfl rfl 44 zeroEC E3.out.heap LS.out rfl (by simp [Value.oneCell']) ?_
  refine hK.out _ _ (by exact ⟨HB4.out, K4.out, HM4.out⟩) (fun hHeld => ?_)
  clear hK K
  try simp only [Act.put, List.getElem_toArray, List.getElem_cons_zero, List.getElem_cons_succ, List.setIfInBounds_toArray, List.set_cons_zero, List.set_cons_succ]
  refine tl 13 ?_ rfl ?_ hHeld ?_
  rotate_left 1
  focus (intro w' hSw; go_simp; try with_reducible rfl)
  try simp only [Act.put, List.getElem_toArray, List.getElem_cons_zero, List.getElem_cons_succ, List.setIfInBounds_toArray, List.set_cons_zero, List.set_cons_succ]
  refine wpAnyH_done (by kernel_rfl) ?_ _
  clear hHeld
  obtain ⟨w9, hw9⟩ : ∃ w9, WA.setRow q (entC s) = w9 := ⟨_, rfl⟩
  rw [hw9] at E4 K4 HB4 HM4 T4 HW4
  rw [hw9]
  clear hw9 TR T3 K3 HB3 HM3 E3 HW0 HN3
  go_wp2
  go_ret
  exact ⟨rfl, by rw [HK.out]; exact T4.out⟩
end Go.Proofs.YtgjbhlianlbflaaGreat
