/-
  The contract of lease's Told.
-/
import Derived.Test.YtbeeklpfbnhdnaaLsOpen
namespace Go.Proofs.Ytbeeklpfbnhdnaa
open Go.ChangeShapes Go.WideShapes Go.ChangeAt Go.RowKit Go.Maps Go.WideMaps
set_option linter.unusedVariables false
set_option linter.unusedSimpArgs false

abbrev ansC (a : AnL) : Array Value := #[.int .i64 a.e, .int .u64 a.n, .bool a.g]
def toldA (s : SeL) (r : Int) : AnL := (saidL s.told r).getD zeroA
theorem len_ans (a : AnL) : (Try.prog.info? 34).map (·.size) = some (ansC a).size := by kernel_rfl
theorem AnM.look_all {w : World} {m : Option Nat} {n : Nat} {t : ToldL} (h : AnM w m n t) {r : Int} (hr : IsU r) :
    ∀ w', (∀ x, m = some x → w'.heap[x]? = w.heap[x]?) → (Instr.lookup 87 (.map m) (.int .u64 r) true).run Try.prog w' = .ok (.tuple #[ansV ((saidL t r).getD zeroA), .bool (saidL t r).isSome]) w' := fun w' e => (h.same e).look hr
set_option maxRecDepth 100000 in
set_option maxHeartbeats 4000000 in
theorem ltold_any (base b d n : Nat) (l : List SeL) (u : Int) (f : ByteArray) (r : Int) (w : World) (h : BkAt w base b d n l) (hu : IsU u) (hf : OkF f) (hr : IsU r) :
    Calls Try.prog 15 #[.pointer (some ⟨b, 0, none⟩), sesV u f, .int .u64 r] w fun e w' => e = .returned (.tuple #[ansV (toldA (getL l u f) r), .bool (saidL (getL l u f).told r).isSome]) ∧ Below w.heap.size w w' := by
  have HB := hid h.blk
  have HL := hid h.lt
  have HU := hid (h.map.look_all hu hf)
  have HA := hid ((h.got u f).1.look_all hr)
  have HMl : Hid (∀ x, (getL l u f).m = some x → x < w.heap.size) := hid (fun x hx => by have := (h.got u f).1; rw [hx] at this; exact this.lt)
  obtain ⟨s, hs⟩ : ∃ s, getL l u f = s := ⟨_, rfl⟩
  rw [hs] at HU HA HMl ⊢
  clear hs h hu hf hr
  unfold toldA
  obtain ⟨an, han⟩ : ∃ x, (saidL s.told r).getD zeroA = x := ⟨_, rfl⟩
  obtain ⟨ok, hok⟩ : ∃ x, (saidL s.told r).isSome = x := ⟨_, rfl⟩
  rw [han, hok] at HA ⊢
  clear han hok
  go_enter Try.func15, Try.ntmps15
  go_upto_region 1 with fail
  obtain ⟨W, hW⟩ : ∃ W, (w.alloc (.cells #[.int .u64 u, .string f] 25)).alloc (.cells (ansC zeroA) 34) = W := ⟨_, rfl⟩
  simp only [zeroA, ansC] at hW
  rw [hW]
  obtain ⟨K0, K1, KB⟩ := ltwo_new hW
  clear hW
  obtain ⟨k, hk⟩ : ∃ k, w.heap.size = k := ⟨_, rfl⟩
  rw [hk] at K0 K1 KB HL HMl ⊢
  have HK := hid hk
  have hbk := HL.out
  have HB1 := hid (HB.out.below KB.out hbk.1)
  have HM1 : Hid (W.heap[d]? = w.heap[d]?) := hid (KB.out.block d hbk.2)
  have HA1 : Hid (∀ x, s.m = some x → W.heap[x]? = w.heap[x]?) := hid (fun x hx => KB.out.block x (HMl.out x hx))
  have KL : Hid (k + 1 < W.heap.size) := hid K1.out.lt
  have LK := hid (len_ses (.int .u64 u) (.string f))
  have LA := hid (len_ans an)
  have HF := hid (fun w => lfield_ans s.opn s.dead s.dl s.ttl (s.told.length : Int) s.m w)
  clear hk
  refine wp_region_held_drew (S := fun w' => Blk w' b 77 #[.map (some d)] ∧ Blk w' k 25 #[.int .u64 u, .string f] ∧ w'.heap[d]? = w.heap[d]? ∧ ∀ x, s.m = some x → w'.heap[x]? = w.heap[x]?) (by kernel_rfl) (by exact ⟨HB1.out.drew, K0.out.drew, HM1.out, HA1.out⟩) (fun hHeld => ?_)
  refine tl 0 ?_ rfl ?_ hHeld ?_
  rotate_left 1
  focus (intro w' hSw; go_simp; try with_reducible rfl)
  try simp only [Act.put, List.getElem_toArray, List.getElem_cons_zero, List.getElem_cons_succ, List.setIfInBounds_toArray, List.set_cons_zero, List.set_cons_succ]
  refine tl 1 ?_ rfl ?_ hHeld ?_
  rotate_left 1
  focus (intro w' hSw; go_simp; try with_reducible rfl)
  try simp only [Act.put, List.getElem_toArray, List.getElem_cons_zero, List.getElem_cons_succ, List.setIfInBounds_toArray, List.set_cons_zero, List.set_cons_succ]
  refine tl 2 ?_ rfl ?_ hHeld ?_
  rotate_left 1
  focus (intro w' hSw; go_simp; try with_reducible rfl)
  try simp only [Act.put, List.getElem_toArray, List.getElem_cons_zero, List.getElem_cons_succ, List.setIfInBounds_toArray, List.set_cons_zero, List.set_cons_succ]
  refine tl 3 ?_ rfl ?_ hHeld ?_
  rotate_left 1
  focus (intro w' hSw; (have q0 : w'.cell? ⟨b, 0, none⟩ = some (.map (some d)) := ((And.left hSw).cell 0).trans rfl); go_simp; try with_reducible rfl)
  try simp only [Act.put, List.getElem_toArray, List.getElem_cons_zero, List.getElem_cons_succ, List.setIfInBounds_toArray, List.set_cons_zero, List.set_cons_succ]
  refine wpAnyH_take (i := 4) (oi := _) (v := .agg (#[.int .u64 u, .string f])) rfl (by kernel_rfl) (by kernel_rfl) (by kernel_rfl) (fun _ _ _ h => h) (lyields_row (by kernel_rfl) 25 (.tmp 4) rfl k rfl 25 (#[.int .u64 u, .string f]) (0, 0) _ (fun _ h => Blk.heap (And.left (And.right h))) Try.underlying25 rfl LK.out) hHeld ?_
  try simp only [Act.put, List.getElem_toArray, List.getElem_cons_zero, List.getElem_cons_succ, List.setIfInBounds_toArray, List.set_cons_zero, List.set_cons_succ]
  refine tl 5 ?_ rfl ?_ hHeld ?_
  rotate_left 1
  focus (intro w' hSw; (have q0 := HU.out w' (And.left (And.right (And.right hSw)))); go_simp; try with_reducible rfl)
  try simp only [Act.put, List.getElem_toArray, List.getElem_cons_zero, List.getElem_cons_succ, List.setIfInBounds_toArray, List.set_cons_zero, List.set_cons_succ]
  refine tl 6 ?_ rfl ?_ hHeld ?_
  rotate_left 1
  focus (intro w' hSw; (have q0 := HF.out w'); go_simp; try with_reducible rfl)
  try simp only [Act.put, List.getElem_toArray, List.getElem_cons_zero, List.getElem_cons_succ, List.setIfInBounds_toArray, List.set_cons_zero, List.set_cons_succ]
  refine tl 7 ?_ rfl ?_ hHeld ?_
  rotate_left 1
  focus (intro w' hSw; go_simp; try with_reducible rfl)
  try simp only [Act.put, List.getElem_toArray, List.getElem_cons_zero, List.getElem_cons_succ, List.setIfInBounds_toArray, List.set_cons_zero, List.set_cons_succ]
  refine tl 8 ?_ rfl ?_ hHeld ?_
  rotate_left 1
  focus (intro w' hSw; (have q0 := HA.out w' (And.right (And.right (And.right hSw)))); go_simp; try with_reducible rfl)
  try simp only [Act.put, List.getElem_toArray, List.getElem_cons_zero, List.getElem_cons_succ, List.setIfInBounds_toArray, List.set_cons_zero, List.set_cons_succ]
  refine tl 9 ?_ rfl ?_ hHeld ?_
  rotate_left 1
  focus (intro w' hSw; go_simp; try with_reducible rfl)
  try simp only [Act.put, List.getElem_toArray, List.getElem_cons_zero, List.getElem_cons_succ, List.setIfInBounds_toArray, List.set_cons_zero, List.set_cons_succ]
  refine tl 10 ?_ rfl ?_ hHeld ?_
  rotate_left 1
  focus (intro w' hSw; go_simp; try with_reducible rfl)
  try simp only [Act.put, List.getElem_toArray, List.getElem_cons_zero, List.getElem_cons_succ, List.setIfInBounds_toArray, List.set_cons_zero, List.set_cons_succ]
  refine tl 11 ?_ rfl ?_ hHeld ?_
  rotate_left 1
  focus (intro w' hSw; go_simp; try with_reducible rfl)
  try simp only [Act.put, List.getElem_toArray, List.getElem_cons_zero, List.getElem_cons_succ, List.setIfInBounds_toArray, List.set_cons_zero, List.set_cons_succ]
  refine wpAnyH_ready (rs := [12]) (by kernel_rfl) (by simp) ?_
  refine AllReadyH.cons (o := _) rfl (fun K hK => ?_) AllReadyH.nil
  go_simp
  have BW : Hid (Below W.heap.size W ((W.alloc (.cells #[.int .i64 0, .int .u64 0, .bool false] 34)).drew)) := hid (below_drew ((Below.refl _ _).alloc (Nat.le_refl _) _))
  have E2 : Hid (Blk ((W.alloc (.cells #[.int .i64 0, .int .u64 0, .bool false] 34)).drew) W.heap.size 34 #[.int .i64 0, .int .u64 0, .bool false]) := hid (Blk.new W _ _)
  obtain ⟨W2, hW2⟩ : ∃ W2, (W.alloc (.cells #[.int .i64 0, .int .u64 0, .bool false] 34)).drew = W2 := ⟨_, rfl⟩
  rw [hW2] at BW E2 ⊢
  have HB2 := hid (HB1.out.below BW.out HB1.out.lt)
  have K2 := hid (K0.out.below BW.out K0.out.lt)
  have R2 := hid (K1.out.below BW.out K1.out.lt)
  have HM2 : Hid (W2.heap[d]? = w.heap[d]?) := hid ((BW.out.block d (by have := KL.out; omega)).trans HM1.out)
  have HA2 : Hid (∀ x, s.m = some x → W2.heap[x]? = w.heap[x]?) := hid (fun x hx => (BW.out.block x (by have := KL.out; have := HMl.out x hx; omega)).trans (HA1.out x hx))
  have KB2 : Hid (Below k w W2) := hid (KB.out.trans (BW.out.mono (by have := KL.out; omega)))
  refine hK.out _ _ (by exact ⟨HB2.out, K2.out, HM2.out, HA2.out⟩) (fun hHeld => ?_)
  clear hK K
  try simp only [Act.put, List.getElem_toArray, List.getElem_cons_zero, List.getElem_cons_succ, List.setIfInBounds_toArray, List.set_cons_zero, List.set_cons_succ]
  obtain ⟨q, hq⟩ : ∃ q, W.heap.size = q := ⟨_, rfl⟩
  have hkq : k + 1 < q := by rw [← hq]; exact KL.out
  rw [hq] at E2 ⊢
  have TR := hid (lturns_setRow W2 q (ansC an))
  have E3 : Hid (Blk (W2.setRow q (ansC an)) q 34 (ansC an)) := hid (Blk.rowL E2.out)
  have HB3 := hid (HB2.out.turns TR.out (by omega))
  have K3 := hid (K2.out.turns TR.out (by omega))
  have R3 := hid (R2.out.turns TR.out (by omega))
  have HM3 : Hid ((W2.setRow q (ansC an)).heap[d]? = w.heap[d]?) := hid ((TR.out.block d (by have := E2.out.lt; omega) (by omega)).trans HM2.out)
  have HA3 : Hid (∀ x, s.m = some x → (W2.setRow q (ansC an)).heap[x]? = w.heap[x]?) := hid (fun x hx => (TR.out.block x (by have := E2.out.lt; have := HMl.out x hx; omega) (by have := HMl.out x hx; omega)).trans (HA2.out x hx))
  have KB3 : Hid (Below k w (W2.setRow q (ansC an))) := hid (lbelow_setRow KB2.out (by omega))
  refine wpAnyH_ready (rs := [13]) (by kernel_rfl) (by simp) ?_
  refine AllReadyH.cons (o := _) rfl (fun K hK => ?_) AllReadyH.nil
  refine lready_store_row (by kernel_rfl) 34 (.tmp 8) (.tmp 20) rfl q (ansC an) rfl rfl 34 #[.int .i64 0, .int .u64 0, .bool false] E2.out.heap LA.out rfl (by simp [Value.oneCell']) ?_
  refine hK.out _ _ (by exact ⟨HB3.out, K3.out, HM3.out, HA3.out⟩) (fun hHeld => ?_)
  clear hK K
  try simp only [Act.put, List.getElem_toArray, List.getElem_cons_zero, List.getElem_cons_succ, List.setIfInBounds_toArray, List.set_cons_zero, List.set_cons_succ]
  refine tl 14 ?_ rfl ?_ hHeld ?_
  rotate_left 1
  focus (intro w' hSw; go_simp; try with_reducible rfl)
  try simp only [Act.put, List.getElem_toArray, List.getElem_cons_zero, List.getElem_cons_succ, List.setIfInBounds_toArray, List.set_cons_zero, List.set_cons_succ]
  refine wpAnyH_done (by kernel_rfl) ?_ _
  clear hHeld
  obtain ⟨wB, hwB⟩ : ∃ wB, W2.setRow q (ansC an) = wB := ⟨_, rfl⟩
  rw [hwB] at E3 R3 KB3 ⊢
  clear hwB hW2 TR HB3 K3 HM3 HA3
  have a0 : wB.cell? ⟨q, 0, none⟩ = some (.int .i64 an.e) := (E3.out.cell 0).trans rfl
  have a1 : wB.cell? ⟨q, 1, none⟩ = some (.int .u64 an.n) := (E3.out.cell 1).trans rfl
  have a2 : wB.cell? ⟨q, 2, none⟩ = some (.bool an.g) := (E3.out.cell 2).trans rfl
  have b0 : wB.cell? ⟨k + 1, 0, none⟩ = some (.int .i64 0) := (R3.out.cell 0).trans rfl
  have b1 : wB.cell? ⟨k + 1, 1, none⟩ = some (.int .u64 0) := (R3.out.cell 1).trans rfl
  have b2 : wB.cell? ⟨k + 1, 2, none⟩ = some (.bool false) := (R3.out.cell 2).trans rfl
  have f0 := R3.out.frozen 0
  have f1 := R3.out.frozen 1
  have f2 := R3.out.frozen 2
  go_wp2
  obtain ⟨w9, hw9⟩ : ∃ w9, ((wB.setCell ⟨k + 1, 0, none⟩ (.int .i64 an.e)).setCell ⟨k + 1, 1, none⟩ (.int .u64 an.n)).setCell ⟨k + 1, 2, none⟩ (.bool an.g) = w9 := ⟨_, rfl⟩
  have R9 := hid (((R3.out.set_ 0 (.int .i64 an.e)).set_ 1 (.int .u64 an.n)).set_ 2 (.bool an.g))
  have KB9 : Hid (Below k w (((wB.setCell ⟨k + 1, 0, none⟩ (.int .i64 an.e)).setCell ⟨k + 1, 1, none⟩ (.int .u64 an.n)).setCell ⟨k + 1, 2, none⟩ (.bool an.g))) := hid (((KB3.out.setCell (p := ⟨k + 1, 0, none⟩) (by simp) _).setCell (p := ⟨k + 1, 1, none⟩) (by simp) _).setCell (p := ⟨k + 1, 2, none⟩) (by simp) _)
  rw [hw9] at R9 KB9 ⊢
  clear hw9
  simp only [List.setIfInBounds_toArray, List.set_cons_succ, List.set_cons_zero] at R9
  have g0 : w9.cell? ⟨k + 1, 0, none⟩ = some (.int .i64 an.e) := (R9.out.cell 0).trans rfl
  have g1 : w9.cell? ⟨k + 1, 1, none⟩ = some (.int .u64 an.n) := (R9.out.cell 1).trans rfl
  have g2 : w9.cell? ⟨k + 1, 2, none⟩ = some (.bool an.g) := (R9.out.cell 2).trans rfl
  refine bodyPost_ret (v := .tuple #[ansV an, .bool ok]) (by simp [results, Try.results15, go_sem, g0, g1, g2]) rfl ⟨rfl, by rw [HK.out]; exact KB9.out⟩
end Go.Proofs.Ytbeeklpfbnhdnaa
