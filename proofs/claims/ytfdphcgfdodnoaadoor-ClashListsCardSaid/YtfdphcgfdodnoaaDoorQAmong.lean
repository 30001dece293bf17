/-
  The contract of package clash's Among.
-/
import Derived.Test.YtfdphcgfdodnoaaDoorQBack
import Derived.Test.YtfdphcgfdodnoaaDoorQRef
import Derived.Test.YtfdphcgfdodnoaaDoorVals
import Derived.LoopTactic
namespace Go.Proofs.YtfdphcgfdodnoaaDoor
open Go.ChangeShapes Go.WideShapes Go.ChangeAt Go.RowKit Go.Lib
set_option linter.unusedVariables false
set_option linter.unusedSimpArgs false

/-- The places, rising, of those of the first k that interfere with a command. -/
def hits (l : List K) (c : K) (k : Nat) : List Nat := (List.range k).filter fun i => clashK (l.getD i noK) c
theorem hits_succ {l : List K} {c : K} {k : Nat} (h : k < l.length) : hits l c (k + 1) = hits l c k ++ (if clashK l[k] c then [k] else []) := by
  unfold hits
  rw [List.range_succ, List.filter_append]
  congr 1
  have e : l.getD k noK = l[k] := by rw [List.getD_eq_getElem?_getD, List.getElem?_eq_getElem h]; rfl
  cases hc : clashK l[k] c <;> simp only [List.filter_cons, List.filter_nil, e, hc] <;> rfl
theorem hits_len (l : List K) (c : K) (k : Nat) : (hits l c k).length ≤ k := by
  unfold hits
  refine Nat.le_trans (List.length_filter_le _ _) ?_
  simp
def placesV (l : List Nat) : List Value := l.map fun i => .int .i64 ((i : Nat) : Int)
theorem placesV_snoc (l : List Nat) (k : Nat) : placesV (l ++ [k]) = placesV l ++ [.int .i64 ((k : Nat) : Int)] := by simp [placesV]

theorem info_int8 : (Tryd.prog.info? 3).map (fun i => (i.zero, i.size, i.bytes)) = some (some (.int .i64 0), 1, 8) := by kernel_rfl
theorem one_int8 (W : World) (x : Int) (t : TypeId) : Vals (W.alloc (.cells #[.int .i64 x] t)) (some ⟨W.heap.size, 0, none⟩) [.int .i64 x] := by
  intro j u hj
  match j, hj with
  | 0, hj =>
    simp at hj
    subst hj
    exact ⟨W.heap.size, 0, rfl, by simp, by simp⟩

/-- A box of the call's own behind an append to a row behind it. -/
theorem boxed_app {w w2 w3 : World} {c : K} {v : Value} {n : Nat} {xs : List Value} {o : Obj} (h : Boxed w w2 w.heap.size c) (hr : w2.ownsRow (w.heap.size + 1) 3 1 v n xs) (hg : (w2.alloc o).grownBy w3 v.ownBlock) : Boxed w w3 w.heap.size c := by
  have h1 := h.alloc o
  have h2 := h1.lt
  have hlt : ∀ j, v.ownBlock = some j → w.heap.size + 1 ≤ j := fun j hj => (hr.lt j hj).1
  refine ⟨h1.1.grown hg (fun e => by have := hlt _ e.symm; omega), Nat.le_refl _, h1.2.2.1.grown hg (by omega) (fun j hj => by have := hlt j hj; omega), h.2.2.2⟩

/-- What Among answers. -/
def AmongS (l : List K) (c : K) (w : World) (e : Ending) (w' : World) : Prop := ∃ A c', e = .returned (.slice A (hits l c l.length).length c') ∧ Vals w' A (placesV (hits l c l.length)) ∧ Below w.heap.size w w'

set_option maxRecDepth 100000 in
set_option maxHeartbeats 4000000 in
theorem among_any (A : Option Addr) (l : List K) (cap : Nat) (c : K) (w : World) (hA : SeesK w.heap.size w A l) (hP : PartsIs w) (hl : l.length ≤ 30) (hz : ∀ x ∈ l, x.foot.size ≤ 900 ∧ x.path.size ≤ 900) (hz' : c.foot.size ≤ 900 ∧ c.path.size ≤ 900) :
    Calls Tryd.prog 27 #[.slice A l.length cap, val c] w (AmongS l c w) := by
  obtain ⟨i0, hi, hz0, hz1, hz2⟩ := info_parts info_int8
  have HA := hid hA
  have HZ := hid hz
  have HZ2 : Hid (c.foot.size ≤ 281474976710656 ∧ c.path.size ≤ 281474976710656) := hid (by omega)
  have C0 := hid (Boxed.start hP c)
  clear hA hz hP hz'
  go_enter Tryd.func27, Tryd.ntmps27
  go_wp2
  go_loopw [5, 10] (fun v i wr => ∃ k : Nat, k ≤ l.length ∧ i = .int .i64 k ∧ Hid (wr.ownsRow (w.heap.size + 1) 3 1 v (hits l c k).length (placesV (hits l c k))) ∧ Hid (Boxed w wr w.heap.size c)) (fun _ i _ => l.length - (RowKit.intOf i).toNat)
  case atStart => exact ⟨0, Nat.zero_le _, rfl, hid (World.ownsRow_nil _ _ _ _), C0⟩
  case round =>
    obtain ⟨k, hk, rfl, HO, HB⟩ := hrel
    have hlt := HB.out.lt
    by_cases hlk : k < l.length
    · have h1 : (0 : Int) ≤ (k : Int) := by omega
      have h2 : (k : Int) < (l.length : Int) := by omega
      have hkl := hits_len l c k
      obtain ⟨b, o, rfl, hb, x0, x1, x2, x3, x4, x5, x6, x7⟩ := (HA.out.below HB.out.below) k hlk
      have hx := HZ.out l[k] (List.getElem_mem hlk)
      have HX : Hid (l[k].foot.size ≤ 281474976710656 ∧ l[k].path.size ≤ 281474976710656) := hid (by omega)
      have B1 := hid (HB.out.alloc (.cells (cellsOf l[k]) 26))
      have X1 := hid (Blk.new wr 26 (cellsOf l[k]))
      obtain ⟨⟨c0, c1, c2, c3, c4, c5, c6, c7⟩, f0, f1, f2, f3, f4, f5, f6, f7⟩ := cells8 B1.out.1
      obtain ⟨r, hr⟩ : ∃ r, clashK l[k] c = r := ⟨_, rfl⟩
      have HR := hid hr
      clear hx hr
      go_wp2_with fail
      refine (clash_any l[k] c _ B1.out.parts HX.out.1 HX.out.2 HZ2.out.1 HZ2.out.2).mono ?_
      rw [HR.out]
      rintro e w2 ⟨rfl, hb2⟩
      have HO2 := hid ((HO.out.alloc (.cells (cellsOf l[k]) 26)).kept (grown_below hb2) (Classical.em _))
      have B2 := hid (B1.out.on hb2)
      have hs2 := B2.out.lt
      clear hb2 x0 x1 x2 x3 x4 x5 x6 x7 c0 c1 c2 c3 c4 c5 c6 c7 f0 f1 f2 f3 f4 f5 f6 f7
      cases r
      · have E : hits l c (k + 1) = hits l c k := by rw [hits_succ hlk, HR.out]; simp
        go_wp2
        go_roundw
        case rel => exact ⟨k + 1, hlk, by go_num, by rw [E]; exact HO2, B2⟩
        case measure => simp only [RowKit.intOf]; omega
      · have E : Hid (hits l c (k + 1) = hits l c k ++ [k]) := hid (by rw [hits_succ hlk, HR.out]; simp)
        go_wp2_with (at_builtin; refine wpList_append_vals rfl (.tmp 18) (.tmp 20) 52 rfl (w.heap.size + 1) 3 i0 _ 8 Tryd.underlying52 hi hz0 hz1 hz2 rfl _ (hits l c k).length (placesV (hits l c k)) rfl (HO2.out.alloc _) _ 1 [.int .i64 (k : Int)] 1 rfl rfl (fun h => nomatch h) (one_int8 _ _ _) (by intro u hu; simp at hu; subst hu; rfl) (by unfold maxLen; omega) (by omega) (by simp; omega) ?_; intro v3 w3 hown3 hg3; have B3 := hid (boxed_app B2.out HO2.out hg3); have HO3 := hid hown3; clear hg3 hown3)
        go_roundw
        case rel => exact ⟨k + 1, hlk, by go_num, by rw [E.out, placesV_snoc, List.length_append]; exact HO3, B3⟩
        case measure => simp only [RowKit.intOf]; omega
    · obtain rfl : k = l.length := by omega
      obtain ⟨A', c', rfl, _, _, _, _, hV⟩ := own_vals HO.out
      go_wp2
      go_ret
      exact ⟨A', c', rfl, hV, HB.out.below⟩

end Go.Proofs.YtfdphcgfdodnoaaDoor
