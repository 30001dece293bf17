/-
  A key held against what keys touch (package clash's reach).
-/
import Derived.Test.YtfdphcgfdodnoaaDoorQReach
namespace Go.Proofs.YtfdphcgfdodnoaaDoor
open Go.ChangeShapes Go.WideShapes Go.ChangeAt Go.RowKit Go.Shelf Go.Maps
attribute [local go_sem] Oper.semAt_some
set_option linter.unusedVariables false
set_option linter.unusedSimpArgs false

/-- One of these keys interferes with a key. -/
def hitK (ks : List (ByteArray × Int)) (f : ByteArray) (u : Int) : Prop := ∃ k ∈ ks, u = k.2 ∨ overlap (L f) (L k.1) = true
theorem hit_iff {ks : List (ByteArray × Int)} {f : ByteArray} {u : Int} (hr : right (L f) = true) (hrs : ∀ k ∈ ks, right (L k.1) = true) :
    hitK ks f u ↔ numsOf ks (.int .u64 u) ∨ topsOf ks (.string (L f)) ∨ ∃ p ∈ ups (L f), feetOf ks (.string p) := by
  unfold hitK numsOf topsOf feetOf overlap
  simp only [Bool.or_eq_true, Lit.int.injEq, true_and, Lit.string.injEq]
  constructor
  · rintro ⟨k, hk, h | h | h⟩
    · exact .inl ⟨k, hk, h⟩
    · exact .inr (.inl ⟨k, hk, _, (ups_mem (hrs k hk)).2 h, rfl⟩)
    · exact .inr (.inr ⟨_, (ups_mem hr).2 h, k, hk, rfl⟩)
  · rintro (⟨k, hk, h⟩ | ⟨k, hk, q, hq, rfl⟩ | ⟨p, hp, k, hk, rfl⟩)
    · exact ⟨k, hk, .inl h⟩
    · exact ⟨k, hk, .inr (.inl ((ups_mem (hrs k hk)).1 hq))⟩
    · exact ⟨k, hk, .inr (.inr ((ups_mem hr).1 hp))⟩

/-- What clashes answers. -/
def HitsP (ks : List (ByteArray × Int)) (f : ByteArray) (u : Int) (w : World) (e : Ending) (w' : World) : Prop := ∃ r : Bool, e = .returned (.bool r) ∧ (r = true ↔ hitK ks f u) ∧ Below w.heap.size w w'

/-- Where the loop of clashes stands. -/
def HitAt (h b : Nat) (w : World) (ks : List (ByteArray × Int)) (pre : List Sh) (W : World) : Prop :=
  (∀ x ∈ pre, ¬ feetOf ks (.string (LS x))) ∧ SetAt W 9 (b + 1) ks.length (feetOf ks) ∧ Blk W h 76 (reachC b) ∧ Blk W (h + 2) 4 #[.bool false] ∧ Below h w W
def HitEnd (h : Nat) (w : World) (ks : List (ByteArray × Int)) (c : Code) (pre : List Sh) (W : World) : Prop :=
  c = .ret ∧ (∃ x ∈ pre, feetOf ks (.string (LS x))) ∧ Blk W (h + 2) 4 #[.bool true] ∧ Below h w W
theorem HitAt.own {h b : Nat} {w : World} {ks : List (ByteArray × Int)} {B : Nat} (hw : h ≤ w.heap.size) (hB : h + 2 < B) (hb : b + 1 < B) : OwnFrom B (HitAt h b w ks) := fun s W W' row hs hg hr => by
  obtain ⟨h1, h2, h3, h4, h5⟩ := hs
  have hh : h ≤ B := by omega
  refine ⟨h1, h2.kept hg ?_, h3.grown hg ?_, h4.grown hg ?_, below_own h5 hw hh hg hr⟩
  all_goals
    intro e
    have := (hr _ e.symm).1
    omega
theorem HitEnd.own {h : Nat} {w : World} {ks : List (ByteArray × Int)} {c : Code} {B : Nat} (hw : h ≤ w.heap.size) (hB : h + 2 < B) : OwnFrom B (HitEnd h w ks c) := fun s W W' row hs hg hr => by
  obtain ⟨h1, h2, h3, h4⟩ := hs
  have hh : h ≤ B := by omega
  refine ⟨h1, h2, h3.grown hg ?_, below_own h4 hw hh hg hr⟩
  intro e
  have := (hr _ e.symm).1
  omega

set_option maxRecDepth 100000 in
set_option maxHeartbeats 2000000 in
theorem hit_any (b : Nat) (f : ByteArray) (u : Int) (ks : List (ByteArray × Int)) (w : World) (hR : ReachAt w b ks) (hr : right (L f) = true) (hrs : ∀ k ∈ ks, right (L k.1) = true) (hu : 0 ≤ u ∧ u < 18446744073709551616) :
    Calls Tryd.prog 45 #[reachV b, keyV f u] w (HitsP ks f u w) := by
  have hlt := hR.2.2.lt
  have hf : f.size ≤ 64 := by have := (right_iff.1 hr).1; rwa [L_length] at this
  have hml : 100000 < maxLen := by decide
  have HR := hid hr
  have HI := hid (hit_iff (u := u) hr hrs)
  have B0 := hid (((Blk.new w 76 (reachC b)).alloc (.cells (keyC f u) 41)).alloc (.cells #[.bool false] 4))
  have B1 : Hid (Blk (((w.alloc (.cells (reachC b) 76)).alloc (.cells (keyC f u) 41)).alloc (.cells #[.bool false] 4)) (w.heap.size + 1) 41 (keyC f u)) := hid (by have h := (Blk.new (w.alloc (.cells (reachC b) 76)) 41 (keyC f u)).alloc (.cells #[.bool false] 4); simpa using h)
  have B2 : Hid (Blk (((w.alloc (.cells (reachC b) 76)).alloc (.cells (keyC f u) 41)).alloc (.cells #[.bool false] 4)) (w.heap.size + 1 + 1) 4 #[.bool false]) := hid (by have h := Blk.new ((w.alloc (.cells (reachC b) 76)).alloc (.cells (keyC f u) 41)) 4 #[.bool false]; simpa using h)
  have R0 := hid (((hR.alloc (.cells (reachC b) 76)).alloc (.cells (keyC f u) 41)).alloc (.cells #[.bool false] 4))
  have HB : Hid (Below w.heap.size w (((w.alloc (.cells (reachC b) 76)).alloc (.cells (keyC f u) 41)).alloc (.cells #[.bool false] 4))) := hid ((((Below.refl _ w).alloc (Nat.le_refl _) _).alloc (by simp) _).alloc (by simp <;> omega) _)
  have BT : Hid (Blk (((w.alloc (.cells (reachC b) 76)).alloc (.cells (keyC f u) 41)).alloc (.cells #[.bool true] 4)) (w.heap.size + 1 + 1) 4 #[.bool true]) := hid (by have h := Blk.new ((w.alloc (.cells (reachC b) 76)).alloc (.cells (keyC f u) 41)) 4 #[.bool true]; simpa using h)
  have HT : Hid (Below w.heap.size w (((w.alloc (.cells (reachC b) 76)).alloc (.cells (keyC f u) 41)).alloc (.cells #[.bool true] 4))) := hid ((((Below.refl _ w).alloc (Nat.le_refl _) _).alloc (by simp) _).alloc (by simp <;> omega) _)
  obtain ⟨x0, lk0, hx0⟩ := R0.out.1.look law_u Tryd.underlying73 (key_u u hu)
  obtain ⟨x1, lk1, hx1⟩ := R0.out.2.2.look law_s Tryd.underlying74 (key_s f (by omega))
  have HX0 := hid hx0
  have HX1 := hid hx1
  clear hR hr hrs hx0 hx1
  obtain ⟨⟨b2⟩, b3⟩ : ((((w.alloc (.cells (reachC b) 76)).alloc (.cells (keyC f u) 41)).alloc (.cells #[.bool false] 4)).cell? ⟨w.heap.size + 1 + 1, 0, none⟩ = some (.bool false) ∧ True) ∧ (((w.alloc (.cells (reachC b) 76)).alloc (.cells (keyC f u) 41)).alloc (.cells #[.bool false] 4)).frozen? ⟨w.heap.size + 1 + 1, 0, none⟩ = false := ⟨⟨B2.out.cell 0, trivial⟩, B2.out.frozen 0⟩
  refine (callsIn_wide (n := 9)).1 ?_
  refine callsIn_of_wp_marks Tryd.func45 rfl trivial ?_ rfl
  simp only [Tryd.ntmps45, List.size_toArray, List.length_cons, List.length_nil, Nat.reduceAdd, Nat.reduceSub, Array.replicate_succ, Array.replicate_zero, List.push_toArray, List.append_toArray, List.nil_append, List.cons_append]
  cases x0
  rotate_left 1
  · have E : Hid (hitK ks f u) := hid (HI.out.2 (.inl (HX0.out.1 rfl)))
    gi_wp2
    have bt := BT.out.cell 0
    refine ⟨.bool true, by simp [results, Tryd.f45, go_sem, bt], true, rfl, ⟨fun _ => E.out, fun _ => rfl⟩, HT.out⟩
  cases x1
  rotate_left 1
  · have E : Hid (hitK ks f u) := hid (HI.out.2 (.inr (.inl (HX1.out.1 rfl))))
    gi_wp2
    have bt := BT.out.cell 0
    refine ⟨.bool true, by simp [results, Tryd.f45, go_sem, bt], true, rfl, ⟨fun _ => E.out, fun _ => rfl⟩, HT.out⟩
  gi_wp2_with fail
  refine ⟨trivial, ?_⟩
  refine (callsIn_wide.2 (upwards_any f _)).mono ?_
  rintro e w3 ⟨rfl, rfl⟩
  gi_wp2
  obtain ⟨W0, hW0⟩ : ∃ W0, ((w.alloc (.cells (reachC b) 76)).alloc (.cells (keyC f u) 41)).alloc (.cells #[.bool false] 4) = W0 := ⟨_, rfl⟩
  have hsz : W0.heap.size = w.heap.size + 3 := by rw [← hW0]; simp
  rw [hW0] at B0 B1 B2 R0 HB
  have X : Hid (Blk (W0.alloc (.cells #[.string f] 9)) (w.heap.size + 3) 9 #[.string f]) := hid (by rw [← hsz]; exact Blk.new _ _ _)
  have B2' : Hid (Blk W0 (w.heap.size + 2) 4 #[.bool false]) := hid B2.out
  clear lk0 lk1 b2 b3
  rw [hW0]
  clear hW0
  refine wpIn_rangeFunc_ownF rfl (by omega) (gf := 76) (lb := #[.pointer (some ⟨w.heap.size + 1 + 1 + 1, 0, none⟩)]) rfl trivial (enters_of Tryd.func76 (by kernel_rfl) rfl)
    (ups_stops _ (by omega) f HR.out (w.heap.size + 3) _ X.out.lt (X.out.cell 0)) (fun _ _ => trivial) (fun _ _ _ _ _ _ _ _ => trivial) (Below.refl _ _) (fun _ => rfl)
    (HitAt w.heap.size b w ks) (HitEnd w.heap.size w ks)
    (HitAt.own (Nat.le_refl _) (by simp; omega) (by simp; omega)) (fun c => HitEnd.own (Nat.le_refl _) (by simp; omega))
    ⟨(fun x hx => nomatch hx), R0.out.2.1.alloc _, B0.out.alloc _, B2'.out.alloc _, HB.out.alloc HB.out.size _⟩
    (fun x => { tmps := #[reachV b, keyV f u, .pointer (some ⟨w.heap.size, 0, none⟩), .pointer (some ⟨w.heap.size + 1, 0, none⟩), .pointer (some ⟨w.heap.size + 1 + 1, 0, none⟩), .string x.1, .pointer (some ⟨w.heap.size, 0, none⟩), .map (some b), .pointer (some ⟨w.heap.size + 1, 1, none⟩), .int .u64 u, .bool false, .bool false, .pointer (some ⟨w.heap.size, 2, none⟩), .map (some (b + 2)), .pointer (some ⟨w.heap.size + 1, 0, none⟩), .string f, .bool false, .bool false, .pointer (some ⟨w.heap.size + 1, 0, none⟩), .string f, .func (.func 76) #[] #[.pointer (some ⟨w.heap.size + 1 + 1 + 1, 0, none⟩)], .string x.1, undef, undef, undef, undef], defers := [] }) ?assign ?body ?done ?stop
  case assign =>
    intro l x W K hK
    gi_wp2
    exact hK
  case body =>
    rintro l pre x W ⟨hp, h1, hB, h2, hb⟩ hlen
    obtain ⟨c0, c1, c2⟩ := cells3 hB
    have hx := x.2
    have d2 := h2.cell 0
    have g2 := h2.frozen 0
    obtain ⟨y, lk, hy⟩ := h1.look law_s Tryd.underlying74 (key_s x.1 (by omega))
    have HY := hid hy
    have HP := hid hp
    clear hy hp
    cases y
    · gi_wp2
      refine ⟨KeepsOthers.refl _, trivial, ?_, h1, hB, h2, hb⟩
      intro z hz
      rcases List.mem_append.1 hz with hz | hz
      · exact HP.out z hz
      · simp at hz
        subst hz
        intro hh
        exact absurd (HY.out.2 hh) (by simp)
    · gi_wp2
      refine ⟨KeepsOthers.setCell _ _ _, rfl, ⟨x, by simp, HY.out.1 (by simp)⟩, h2.set_ 0 _, hb.setCell (p := ⟨w.heap.size + 2, 0, none⟩) (by simp) _⟩
  case done =>
    rintro D ys W hD hys ⟨hp, h1, hB, h2, hb⟩ hK
    have d2 := h2.cell 0
    have g2 := h2.frozen 0
    have hno : Hid (¬ hitK ks f u) := hid (by
      rw [HI.out]
      rintro (h | h | ⟨p, hq, h⟩)
      · exact absurd (HX0.out.2 h) (by simp)
      · exact absurd (HX1.out.2 h) (by simp)
      · rw [← hys] at hq
        obtain ⟨z, hz, rfl⟩ := List.mem_map.1 hq
        exact hp z hz h)
    gi_wp2
    have hK' := (KeepsOthers.setCell W ⟨w.heap.size + 2, 0, none⟩ (.bool false)).same D _ hK rfl
    refine ⟨by simp, .inl ⟨_, _, rfl, run_takeDeferred hK', ?_⟩⟩
    have hb5 := (h2.set_ 0 (.bool false)).own (grownBy_putObj' _ D (.deferred none)) (B := D) (fun r e => by cases e; exact ⟨Nat.le_refl _, _, hK', rfl⟩)
    have hc5 := hb5.cell 0
    refine ⟨.bool false, ?_, false, rfl, ⟨(fun h => by cases h), (fun h => absurd h hno.out)⟩, (hb.setCell (p := ⟨w.heap.size + 2, 0, none⟩) (by simp) _).trans (belowK_b (w := w) (Nat.le_refl _) _ D _ _ (by simp at hD; omega) hK' rfl rfl)⟩
    simp [results, Tryd.f45, go_sem, hc5]
  case stop =>
    rintro D c pre W hD hpre ⟨rfl, ⟨x, hx, hi⟩, h2, hb⟩ hK
    have hyes : Hid (hitK ks f u) := hid (HI.out.2 (.inr (.inr ⟨LS x, hpre.2.subset (List.mem_map_of_mem hx), hi⟩)))
    clear hpre hx hi
    gi_wp2
    refine ⟨by simp, .inl ⟨_, _, rfl, run_takeDeferred hK, ?_⟩⟩
    have hb5 := h2.own (grownBy_putObj' _ D (.deferred none)) (B := D) (fun r e => by cases e; exact ⟨Nat.le_refl _, _, hK, rfl⟩)
    have hc5 := hb5.cell 0
    refine ⟨.bool true, ?_, true, rfl, ⟨fun _ => hyes.out, fun _ => rfl⟩, hb.trans (belowK_b (w := w) (Nat.le_refl _) W D _ _ (by simp at hD; omega) hK rfl rfl)⟩
    simp [results, Tryd.f45, go_sem, hc5]

end Go.Proofs.YtfdphcgfdodnoaaDoor
