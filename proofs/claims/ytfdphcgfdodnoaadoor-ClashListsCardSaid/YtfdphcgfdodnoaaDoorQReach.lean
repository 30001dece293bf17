/-
  What keys touch (package clash's reach): made anew, a key put to it.
-/
import Derived.Test.YtfdphcgfdodnoaaDoorQMap
import Derived.Test.YtfdphcgfdodnoaaDoorQUps
import Derived.Test.YtfdphcgfdodnoaaDoorQBase
import Derived.RangeFuncWrites
namespace Go.Proofs.YtfdphcgfdodnoaaDoor
open Go.ChangeShapes Go.WideShapes Go.ChangeAt Go.RowKit Go.Shelf Go.Maps
attribute [local go_sem] Oper.semAt_some
set_option linter.unusedVariables false
set_option linter.unusedSimpArgs false

theorem SetAt.congr {w : World} {K b n : Nat} {S S' : Lit → Prop} (h : SetAt w K b n S) (he : ∀ y, S y ↔ S' y) : SetAt w K b n S' := by
  obtain ⟨D, h1, h2⟩ := h
  refine ⟨D, h1, fun y hy => ?_⟩
  obtain ⟨x, hx, hs⟩ := h2 y hy
  exact ⟨x, hx, hs.trans (he y)⟩

/-- All but three blocks, from b on, is as it was. -/
structure Turn (b : Nat) (w w' : World) : Prop where
  os : w'.os = w.os
  tape : w'.tape = w.tape
  output : w'.output = w.output
  size : w.heap.size ≤ w'.heap.size
  block : ∀ g, g < w.heap.size → g < b ∨ b + 2 < g → w'.heap[g]? = w.heap[g]?
theorem Turn.refl (b : Nat) (w : World) : Turn b w w := ⟨rfl, rfl, rfl, Nat.le_refl _, fun _ _ _ => rfl⟩
theorem Turn.grown {b : Nat} {w w' w'' : World} {row : Option Nat} (h : Turn b w w') (hg : w'.grownBy w'' row) (hr : ∀ r, row = some r → (b ≤ r ∧ r ≤ b + 2) ∨ w.heap.size ≤ r) : Turn b w w'' :=
  ⟨hg.os.trans h.os, hg.tape.trans h.tape, hg.output.trans h.output, Nat.le_trans h.size hg.size, fun g h1 h2 =>
    (hg.block g (Nat.lt_of_lt_of_le h1 h.size) (fun e => by rcases hr g e.symm with h3 | h3 <;> omega)).trans (h.block g h1 h2)⟩
theorem Turn.alloc {b : Nat} {w w' : World} (h : Turn b w w') (o : Obj) : Turn b w (w'.alloc o) := h.grown (World.grownBy_alloc w' o none) (fun r e => nomatch e)
theorem Turn.on {b : Nat} {w w' w'' : World} (h : Turn b w w') (hb : Below w'.heap.size w' w'') : Turn b w w'' := h.grown (grown_below hb) (fun r e => nomatch e)
theorem Turn.trans {b : Nat} {w w' w'' : World} (h : Turn b w w') (k : Turn b w' w'') : Turn b w w'' :=
  ⟨k.os.trans h.os, k.tape.trans h.tape, k.output.trans h.output, Nat.le_trans h.size k.size, fun g h1 h2 => (k.block g (Nat.lt_of_lt_of_le h1 h.size) h2).trans (h.block g h1 h2)⟩
theorem Turn.blk {b g : Nat} {w w' : World} {t : TypeId} {cs : Array Value} (h : Turn b w w') (hB : Blk w g t cs) (hg : g < b ∨ b + 2 < g) : Blk w' g t cs := (h.block g hB.lt hg).trans hB
theorem Turn.below {b n : Nat} {w0 w w' : World} (h : Turn b w w') (hb : Below n w0 w) (hn : n ≤ b) (h0 : n ≤ w.heap.size) : Below n w0 w' :=
  ⟨h.os.trans hb.os, h.tape.trans hb.tape, h.output.trans hb.output, Nat.le_trans hb.size h.size, fun g hg => (h.block g (by omega) (.inl (by omega))).trans (hb.block g hg)⟩

def numsOf (ks : List (ByteArray × Int)) (y : Lit) : Prop := ∃ k ∈ ks, y = .int .u64 k.2
def feetOf (ks : List (ByteArray × Int)) (y : Lit) : Prop := ∃ k ∈ ks, y = .string (L k.1)
def topsOf (ks : List (ByteArray × Int)) (y : Lit) : Prop := ∃ k ∈ ks, ∃ q ∈ ups (L k.1), y = .string q
/-- A reach of these keys, at three blocks from b on. -/
def ReachAt (w : World) (b : Nat) (ks : List (ByteArray × Int)) : Prop :=
  SetAt w 22 b ks.length (numsOf ks) ∧ SetAt w 9 (b + 1) ks.length (feetOf ks) ∧ SetAt w 9 (b + 2) (8 * ks.length) (topsOf ks)
abbrev reachV (b : Nat) : Value := .agg #[.map (some b), .map (some (b + 1)), .map (some (b + 2))]
abbrev reachC (b : Nat) : Array Value := #[.map (some b), .map (some (b + 1)), .map (some (b + 2))]
theorem ReachAt.below {B b : Nat} {w w' : World} {ks : List (ByteArray × Int)} (h : ReachAt w b ks) (hb : Below B w w') (hB : b + 2 < B) : ReachAt w' b ks :=
  ⟨h.1.below hb (by omega), h.2.1.below hb (by omega), h.2.2.below hb hB⟩
theorem ReachAt.on {b : Nat} {w w' : World} {ks : List (ByteArray × Int)} (h : ReachAt w b ks) (hb : Below w.heap.size w w') : ReachAt w' b ks := h.below hb h.2.2.lt
theorem ReachAt.alloc {b : Nat} {w : World} {ks : List (ByteArray × Int)} (h : ReachAt w b ks) (o : Obj) : ReachAt (w.alloc o) b ks := ⟨h.1.alloc o, h.2.1.alloc o, h.2.2.alloc o⟩
theorem cells3 {w : World} {g : Nat} {T : TypeId} {a b c : Value} (h : Blk w g T #[a, b, c]) : w.cell? ⟨g, 0, none⟩ = some a ∧ w.cell? ⟨g, 1, none⟩ = some b ∧ w.cell? ⟨g, 2, none⟩ = some c :=
  ⟨(h.cell 0).trans rfl, (h.cell 1).trans rfl, (h.cell 2).trans rfl⟩

set_option maxRecDepth 100000 in
set_option maxHeartbeats 1000000 in
theorem newreach_any (w : World) : Calls Tryd.prog 42 #[] w fun e w' => e = .returned (reachV (w.heap.size + 1)) ∧ Below w.heap.size w w' ∧ w'.heap.size = w.heap.size + 4 ∧ ReachAt w' (w.heap.size + 1) [] := by
  have hmm := @run_makeMap Tryd.prog
  obtain ⟨C, hC⟩ : ∃ C : Obj, C = .cells #[.map (some (w.heap.size + 1)), .map (some (w.heap.size + 1 + 1)), .map (some (w.heap.size + 1 + 1 + 1))] 76 := ⟨_, rfl⟩
  have m0 := SetAt.made (w.alloc C) 22
  have m1 := SetAt.made ((w.alloc C).alloc (.map #[] 0)) 9
  have m2 := SetAt.made (((w.alloc C).alloc (.map #[] 0)).alloc (.map #[] 0)) 9
  simp only [World.size_alloc] at m0 m1 m2
  have M0 := hid ((m0.alloc (.map #[] 0)).alloc (.map #[] 0))
  have M1 := hid (m1.alloc (.map #[] 0))
  have M2 := hid m2
  have HB : Hid (Below w.heap.size w ((((w.alloc C).alloc (.map #[] 0)).alloc (.map #[] 0)).alloc (.map #[] 0))) := hid
    (((((Below.refl _ w).alloc (Nat.le_refl _) _).alloc (by simp) _).alloc (by simp; omega) _).alloc (by simp; omega) _)
  have R := hid ((((Blk.new w 76 #[.map (some (w.heap.size + 1)), .map (some (w.heap.size + 1 + 1)), .map (some (w.heap.size + 1 + 1 + 1))]).alloc (.map #[] 0)).alloc (.map #[] 0)).alloc (.map #[] 0))
  have HC := hid hC
  clear m0 m1 m2 hC
  go_enter Tryd.func42, Tryd.ntmps42
  go_wp2
  obtain ⟨d0, d1, d2⟩ := cells3 R.out
  rw [← HC.out] at d0 d1 d2 ⊢
  refine bodyPost_ret (v := reachV (w.heap.size + 1)) (by simp [results, Tryd.results42, go_sem, d0, d1, d2]) rfl ⟨rfl, HB.out, ?_, ?_, ?_, ?_⟩
  · simp only [World.size_alloc]
  · exact M0.out.congr (by intro y; unfold numsOf; simp)
  · exact M1.out.congr (by intro y; unfold feetOf; simp)
  · exact M2.out.congr (by intro y; unfold topsOf; simp)

/-- Where add's loop stands: some of a path's fronts put. -/
def AddAt (h b : Nat) (w : World) (ks : List (ByteArray × Int)) (f : ByteArray) (u : Int) (pre : List Sh) (W : World) : Prop :=
  SetAt W 22 b (ks.length + 1) (numsOf (ks ++ [(f, u)])) ∧ SetAt W 9 (b + 1) (ks.length + 1) (feetOf (ks ++ [(f, u)])) ∧
  SetAt W 9 (b + 2) (8 * ks.length + pre.length) (fun y => topsOf ks y ∨ ∃ q ∈ pre, y = .string (LS q)) ∧ Blk W h 76 (reachC b) ∧ Turn b w W
theorem AddAt.own {h b : Nat} {w : World} {ks : List (ByteArray × Int)} {f : ByteArray} {u : Int} {B : Nat} (hB : w.heap.size ≤ B) (hb : b + 2 < B) (hh : h < B) : OwnFrom B (AddAt h b w ks f u) := fun s W W' row hs hg hr => by
  obtain ⟨h1, h2, h3, h4, h5⟩ := hs
  refine ⟨h1.kept hg ?_, h2.kept hg ?_, h3.kept hg ?_, h4.grown hg ?_, h5.grown hg (fun r e => .inr (Nat.le_trans hB (hr r e).1))⟩
  all_goals
    intro e
    have := (hr _ e.symm).1
    omega

set_option maxRecDepth 100000 in
set_option maxHeartbeats 2000000 in
theorem add_any (b : Nat) (f : ByteArray) (u : Int) (ks : List (ByteArray × Int)) (w : World) (hR : ReachAt w b ks) (hr : right (L f) = true) (hu : 0 ≤ u ∧ u < 18446744073709551616) (hks : ks.length ≤ 1000) :
    Calls Tryd.prog 44 #[reachV b, keyV f u] w fun e w' => (∃ v, e = .returned v) ∧ ReachAt w' b (ks ++ [(f, u)]) ∧ Turn b w w' := by
  have hlt := hR.2.2.lt
  have hf : f.size ≤ 64 := by have := (right_iff.1 hr).1; rwa [L_length] at this
  have HR := hid hr
  have B0 := hid ((Blk.new w 76 (reachC b)).alloc (.cells (keyC f u) 41))
  have B1 : Hid (Blk ((w.alloc (.cells (reachC b) 76)).alloc (.cells (keyC f u) 41)) (w.heap.size + 1) 41 (keyC f u)) := hid (by have h := Blk.new (w.alloc (.cells (reachC b) 76)) 41 (keyC f u); simpa using h)
  have S0 := hid (hR.1.alloc (.cells (reachC b) 76) |>.alloc (.cells (keyC f u) 41))
  have S1 := hid (hR.2.1.alloc (.cells (reachC b) 76) |>.alloc (.cells (keyC f u) 41))
  have S2 := hid (hR.2.2.alloc (.cells (reachC b) 76) |>.alloc (.cells (keyC f u) 41))
  have T0 := hid (((Turn.refl b w).alloc (.cells (reachC b) 76)).alloc (.cells (keyC f u) 41))
  have hml : 100000 < maxLen := by decide
  clear hR hr
  refine (callsIn_wide (n := 9)).1 ?_
  refine callsIn_of_wp_marks Tryd.func44 rfl trivial ?_ rfl
  simp only [Tryd.ntmps44, List.size_toArray, List.length_cons, List.length_nil, Nat.reduceAdd, Nat.reduceSub, Array.replicate_succ, Array.replicate_zero, List.push_toArray, List.append_toArray, List.nil_append, List.cons_append]
  have NE : Hid (((some w.heap.size : Option Nat) ≠ some b ∧ (some (w.heap.size + 1) : Option Nat) ≠ some b ∧ (some (b + 1) : Option Nat) ≠ some b ∧ (some (b + 2) : Option Nat) ≠ some b) ∧ (some w.heap.size : Option Nat) ≠ some (b + 1) ∧ (some (w.heap.size + 1) : Option Nat) ≠ some (b + 1) ∧ (some b : Option Nat) ≠ some (b + 1) ∧ (some (b + 2) : Option Nat) ≠ some (b + 1)) := hid (by
    simp only [ne_eq, Option.some.injEq]; omega)
  have TU : Hid (∀ (w1 w2 : World) (r : Nat), b ≤ r → r ≤ b + 2 → Turn b w w1 → w1.grownBy w2 (some r) → Turn b w w2) := hid (fun w1 w2 r h1 h2 h3 h4 => h3.grown h4 (fun x e => by cases e; exact .inl ⟨h1, h2⟩))
  gi_wp2_with (first
    | (gi_at_mapUpdate; refine wpListIn_put _ rfl _ _ _ 73 rfl 22 law_u Tryd.underlying73 b _ _ rfl S0.out (by omega) _ _ rfl rfl (key_u u hu) ?_; intro w1 hown1 hgrow1; have B0a := hid (B0.out.grown hgrow1 NE.out.1.1); have B1a := hid (B1.out.grown hgrow1 NE.out.1.2.1); have S1a := hid (S1.out.kept hgrow1 NE.out.1.2.2.1); have S2a := hid (S2.out.kept hgrow1 NE.out.1.2.2.2); have T1 := hid (TU.out _ _ b (Nat.le_refl _) (Nat.le_add_right _ _) T0.out hgrow1); have S0a := hid hown1; clear hown1 hgrow1; obtain ⟨c0, c1, c2⟩ := cells3 B0a.out; obtain ⟨⟨d0, d1⟩, g0, g1⟩ := cells2 B1a.out)
    | (gi_at_mapUpdate; refine wpListIn_put _ rfl _ _ _ 74 rfl 9 law_s Tryd.underlying74 (b + 1) _ _ rfl S1a.out (by omega) _ _ rfl rfl (key_s f (by omega)) ?_; intro w2 hown2 hgrow2; have B0b := hid (B0a.out.grown hgrow2 NE.out.2.1); have B1b := hid (B1a.out.grown hgrow2 NE.out.2.2.1); have S0b := hid (S0a.out.kept hgrow2 NE.out.2.2.2.1); have S2b := hid (S2a.out.kept hgrow2 NE.out.2.2.2.2); have T2 := hid (TU.out _ _ (b + 1) (Nat.le_add_right _ _) (Nat.le_succ _) T1.out hgrow2); have S1b := hid hown2; clear hown2 hgrow2; clear c0 c1 c2 d0 d1 g0 g1; obtain ⟨c0, c1, c2⟩ := cells3 B0b.out; obtain ⟨⟨d0, d1⟩, g0, g1⟩ := cells2 B1b.out))
  refine ⟨trivial, ?_⟩
  refine (callsIn_wide.2 (upwards_any f _)).mono ?_
  rintro e w3 ⟨rfl, rfl⟩
  gi_wp2
  have X : Hid (Blk (w2.alloc (.cells #[.string f] 9)) w2.heap.size 9 #[.string f]) := hid (Blk.new _ _ _)
  have hs2 := T2.out.size
  refine wpIn_rangeFunc_ownG rfl (by omega) (gf := 76) (lb := #[.pointer (some ⟨w2.heap.size, 0, none⟩)]) rfl trivial (enters_of Tryd.func76 (by kernel_rfl) rfl)
    (ups_stops _ (by omega) f HR.out w2.heap.size _ X.out.lt (X.out.cell 0)) (fun _ _ => trivial) (fun _ _ _ _ _ _ _ _ => trivial) (Below.refl _ _) (fun _ => rfl)
    (AddAt w.heap.size b w ks f u) (fun _ _ _ => False)
    (AddAt.own (by simp; omega) (by simp; omega) (by simp; omega)) (fun _ _ _ _ _ hs _ _ => hs)
    ⟨(S0b.out.alloc _).congr (by intro y; unfold numsOf; simp), (S1b.out.alloc _).congr (by intro y; unfold feetOf; simp [L]), (S2b.out.alloc _).congr (by intro y; simp), B0b.out.alloc _, T2.out.alloc _⟩
    (fun x => { tmps := #[reachV b, keyV f u, .pointer (some ⟨w.heap.size, 0, none⟩), .pointer (some ⟨w.heap.size + 1, 0, none⟩), .string x.1, .pointer (some ⟨w.heap.size, 0, none⟩), .map (some b), .pointer (some ⟨w.heap.size + 1, 1, none⟩), .int .u64 u, .pointer (some ⟨w.heap.size, 1, none⟩), .map (some (b + 1)), .pointer (some ⟨w.heap.size + 1, 0, none⟩), .string f, .pointer (some ⟨w.heap.size + 1, 0, none⟩), .string f, .func (.func 76) #[] #[.pointer (some ⟨w2.heap.size, 0, none⟩)], .string x.1, undef, undef, undef], defers := [] }) ?assign ?body ?done ?stop
  case assign =>
    intro l x W K hK
    gi_wp2
    exact hK
  case body =>
    rintro l pre x W ⟨h0, h1, h2, hB, hT⟩ hlen
    obtain ⟨c0, c1, c2⟩ := cells3 hB
    have hx := x.2
    gi_wp2_with (gi_at_mapUpdate; refine wpListIn_put _ rfl _ _ _ 74 rfl 9 law_s Tryd.underlying74 (b + 2) _ _ rfl h2 (by omega) _ _ rfl rfl (key_s x.1 (by omega)) ?_; intro w4 hown4 hgrow4)
    refine ⟨KeepsFrom.of_grownBy hgrow4 (fun j e => by cases e; simp; omega), trivial, h0.kept hgrow4 (by simp), h1.kept hgrow4 (by simp), ?_, hB.grown hgrow4 (by simp; omega), hT.grown hgrow4 (fun r e => by cases e; exact .inl ⟨by omega, by omega⟩)⟩
    rw [List.length_append]
    refine hown4.congr (fun y => ?_)
    simp only [List.mem_append, List.mem_singleton, LS, L]
    constructor
    · rintro ((h | ⟨q, hq, h⟩) | h)
      · exact .inl h
      · exact .inr ⟨q, .inl hq, h⟩
      · exact .inr ⟨x, .inr rfl, h⟩
    · rintro (h | ⟨q, hq | rfl, h⟩)
      · exact .inl (.inl h)
      · exact .inl (.inr ⟨q, hq, h⟩)
      · exact .inr h
  case done =>
    rintro D ys W hD hys ⟨h0, h1, h2, hB, hT⟩ hK
    gi_wp2
    refine ⟨by simp, .inl ⟨_, _, rfl, run_takeDeferred hK, ?_⟩⟩
    have hg := grownBy_putObj' W D (.deferred none)
    have hyl : ys.length ≤ 8 := by
      have h3 := ups_length HR.out
      rw [← hys, List.length_map] at h3
      exact h3
    have hD2 : w2.heap.size < D := by simp at hD; omega
    refine ⟨_, results_none rfl _ _ _, ⟨_, rfl⟩, ⟨?_, ?_, ?_⟩, hT.grown hg (fun r e => by cases e; exact .inr (by omega))⟩
    · exact (h0.kept hg (by simp; omega)).mono (by simp)
    · exact (h1.kept hg (by simp; omega)).mono (by simp)
    · refine ((h2.kept hg (by simp; omega)).mono (by simp; omega)).congr (fun y => ?_)
      unfold topsOf
      simp only [List.mem_append, List.mem_singleton]
      constructor
      · rintro (⟨k, hk, h⟩ | ⟨q, hq, h⟩)
        · exact ⟨k, .inl hk, h⟩
        · exact ⟨(f, u), .inr rfl, LS q, by rw [← hys]; exact List.mem_map_of_mem hq, h⟩
      · rintro ⟨k, hk | rfl, q, hq, h⟩
        · exact .inl ⟨k, hk, q, hq, h⟩
        · rw [← hys] at hq
          obtain ⟨z, hz, rfl⟩ := List.mem_map.1 hq
          exact .inr ⟨z, hz, h⟩
  case stop =>
    rintro D c pre W _ _ h _
    exact h.elim

end Go.Proofs.YtfdphcgfdodnoaaDoor
