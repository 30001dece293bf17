/-
  The contract of package clash's Closed.
-/
import Derived.Test.YtfdphcgfdodnoaaDoorQBack
import Derived.Test.YtfdphcgfdodnoaaDoorQHit
import Derived.Test.YtfdphcgfdodnoaaDoorQRef
import Derived.Laws.EntriesVeiled
import Derived.RangeFuncNested
namespace Go.Proofs.YtfdphcgfdodnoaaDoor
open Go.ChangeShapes Go.WideShapes Go.ChangeAt Go.RowKit Go.Shelf Go.Maps
attribute [local go_sem] Oper.semAt_some
set_option linter.unusedVariables false
set_option linter.unusedSimpArgs false

/-- A slice that reads as a list of truths, below a block. -/
def SeesB (n0 : Nat) (w : World) (B : Option Addr) (bs : List Bool) : Prop := ∀ (j : Nat) (h : j < bs.length), ∃ b o, B = some ⟨b, o, none⟩ ∧ b < n0 ∧ w.cell? ⟨b, o + j, none⟩ = some (.bool bs[j])
theorem SeesB.below {n0 : Nat} {w w' : World} {B : Option Addr} {bs : List Bool} (h : SeesB n0 w B bs) (hb : Below n0 w w') : SeesB n0 w' B bs := fun j hj => by
  obtain ⟨b, o, hA, hlt, h0⟩ := h j hj
  exact ⟨b, o, hA, hlt, (hb.cell (by exact hlt)).trans h0⟩
/-- Is a place one of them? -/
def isIn (bs : List Bool) (j : Nat) : Bool := bs.getD j false

set_option maxHeartbeats 1000000 in
theorem isin_any (j : Nat) (g : Nat) (B : Option Addr) (bs : List Bool) (cb n0 : Nat) (w : World) (hc : w.cell? ⟨g, 0, none⟩ = some (.slice B bs.length cb)) (hS : SeesB n0 w B bs) :
    Calls Tryd.prog 41 #[.int .i64 (j : Int), .pointer (some ⟨g, 0, none⟩)] w fun e w' => e = .returned (.bool (isIn bs j)) ∧ w = w' := by
  rcases Decidable.em (j < bs.length) with h | h
  · have h1 : (j : Int) < (bs.length : Int) := by omega
    have h2 : (0 : Int) ≤ (j : Int) := by omega
    obtain ⟨b, o, rfl, hb, hx⟩ := hS j h
    have E : Hid (isIn bs j = bs[j]) := hid (by unfold isIn; rw [List.getD_eq_getElem?_getD, List.getElem?_eq_getElem h]; rfl)
    clear hS
    go_enter Tryd.func41, Tryd.ntmps41
    go_wp2
    go_ret
    exact ⟨ret_bool E.out.symm, rfl⟩
  · have h1 : ¬ (j : Int) < (bs.length : Int) := by omega
    have E : Hid (isIn bs j = false) := hid (by unfold isIn; rw [List.getD_eq_getElem?_getD, List.getElem?_eq_none (by omega)]; rfl)
    clear hS
    go_enter Tryd.func41, Tryd.ntmps41
    go_wp2
    go_ret
    exact ⟨ret_bool E.out.symm, rfl⟩

/-- The keys of the places gone through that are among them. -/
def keysOf (l : List K) (bs : List Bool) (pre : List (Fin l.length)) : List (ByteArray × Int) :=
  pre.filterMap fun i => if isIn bs i.1 && keyed l[i.1] then some (keyF l[i.1], keyN l[i.1]) else none
theorem keysOf_mem {l : List K} {bs : List Bool} {pre : List (Fin l.length)} {k : ByteArray × Int} : k ∈ keysOf l bs pre ↔ ∃ i ∈ pre, isIn bs i.1 = true ∧ keyed l[i.1] = true ∧ k = (keyF l[i.1], keyN l[i.1]) := by
  unfold keysOf
  rw [List.mem_filterMap]
  constructor
  · rintro ⟨i, hi, h⟩
    split at h
    · rename_i hc
      rw [Bool.and_eq_true] at hc
      exact ⟨i, hi, hc.1, hc.2, (Option.some.inj h).symm⟩
    · cases h
  · rintro ⟨i, hi, h1, h2, rfl⟩
    exact ⟨i, hi, by rw [h1, h2]; rfl⟩
theorem keysOf_snoc (l : List K) (bs : List Bool) (pre : List (Fin l.length)) (x : Fin l.length) :
    keysOf l bs (pre ++ [x]) = keysOf l bs pre ++ (if isIn bs x.1 && keyed l[x.1] then [(keyF l[x.1], keyN l[x.1])] else []) := by
  unfold keysOf
  rw [List.filterMap_append]
  congr 1
  cases h : (isIn bs x.1 && keyed l[x.1]) <;> simp only [List.filterMap_cons, List.filterMap_nil, h] <;> rfl
theorem keysOf_len (l : List K) (bs : List Bool) (pre : List (Fin l.length)) : (keysOf l bs pre).length ≤ pre.length := List.length_filterMap_le _ _
/-- A place that is none of them, and whose command interferes with one that is, and was gone through. -/
def badAt (l : List K) (bs : List Bool) (pre : List (Fin l.length)) (x : Fin l.length) : Prop := keyed l[x.1] = true ∧ isIn bs x.1 = false ∧ hitK (keysOf l bs pre) (keyF l[x.1]) (keyN l[x.1])
def fine (l : List K) (bs : List Bool) (pre : List (Fin l.length)) : Prop := ∀ p x s, pre = p ++ x :: s → ¬ badAt l bs p x
theorem fine_snoc {l : List K} {bs : List Bool} {pre : List (Fin l.length)} {x : Fin l.length} (h : fine l bs pre) (hx : ¬ badAt l bs pre x) : fine l bs (pre ++ [x]) := by
  intro p y s he
  rcases List.eq_nil_or_concat s with rfl | ⟨s', z, rfl⟩
  · obtain ⟨rfl, h2⟩ := List.append_inj' he rfl
    simp at h2
    subst h2
    exact hx
  · have he' : pre ++ [x] = (p ++ y :: s') ++ [z] := by rw [he]; simp
    obtain ⟨h1, _⟩ := List.append_inj' he' rfl
    exact h p y s' h1

/-- The document's words: each command ahead of one of them that interferes with it is one of them, too. -/
def closedP (l : List K) (bs : List Bool) : Prop := ∀ (i j : Fin l.length), j.1 < i.1 → isIn bs i.1 = true → isIn bs j.1 = false → clashK l[j.1] l[i.1] = false

theorem hit_clash {l : List K} {bs : List Bool} {pre : List (Fin l.length)} {x : Fin l.length} (hx : keyed l[x.1] = true) : hitK (keysOf l bs pre) (keyF l[x.1]) (keyN l[x.1]) ↔ ∃ i ∈ pre, isIn bs i.1 = true ∧ clashK l[x.1] l[i.1] = true := by
  unfold hitK
  constructor
  · rintro ⟨k, hk, h⟩
    obtain ⟨i, hi, h1, h2, rfl⟩ := keysOf_mem.1 hk
    refine ⟨i, hi, h1, ?_⟩
    unfold clashK clashF
    rw [hx, h2]
    simpa using h
  · rintro ⟨i, hi, h1, h2⟩
    unfold clashK clashF at h2
    simp only [Bool.and_eq_true, Bool.or_eq_true, beq_iff_eq] at h2
    exact ⟨_, keysOf_mem.2 ⟨i, hi, h1, h2.1.2, rfl⟩, h2.2⟩

/-- Where a place stands in Backward's order: behind all greater ones. -/
theorem backs_split {n : Nat} {p s : List Nat} {x : Nat} (h : p ++ x :: s = backs n) : ∀ i, i ∈ p ↔ x < i ∧ i < n := by
  have hs : (p ++ x :: s).Pairwise (· > ·) := by
    rw [h]
    unfold backs
    rw [List.pairwise_reverse]
    exact List.pairwise_lt_range
  have hm : ∀ i, i ∈ p ++ x :: s ↔ i < n := by intro i; rw [h]; unfold backs; simp
  rw [List.pairwise_append] at hs
  obtain ⟨_, h2, h3⟩ := hs
  rw [List.pairwise_cons] at h2
  intro i
  constructor
  · intro hi
    exact ⟨h3 i hi x (by simp), (hm i).1 (by simp [hi])⟩
  · rintro ⟨h4, h5⟩
    have := (hm i).2 h5
    rcases List.mem_append.1 this with h6 | h6
    · exact h6
    · rcases List.mem_cons.1 h6 with h6 | h6
      · omega
      · have := h2.1 i h6
        omega
theorem closed_all {l : List K} {bs : List Bool} {ys : List (Fin l.length)} (hy : ys.map (·.1) = backs l.length) (hf : fine l bs ys) : closedP l bs := by
  intro i j hji hi hj
  cases hc : clashK l[j.1] l[i.1]
  · rfl
  exfalso
  have hk : keyed l[j.1] = true := by unfold clashK at hc; simp only [Bool.and_eq_true] at hc; exact hc.1.1
  have hjm : j ∈ ys := by
    have : j.1 ∈ ys.map (·.1) := by rw [hy]; unfold backs; simp
    obtain ⟨z, hz, he⟩ := List.mem_map.1 this
    rwa [← Fin.ext he]
  obtain ⟨p, s, rfl⟩ := List.append_of_mem hjm
  rw [List.map_append, List.map_cons] at hy
  have him := (backs_split hy i.1).2 ⟨hji, i.2⟩
  obtain ⟨z, hz, he⟩ := List.mem_map.1 him
  obtain rfl := Fin.ext he
  exact hf p j s rfl ⟨hk, hj, (hit_clash hk).2 ⟨_, hz, hi, hc⟩⟩
theorem closed_not {l : List K} {bs : List Bool} {pre : List (Fin l.length)} {x : Fin l.length} (hp : (pre ++ [x]).map (·.1) <+: backs l.length) (hb : badAt l bs pre x) : ¬ closedP l bs := by
  intro hc
  obtain ⟨hk, hj, hh⟩ := hb
  obtain ⟨i, hi, h1, h2⟩ := (hit_clash hk).1 hh
  obtain ⟨s, hs⟩ := hp
  rw [List.map_append, List.append_assoc] at hs
  have := (backs_split hs i.1).1 (List.mem_map_of_mem hi)
  rw [hc i x this.1 h1 hj] at h2
  cases h2

theorem keyed_right {c : K} (h : keyed c = true) : right (L (keyF c)) = true := by
  unfold keyed keyF at *
  unfold footK at *
  split at h
  · rename_i hc
    rw [if_pos hc]
    rw [Bool.and_eq_true] at hc
    obtain ⟨hr, h0⟩ := hc
    unfold rightK at hr
    simp only [Bool.and_eq_true] at hr
    have hi := hr.2
    unfold areIn at hi
    simp only [Bool.and_eq_true] at hi
    have i0 := hi.1.1.1.1.1
    have i2 := hi.1.1.1.2
    unfold in0 at i0
    unfold in2 at i2
    dsimp only
    split
    · rename_i h2
      rw [h2] at i2
      simpa using i2
    · rw [h0] at i0
      simpa using i0
  · cases h
theorem keyN_in {c : K} (h : okK c) : 0 ≤ keyN c ∧ keyN c < 18446744073709551616 := by
  unfold keyN
  obtain ⟨h1, _⟩ := h
  split
  · exact h1
  · exact ⟨by decide, by decide⟩

/-- Where Closed's loop stands. -/
def ClosedAt (h : Nat) (w : World) (v : Value) (l : List K) (bs : List Bool) (pre : List (Fin l.length)) (W : World) : Prop :=
  fine l bs pre ∧ Blk W h 51 #[v] ∧ Blk W (h + 1) 4 #[.bool false] ∧ Blk W (h + 2) 72 #[.func (.func 41) #[] #[.pointer (some ⟨h, 0, none⟩)]] ∧
  ReachAt W (h + 4) (keysOf l bs pre) ∧ Blk W (h + 7) 76 (reachC (h + 4)) ∧ Below h w W ∧ h + 9 ≤ W.heap.size
def ClosedEnd (h : Nat) (w : World) (l : List K) (bs : List Bool) (c : Code) (pre : List (Fin l.length)) (W : World) : Prop :=
  c = .ret ∧ (∃ p x, pre = p ++ [x] ∧ badAt l bs p x) ∧ Blk W (h + 1) 4 #[.bool false] ∧ Below h w W
theorem ClosedAt.own {h : Nat} {w : World} {v : Value} {l : List K} {bs : List Bool} {B : Nat} (hw : h ≤ w.heap.size) (hB : h + 7 < B) : OwnFrom B (ClosedAt h w v l bs) := fun s W W' row hs hg hr => by
  obtain ⟨h1, h2, h3, h4, ⟨r1, r2, r3⟩, h6, h7, h8⟩ := hs
  have hh : h ≤ B := by omega
  refine ⟨h1, h2.grown hg ?_, h3.grown hg ?_, h4.grown hg ?_, ⟨r1.kept hg ?_, r2.kept hg ?_, r3.kept hg ?_⟩, h6.grown hg ?_, below_own h7 hw hh hg hr, Nat.le_trans h8 hg.size⟩
  all_goals
    intro e
    have := (hr _ e.symm).1
    omega
theorem ClosedEnd.own {h : Nat} {w : World} {l : List K} {bs : List Bool} {c : Code} {B : Nat} (hw : h ≤ w.heap.size) (hB : h + 7 < B) : OwnFrom B (ClosedEnd h w l bs c) := fun s W W' row hs hg hr => by
  obtain ⟨h1, h2, h3, h4⟩ := hs
  have hh : h ≤ B := by omega
  refine ⟨h1, h2, h3.grown hg ?_, below_own h4 hw hh hg hr⟩
  intro e
  have := (hr _ e.symm).1
  omega
theorem KeepB.of_below {g n0 : Nat} {W W' : World} (hb : Below W.heap.size W W') (hn : n0 ≤ W.heap.size) (hg : g < W.heap.size) : KeepB g n0 W W' := ⟨hb.mono hn, hb.block g hg⟩
theorem KeepB.of_turn {b g n0 : Nat} {W W' : World} (ht : Turn b W W') (hn : n0 ≤ b) (hn2 : n0 ≤ W.heap.size) (hg : g < W.heap.size) (hgb : b + 2 < g) : KeepB g n0 W W' := ⟨ht.below (Below.refl _ _) hn hn2, ht.block g hg (.inr hgb)⟩
theorem keepsFrom_turn {b B : Nat} {W W' : World} (ht : Turn b W W') (hB : b + 2 < B) : KeepsFrom B W W' :=
  ⟨ht.size, fun k o hk h0 ho => (ht.block k (Array.getElem?_eq_some_iff.1 h0).1 (.inr (by omega))).trans h0⟩
theorem ClosedAt.on2 {h : Nat} {w : World} {v : Value} {l : List K} {bs : List Bool} {pre pre' : List (Fin l.length)} {W W' : World} (hI : ClosedAt h w v l bs pre W) (hh : h ≤ w.heap.size) (hb : Below W.heap.size W W') (hk : keysOf l bs pre' = keysOf l bs pre) (hf : fine l bs pre') : ClosedAt h w v l bs pre' W' := by
  obtain ⟨h1, h2, h3, h4, h5, h6, h7, h8⟩ := hI
  exact ⟨hf, h2.below hb h2.lt, h3.below hb h3.lt, h4.below hb h4.lt, by rw [hk]; exact h5.on hb, h6.below hb h6.lt, h7.trans (hb.mono (Nat.le_trans hh h7.size)), Nat.le_trans h8 hb.size⟩
theorem ClosedAt.turn {h : Nat} {w : World} {v : Value} {l : List K} {bs : List Bool} {pre pre' : List (Fin l.length)} {W W' : World} (hI : ClosedAt h w v l bs pre W) (hh : h ≤ w.heap.size) (ht : Turn (h + 4) W W') (hR : ReachAt W' (h + 4) (keysOf l bs pre')) (hf : fine l bs pre') : ClosedAt h w v l bs pre' W' := by
  obtain ⟨h1, h2, h3, h4, h5, h6, h7, h8⟩ := hI
  exact ⟨hf, ht.blk h2 (by omega), ht.blk h3 (by omega), ht.blk h4 (by omega), hR, ht.blk h6 (by omega), ht.below h7 (by omega) (Nat.le_trans hh h7.size), Nat.le_trans h8 ht.size⟩
theorem fine_nil (l : List K) (bs : List Bool) : fine l bs [] := fun p x s h => by simp at h

/-- What Closed answers. -/
def ClosedS (l : List K) (bs : List Bool) (w : World) (e : Ending) (w' : World) : Prop := ∃ r : Bool, e = .returned (.bool r) ∧ (r = true ↔ closedP l bs) ∧ Below w.heap.size w w'

set_option maxRecDepth 100000 in
set_option maxHeartbeats 4000000 in
theorem closed_any (A B : Option Addr) (l : List K) (bs : List Bool) (c cb : Nat) (w : World) (hA : SeesK w.heap.size w A l) (hB : SeesB w.heap.size w B bs) (hP : PartsIs w) (hl : l.length ≤ 30) (hok : ∀ x ∈ l, okK x) (hz : ∀ x ∈ l, x.foot.size ≤ 900 ∧ x.path.size ≤ 900) :
    Calls Tryd.prog 28 #[.slice A l.length c, .slice B bs.length cb] w (ClosedS l bs w) := by
  have HA := hid hA
  have HBS := hid hB
  have HP := hid hP
  have HO := hid hok
  have HZ := hid hz
  clear hA hB hP hok hz
  obtain ⟨W0, hW0⟩ : ∃ W0, ((w.alloc (.cells #[.slice B bs.length cb] 51)).alloc (.cells #[.bool false] 4)).alloc (.cells #[.func (.func 41) #[] #[.pointer (some ⟨w.heap.size, 0, none⟩)]] 72) = W0 := ⟨_, rfl⟩
  have s0 : W0.heap.size = w.heap.size + 3 := by rw [← hW0]; simp
  have b0 : Hid (Blk W0 w.heap.size 51 #[.slice B bs.length cb]) := hid (by rw [← hW0]; exact ((Blk.new w 51 #[.slice B bs.length cb]).alloc _).alloc _)
  have b1 : Hid (Blk W0 (w.heap.size + 1) 4 #[.bool false]) := hid (by rw [← hW0]; have h := (Blk.new (w.alloc (.cells #[.slice B bs.length cb] 51)) 4 #[.bool false]).alloc (.cells #[.func (.func 41) #[] #[.pointer (some ⟨w.heap.size, 0, none⟩)]] 72); simpa using h)
  have b2 : Hid (Blk W0 (w.heap.size + 2) 72 #[.func (.func 41) #[] #[.pointer (some ⟨w.heap.size, 0, none⟩)]]) := hid (by rw [← hW0]; have h := Blk.new ((w.alloc (.cells #[.slice B bs.length cb] 51)).alloc (.cells #[.bool false] 4)) 72 #[.func (.func 41) #[] #[.pointer (some ⟨w.heap.size, 0, none⟩)]]; simpa using h)
  have hb0 : Hid (Below w.heap.size w W0) := hid (by rw [← hW0]; exact ((((Below.refl _ w).alloc (Nat.le_refl _) _).alloc (by simp) _).alloc (by simp <;> omega) _))
  refine (callsIn_wide (n := 9)).1 ?_
  refine callsIn_of_wp_marks Tryd.func28 rfl trivial ?_ rfl
  simp only [Tryd.ntmps28, List.size_toArray, List.length_cons, List.length_nil, Nat.reduceAdd, Nat.reduceSub, Array.replicate_succ, Array.replicate_zero, List.push_toArray, List.append_toArray, List.nil_append, List.cons_append]
  gi_wp2_with fail
  clear hW0
  refine ⟨trivial, ?_⟩
  refine (callsIn_wide.2 (newreach_any _)).mono ?_
  rintro e w1 ⟨rfl, hb, hsz, hR⟩
  rw [s0] at hR hsz ⊢
  have hsz1 : w1.heap.size = w.heap.size + 7 := by omega
  have d0 := hid (b0.out.below hb b0.out.lt)
  have d1 := hid (b1.out.below hb b1.out.lt)
  have d2 := hid (b2.out.below hb b2.out.lt)
  have hb1 := hid (hb0.out.trans (hb.mono hb0.out.size))
  obtain ⟨W2, hW2⟩ : ∃ W2, w1.alloc (.cells (reachC (w.heap.size + 3 + 1)) 76) = W2 := ⟨_, rfl⟩
  have hR2 := hid (hR.alloc (.cells (reachC (w.heap.size + 3 + 1)) 76))
  have e7 := Blk.new w1 76 (reachC (w.heap.size + 3 + 1))
  rw [hW2, hsz1] at e7
  rw [hW2] at hR2
  have E7 : Hid (Blk W2 (w.heap.size + 7) 76 (reachC (w.heap.size + 4))) := hid e7
  have E0 : Hid (Blk W2 w.heap.size 51 #[.slice B bs.length cb]) := hid (by rw [← hW2]; exact d0.out.alloc _)
  have E1 : Hid (Blk W2 (w.heap.size + 1) 4 #[.bool false]) := hid (by rw [← hW2]; exact d1.out.alloc _)
  have E2 : Hid (Blk W2 (w.heap.size + 2) 72 #[.func (.func 41) #[] #[.pointer (some ⟨w.heap.size, 0, none⟩)]]) := hid (by rw [← hW2]; exact d2.out.alloc _)
  have HB2 : Hid (Below w.heap.size w W2) := hid (by rw [← hW2]; exact hb1.out.alloc (by have := hb1.out.size; omega) _)
  have hsz2 : W2.heap.size = w.heap.size + 8 := by rw [← hW2]; simp; omega
  clear hb hR b0 b1 b2 hb0 hsz d0 d1 d2 hb1 e7 s0
  gi_wp2_with fail
  refine ⟨trivial, ?_⟩
  refine (callsIn_wide.2 (backward_any A l.length c _)).mono ?_
  rintro e w3 ⟨rfl, rfl⟩
  gi_wp2
  obtain ⟨W3, hW3⟩ : ∃ W3, W2.alloc (.cells #[.slice A l.length c] 50) = W3 := ⟨_, rfl⟩
  have F8 : Hid (Blk W3 (w.heap.size + 8) 50 #[.slice A l.length c]) := hid (by rw [← hW3, ← hsz2]; exact Blk.new _ _ _)
  have I3 : Hid (ClosedAt w.heap.size w (.slice B bs.length cb) l bs [] W3) := hid (by
    rw [← hW3]
    exact ⟨fine_nil l bs, E0.out.alloc _, E1.out.alloc _, E2.out.alloc _, hR2.out.alloc _, E7.out.alloc _, HB2.out.alloc HB2.out.size _, by simp; omega⟩)
  have hsz3 : Hid (W3.heap.size = w.heap.size + 9) := hid (by rw [← hW3]; simp; omega)
  rw [hW3]
  clear hW3 hW2 hR2 E7 E0 E1 E2 HB2 hsz2 hsz1
  have hn0 : w.heap.size ≤ W3.heap.size := by rw [hsz3.out]; omega
  have hg8 : w.heap.size + 8 < W3.heap.size := by rw [hsz3.out]; omega
  refine wpIn_rangeFunc_ownH rfl (by omega) (gf := 60) (lb := #[.pointer (some ⟨w.heap.size + 8, 0, none⟩)]) rfl trivial (enters_of Tryd.func60 (by kernel_rfl) rfl)
    (back_stops _ (by omega) A l c w.heap.size (w.heap.size + 8) W3 hn0 hg8 (F8.out.cell 0) (HA.out.below I3.out.2.2.2.2.2.2.1) (by omega)) (fun h k => KeepB.trans h k) (KeepB.put hn0 hg8) (Below.refl _ _) (fun _ => rfl)
    (ClosedAt w.heap.size w (.slice B bs.length cb) l bs) (ClosedEnd w.heap.size w l bs)
    (ClosedAt.own (Nat.le_refl _) (by rw [hsz3.out]; omega)) (fun c => ClosedEnd.own (Nat.le_refl _) (by rw [hsz3.out]; omega)) I3.out
    (fun x a' W => ∃ q, a' = { tmps := #[.slice A l.length c, .slice B bs.length cb, undef, .pointer (some ⟨w.heap.size, 0, none⟩), .pointer (some ⟨w.heap.size + 1, 0, none⟩), .pointer (some ⟨w.heap.size + 1 + 1, 0, none⟩), .pointer (some ⟨w.heap.size + 7, 0, none⟩), .int .i64 ((x.1 : Nat) : Int), .pointer (some ⟨q, 0, none⟩), undef, undef, .func (.func 41) #[] #[.pointer (some ⟨w.heap.size, 0, none⟩)], reachV (w.heap.size + 3 + 1), .slice A l.length c, .func (.func 60) #[] #[.pointer (some ⟨w.heap.size + 8, 0, none⟩)], .int .i64 ((x.1 : Nat) : Int), val l[x.1], undef, undef, undef, undef, undef, undef, undef, undef, undef, undef, undef, undef, undef, undef, undef, undef, undef, undef, undef], defers := [] } ∧ Blk W q 26 (cellsOf l[x.1]) ∧ W3.heap.size ≤ q)
    (fun x a' _ X Y row hs hg hr => by
      obtain ⟨q, h1, h2, h3⟩ := hs
      exact ⟨q, h1, h2.own hg (B := W3.heap.size) hr, h3⟩) ?assign ?body ?done ?stop
  case assign =>
    intro lp pre x W K hI hK
    have hW : W3.heap.size ≤ W.heap.size := by have := hI.2.2.2.2.2.2.2; rw [hsz3.out]; exact this
    have HI := hid hI
    have HK := hid hK
    clear hI hK
    gi_wp2
    refine HK.out _ _ ((KeepsOthers.alloc W _).from _) (KeepB.of_below ((Below.refl _ _).alloc (Nat.le_refl _) _) (by omega) (by omega)) (HI.out.on2 (Nat.le_refl _) ((Below.refl _ _).alloc (Nat.le_refl _) _) rfl HI.out.1) ⟨W.heap.size, rfl, Blk.new _ _ _, hW⟩
  case body =>
    rintro lp pre x a' W hlp ⟨rr, hrr⟩ hI ⟨q, rfl, hq, hqB⟩ hlen
    clear hrr
    have HI := hid hI
    have hsW := hI.2.2.2.2.2.2.2
    have HPW := hid (HP.out.below hI.2.2.2.2.2.2.1)
    have hxo := HO.out l[x.1] (List.getElem_mem x.2)
    have hxz := HZ.out l[x.1] (List.getElem_mem x.2)
    obtain ⟨F, hF⟩ : ∃ y, keyF l[x.1] = y := ⟨_, rfl⟩
    obtain ⟨U, hU⟩ : ∃ y, keyN l[x.1] = y := ⟨_, rfl⟩
    obtain ⟨kb, hkb⟩ : ∃ y, keyed l[x.1] = y := ⟨_, rfl⟩
    have HF := hid hF
    have HU := hid hU
    have HKB := hid hkb
    have HXO := hid hxo
    have z1 : l[x.1].foot.size ≤ 281474976710656 := by omega
    have z2 : l[x.1].path.size ≤ 281474976710656 := by omega
    have HZ1 := hid z1
    have HZ2 := hid z2
    clear hI hF hU hkb hxo hxz z1 z2
    obtain ⟨⟨c0, c1, c2, c3, c4, c5, c6, c7⟩, f0, f1, f2, f3, f4, f5, f6, f7⟩ := cells8 hq
    dsimp only
    gi_wp2_with fail
    refine ⟨trivial, ?_⟩
    refine (CallsIn.inRound lp (callsIn_wide.2 (keyof_any l[x.1] _ HPW.out HZ1.out HZ2.out))).mono ?_
    rw [HF.out, HU.out, HKB.out]
    rintro e w4 ⟨rfl, hb⟩
    have hs4 := hb.size
    obtain ⟨W5, hW5⟩ : ∃ W5, w4.alloc (.cells (keyC F U) 41) = W5 := ⟨_, rfl⟩
    have G5 : Hid (Below W.heap.size W W5) := hid (by rw [← hW5]; exact hb.alloc hb.size _)
    have K9 : Hid (Blk W5 w4.heap.size 41 (keyC F U)) := hid (by rw [← hW5]; exact Blk.new _ _ _)
    have hs5 := G5.out.size
    have I5 := hid (HI.out.on2 (Nat.le_refl _) G5.out rfl HI.out.1)
    clear hb c0 c1 c2 c3 c4 c5 c6 c7 f0 f1 f2 f3 f4 f5 f6 f7
    have hgB : w.heap.size + 8 < W.heap.size := by omega
    have hgB2 : w.heap.size ≤ W.heap.size := by omega
    have KB5 : Hid (KeepB (w.heap.size + 8) w.heap.size W W5) := hid (KeepB.of_below G5.out hgB2 hgB)
    have KF5 : Hid (KeepsFrom W3.heap.size W W5) := hid ((keeps_below G5.out).from _)
    have g9 : W5.cell? ⟨w4.heap.size, 0, none⟩ = some (.string F) ∧ W5.cell? ⟨w4.heap.size, 1, none⟩ = some (.int .u64 U) := (cells2 K9.out).1
    have g2 : W5.cell? ⟨w.heap.size + 1 + 1, 0, none⟩ = some (.func (.func 41) #[] #[.pointer (some ⟨w.heap.size, 0, none⟩)]) := I5.out.2.2.2.1.cell 0
    have g7 := cells3 I5.out.2.2.2.2.2.1
    obtain ⟨g90, g91⟩ := g9
    obtain ⟨g70, g71, g72⟩ := g7
    cases kb
    · have hns : Hid (keysOf l bs (pre ++ [x]) = keysOf l bs pre) := hid (by rw [keysOf_snoc, HKB.out]; simp)
      gi_wp2
      exact ⟨KF5.out, KB5.out, HI.out.on2 (Nat.le_refl _) G5.out hns.out (fine_snoc HI.out.1 (fun h => by have := h.1; rw [HKB.out] at this; cases this))⟩
    gi_wp2_with fail
    refine ⟨trivial, ?_⟩
    refine (CallsIn.inRound lp (callsIn_wide.2 (isin_any x.1 w.heap.size B bs cb w.heap.size _ (I5.out.2.1.cell 0) (HBS.out.below I5.out.2.2.2.2.2.2.1)))).mono ?_
    rintro e w6 ⟨rfl, rfl⟩
    have HRI : Hid (right (L F) = true) := hid (by rw [← HF.out]; exact keyed_right HKB.out)
    have HUI : Hid (0 ≤ U ∧ U < 18446744073709551616) := hid (by rw [← HU.out]; exact keyN_in HXO.out)
    have HKL : Hid ((keysOf l bs pre).length ≤ 1000) := hid (by have := keysOf_len l bs pre; omega)
    obtain ⟨y, hy⟩ : ∃ y, isIn bs x.1 = y := ⟨_, rfl⟩
    have HIN := hid hy
    rw [hy]
    clear hy
    cases y
    · gi_wp2_with fail
      refine ⟨trivial, ?_⟩
      refine (CallsIn.inRound lp (callsIn_wide.2 (hit_any (w.heap.size + 4) F U (keysOf l bs pre) _ I5.out.2.2.2.2.1 HRI.out ?hrs HUI.out))).mono ?_
      case hrs =>
        intro k hk
        obtain ⟨i, _, _, h2, rfl⟩ := keysOf_mem.1 hk
        exact keyed_right h2
      rintro e w7 ⟨r, rfl, hr, hb7⟩
      have HR7 := hid hr
      have G7 : Hid (Below W.heap.size W w7) := hid (G5.out.trans (hb7.mono hs5))
      have I7 := hid (I5.out.on2 (Nat.le_refl _) hb7 rfl I5.out.1)
      have hs7 := G7.out.size
      have KB7 : Hid (KeepB (w.heap.size + 8) w.heap.size W w7) := hid (KeepB.of_below G7.out hgB2 hgB)
      have KF7 : Hid (KeepsFrom W3.heap.size W w7) := hid ((keeps_below G7.out).from _)
      clear hr hb7 g90 g91 g2 g70 g71 g72
      cases r
      · have hns : Hid (keysOf l bs (pre ++ [x]) = keysOf l bs pre) := hid (by rw [keysOf_snoc, HIN.out]; simp)
        gi_wp2
        refine ⟨KF7.out, KB7.out, HI.out.on2 (Nat.le_refl _) G7.out hns.out (fine_snoc HI.out.1 (fun h => ?_))⟩
        have := h.2.2
        rw [HF.out, HU.out] at this
        exact absurd (HR7.out.2 this) (by simp)
      · have e1 := I7.out.2.2.1.cell 0
        have f1 := I7.out.2.2.1.frozen 0
        gi_wp2
        refine ⟨KF7.out.trans ((KeepsOthers.setCell _ _ _).from _), rfl, ⟨pre, x, rfl, HKB.out, HIN.out, ?_⟩, I7.out.2.2.1.set_ 0 _, I7.out.2.2.2.2.2.2.1.setCell (p := ⟨w.heap.size + 1, 0, none⟩) (by simp) _⟩
        rw [HF.out, HU.out]
        exact HR7.out.1 (by simp)
    · gi_wp2_with fail
      refine ⟨trivial, ?_⟩
      refine (CallsIn.inRound lp (callsIn_wide.2 (add_any (w.heap.size + 4) F U (keysOf l bs pre) _ I5.out.2.2.2.2.1 HRI.out HUI.out HKL.out))).mono ?_
      rintro e w7 ⟨⟨v, rfl⟩, hR7, ht⟩
      have hns : Hid (keysOf l bs (pre ++ [x]) = keysOf l bs pre ++ [(F, U)]) := hid (by rw [keysOf_snoc, HIN.out, HKB.out, HF.out, HU.out]; rfl)
      have T7 := hid ht
      have R7 := hid hR7
      clear ht hR7 g90 g91 g2 g70 g71 g72
      gi_wp2
      refine ⟨KF5.out.trans (keepsFrom_turn T7.out (by rw [hsz3.out]; omega)), KB5.out.trans (KeepB.of_turn T7.out (by omega) (by omega) (by omega) (by omega)), I5.out.turn (Nat.le_refl _) T7.out (by rw [hns.out]; exact R7.out) (fine_snoc HI.out.1 (fun h => ?_))⟩
      have := h.2.1
      rw [HIN.out] at this
      cases this
  case done =>
    rintro D ys W hD hys ⟨hf, e0, e1, e2, hR, e7, hb, hs9⟩ hK
    have hyes : Hid (closedP l bs) := hid (closed_all hys hf)
    have d2 := e1.cell 0
    have g2 := e1.frozen 0
    clear hys
    gi_wp2
    have hK' := (KeepsOthers.setCell W ⟨w.heap.size + 1, 0, none⟩ (.bool true)).same D _ hK rfl
    refine ⟨by simp, .inl ⟨_, _, rfl, run_takeDeferred hK', ?_⟩⟩
    have hb5 := (e1.set_ 0 (.bool true)).own (grownBy_putObj' _ D (.deferred none)) (B := D) (fun r e => by cases e; exact ⟨Nat.le_refl _, _, hK', rfl⟩)
    have hc5 := hb5.cell 0
    refine ⟨.bool true, ?_, true, rfl, ⟨(fun _ => hyes.out), (fun _ => rfl)⟩, (hb.setCell (p := ⟨w.heap.size + 1, 0, none⟩) (by simp) _).trans (belowK_b (w := w) (Nat.le_refl _) _ D _ _ (by omega) hK' rfl rfl)⟩
    simp [results, Tryd.f28, go_sem, hc5]
  case stop =>
    rintro D cc pre W hD hpre ⟨rfl, ⟨p, x, rfl, hbad⟩, e1, hb⟩ hK
    have hno : Hid (¬ closedP l bs) := hid (closed_not hpre.2 hbad)
    clear hpre hbad
    gi_wp2
    refine ⟨by simp, .inl ⟨_, _, rfl, run_takeDeferred hK, ?_⟩⟩
    have hb5 := e1.own (grownBy_putObj' _ D (.deferred none)) (B := D) (fun r e => by cases e; exact ⟨Nat.le_refl _, _, hK, rfl⟩)
    have hc5 := hb5.cell 0
    refine ⟨.bool false, ?_, false, rfl, ⟨(fun h => by cases h), (fun h => absurd h hno.out)⟩, hb.trans (belowK_b (w := w) (Nat.le_refl _) W D _ _ (by omega) hK rfl rfl)⟩
    simp [results, Tryd.f28, go_sem, hc5]

end Go.Proofs.YtfdphcgfdodnoaaDoor
