/-
  A net in memory (package net): its block, its row of frames, each frame's row of bytes; the contracts of what only reads, of New, of crew's Has.
-/
import Derived.Test.YtljnboimadhkoaaLsStill
import Derived.Test.YtljnboimadhkoaaClone
import Derived.Test.YtljnboimadhkoaaCMath
import Derived.BigQuiet
import Derived.IntWalk
namespace Go.Proofs.Ytljnboimadhkoaa
open Go.ChangeShapes Go.WideShapes Go.ChangeAt Go.RowKit
set_option linter.unusedVariables false
set_option linter.unusedSimpArgs false

/-- A frame. -/
structure FrL where
  fr : Int
  to : Int
  d : List Nat
/-- A frame, beside the slice of its bytes. -/
abbrev FrV : Type := FrL × Value
abbrev frC (p : FrV) : List Value := [.int .i64 p.1.fr, .int .i64 p.1.to, p.2]
abbrev frV (p : FrV) : Value := .agg #[.int .i64 p.1.fr, .int .i64 p.1.to, p.2]
abbrev numsN (d : List Nat) : List Value := d.map fun y : Nat => Value.int .u8 (y : Int)
def flatN (l : List FrV) : List Value := l.flatMap frC
theorem flatN_len : ∀ l : List FrV, (flatN l).length = l.length * 3
  | [] => rfl
  | n :: l => by
    have := flatN_len l
    unfold flatN at *
    rw [List.flatMap_cons, List.length_append, this, List.length_cons]
    show 3 + l.length * 3 = (l.length + 1) * 3
    omega
theorem flatN_get : ∀ {l : List FrV} {j i : Nat} (hj : j < l.length), i < 3 → (flatN l)[j * 3 + i]? = (frC l[j])[i]?
  | n :: l, 0, i, _, hi => by
    unfold flatN
    rw [List.flatMap_cons, Nat.zero_mul, Nat.zero_add, List.getElem?_append_left (by show i < 3; exact hi)]
    rfl
  | n :: l, j + 1, i, hj, hi => by
    have ih := flatN_get (l := l) (j := j) (i := i) (by simpa using hj) hi
    unfold flatN at *
    rw [List.flatMap_cons, List.getElem?_append_right (by show 3 ≤ _; omega)]
    have e : (j + 1) * 3 + i - (frC n).length = j * 3 + i := by show (j + 1) * 3 + i - 3 = _; omega
    rw [e, ih]
    rfl
theorem flatN_app (a b : List FrV) : flatN (a ++ b) = flatN a ++ flatN b := by unfold flatN; rw [List.flatMap_append]
theorem flatN_one {l : List FrV} (h : ∀ p ∈ l, p.2.oneCell' = true) : ∀ u ∈ flatN l, u.oneCell' = true := by
  intro u hu
  unfold flatN at hu
  obtain ⟨p, hp, hu⟩ := List.mem_flatMap.1 hu
  have := h p hp
  simp at hu
  rcases hu with rfl | rfl | rfl
  · rfl
  · rfl
  · exact this
theorem own_one {w : World} {base n s : Nat} {e : TypeId} {v : Value} {xs : List Value} (h : w.ownsRow base e s v n xs) : v.oneCell' = true := by
  rcases h.2 with ⟨rfl, _⟩ | ⟨g, cap, cur, rfl, _⟩ <;> rfl
theorem own_shapeN {w : World} {base n s : Nat} {e : TypeId} {v : Value} {xs : List Value} (h : w.ownsRow base e s v n xs) : ∃ A c, v = .slice A n c := by
  rcases h.2 with ⟨rfl, rfl⟩ | ⟨g, cap, cur, rfl, _⟩
  · exact ⟨none, 0, rfl⟩
  · exact ⟨_, cap, rfl⟩
theorem own_lowN {w : World} {base base' n s : Nat} {e : TypeId} {v : Value} {xs : List Value} (h : w.ownsRow base e s v n xs) (hb : base' ≤ base) : w.ownsRow base' e s v n xs :=
  ⟨h.1, h.2.imp id fun ⟨g, cap, cur, a, b, c⟩ => ⟨g, cap, cur, a, Nat.le_trans hb b, c⟩⟩
theorem row_turnsN {S : Nat → Prop} {w w' : World} {base n s : Nat} {e : TypeId} {v : Value} {xs : List Value} (h : w.ownsRow base e s v n xs) (k : TurnsD S w w') (hv : ∀ b, v.ownBlock = some b → ¬ S b) : w'.ownsRow base e s v n xs := by
  refine ⟨h.1, ?_⟩
  rcases h.2 with hn | ⟨g, cap, cur, rfl, hb, hgg, rest⟩
  · exact .inl hn
  · refine .inr ⟨g, cap, cur, rfl, hb, ?_, rest⟩
    rw [k.block g (Array.getElem?_eq_some_iff.1 hgg).1 (hv g rfl)]
    exact hgg
/-- A row's block is one of its type. -/
theorem own_type {w : World} {base n s : Nat} {e : TypeId} {v : Value} {xs : List Value} (h : w.ownsRow base e s v n xs) {b : Nat} (hb : v.ownBlock = some b) : ∃ cs, Blk w b e cs := by
  rcases h.2 with ⟨rfl, _⟩ | ⟨g', cap, cur, rfl, _, hh, _⟩
  · simp [Value.ownBlock] at hb
  · have : g' = b := by simpa [Value.ownBlock] using hb
    subst this
    exact ⟨cur, hh⟩
theorem blk_ne {w : World} {a b : Nat} {T U : TypeId} {x y : Array Value} (h : Blk w a T x) (k : Blk w b U y) (hne : T ≠ U) : a ≠ b := by
  rintro rfl
  unfold Blk at h k
  rw [h] at k
  injection k with k
  injection k with _ ht
  exact hne ht
theorem own_ne {w : World} {base n s base' n' s' : Nat} {e e' : TypeId} {v v' : Value} {xs xs' : List Value} (h : w.ownsRow base e s v n xs) (h' : w.ownsRow base' e' s' v' n' xs') (hne : e ≠ e') {b : Nat} (hb : v.ownBlock = some b) : v'.ownBlock ≠ some b := by
  intro hb'
  obtain ⟨x, hx⟩ := own_type h hb
  obtain ⟨y, hy⟩ := own_type h' hb'
  exact blk_ne hx hy hne rfl
theorem own_neB {w : World} {base n s g : Nat} {e T : TypeId} {v : Value} {xs : List Value} {cs : Array Value} (h : w.ownsRow base e s v n xs) (hg : Blk w g T cs) (hne : e ≠ T) : v.ownBlock ≠ some g := by
  intro hb
  obtain ⟨x, hx⟩ := own_type h hb
  exact blk_ne hx hg hne rfl

/-- A net at block g. -/
structure NetAt (w : World) (base g : Nat) (lim : Int) (v : Value) (l : List FrV) : Prop where
  blk : Blk w g 53 #[.int .i64 lim, v]
  low : base ≤ g
  row : w.ownsRow base 32 3 v l.length (flatN l)
  dat : ∀ p ∈ l, w.ownsRow base 5 1 p.2 p.1.d.length (numsN p.1.d)
  apart : l.Pairwise fun p q => ∀ b, p.2.ownBlock = some b → q.2.ownBlock ≠ some b
  few : (l.length : Int) ≤ lim ∧ lim ≤ 4096
  small : ∀ p ∈ l, p.1.d.length ≤ 512
/-- Its block and its row. -/
def RowN (g : Nat) (v : Value) (b : Nat) : Prop := b = g ∨ v.ownBlock = some b
/-- All the blocks that it has. -/
def OwnN (g : Nat) (v : Value) (l : List FrV) (b : Nat) : Prop := RowN g v b ∨ ∃ p ∈ l, p.2.ownBlock = some b
section
variable {w w' : World} {base g : Nat} {lim : Int} {v : Value} {l : List FrV}
theorem NetAt.lt (h : NetAt w base g lim v l) : g < w.heap.size := h.blk.lt
theorem NetAt.base_le (h : NetAt w base g lim v l) : base ≤ w.heap.size := by have := h.lt; have := h.low; omega
theorem NetAt.own (h : NetAt w base g lim v l) {b : Nat} (hb : OwnN g v l b) : base ≤ b ∧ b < w.heap.size := by
  rcases hb with (rfl | hb) | ⟨p, hp, hb⟩
  · exact ⟨h.low, h.lt⟩
  · exact h.row.lt b hb
  · exact (h.dat p hp).lt b hb
theorem NetAt.rowNe (h : NetAt w base g lim v l) {p : FrV} (hp : p ∈ l) {b : Nat} (hb : p.2.ownBlock = some b) : ¬ RowN g v b := by
  rintro (rfl | hv)
  · exact own_neB (h.dat p hp) h.blk (by decide) hb
  · exact own_ne (h.dat p hp) h.row (by decide) hb hv
theorem NetAt.stay {S : Nat → Prop} (h : NetAt w base g lim v l) (t : TurnsD S w w') (hS : ∀ b, OwnN g v l b → ¬ S b) : NetAt w' base g lim v l :=
  ⟨h.blk.turns t (hS g (.inl (.inl rfl))), h.low, row_turnsN h.row t (fun b hb => hS b (.inl (.inr hb))), fun p hp => row_turnsN (h.dat p hp) t (fun b hb => hS b (.inr ⟨p, hp, hb⟩)), h.apart, h.few, h.small⟩
theorem NetAt.on (h : NetAt w base g lim v l) (hb : Below w.heap.size w w') : NetAt w' base g lim v l :=
  h.stay (S := fun _ => False) (TurnsD.of_below hb) (fun _ _ h => h)
theorem NetAt.drew (h : NetAt w base g lim v l) : NetAt w.drew base g lim v l := h.on (below_drew (Below.refl _ _))
theorem NetAt.drewN (h : NetAt w base g lim v l) (n : Nat) : NetAt (w.drewN n) base g lim v l := h.on (below_drewN (Below.refl _ _) n)
theorem NetAt.alloc (h : NetAt w base g lim v l) (o : Obj) : NetAt (w.alloc o) base g lim v l := h.on ((Below.refl _ _).alloc (Nat.le_refl _) o)
theorem NetAt.cells (h : NetAt w base g lim v l) : w.cell? ⟨g, 0, none⟩ = some (.int .i64 lim) ∧ w.cell? ⟨g, 1, none⟩ = some v := ⟨(h.blk.cell 0).trans rfl, (h.blk.cell 1).trans rfl⟩
end
/-- Cells of a row of frames. -/
theorem rowN_at {w : World} {base : Nat} {T : TypeId} {v : Value} {l : List FrV} (h : w.ownsRow base T 3 v l.length (flatN l)) {j : Nat} {p : FrV} (hj : l[j]? = some p) :
    ∃ b c, v = .slice (some ⟨b, 0, none⟩) l.length c ∧ l.length ≤ c ∧ base ≤ b ∧ b < w.heap.size ∧ w.cell? ⟨b, j * 3, none⟩ = some (.int .i64 p.1.fr) ∧ w.cell? ⟨b, j * 3 + 1, none⟩ = some (.int .i64 p.1.to) ∧ w.cell? ⟨b, j * 3 + 2, none⟩ = some p.2 := by
  obtain ⟨hj1, hj2⟩ := List.getElem?_eq_some_iff.1 hj
  have hh := h
  rcases h.2 with ⟨rfl, h0⟩ | ⟨g, cap, cur, rfl, hb, hg, hc, _⟩
  · omega
  · have one : ∀ i u, i < 3 → (frC p)[i]? = some u → w.cell? ⟨g, j * 3 + i, none⟩ = some u := fun i u hi hu => by
      have h1 := flatN_get (l := l) (j := j) (i := i) hj1 hi
      rw [hj2, hu] at h1
      have := hh.cells (g := g) rfl (j * 3 + i) u h1
      rw [add_plain, Nat.zero_add] at this
      exact this
    exact ⟨g, cap, rfl, hc, hb, (hh.lt g rfl).2, one 0 _ (by decide) rfl, one 1 _ (by decide) rfl, one 2 _ (by decide) rfl⟩
theorem rowN_cells {w : World} {base b c n : Nat} {T : TypeId} {l : List FrV} (h : w.ownsRow base T 3 (.slice (some ⟨b, 0, none⟩) n c) l.length (flatN l)) {j : Nat} {p : FrV} (hj : l[j]? = some p) :
    w.cell? ⟨b, j * 3, none⟩ = some (.int .i64 p.1.fr) ∧ w.cell? ⟨b, j * 3 + 1, none⟩ = some (.int .i64 p.1.to) ∧ w.cell? ⟨b, j * 3 + 2, none⟩ = some p.2 := by
  obtain ⟨b', c', e, _, _, _, h1⟩ := rowN_at h hj
  injection e with e1 _ _
  injection e1 with e1
  injection e1 with e1 _ _
  subst e1
  exact h1
theorem lcells3N {w : World} {g : Nat} {t : TypeId} {a b c : Value} (h : Blk w g t #[a, b, c]) : w.cell? ⟨g, 0, none⟩ = some a ∧ w.cell? ⟨g, 1, none⟩ = some b ∧ w.cell? ⟨g, 2, none⟩ = some c := ⟨(h.cell 0).trans rfl, (h.cell 1).trans rfl, (h.cell 2).trans rfl⟩
theorem lfrozen3N {w : World} {g : Nat} {t : TypeId} {cs : Array Value} (h : Blk w g t cs) : w.frozen? ⟨g, 0, none⟩ = false ∧ w.frozen? ⟨g, 1, none⟩ = false ∧ w.frozen? ⟨g, 2, none⟩ = false := ⟨h.frozen 0, h.frozen 1, h.frozen 2⟩
def put3N (w : World) (g : Nat) (a b c : Value) : World := ((w.setCell ⟨g, 0, none⟩ a).setCell ⟨g, 1, none⟩ b).setCell ⟨g, 2, none⟩ c
theorem put3N_blk {w : World} {g : Nat} {T : TypeId} {a b c : Value} (h : Blk w g T #[a, b, c]) (a' b' c' : Value) : Blk (put3N w g a' b' c') g T #[a', b', c'] := by
  have h3 := ((h.set_ 0 a').set_ 1 b').set_ 2 c'
  simp only [List.setIfInBounds_toArray, List.set_cons_succ, List.set_cons_zero] at h3
  exact h3
theorem put3N_below {w w0 : World} {g k : Nat} (hk : Below k w0 w) (hg : k ≤ g) (a b c : Value) : Below k w0 (put3N w g a b c) :=
  ((hk.setCell (p := ⟨g, 0, none⟩) hg _).setCell (p := ⟨g, 1, none⟩) hg _).setCell (p := ⟨g, 2, none⟩) hg _
theorem put3N_grown (w : World) (g : Nat) (a b c : Value) : w.grownBy (put3N w g a b c) (some g) := by
  have h1 : w.grownBy (w.setCell ⟨g, 0, none⟩ a) (some g) := only_setCell (World.grownBy.refl _ _) (.inl rfl) _
  have h2 : w.grownBy ((w.setCell ⟨g, 0, none⟩ a).setCell ⟨g, 1, none⟩ b) (some g) := only_setCell h1 (.inl rfl) _
  exact only_setCell h2 (.inl rfl) _
theorem NetAt.len {w : World} {base g : Nat} {lim : Int} {v : Value} {l : List FrV} (h : NetAt w base g lim v l) : l.length ≤ 4096 := by have := h.few; omega
theorem info_fr : (Try.prog.info? 32).map (fun i => (i.zero, i.size, i.bytes)) = some (some (.agg #[.int .i64 0, .int .i64 0, .slice none 0 0]), 3, 40) := by kernel_rfl
abbrev zeroF : Array Value := #[.int .i64 0, .int .i64 0, .slice none 0 0]

/-- A number that a replica has. -/
def knownB (r : Int) : Bool := decide (0 ≤ r) && decide (r < 7)
set_option maxRecDepth 100000 in
set_option maxHeartbeats 400000 in
theorem known_any (r : Int) (w : World) : Calls Try.prog 22 #[.int .i64 r] w fun e w' => e = .returned (.bool (knownB r)) ∧ w = w' := by
  by_cases h0 : 0 ≤ r
  · have HE : Hid (knownB r = decide (r < 7)) := hid (by simp [knownB, h0])
    go_enter Try.func22, Try.ntmps22
    go_wp2
    go_ret
    exact ⟨ret_bool HE.out.symm, rfl⟩
  · have HE : Hid (knownB r = false) := hid (by simp [knownB, h0])
    go_enter Try.func22, Try.ntmps22
    go_wp2
    go_ret
    exact ⟨ret_bool HE.out.symm, rfl⟩
/-- A place that there is. -/
def hasN (n : Nat) (i : Int) : Bool := decide (0 ≤ i) && decide (i < n)
theorem hasN_iff {n : Nat} {i : Int} : hasN n i = true ↔ ∃ k : Nat, k < n ∧ i = k := by
  unfold hasN
  simp
  constructor
  · rintro ⟨a, b⟩; exact ⟨i.toNat, by omega, by omega⟩
  · rintro ⟨k, a, rfl⟩; omega
set_option maxRecDepth 100000 in
set_option maxHeartbeats 400000 in
theorem nthas_any (base g : Nat) (lim : Int) (v : Value) (l : List FrV) (i : Int) (w : World) (h : NetAt w base g lim v l) : Calls Try.prog 24 #[.pointer (some ⟨g, 0, none⟩), .int .i64 i] w fun e w' => e = .returned (.bool (hasN l.length i)) ∧ w = w' := by
  obtain ⟨_, c1⟩ := h.cells
  obtain ⟨A, c, rfl⟩ := own_shapeN h.row
  obtain ⟨n, hn⟩ : ∃ n, l.length = n := ⟨_, rfl⟩
  rw [hn] at c1 ⊢
  clear h hn
  by_cases h0 : 0 ≤ i
  · have HE : Hid (hasN n i = decide (i < n)) := hid (by simp [hasN, h0])
    go_enter Try.func24, Try.ntmps24
    go_wp2
    go_ret
    exact ⟨ret_bool HE.out.symm, rfl⟩
  · have HE : Hid (hasN n i = false) := hid (by simp [hasN, h0])
    go_enter Try.func24, Try.ntmps24
    go_wp2
    go_ret
    exact ⟨ret_bool HE.out.symm, rfl⟩
set_option maxRecDepth 100000 in
set_option maxHeartbeats 400000 in
theorem ntcount_any (base g : Nat) (lim : Int) (v : Value) (l : List FrV) (w : World) (h : NetAt w base g lim v l) : Calls Try.prog 9 #[.pointer (some ⟨g, 0, none⟩)] w fun e w' => e = .returned (.int .i64 (l.length : Int)) ∧ w = w' := by
  obtain ⟨_, c1⟩ := h.cells
  obtain ⟨A, c, rfl⟩ := own_shapeN h.row
  obtain ⟨n, hn⟩ : ∃ n, l.length = n := ⟨_, rfl⟩
  rw [hn] at c1 ⊢
  clear h hn
  go_enter Try.func9, Try.ntmps9
  go_wp2
  go_ret
  exact ⟨rfl, rfl⟩
set_option maxRecDepth 100000 in
set_option maxHeartbeats 400000 in
theorem ntnew_no (lim : Int) (w : World) (h : lim < 1 ∨ 4096 < lim) :
    Calls Try.prog 6 #[.int .i64 lim] w fun e w' => e = .returned (.tuple #[.pointer none, .int .i64 12]) ∧ w = w' := by
  rcases h with h | h
  · go_enter Try.func6, Try.ntmps6
    go_wp2
    refine bodyPost_ret (v := .tuple #[.pointer none, .int .i64 12]) (by simp [results, Try.results6, go_sem]) rfl ⟨rfl, rfl⟩
  · have h2 : ¬ lim < 1 := by omega
    go_enter Try.func6, Try.ntmps6
    go_wp2
    refine bodyPost_ret (v := .tuple #[.pointer none, .int .i64 12]) (by simp [results, Try.results6, go_sem]) rfl ⟨rfl, rfl⟩
set_option maxRecDepth 100000 in
set_option maxHeartbeats 400000 in
theorem ntnew_any (lim : Int) (w : World) (h0 : 1 ≤ lim) (h1 : lim ≤ 4096) :
    Calls Try.prog 6 #[.int .i64 lim] w fun e w' => e = .returned (.tuple #[.pointer (some ⟨w.heap.size, 0, none⟩), .int .i64 0]) ∧ NetAt w' w.heap.size w.heap.size lim (.slice none 0 0) [] ∧ Below w.heap.size w w' := by
  have HR : Hid (NetAt (w.alloc (.cells #[.int .i64 lim, .slice none 0 0] 53)) w.heap.size w.heap.size lim (.slice none 0 0) []) := hid
    ⟨Blk.new w _ _, Nat.le_refl _, World.ownsRow_nil _ _ _ _, fun p hp => by simp at hp, List.Pairwise.nil, ⟨by simp; omega, h1⟩, fun p hp => by simp at hp⟩
  have h2 : ¬ lim < 1 := by omega
  have h3 : ¬ 4096 < lim := by omega
  go_enter Try.func6, Try.ntmps6
  go_wp2
  refine bodyPost_ret (v := .tuple #[.pointer (some ⟨w.heap.size, 0, none⟩), .int .i64 0]) (by simp [results, Try.results6, go_sem]) rfl ⟨rfl, HR.out, (Below.refl _ _).alloc (Nat.le_refl _) _⟩

theorem shl_walkN {n : Nat} (h : n < 7) : IntKind.u8.wrap (2 ^ n) = 2 ^ n := by
  rcases seven h with h | h | h | h | h | h | h <;> rw [h] <;> decide
set_option maxHeartbeats 400000 in
theorem ntalone_any (r : Int) (w : World) :
    Calls Try.prog 27 #[.int .i64 r] w fun e w' => e = .returned (.int .u8 (alone r : Int)) ∧ w = w' := by
  have HA : Hid (alone r = if 0 ≤ r ∧ r < 7 then 2 ^ r.toNat else 0) := hid rfl
  by_cases hr : 0 ≤ r ∧ r < 7
  · obtain ⟨n, rfl⟩ := Int.eq_ofNat_of_zero_le hr.1
    have hn : n < 7 := by omega
    have hp := hid (shl_walkN hn)
    have HE : Hid ((alone (n : Int) : Int) = 2 ^ n) := hid (by rw [HA.out, if_pos hr]; simp)
    clear hr
    go_enter Try.func27, Try.ntmps27
    go_wp2
    go_ret
    exact ⟨ret_num (by rw [HE.out]; exact hp.out), rfl⟩
  · by_cases h2 : r < 0
    · clear hr
      go_enter Try.func27, Try.ntmps27
      go_wp2
      go_ret
      exact ⟨ret_num (by rw [HA.out, if_neg (by omega)]; rfl), rfl⟩
    · have h3 : 7 ≤ r := by omega
      clear hr
      go_enter Try.func27, Try.ntmps27
      go_wp2
      go_ret
      exact ⟨ret_num (by rw [HA.out, if_neg (by omega)]; rfl), rfl⟩
set_option maxHeartbeats 400000 in
theorem nthasB_any (s : Nat) (r : Int) (w : World) (hs : s < 256) :
    Calls Try.prog 21 #[.int .u8 (s : Int), .int .i64 r] w fun e w' => e = .returned (.bool (hasB s r)) ∧ w = w' := by
  have HW := hid (has_walk hs r)
  go_enter Try.func21, Try.ntmps21
  go_wp2_with (go_at_call 27; refine (ntalone_any _ _).mono ?_; rintro e w' ⟨rfl, rfl⟩)
  go_ret
  exact ⟨ret_bool HW.out, rfl⟩
end Go.Proofs.Ytljnboimadhkoaa
