/-
  A disk in memory (package disk): its block and its two rows; the contracts of what only reads, and of Arm.
-/
import Derived.Test.YtmedfcpohmhbbaaEMath
import Derived.Test.YtmedfcpohmhbbaaClone
import Derived.BigQuiet
namespace Go.Proofs.Ytmedfcpohmhbbaa
open Go.ChangeShapes Go.WideShapes Go.ChangeAt Go.RowKit
set_option linter.unusedVariables false
set_option linter.unusedSimpArgs false

def dkC (d : Dk) (v : Nat → Value) : Array Value := #[.int .i64 d.sz, v 0, .int .i64 (d.s 0 : Int), v 1, .int .i64 (d.s 1 : Int), .bool d.arm, .int .i64 d.un, .bool d.dn]
/-- The blocks that a disk has. -/
def OwnD (g : Nat) (v : Nat → Value) (b : Nat) : Prop := b = g ∨ (v 0).ownBlock = some b ∨ (v 1).ownBlock = some b
/-- A disk at block g; its rows are its own. -/
structure DiskAt (w : World) (base g : Nat) (d : Dk) (v : Nat → Value) : Prop where
  blk : Blk w g 54 (dkC d v)
  low : base ≤ g
  row : ∀ k, k < 2 → w.ownsRow base 5 1 (v k) (d.l k).length ((d.l k).map fun y : Nat => Value.int .u8 (y : Int))
  apart : ∀ b, (v 0).ownBlock = some b → (v 1).ownBlock ≠ some b

theorem row_neD {w : World} {base n g : Nat} {T : TypeId} {cs : Array Value} {v : Value} {xs : List Value} (h : w.ownsRow base 5 1 v n xs) (hg : Blk w g T cs) (hne : 5 ≠ T) : v.ownBlock ≠ some g := by
  rcases h.2 with ⟨rfl, _⟩ | ⟨g', cap, cur, rfl, _, hh, _⟩
  · simp [Value.ownBlock]
  · intro he
    have : g' = g := by simpa [Value.ownBlock] using he
    subst this
    unfold Blk at hg
    rw [hh] at hg
    injection hg with hg
    injection hg with _ ht
    exact hne ht
theorem DiskAt.lt {w : World} {base g : Nat} {d : Dk} {v : Nat → Value} (h : DiskAt w base g d v) : g < w.heap.size := h.blk.lt
theorem DiskAt.ne {w : World} {base g : Nat} {d : Dk} {v : Nat → Value} (h : DiskAt w base g d v) {k : Nat} (hk : k < 2) : (v k).ownBlock ≠ some g := row_neD (h.row k hk) h.blk (by decide)
theorem DiskAt.own {w : World} {base g : Nat} {d : Dk} {v : Nat → Value} (h : DiskAt w base g d v) {b : Nat} (hb : OwnD g v b) : base ≤ b ∧ b < w.heap.size := by
  rcases hb with rfl | hb | hb
  · exact ⟨h.low, h.lt⟩
  · exact (h.row 0 (by decide)).lt b hb
  · exact (h.row 1 (by decide)).lt b hb
theorem OwnD.of {g : Nat} {v : Nat → Value} {k b : Nat} (hk : k < 2) (h : (v k).ownBlock = some b) : OwnD g v b := by
  match k, hk with
  | 0, _ => exact .inr (.inl h)
  | 1, _ => exact .inr (.inr h)
theorem DiskAt.stay {S : Nat → Prop} {w w' : World} {base g : Nat} {d : Dk} {v : Nat → Value} (h : DiskAt w base g d v) (t : Turns S w w') (hS : ∀ b, OwnD g v b → ¬ S b) : DiskAt w' base g d v :=
  ⟨h.blk.turns t (hS g (.inl rfl)), h.low, fun k hk => row_turns (h.row k hk) t (fun b hb => hS b (OwnD.of hk hb)), h.apart⟩
theorem DiskAt.on {w w' : World} {base g : Nat} {d : Dk} {v : Nat → Value} (h : DiskAt w base g d v) (hb : Below w.heap.size w w') : DiskAt w' base g d v :=
  h.stay (S := fun _ => False) (Turns.of_below hb) (fun _ _ h => h)
theorem DiskAt.drew {w : World} {base g : Nat} {d : Dk} {v : Nat → Value} (h : DiskAt w base g d v) : DiskAt w.drew base g d v := h.on (below_drew (Below.refl _ _))
theorem DiskAt.drewN {w : World} {base g : Nat} {d : Dk} {v : Nat → Value} (h : DiskAt w base g d v) (n : Nat) : DiskAt (w.drewN n) base g d v := h.on (below_drewN (Below.refl _ _) n)
theorem DiskAt.base_le {w : World} {base g : Nat} {d : Dk} {v : Nat → Value} (h : DiskAt w base g d v) : base ≤ w.heap.size := by have := h.lt; have := h.low; omega

theorem dkC_get (d : Dk) (v : Nat → Value) : ∀ k, k < 2 → (dkC d v)[1 + k * 2]? = some (v k)
  | 0, _ => rfl
  | 1, _ => rfl
theorem dkC_gets (d : Dk) (v : Nat → Value) : ∀ k, k < 2 → (dkC d v)[1 + k * 2 + 1]? = some (.int .i64 (d.s k : Int))
  | 0, _ => rfl
  | 1, _ => rfl
theorem dkC_set (d : Dk) (v : Nat → Value) (u : Value) (l : List Nat) : ∀ k, k < 2 → (dkC d v).setIfInBounds (1 + k * 2) u = dkC { d with l := updD d.l k l } (updD v k u)
  | 0, _ => rfl
  | 1, _ => rfl
theorem dkC_sets (d : Dk) (v : Nat → Value) (n : Nat) : ∀ k, k < 2 → (dkC d v).setIfInBounds (1 + k * 2 + 1) (.int .i64 (n : Int)) = dkC { d with s := updD d.s k n } v
  | 0, _ => rfl
  | 1, _ => rfl

/-- What a disk's block gives. -/
theorem DiskAt.cells {w : World} {base g : Nat} {d : Dk} {v : Nat → Value} (h : DiskAt w base g d v) :
    w.cell? ⟨g, 0, none⟩ = some (.int .i64 d.sz) ∧ w.cell? ⟨g, 1, none⟩ = some (v 0) ∧ w.cell? ⟨g, 2, none⟩ = some (.int .i64 (d.s 0 : Int)) ∧ w.cell? ⟨g, 3, none⟩ = some (v 1) ∧ w.cell? ⟨g, 4, none⟩ = some (.int .i64 (d.s 1 : Int)) ∧
      w.cell? ⟨g, 5, none⟩ = some (.bool d.arm) ∧ w.cell? ⟨g, 6, none⟩ = some (.int .i64 d.un) ∧ w.cell? ⟨g, 7, none⟩ = some (.bool d.dn) :=
  ⟨(h.blk.cell 0).trans rfl, (h.blk.cell 1).trans rfl, (h.blk.cell 2).trans rfl, (h.blk.cell 3).trans rfl, (h.blk.cell 4).trans rfl, (h.blk.cell 5).trans rfl, (h.blk.cell 6).trans rfl, (h.blk.cell 7).trans rfl⟩
theorem DiskAt.file {w : World} {base g : Nat} {d : Dk} {v : Nat → Value} (h : DiskAt w base g d v) {k : Nat} (hk : k < 2) :
    w.cell? ⟨g, 1 + k * 2, none⟩ = some (v k) ∧ w.cell? ⟨g, 1 + k * 2 + 1, none⟩ = some (.int .i64 (d.s k : Int)) :=
  ⟨(h.blk.cell _).trans (dkC_get d v k hk), (h.blk.cell _).trans (dkC_gets d v k hk)⟩
/-- A row as the slice that it is. -/
theorem DiskAt.slice {w : World} {base g : Nat} {d : Dk} {v : Nat → Value} (h : DiskAt w base g d v) {k : Nat} (hk : k < 2) :
    ∃ A c, v k = .slice A (d.l k).length c ∧ (A = none → c = 0) ∧ (d.l k).length ≤ c ∧ Sees .u8 w A (d.l k) := own_slice (h.row k hk)

/-- What is done to a disk. -/
def DoesD (base g : Nat) (v : Nat → Value) (d' : Dk) (r : Value) (w : World) (en : Ending) (w' : World) : Prop :=
  ∃ v', en = .returned r ∧ DiskAt w' base g d' v' ∧ Turns (OwnD g v) w w' ∧ ∀ b, OwnD g v' b → OwnD g v b ∨ w.heap.size ≤ b

/-- One number of its block is turned. -/
theorem DiskAt.put {w : World} {base g : Nat} {d d' : Dk} {v : Nat → Value} (h : DiskAt w base g d v) (i : Nat) (u : Value) (hc : (dkC d v).setIfInBounds i u = dkC d' v) (hl : d'.l = d.l) : DiskAt (w.setCell ⟨g, i, none⟩ u) base g d' v := by
  refine ⟨hc ▸ h.blk.set_ i u, h.low, fun k hk => ?_, h.apart⟩
  rw [hl]
  exact (h.row k hk).kept (row := some g) (only_setCell (World.grownBy.refl _ _) (.inl rfl) _) (.inr (h.ne hk))
theorem Turns.at_ {g : Nat} {v : Nat → Value} {a w : World} (h : Turns (OwnD g v) a w) (i : Nat) (u : Value) : Turns (OwnD g v) a (w.setCell ⟨g, i, none⟩ u) := h.set (.inl (.inl rfl)) u

/-- A file's row is turned. -/
theorem DiskAt.turn {w w1 : World} {base g : Nat} {d : Dk} {v : Nat → Value} (h : DiskAt w base g d v) {k : Nat} (hk : k < 2) {u : Value} {l : List Nat} {row : Option Nat} (gr : w.grownBy w1 row) (hr : ∀ b, row = some b → (v k).ownBlock = some b) {n : Nat} (hn : l.length = n)
    (hown : w1.ownsRow base 5 1 u n (l.map fun y : Nat => Value.int .u8 (y : Int))) (hat : ∀ b, u.ownBlock = some b → (v k).ownBlock = some b ∨ w.heap.size ≤ b) :
    DiskAt (w1.setCell ⟨g, 1 + k * 2, none⟩ u) base g { d with l := updD d.l k l } (updD v k u) ∧ Turns (OwnD g v) w (w1.setCell ⟨g, 1 + k * 2, none⟩ u) ∧ ∀ b, OwnD g (updD v k u) b → OwnD g v b ∨ w.heap.size ≤ b := by
  subst hn
  have t1 : Turns (OwnD g v) w w1 := Turns.of_grown gr (fun b hb => OwnD.of hk (hr b hb))
  have hb1 : Blk w1 g 54 (dkC d v) := h.blk.grown gr (fun e => h.ne hk (hr g e.symm))
  have hu : u.ownBlock ≠ some g := row_neD hown hb1 (by decide)
  have g2 : w1.grownBy (w1.setCell ⟨g, 1 + k * 2, none⟩ u) (some g) := only_setCell (World.grownBy.refl _ _) (.inl rfl) _
  have other : ∀ i, i < 2 → i ≠ k → w1.ownsRow base 5 1 (v i) (d.l i).length ((d.l i).map fun y : Nat => Value.int .u8 (y : Int)) := fun i hi hne => (h.row i hi).kept gr (by
    cases hv : (v i).ownBlock with
    | none => exact .inl rfl
    | some b =>
      refine .inr (fun e => ?_)
      have h2 := hr b e.symm
      match i, k, hi, hk with
      | 0, 0, _, _ => exact hne rfl
      | 1, 1, _, _ => exact hne rfl
      | 0, 1, _, _ => exact h.apart b hv h2
      | 1, 0, _, _ => exact h.apart b h2 hv)
  refine ⟨⟨?_, h.low, fun i hi => ?_, fun b hb hb2 => ?_⟩, t1.at_ _ _, fun b hb => ?_⟩
  · rw [← dkC_set d v u l k hk]
    exact hb1.set_ _ _
  · by_cases he : i = k
    · subst he
      show World.ownsRow _ base 5 1 (updD v i u i) (updD d.l i l i).length ((updD d.l i l i).map fun y : Nat => Value.int .u8 (y : Int))
      rw [updD_at, updD_at]
      exact hown.kept g2 (.inr hu)
    · show World.ownsRow _ base 5 1 (updD v k u i) (updD d.l k l i).length ((updD d.l k l i).map fun y : Nat => Value.int .u8 (y : Int))
      rw [updD_far _ _ he, updD_far _ _ he]
      exact (other i hi he).kept g2 (.inr (row_neD (other i hi he) hb1 (by decide)))
  · match k, hk with
    | 0, _ =>
      rw [updD_at] at hb
      rw [updD_far _ _ (by decide)] at hb2
      rcases hat b hb with h1 | h1
      · exact h.apart b h1 hb2
      · have := ((h.row 1 (by decide)).lt b hb2).2; omega
    | 1, _ =>
      rw [updD_far _ _ (by decide)] at hb
      rw [updD_at] at hb2
      rcases hat b hb2 with h1 | h1
      · exact h.apart b hb h1
      · have := ((h.row 0 (by decide)).lt b hb).2; omega
  · match k, hk with
    | 0, _ =>
      rcases hb with hb | hb | hb
      · exact .inl (.inl hb)
      · rw [updD_at] at hb
        exact (hat b hb).imp (fun h => .inr (.inl h)) id
      · rw [updD_far _ _ (by decide)] at hb
        exact .inl (.inr (.inr hb))
    | 1, _ =>
      rcases hb with hb | hb | hb
      · exact .inl (.inl hb)
      · rw [updD_far _ _ (by decide)] at hb
        exact .inl (.inr (.inl hb))
      · rw [updD_at] at hb
        exact (hat b hb).imp (fun h => .inr (.inr h)) id

set_option maxRecDepth 100000 in
set_option maxHeartbeats 400000 in
theorem has_any (p : Option Addr) (f : Int) (w : World) : Calls Try.prog 29 #[.pointer p, .int .i64 f] w fun e w' => e = .returned (.bool (hasD f)) ∧ w = w' := by
  rcases (show f < 0 ∨ (0 ≤ f ∧ f < 2) ∨ 2 ≤ f by omega) with h | h | h
  · have HE : Hid (hasD f = false) := hid (by unfold hasD; simp; omega)
    go_enter Try.func29, Try.ntmps29
    go_wp2
    go_ret
    exact ⟨ret_bool HE.out.symm, rfl⟩
  · obtain ⟨h1, h2⟩ := h
    have HE : Hid (hasD f = true) := hid (by unfold hasD; simp; omega)
    go_enter Try.func29, Try.ntmps29
    go_wp2
    go_ret
    exact ⟨ret_bool HE.out.symm, rfl⟩
  · have HE : Hid (hasD f = false) := hid (by unfold hasD; simp; omega)
    have h3 : 0 ≤ f := by omega
    go_enter Try.func29, Try.ntmps29
    go_wp2
    go_ret
    exact ⟨ret_bool (by rw [HE.out]; simp; omega), rfl⟩

set_option maxRecDepth 100000 in
set_option maxHeartbeats 400000 in
theorem ready_any (g : Nat) (d : Dk) (f : Int) (w : World) (c7 : w.cell? ⟨g, 7, none⟩ = some (.bool d.dn)) : Calls Try.prog 23 #[.pointer (some ⟨g, 0, none⟩), .int .i64 f] w fun e w' => e = .returned (.int .i64 (mayD d f)) ∧ w = w' := by
  have HM : Hid (mayD d f = if hasD f then (if d.dn then 40 else 0) else 12) := hid rfl
  obtain ⟨b, hb⟩ : ∃ b, hasD f = b := ⟨_, rfl⟩
  obtain ⟨n, hn⟩ : ∃ n, d.dn = n := ⟨_, rfl⟩
  have HH := hid (fun p w => has_any p f w)
  rw [hb, hn] at HM
  rw [hb] at HH
  rw [hn] at c7
  clear hb hn
  cases b
  · go_enter Try.func23, Try.ntmps23
    go_wp2_with fail
    with_reducible refine (HH.out _ _).mono ?_
    rintro e w' ⟨rfl, rfl⟩
    go_wp2
    go_ret
    exact ⟨ret_num HM.out.symm, rfl⟩
  · cases n
    · go_enter Try.func23, Try.ntmps23
      go_wp2_with fail
      with_reducible refine (HH.out _ _).mono ?_
      rintro e w' ⟨rfl, rfl⟩
      go_wp2
      go_ret
      exact ⟨ret_num HM.out.symm, rfl⟩
    · go_enter Try.func23, Try.ntmps23
      go_wp2_with fail
      with_reducible refine (HH.out _ _).mono ?_
      rintro e w' ⟨rfl, rfl⟩
      go_wp2
      go_ret
      exact ⟨ret_num HM.out.symm, rfl⟩

set_option maxRecDepth 100000 in
set_option maxHeartbeats 400000 in
theorem left_any (base g : Nat) (d : Dk) (v : Nat → Value) (w : World) (h : DiskAt w base g d v) (ho : d.Ok) : Calls Try.prog 21 #[.pointer (some ⟨g, 0, none⟩)] w fun e w' => e = .returned (.int .i64 (leftD d)) ∧ ∃ n, w.drewN n = w' := by
  obtain ⟨c0, c1, _, c3, _⟩ := h.cells
  obtain ⟨A0, k0, e0, _⟩ := h.slice (k := 0) (by decide)
  obtain ⟨A1, k1, e1, _⟩ := h.slice (k := 1) (by decide)
  have h0 := ho.sz0
  have h1 := ho.sz1
  have h2 := ho.room
  have HL : Hid (leftD d = d.sz - ((d.l 0).length : Int) - ((d.l 1).length : Int)) := hid rfl
  rw [e0] at c1
  rw [e1] at c3
  obtain ⟨n0, hn0⟩ : ∃ n, (d.l 0).length = n := ⟨_, rfl⟩
  obtain ⟨n1, hn1⟩ : ∃ n, (d.l 1).length = n := ⟨_, rfl⟩
  rw [hn0] at c1 h2 HL
  rw [hn1] at c3 h2 HL
  clear e0 e1 hn0 hn1 h ho
  have q1 : IntKind.i64.wrap (d.sz - (n0 : Int)) = d.sz - (n0 : Int) := IntWalk.i64_in _ (by omega)
  have q2 : IntKind.i64.wrap (d.sz - (n0 : Int) - (n1 : Int)) = d.sz - (n0 : Int) - (n1 : Int) := IntWalk.i64_in _ (by omega)
  go_enter Try.func21, Try.ntmps21
  go_wp2_with fail
  go_quiet (fail)
  go_wp2
  go_ret
  exact ⟨ret_num HL.out.symm, _, rfl⟩

set_option maxRecDepth 100000 in
set_option maxHeartbeats 400000 in
theorem down_any (g : Nat) (d : Dk) (w : World) (c7 : w.cell? ⟨g, 7, none⟩ = some (.bool d.dn)) : Calls Try.prog 18 #[.pointer (some ⟨g, 0, none⟩)] w fun e w' => e = .returned (.bool d.dn) ∧ w = w' := by
  go_enter Try.func18, Try.ntmps18
  go_wp2
  go_ret
  exact ⟨rfl, rfl⟩
set_option maxRecDepth 100000 in
set_option maxHeartbeats 400000 in
theorem size_any (g : Nat) (d : Dk) (w : World) (c0 : w.cell? ⟨g, 0, none⟩ = some (.int .i64 d.sz)) : Calls Try.prog 22 #[.pointer (some ⟨g, 0, none⟩)] w fun e w' => e = .returned (.int .i64 d.sz) ∧ w = w' := by
  go_enter Try.func22, Try.ntmps22
  go_wp2
  go_ret
  exact ⟨rfl, rfl⟩

set_option maxRecDepth 100000 in
set_option maxHeartbeats 400000 in
theorem safe_at (base g : Nat) (d : Dk) (v : Nat → Value) (k : Nat) (f : Int) (w : World) (h : DiskAt w base g d v) (hf : f = k) (hk : k < 2) : Calls Try.prog 15 #[.pointer (some ⟨g, 0, none⟩), .int .i64 f] w fun e w' => e = .returned (.int .i64 (d.s k : Int)) ∧ w = w' := by
  subst hf
  obtain ⟨_, c1⟩ := h.file hk
  have HH := hid (fun p w => has_any p (k : Int) w)
  rw [show hasD (k : Int) = true from hasD_iff.2 ⟨k, hk, rfl⟩] at HH
  have hk2 : (k : Int) < 2 := by omega
  go_enter Try.func15, Try.ntmps15
  go_wp2_with fail
  with_reducible refine (HH.out _ _).mono ?_
  rintro e w' ⟨rfl, rfl⟩
  go_wp2
  go_ret
  exact ⟨rfl, rfl⟩
set_option maxRecDepth 100000 in
set_option maxHeartbeats 400000 in
theorem safe_not (p : Option Addr) (f : Int) (w : World) (hf : hasD f = false) : Calls Try.prog 15 #[.pointer p, .int .i64 f] w fun e w' => e = .returned (.int .i64 0) ∧ w = w' := by
  have HH := hid (fun p w => has_any p f w)
  rw [hf] at HH
  clear hf
  go_enter Try.func15, Try.ntmps15
  go_wp2_with fail
  with_reducible refine (HH.out _ _).mono ?_
  rintro e w' ⟨rfl, rfl⟩
  go_wp2
  go_ret
  exact ⟨rfl, rfl⟩

set_option maxRecDepth 100000 in
set_option maxHeartbeats 400000 in
theorem read_at (base g : Nat) (d : Dk) (v : Nat → Value) (k : Nat) (f : Int) (w : World) (h : DiskAt w base g d v) (ho : d.Ok) (hf : f = k) (hk : k < 2) : Calls Try.prog 14 #[.pointer (some ⟨g, 0, none⟩), .int .i64 f] w (Makes (d.l k) w) := by
  subst hf
  obtain ⟨c0, _⟩ := h.file hk
  obtain ⟨A, c, e0, hA, hc, hS⟩ := h.slice hk
  have HL := ho.len hk
  rw [e0] at c0
  have HH := hid (fun p w => has_any p (k : Int) w)
  rw [show hasD (k : Int) = true from hasD_iff.2 ⟨k, hk, rfl⟩] at HH
  have HC := hid (clone_any A (d.l k) _ c w rfl (by omega) hA hS)
  have hk2 : (k : Int) < 2 := by omega
  clear e0 hA hc hS h
  go_enter Try.func14, Try.ntmps14
  go_wp2_with fail
  with_reducible refine (HH.out _ _).mono ?_
  rintro e w' ⟨rfl, rfl⟩
  go_wp2_with fail
  with_reducible refine HC.out.mono ?_
  rintro e w1 ⟨s, rfl, hown, hb⟩
  have HO := hid hown
  have HB := hid hb
  clear hown hb
  go_wp2
  go_ret
  exact ⟨s, rfl, HO.out, HB.out⟩
set_option maxRecDepth 100000 in
set_option maxHeartbeats 400000 in
theorem read_not (p : Option Addr) (f : Int) (w : World) (hf : hasD f = false) : Calls Try.prog 14 #[.pointer p, .int .i64 f] w fun e w' => e = .returned (.slice none 0 0) ∧ w = w' := by
  have HH := hid (fun p w => has_any p f w)
  rw [hf] at HH
  clear hf
  go_enter Try.func14, Try.ntmps14
  go_wp2_with fail
  with_reducible refine (HH.out _ _).mono ?_
  rintro e w' ⟨rfl, rfl⟩
  go_wp2
  go_ret
  exact ⟨rfl, rfl⟩

end Go.Proofs.Ytmedfcpohmhbbaa
