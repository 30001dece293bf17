/-
  DiskCrashes: behind a crash, wherever it comes, each file begins with all that was safe, and is a beginning of what it had; all of it is safe.
-/
import Derived.Test.YtmedfcpohmhbbaaEOpen
namespace Go.Proofs.Ytmedfcpohmhbbaa.diskCrashes
open Go.ChangeShapes Go.WideShapes Go.ChangeAt Go.RowKit
set_option linter.unusedVariables false
set_option linter.unusedSimpArgs false

theorem low_disk {w : World} {base base' g : Nat} {d : Dk} {v : Nat → Value} (h : DiskAt w base g d v) (hb : base' ≤ base) : DiskAt w base' g d v := ⟨h.blk, Nat.le_trans hb h.low, fun k hk => own_low (h.row k hk) hb, h.apart⟩

/-- What stands throughout: the disk, the box of what is kept, the steps. -/
structure CrAt (w W : World) (n0 g : Nat) (d : Dk) (v : Nat → Value) (a b : Int) (A : Option Addr) (os : List OpV) : Prop where
  disk : DiskAt W (n0 + 1) g d v
  ok : d.Ok
  box : Blk W n0 32 #[.int .i64 a, .int .i64 b]
  args : SeesP n0 W A os
  below : Below n0 w W
section
variable {w W W' : World} {n0 g : Nat} {d d' : Dk} {v v' : Nat → Value} {a b : Int} {A : Option Addr} {os : List OpV}
theorem CrAt.turn (h : CrAt w W n0 g d v a b A os) {S : Nat → Prop} (t : Turns S W W') (hS : ∀ i, i < n0 + 1 → ¬ S i) (hd : DiskAt W' (n0 + 1) g d' v') (ho : d'.Ok) : CrAt w W' n0 g d' v' a b A os := by
  have b1 : Below n0 W W' := t.below (by have := h.box.lt; omega) (fun i hi => hS i (by omega))
  exact ⟨hd, ho, h.box.turns t (hS n0 (by omega)), h.args.below b1, h.below.trans b1⟩
theorem CrAt.on (h : CrAt w W n0 g d v a b A os) (k : Below W.heap.size W W') : CrAt w W' n0 g d v a b A os :=
  h.turn (S := fun _ => False) (Turns.of_below k) (fun _ _ h => h) (h.disk.on k) h.ok
theorem CrAt.did (h : CrAt w W n0 g d v a b A os) (hd : DiskAt W' (n0 + 1) g d' v') (t : Turns (OwnD g v) W W') (ho : d'.Ok) : CrAt w W' n0 g d' v' a b A os :=
  h.turn t (fun i hi o => by have := (h.disk.own o).1; omega) hd ho
end

def wC (u : Nat → Value) : Array Value := #[u 0, u 1]
def zC (z : Nat → Nat) : Array Value := #[.int .i64 (z 0 : Int), .int .i64 (z 1 : Int)]
theorem wC_get (u : Nat → Value) : ∀ k, k < 2 → (wC u)[k]? = some (u k)
  | 0, _ => rfl
  | 1, _ => rfl
theorem zC_get (z : Nat → Nat) : ∀ k, k < 2 → (zC z)[k]? = some (.int .i64 (z k : Int))
  | 0, _ => rfl
  | 1, _ => rfl
theorem wC_set (u : Nat → Value) (x : Value) : ∀ k, k < 2 → (wC u).setIfInBounds k x = wC (updD u k x)
  | 0, _ => rfl
  | 1, _ => rfl
theorem zC_set (z : Nat → Nat) (x : Nat) : ∀ k, k < 2 → (zC z).setIfInBounds k (.int .i64 (x : Int)) = zC (updD z k x)
  | 0, _ => rfl
  | 1, _ => rfl
/-- What was there is being written down. -/
structure WaAt (w W : World) (n0 g : Nat) (d : Dk) (v : Nat → Value) (a b : Int) (A : Option Addr) (os : List OpV) (p : Nat) (u : Nat → Value) (z : Nat → Nat) (j : Nat) : Prop where
  cr : CrAt w W n0 g d v a b A os
  was : Blk W p 31 (wC u)
  saf : Blk W (p + 1) 32 (zC z)
  far : ¬ OwnD g v p ∧ ¬ OwnD g v (p + 1)
  hi : n0 < p
  seen : ∀ k, k < j → k < 2 → ∃ A c, u k = .slice A (d.l k).length c ∧ (A = none → c = 0) ∧ (d.l k).length ≤ c ∧ Apart (fun i => OwnD g v i ∨ i = p ∨ i = p + 1) W A (d.l k)
  kept : ∀ k, k < j → k < 2 → z k = d.s k
section
variable {w W W' : World} {n0 g : Nat} {d : Dk} {v : Nat → Value} {a b : Int} {A : Option Addr} {os : List OpV} {p j : Nat} {u : Nat → Value} {z : Nat → Nat}
theorem WaAt.on (h : WaAt w W n0 g d v a b A os p u z j) (k : Below W.heap.size W W') : WaAt w W' n0 g d v a b A os p u z j :=
  ⟨h.cr.on k, h.was.below k h.was.lt, h.saf.below k h.saf.lt, h.far, h.hi, fun i hi h2 => by
    obtain ⟨A, c, h1, h3, h4, h5⟩ := h.seen i hi h2
    exact ⟨A, c, h1, h3, h4, h5.below k⟩, h.kept⟩
theorem WaAt.drew (h : WaAt w W n0 g d v a b A os p u z j) : WaAt w W.drew n0 g d v a b A os p u z j := h.on (below_drew (Below.refl _ _))
theorem WaAt.seenOn (h : WaAt w W n0 g d v a b A os p u z j) (t : Turns (fun i => OwnD g v i ∨ i = p ∨ i = p + 1) W W') {u' : Nat → Value} (hu : ∀ k, k < j → u' k = u k) : ∀ k, k < j → k < 2 → ∃ A c, u' k = .slice A (d.l k).length c ∧ (A = none → c = 0) ∧ (d.l k).length ≤ c ∧ Apart (fun i => OwnD g v i ∨ i = p ∨ i = p + 1) W' A (d.l k) := fun k hk h2 => by
  obtain ⟨A, c, h1, h3, h4, h5⟩ := h.seen k hk h2
  exact ⟨A, c, (hu k hk).trans h1, h3, h4, h5.turns t (fun _ _ h => h)⟩
theorem WaAt.setU (h : WaAt w W n0 g d v a b A os p u z j) (hj : j < 2) (x : Value) : WaAt w (W.setCell ⟨p, j, none⟩ x) n0 g d v a b A os p (updD u j x) z j := by
  have t0 : Turns (fun i => i = p) W (W.setCell ⟨p, j, none⟩ x) := Turns.set (S := fun i => i = p) (p := ⟨p, j, none⟩) (Turns.refl _ _) (.inl rfl) _
  have hd := h.cr.disk.stay t0 (fun b hb e => h.far.1 (e ▸ hb))
  refine ⟨h.cr.turn t0 (fun i hi e => by have := h.hi; omega) hd h.cr.ok, ?_, h.saf.far (p := ⟨p, j, none⟩) (by simp) _, h.far, h.hi, h.seenOn (t0.more (fun i _ e => .inr (.inl e))) (fun k hk => updD_far _ _ (by omega)), h.kept⟩
  rw [← wC_set u x j hj]
  exact h.was.set_ _ _
theorem WaAt.setZ (h : WaAt w W n0 g d v a b A os p u z j) (hj : j < 2) (x : Nat) : WaAt w (W.setCell ⟨p + 1, j, none⟩ (.int .i64 (x : Int))) n0 g d v a b A os p u (updD z j x) j := by
  have t0 : Turns (fun i => i = p + 1) W (W.setCell ⟨p + 1, j, none⟩ (.int .i64 (x : Int))) := Turns.set (S := fun i => i = p + 1) (p := ⟨p + 1, j, none⟩) (Turns.refl _ _) (.inl rfl) _
  have hd := h.cr.disk.stay t0 (fun b hb e => h.far.2 (e ▸ hb))
  refine ⟨h.cr.turn t0 (fun i hi e => by have := h.hi; omega) hd h.cr.ok, h.was.far (p := ⟨p + 1, j, none⟩) (by simp) _, ?_, h.far, h.hi, h.seenOn (t0.more (fun i _ e => .inr (.inr e))) (fun _ _ => rfl), fun k hk h2 => by rw [updD_far _ _ (by omega)]; exact h.kept k hk h2⟩
  rw [← zC_set z x j hj]
  exact h.saf.set_ _ _
/-- A row that is new is apart. -/
theorem own_apart {N n : Nat} {s : Value} {l : List Nat} (h : W.ownsRow N 5 1 s n (l.map fun y : Nat => Value.int .u8 (y : Int))) : ∃ A c, s = .slice A l.length c ∧ (A = none → c = 0) ∧ l.length ≤ c ∧ ∀ S : Nat → Prop, (∀ i, S i → i < N) → Apart S W A l := by
  obtain ⟨A, c, rfl, h1, h2, h3⟩ := own_slice h
  refine ⟨A, c, rfl, h1, h2, fun S hS => Apart.of_sees h3 (fun b o e _ hb => ?_)⟩
  subst e
  have := (h.lt b rfl).1
  have := hS b hb
  omega
theorem WaAt.apart (h : WaAt w W n0 g d v a b A os p u z j) : ∀ i, (OwnD g v i ∨ i = p ∨ i = p + 1) → i < W.heap.size := fun i hi => by
  rcases hi with hi | hi | hi
  · exact (h.cr.disk.own hi).2
  · have := h.was.lt; omega
  · have := h.saf.lt; omega
theorem read_apart {N n : Nat} {s : Value} {l : List Nat} {S : Nat → Prop} (h : W.ownsRow N 5 1 s n (l.map fun y : Nat => Value.int .u8 (y : Int))) (hS : ∀ i, S i → i < N) : ∃ A c, s = .slice A l.length c ∧ (A = none → c = 0) ∧ l.length ≤ c ∧ Apart S W A l := by
  obtain ⟨A, c, h1, h2, h3, h4⟩ := own_apart h
  exact ⟨A, c, h1, h2, h3, h4 _ hS⟩
theorem WaAt.done (h : WaAt w W n0 g d v a b A os p u z j) (hz : z j = d.s j) {B : Option Addr} {c : Nat} (hu : u j = .slice B (d.l j).length c) (hB : B = none → c = 0) (hc : (d.l j).length ≤ c) (hS : Apart (fun i => OwnD g v i ∨ i = p ∨ i = p + 1) W B (d.l j)) : WaAt w W n0 g d v a b A os p u z (j + 1) :=
  ⟨h.cr, h.was, h.saf, h.far, h.hi, fun k hk h2 => by
    by_cases he : k = j
    · subst he; exact ⟨B, c, hu, hB, hc, hS⟩
    · exact h.seen k (by omega) h2, fun k hk h2 => by
    by_cases he : k = j
    · subst he; exact hz
    · exact h.kept k (by omega) h2⟩
theorem WaAt.cells (h : WaAt w W n0 g d v a b A os p u z j) (hj : j < 2) : (W.cell? ⟨p, j, none⟩ = some (u j) ∧ W.frozen? ⟨p, j, none⟩ = false) ∧ W.cell? ⟨p + 1, j, none⟩ = some (.int .i64 (z j : Int)) ∧ W.frozen? ⟨p + 1, j, none⟩ = false :=
  ⟨⟨(h.was.cell _).trans (wC_get u j hj), h.was.frozen _⟩, (h.saf.cell _).trans (zC_get z j hj), h.saf.frozen _⟩
end
theorem crash_l (d : Dk) (a b : Int) : ∀ k, k < 2 → (crashD d a b).l k = (d.l k).take (restD d k (keepAt a b k))
  | 0, _ => rfl
  | 1, _ => rfl
theorem crash_s (d : Dk) (a b : Int) : ∀ k, k < 2 → (crashD d a b).s k = restD d k (keepAt a b k)
  | 0, _ => rfl
  | 1, _ => rfl
theorem crash_sync (d : Dk) (a b : Int) : (syncD (crashD d a b) 0).2 = 0 := by
  have h : mayD (crashD d a b) 0 = 0 := mayD_at (k := 0) (by decide) rfl
  unfold syncD
  rw [if_pos h]
  rfl
/-- Behind the crash. -/
structure FinAt (w W : World) (n0 g p : Nat) (d d' : Dk) (v' u : Nat → Value) : Prop where
  disk : DiskAt W (n0 + 1) g d' v'
  was : Blk W p 31 (wC u)
  saf : Blk W (p + 1) 32 (zC d.s)
  seen : ∀ k, k < 2 → ∃ A c, u k = .slice A (d.l k).length c ∧ (d.l k).length ≤ c ∧ Sees .u8 W A (d.l k)
  below : Below n0 w W
theorem FinAt.on {w W W' : World} {n0 g p : Nat} {d d' : Dk} {v' u : Nat → Value} (h : FinAt w W n0 g p d d' v' u) (k : Below W.heap.size W W') : FinAt w W' n0 g p d d' v' u :=
  ⟨h.disk.on k, h.was.below k h.was.lt, h.saf.below k h.saf.lt, fun i hi => by
    obtain ⟨A, c, h1, h2, h3⟩ := h.seen i hi
    exact ⟨A, c, h1, h2, h3.below k⟩, h.below.trans (k.mono (by have := h.disk.own (b := g) (.inl rfl); omega))⟩
theorem FinAt.of {w W W' : World} {n0 g p : Nat} {d d' : Dk} {v v' u : Nat → Value} {z : Nat → Nat} {a b : Int} {A : Option Addr} {os : List OpV} (h : WaAt w W n0 g d v a b A os p u z 2) (hd : DiskAt W' (n0 + 1) g d' v') (t : Turns (OwnD g v) W W') : FinAt w W' n0 g p d d' v' u := by
  have b1 : Below n0 W W' := t.below (by have := h.cr.box.lt; omega) (fun i hi o => by have := (h.cr.disk.own o).1; omega)
  refine ⟨hd, h.was.turns t h.far.1, ?_, fun k hk => ?_, h.cr.below.trans b1⟩
  · have h1 := h.saf.turns t h.far.2
    have h2 : zC z = zC d.s := by unfold zC; rw [h.kept 0 (by decide) (by decide), h.kept 1 (by decide) (by decide)]
    rw [h2] at h1
    exact h1
  · obtain ⟨A, c, h1, _, h3, h4⟩ := h.seen k hk hk
    exact ⟨A, c, h1, h3, (h4.turns (T := fun i => OwnD g v i ∨ i = p ∨ i = p + 1) (t.more (fun i _ o => .inl o)) (fun _ _ h => h)).sees⟩
theorem FinAt.cells {w W : World} {n0 g p : Nat} {d d' : Dk} {v' u : Nat → Value} (h : FinAt w W n0 g p d d' v' u) {k : Nat} (hk : k < 2) {x : Value} (hx : u k = x) : W.cell? ⟨p, k, none⟩ = some x ∧ W.cell? ⟨p + 1, k, none⟩ = some (.int .i64 (d.s k : Int)) :=
  ⟨hx ▸ (h.was.cell _).trans (wC_get u k hk), (h.saf.cell _).trans (zC_get d.s k hk)⟩

theorem FinAt.head {w W : World} {n0 g p : Nat} {d d' : Dk} {v' u : Nat → Value} (h : FinAt w W n0 g p d d' v' u) {k : Nat} (hk : k < 2) {A : Option Addr} {c : Nat} (hx : u k = .slice A (d.l k).length c) (n : Nat) : Sees .u8 W A ((d.l k).take n) := by
  obtain ⟨A', c', q1, _, q3⟩ := h.seen k hk
  rw [hx] at q1
  injection q1 with q4 q5 q6
  subst q4
  exact q3.take n
theorem two_boxes {w W : World} {T U : TypeId} {a b : Array Value} (h : (w.alloc (.cells a T)).alloc (.cells b U) = W) :
    Hid (Blk W w.heap.size T a) ∧ Hid (Blk W (w.heap.size + 1) U b) ∧ Hid (Below w.heap.size w W) := by
  subst h
  have h2 := Blk.new (w.alloc (.cells a T)) U b
  rw [show (w.alloc (.cells a T)).heap.size = w.heap.size + 1 by simp] at h2
  exact ⟨hid ((Blk.new w T a).alloc _), hid h2, hid (((Below.refl _ w).alloc (Nat.le_refl _) _).alloc (by simp) _)⟩

set_option maxRecDepth 100000 in
set_option maxHeartbeats 20000000 in
theorem walk (A : Option Addr) (os : List OpV) (ca : Nat) (a b : Int) (hos : ∀ o ∈ os, MadeP o) (hl : os.length ≤ 9223372036854775807) (w : World) (hA : SeesP w.heap.size w A os) :
    Calls Try.prog 4 #[.slice A os.length ca, .agg #[.int .i64 a, .int .i64 b]] w fun e w' => e = .returned (.bool true) ∧ Below w.heap.size w w' := by
  have HM := hid hos
  have HA := hid hA
  clear hos hA
  have HN := hid (fun w => new_any 4096 w (by decide) (by decide))
  have HOK : Hid (newD 4096).Ok := hid (newD_ok (by decide) (by decide))
  go_enter Try.func4, Try.ntmps4
  go_upto_region 1 with fail
  obtain ⟨W, hW⟩ : ∃ W, w.alloc (.cells #[.int .i64 a, .int .i64 b] 32) = W := ⟨_, rfl⟩
  rw [hW]
  obtain ⟨K0, KB⟩ := one_box hW
  have HA2 := hid (HA.out.below KB.out)
  obtain ⟨n0, hn0⟩ : ∃ n, w.heap.size = n := ⟨_, rfl⟩
  rw [hn0] at K0 KB HA2
  rw [hn0]
  have HN0 := hid hn0
  clear hW hn0 HA
  go_wp2_with fail
  with_reducible refine (anchor13 _).mono ?_
  rintro e w1 ⟨rfl, hb⟩
  have K1 := hid (K0.out.below hb K0.out.lt)
  have B1 := hid (KB.out.trans (hb.mono (Nat.le_of_lt K0.out.lt)))
  have A1 := hid (HA2.out.below (hb.mono (Nat.le_of_lt K0.out.lt)))
  clear hb K0 KB HA2
  go_wp2_with fail
  with_reducible refine (HN.out _).mono ?_
  rintro e w2 ⟨rfl, D, B⟩
  obtain ⟨g, hg⟩ : ∃ g, w1.heap.size = g := ⟨_, rfl⟩
  have hlt := K1.out.lt
  have C0 : Hid (CrAt w w2 n0 g (newD 4096) noV a b A os) := hid ⟨low_disk (hg ▸ D) (by omega), HOK.out, K1.out.below B hlt, A1.out.below (B.mono (by omega)), B1.out.trans (B.mono (by omega))⟩
  rw [hg]
  clear D B HN hg hlt K1 B1 A1
  by_cases hlen : 40 < os.length
  · have hl2 : (40 : Int) < (os.length : Int) := by omega
    go_wp2
    go_ret
    exact ⟨rfl, by rw [HN0.out]; exact C0.out.below⟩
  · have hl2 : ¬ (40 : Int) < (os.length : Int) := by omega
    go_wp2_with fail
    go_loopw [39] (fun iv wr => ∃ j : Nat, j ≤ os.length ∧ iv = .int .i64 j ∧ Hid (∃ d v, CrAt w wr n0 g d v a b A os)) (fun iv _ => os.length - (intOf iv).toNat)
    case atStart => exact ⟨0, Nat.zero_le _, rfl, hid ⟨_, _, C0.out⟩⟩
    case round =>
      clear C0
      obtain ⟨j, hj, rfl, HC⟩ := hrel
      obtain ⟨d, v, hc⟩ := HC.out
      have HP := hid hc
      clear hc HC
      by_cases hlt : j < os.length
      · obtain ⟨bb, o, rfl, hb0, ⟨c0, c1, c2, c3⟩, _⟩ := HP.out.args j hlt
        have HHeld := hid (fun W (S : CrAt w W n0 g d v a b (some ⟨bb, o, none⟩) os) => by
          obtain ⟨_, _, _, _, _, h⟩ := S.args j hlt
          exact h)
        obtain ⟨op, hop⟩ : ∃ op, os[j] = op := ⟨_, rfl⟩
        have hmem : op ∈ os := by rw [← hop]; exact List.getElem_mem hlt
        have HMade := hid (HM.out op hmem)
        rw [hop] at c0 c1 c2 c3 HHeld
        clear hop hmem
        obtain ⟨kd, f, n, C, l, c⟩ := op
        simp only at c0 c1 c2 c3 HHeld
        obtain ⟨ln, hln⟩ : ∃ y, l.length = y := ⟨_, rfl⟩
        have HLN := hid hln
        rw [hln] at c3
        clear hln
        have hbw : bb < wr.heap.size := by have := HP.out.box.lt; omega
        go_upto_region 9 with fail
        obtain ⟨W1, hW1⟩ : ∃ W1, wr.alloc (.cells #[.int .i64 kd, .int .i64 f, .int .i64 n, .slice C ln c] 30) = W1 := ⟨_, rfl⟩
        rw [hW1]
        obtain ⟨K0, KB⟩ := one_box hW1
        have P1 := hid (HP.out.on KB.out)
        have HNQ : Hid (¬ OwnD g v wr.heap.size) := hid (fun e => by have := (HP.out.disk.own e).2; omega)
        obtain ⟨q, hq⟩ : ∃ q, wr.heap.size = q := ⟨_, rfl⟩
        rw [hq] at K0 hbw HNQ
        rw [hq]
        clear hW1 HP KB hq c0 c1 c2 c3
        obtain ⟨c0, c1, c2, c3⟩ := op_cells4 K0.out
        by_cases h5 : kd = 5
        · subst h5
          have P2 : Hid (∃ d v, CrAt w W1 n0 g d v a b (some ⟨bb, o, none⟩) os) := hid ⟨d, v, P1.out⟩
          go_wp2
          go_roundw
          case rel => exact ⟨j + 1, by omega, by go_num, P2⟩
          case measure => simp only [intOf]; omega
        · have h6 : (kd == 5) = false := by simpa using h5
          by_cases h7 : 5000 < ln
          · have h8 : (5000 : Int) < (ln : Int) := by omega
            have P2 : Hid (∃ d v, CrAt w W1 n0 g d v a b (some ⟨bb, o, none⟩) os) := hid ⟨d, v, P1.out⟩
            go_wp2
            go_roundw
            case rel => exact ⟨j + 1, by omega, by go_num, P2⟩
            case measure => simp only [intOf]; omega
          · have h8 : ¬ (5000 : Int) < (ln : Int) := by omega
            have hroom : ln ≤ c := by rw [← HLN.out]; exact HMade.out.room
            have HStep := hid (fun W (P : CrAt w W n0 g d v a b (some ⟨bb, o, none⟩) os) => step_any kd (n0 + 1) g d v (newD 4096) noV f n C l ln c W P.disk P.ok (fun k _ => ⟨none, 0, rfl, fun _ => rfl, Nat.le_refl _, Apart.nil _ _ _⟩) HOK.out HLN.out HMade.out.bare hroom HMade.out.most
              (Apart.of_sees ((HHeld.out W P).sees (by have := P.box.lt; omega)) (fun b1 o1 e hne hb => by
                have h1 := (P.disk.own hb).1
                cases l with
                | nil => exact hne rfl
                | cons y ys =>
                  obtain ⟨b', o', e2, hlt', _⟩ := HHeld.out W P 0 y rfl
                  rw [e] at e2
                  injection e2 with e2
                  injection e2 with e3 e4
                  omega)))
            have HOK3 := hid (stepD_ok P1.out.ok kd f HMade.out.num l)
            have HRN := hid (fun w => refnew_any 4096 w)
            clear hroom HHeld HMade
            go_upto_region 10 with fail
            go_region_held3 (fun w' => w'.cell? ⟨q, 0, none⟩ = some (.int .i64 kd) ∧ w'.cell? ⟨q, 1, none⟩ = some (.int .i64 f) ∧ w'.cell? ⟨q, 2, none⟩ = some (.int .i64 n) ∧ w'.cell? ⟨q, 3, none⟩ = some (.slice C ln c))
              (first | exact op_cells4 K0.out | exact op_cells4 K1.out | exact op_cells4 K2.out | exact op_cells4 (K0.out.drew))
              (first
                | (go_at_call 7; (with_reducible refine (HRN.out _).mono ?_); rintro e1 w3 ⟨rfl, hb3⟩; have P2 := hid (P1.out.on ((below_drew (Below.refl _ W1)).trans hb3)); have K1 := hid (K0.out.drew.below hb3 K0.out.lt))
                | (go_at_call 13; (with_reducible refine (HStep.out _ P2.out).mono ?_); rintro e2 w4 ⟨v4, x4, rfl, D4, R4, T4, O4⟩; have P3 := hid (P2.out.did D4 T4 HOK3.out); have K2 := hid (K1.out.turns T4 HNQ.out)))
            have P4 : Hid (∃ d v, CrAt w w4 n0 g d v a b (some ⟨bb, o, none⟩) os) := hid ⟨_, _, P3.out⟩
            rename_i hHeld
            clear hHeld hb3 D4 R4 T4 O4 P3 K2 P2 K1 P1 K0 c0 c1 c2 c3
            go_wp2
            go_roundw
            case rel => exact ⟨j + 1, by omega, by go_num, P4⟩
            case measure => simp only [intOf]; omega
      · go_upto_region 14 with fail
        obtain ⟨W2, hW2⟩ : ∃ W2, (wr.alloc (.cells #[.slice none 0 0, .slice none 0 0] 31)).alloc (.cells #[.int .i64 0, .int .i64 0] 32) = W2 := ⟨_, rfl⟩
        rw [hW2]
        obtain ⟨K0, K1, KB⟩ := two_boxes hW2
        have Q0 : Hid (WaAt w W2 n0 g d v a b A os wr.heap.size noV (fun _ => 0) 0) := hid ⟨HP.out.on KB.out, K0.out, K1.out, ⟨fun e => by have := (HP.out.disk.own e).2; omega, fun e => by have := (HP.out.disk.own e).2; omega⟩, HP.out.box.lt, fun k hk => absurd hk (by omega), fun k hk => absurd hk (by omega)⟩
        obtain ⟨p, hp⟩ : ∃ p, wr.heap.size = p := ⟨_, rfl⟩
        rw [hp] at Q0
        rw [hp]
        clear hW2 K0 K1 KB hp HP hlt hj HM HOK
        go_wp2_with fail
        go_loopw [57] (fun iv wr => ∃ j : Nat, j ≤ 2 ∧ iv = .int .i64 j ∧ Hid (∃ u z, WaAt w wr n0 g d v a b A os p u z j)) (fun iv _ => 2 - (intOf iv).toNat)
        case atStart => exact ⟨0, by decide, rfl, hid ⟨_, _, Q0.out⟩⟩
        case round =>
          clear Q0
          obtain ⟨j, hj, rfl, HQ⟩ := hrel
          obtain ⟨u, z, hq⟩ := HQ.out
          have Q0 := hid hq.drew
          have HJ := hid hq
          clear HQ hq
          by_cases hlt : j < 2
          · have hj2 : (j : Int) < 2 := by omega
            have HR := hid (fun W u z (S : WaAt w W n0 g d v a b A os p u z j) => read_at (n0 + 1) g d v j (j : Int) W S.cr.disk S.cr.ok rfl hlt)
            have HS := hid (fun W u z (S : WaAt w W n0 g d v a b A os p u z j) => safe_at (n0 + 1) g d v j (j : Int) W S.cr.disk rfl hlt)
            obtain ⟨sj, hsj⟩ : ∃ s, d.s j = s := ⟨_, rfl⟩
            have HSJ := hid hsj
            rw [hsj] at HS
            clear hsj
            have QZ := hid (Q0.out.setZ hlt sj)
            obtain ⟨⟨c0, f0⟩, c1, f1⟩ := Q0.out.cells hlt
            go_wp2_with fail
            go_region_with (first
              | (go_at_call 14; (first | ((with_reducible refine (HR.out _ _ _ Q0.out).mono ?_); intro e1 w3 hm; obtain ⟨s3, rfl, hown3, hb3⟩ := hm; have Q1 := hid (Q0.out.on hb3); have L1 := hid (read_apart hown3 Q0.out.apart); obtain ⟨A3, c3, rfl, _⟩ := L1.out; obtain ⟨⟨c4, f4⟩, c5, f5⟩ := Q1.out.cells hlt; clear hown3 hb3) | ((with_reducible refine (HR.out _ _ _ QZ.out).mono ?_); intro e1 w3 hm; obtain ⟨s3, rfl, hown3, hb3⟩ := hm; have Q1 := hid (QZ.out.on hb3); have L1 := hid (read_apart hown3 QZ.out.apart); obtain ⟨A3, c3, rfl, _⟩ := L1.out; obtain ⟨⟨c4, f4⟩, c5, f5⟩ := Q1.out.cells hlt; clear hown3 hb3)))
              | (go_at_call 15; (first | ((with_reducible refine (HS.out _ _ _ Q0.out).mono ?_); rintro e2 w4 ⟨rfl, rfl⟩) | ((with_reducible refine (HS.out _ _ _ Q1.out).mono ?_); rintro e2 w4 ⟨rfl, rfl⟩) | ((with_reducible refine (HS.out _ _ _ (Q1.out.setU hlt _)).mono ?_); rintro e2 w4 ⟨rfl, rfl⟩))))
            have t : Turns (fun i => OwnD g v i ∨ i = p ∨ i = p + 1) w3 ((w3.setCell ⟨p, j, none⟩ (.slice A3 (d.l j).length c3)).setCell ⟨p + 1, j, none⟩ (.int .i64 (sj : Int))) := ((Turns.refl _ _).set (.inl (.inr (.inl rfl))) _).set (.inl (.inr (.inr rfl))) _
            have C5 : Hid (∃ u z, WaAt w ((w3.setCell ⟨p, j, none⟩ (.slice A3 (d.l j).length c3)).setCell ⟨p + 1, j, none⟩ (.int .i64 (sj : Int))) n0 g d v a b A os p u z (j + 1)) := hid (by
              obtain ⟨A9, c9, e9, a9, b9, s9⟩ := L1.out
              exact ⟨_, _, ((Q1.out.setU hlt _).setZ hlt sj).done (by rw [updD_at]; exact HSJ.out.symm) (by rw [updD_at]; exact e9) a9 b9 (s9.turns t (fun _ _ h => h))⟩)
            clear t Q1 L1 QZ Q0 HR HS c0 f0 c1 f1 c4 f4 c5 f5
            go_wp2
            go_roundw
            case rel => exact ⟨j + 1, by omega, by go_num, C5⟩
            case measure => simp only [intOf]; omega
          · obtain rfl : j = 2 := by omega
            obtain ⟨k0, k1⟩ := two_cells HJ.out.cr.box
            have HCr := hid (crash_any (n0 + 1) g d v a b _ HJ.out.cr.disk HJ.out.cr.ok)
            go_wp2_with fail
            with_reducible refine HCr.out.mono ?_
            rintro e w5 ⟨v5, rfl, D, T, O⟩
            have F0 := hid (FinAt.of HJ.out D T)
            have HO5 := hid (crashD_ok HJ.out.cr.ok a b)
            have HOd := hid HJ.out.cr.ok
            clear D T O HCr k0 k1 Q0 HJ
            go_wp2_with fail
            go_loopw [74] (fun iv wr => ∃ j : Nat, j ≤ 2 ∧ iv = .int .i64 j ∧ Hid (FinAt w wr n0 g p d (crashD d a b) v5 u)) (fun iv _ => 2 - (intOf iv).toNat)
            case atStart => exact ⟨0, by decide, rfl, F0⟩
            case round =>
              clear F0
              obtain ⟨j, hj, rfl, HF⟩ := hrel
              by_cases hlt2 : j < 2
              · have hj2 : (j : Int) < 2 := by omega
                obtain ⟨i0, hi, _⟩ := info_parts info_u8
                obtain ⟨Au, cu, e1, hcu, hsu⟩ := HF.out.seen j hlt2
                have HR := hid (fun W (S : FinAt w W n0 g p d (crashD d a b) v5 u) => read_at (n0 + 1) g (crashD d a b) v5 j (j : Int) W S.disk HO5.out rfl hlt2)
                have HS := hid (fun W (S : FinAt w W n0 g p d (crashD d a b) v5 u) => safe_at (n0 + 1) g (crashD d a b) v5 j (j : Int) W S.disk rfl hlt2)
                have hl5 := crash_l d a b j hlt2
                have hs5 := crash_s d a b j hlt2
                have hr1 := restD_le HOd.out hlt2 (keepAt a b j)
                have hr2 : d.s j ≤ restD d j (keepAt a b j) := Nat.le_add_right _ _
                have hlen5 := HOd.out.len hlt2
                have HTwo := hid (fun W (S : FinAt w W n0 g p d (crashD d a b) v5 u) => S.cells hlt2 e1)
                have HSe := hid (fun W (S : FinAt w W n0 g p d (crashD d a b) v5 u) => S.head hlt2 e1 (restD d j (keepAt a b j)))
                rw [hl5] at HR
                rw [hs5] at HS
                obtain ⟨r, hr⟩ : ∃ r, restD d j (keepAt a b j) = r := ⟨_, rfl⟩
                rw [hr] at HR HS hr1 hr2 HSe
                obtain ⟨lr, hlr⟩ : ∃ l, (d.l j).take r = l := ⟨_, rfl⟩
                have HLR : Hid (lr.length = r) := hid (by rw [← hlr, List.length_take]; omega)
                rw [hlr] at HR HSe
                obtain ⟨ln, hln⟩ : ∃ n, (d.l j).length = n := ⟨_, rfl⟩
                obtain ⟨sj, hsj⟩ : ∃ n, d.s j = n := ⟨_, rfl⟩
                rw [hln] at hr1 hlen5 hcu HTwo
                rw [hsj] at hr2 HTwo
                have hcut := fun w => cut_head (P := Try.prog) 28 5 i0 Try.underlying28 hi Au hr1 hcu w
                have hg1 : ¬ ((r : Int) < (sj : Int)) := by omega
                have hg2 : ¬ ((ln : Int) < (r : Int)) := by omega
                have hg3 : decide ((r : Int) < (sj : Int)) = false := by simp; omega
                have hg4 : decide ((ln : Int) < (r : Int)) = false := by simp; omega
                clear e1 hsu hl5 hs5 hr hlr hln hsj hi
                go_wp2_with fail
                with_reducible refine (HR.out _ HF.out).mono ?_
                intro e1 w6 hm
                obtain ⟨A6, c6, rfl, _, _, hs6, hb6⟩ := hm.hands
                have F1 := hid (HF.out.on hb6)
                have HS6 := hid hs6
                rw [HLR.out]
                obtain ⟨k0, k1⟩ := HTwo.out _ F1.out
                clear hm hb6 hs6 HF HR
                go_wp2_with fail
                with_reducible refine (same_as A6 Au lr r c6 cu _ (by omega) HLR.out HS6.out (HSe.out _ F1.out)).mono ?_
                rintro e2 w7 ⟨rfl, hb7⟩
                have F2 := hid (F1.out.on hb7)
                clear hb7 F1 k0 k1
                go_wp2_with fail
                with_reducible refine (HS.out _ F2.out).mono ?_
                rintro e3 w8 ⟨rfl, rfl⟩
                clear HS HTwo HSe
                go_wp2
                go_roundw
                case rel => exact ⟨j + 1, by omega, by go_num, F2⟩
                case measure => simp only [intOf]; omega
              · have HDn := hid (down_any g (crashD d a b) wr HF.out.disk.cells.2.2.2.2.2.2.2)
                have HSy := hid (sync_any (n0 + 1) g (crashD d a b) v5 0 wr HF.out.disk HO5.out)
                rw [crash_sync] at HSy
                rw [show (crashD d a b).dn = false from rfl] at HDn
                go_wp2_with fail
                with_reducible refine HDn.out.mono ?_
                rintro e3 w8 ⟨rfl, rfl⟩
                go_wp2_with fail
                with_reducible refine HSy.out.mono ?_
                rintro e3 w9 ⟨v9, rfl, D, T, O⟩
                have HB : Hid (Below w.heap.size w w9) := hid (by
                  rw [HN0.out]
                  exact HF.out.below.trans (T.below (by have := HF.out.disk.base_le; omega) (fun i hi o => by have := (HF.out.disk.own o).1; omega)))
                clear D T O HSy HDn HF
                go_wp2
                go_ret
                exact ⟨rfl, HB.out⟩

end Go.Proofs.Ytmedfcpohmhbbaa.diskCrashes
