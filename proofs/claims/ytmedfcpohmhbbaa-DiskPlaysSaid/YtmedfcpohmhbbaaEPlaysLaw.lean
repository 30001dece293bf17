/-
  DiskPlays: every play of a disk is the document's, byte by byte, wherever its power goes; a copy is the same, and stands by itself.
-/
import Derived.Test.YtmedfcpohmhbbaaEOpen
namespace Go.Proofs.Ytmedfcpohmhbbaa.diskPlays
open Go.ChangeShapes Go.WideShapes Go.ChangeAt Go.RowKit
set_option linter.unusedVariables false
set_option linter.unusedSimpArgs false

theorem low_disk {w : World} {base base' g : Nat} {d : Dk} {v : Nat → Value} (h : DiskAt w base g d v) (hb : base' ≤ base) : DiskAt w base' g d v := ⟨h.blk, Nat.le_trans hb h.low, fun k hk => own_low (h.row k hk) hb, h.apart⟩

/-- Before the document's disk is made. -/
structure PreAt (w W : World) (g : Nat) (a : Int) (A : Option Addr) (os : List OpV) : Prop where
  disk : DiskAt W w.heap.size g (newD a) noV
  args : SeesP w.heap.size W A os
  below : Below w.heap.size w W
theorem PreAt.on {w W W' : World} {g : Nat} {a : Int} {A : Option Addr} {os : List OpV} (h : PreAt w W g a A os) (k : Below W.heap.size W W') : PreAt w W' g a A os :=
  ⟨h.disk.on k, h.args.below (k.mono h.below.size), h.below.trans (k.mono h.below.size)⟩
/-- Between two steps. -/
structure PlAt (w W : World) (g p : Nat) (d : Dk) (v x : Nat → Value) (A : Option Addr) (os : List OpV) : Prop where
  disk : DiskAt W w.heap.size g d v
  ref : RefAt (OwnD g v) W d x
  box : Blk W p 34 (rC d x)
  far : ¬ OwnD g v p
  args : SeesP w.heap.size W A os
  below : Below w.heap.size w W
  ok : d.Ok
  low : w.heap.size ≤ p
theorem PlAt.on {w W W' : World} {g p : Nat} {d : Dk} {v x : Nat → Value} {A : Option Addr} {os : List OpV} (h : PlAt w W g p d v x A os) (k : Below W.heap.size W W') : PlAt w W' g p d v x A os :=
  ⟨h.disk.on k, h.ref.on k, h.box.below k h.box.lt, h.far, h.args.below (k.mono h.below.size), h.below.trans (k.mono h.below.size), h.ok, h.low⟩
theorem PlAt.begin {w W : World} {g : Nat} {a : Int} {A : Option Addr} {os : List OpV} (h : PreAt w W g a A os) (ho : (newD a).Ok) : PlAt w (W.alloc (.cells #[.int .i64 a, .slice none 0 0, .slice none 0 0, .int .i64 0, .int .i64 0, .int .i64 (-1), .bool false] 34)) g W.heap.size (newD a) noV noV A os := by
  have h1 := h.on ((Below.refl W.heap.size W).alloc (Nat.le_refl _) (.cells #[.int .i64 a, .slice none 0 0, .slice none 0 0, .int .i64 0, .int .i64 0, .int .i64 (-1), .bool false] 34))
  exact ⟨h1.disk, fun k _ => ⟨none, 0, rfl, fun _ => rfl, Nat.le_refl _, Apart.nil _ _ _⟩, Blk.new W _ _, fun e => by have := (h.disk.own e).2; omega, h1.args, h1.below, ho, h.below.size⟩

/-- A row that isn't of bytes is not what is seen. -/
theorem ref_apart {S T : Nat → Prop} {w : World} {p : Nat} {d d' : Dk} {x x' : Nat → Value} (B : Blk w p 34 (rC d x)) (hx : RefAt T w d x) (h : RefAt S w d' x') : RefAt (fun j => S j ∨ j = p) w d' x' := fun k hk => by
  obtain ⟨A, c, e1, e2, e3, e4⟩ := h k hk
  refine ⟨A, c, e1, e2, e3, fun j y hj => ?_⟩
  obtain ⟨b, o, r1, r2, r3, r4⟩ := e4 j y hj
  refine ⟨b, o, r1, r2, fun e => ?_, r4⟩
  rcases e with e | e
  · exact r3 e
  · subst e
    obtain ⟨A0, c0, A1, c1, h0, h1⟩ := hx.open
    rw [B.cell] at r4
    unfold rC at r4
    rw [h0, h1] at r4
    match hm : o + j, r4 with
    | 0, r4 => simp at r4
    | 1, r4 => simp at r4
    | 2, r4 => simp at r4
    | 3, r4 => simp at r4
    | 4, r4 => simp at r4
    | 5, r4 => simp at r4
    | 6, r4 => simp at r4
    | n + 7, r4 => simp at r4

/-- Behind a step. -/
theorem PlAt.step {w W W' : World} {g p : Nat} {d d' : Dk} {v v' x x' : Nat → Value} {A : Option Addr} {os : List OpV} (h : PlAt w W g p d v x A os) (hd : DiskAt W' w.heap.size g d' v') (hr : RefAt (OwnD g v') W' d' x') (t : Turns (OwnD g v) W W') (o : ∀ b, OwnD g v' b → OwnD g v b ∨ W.heap.size ≤ b) (ho : d'.Ok) :
    Blk W' p 34 (rC d x) ∧ PlAt w (W'.setRow p (rC d' x')) g p d' v' x' A os := by
  have B := h.box.turns t h.far
  have far' : ¬ OwnD g v' p := fun e => (o p e).elim h.far (fun k => by have := h.box.lt; omega)
  have b1 : Below w.heap.size W W' := t.below h.below.size (fun i hi e => by have := (h.disk.own e).1; omega)
  have tz : Turns (fun j => j = p) W' (W'.setRow p (rC d' x')) := setRow_turns (S := fun j => j = p) (g := p) (Turns.refl _ _) (.inl rfl) _
  have hx' : RefAt (fun j => OwnD g v' j ∨ j = p) W' d' x' := ref_apart B (h.ref.turns t (T := fun _ => False) (fun _ _ h => h.elim)) hr
  have b2 : Below w.heap.size W' (W'.setRow p (rC d' x')) := tz.below (Nat.le_trans h.below.size b1.size) (fun i hi e => by have := h.low; omega)
  exact ⟨B, hd.stay tz (fun b hb e => far' (e ▸ hb)), (hx'.turns (T := OwnD g v') (tz.more (fun i _ e => .inr e)) (fun _ _ e => .inl e)), B.rowE, far', (h.args.below b1).below b2, (h.below.trans b1).trans b2, ho, h.low⟩

def playD (d : Dk) (os : List OpV) : Dk := os.foldl (fun d o => (stepD d o.kd o.f o.n o.l).1) d
theorem playD_take (d : Dk) (os : List OpV) (j : Nat) (hj : j < os.length) : playD d (os.take (j + 1)) = (stepD (playD d (os.take j)) os[j].kd os[j].f os[j].n os[j].l).1 := by
  rw [List.take_succ_eq_append_getElem hj]
  unfold playD
  rw [List.foldl_append]
  rfl

set_option maxRecDepth 100000 in
set_option maxHeartbeats 400000 in
theorem refnew_lit (size : Int) (w : World) :
    Calls Try.prog 7 #[.int .i64 size] w fun e w' => e = .returned (.agg #[.int .i64 size, .slice none 0 0, .slice none 0 0, .int .i64 0, .int .i64 0, .int .i64 (-1), .bool false]) ∧ Below w.heap.size w w' :=
  (refnew_any size w).mono fun e w' h => h

set_option maxRecDepth 100000 in
set_option maxHeartbeats 20000000 in
theorem walk (a : Int) (A : Option Addr) (os : List OpV) (ca : Nat) (ha : (Lit.int .i64 a).wf = true) (hos : ∀ o ∈ os, MadeP o) (hl : os.length ≤ 9223372036854775807) (w : World) (hA : SeesP w.heap.size w A os) :
    Calls Try.prog 3 #[.int .i64 a, .slice A os.length ca] w fun e w' => e = .returned (.bool true) ∧ Below w.heap.size w w' := by
  have HM := hid hos
  have HA := hid hA
  clear hos hA ha
  rcases (show (a < 1024 ∨ 4194304 < a) ∨ (1024 ≤ a ∧ a ≤ 4194304) by omega) with hs | ⟨hs0, hs1⟩
  · have HN := hid (fun w => new_not a w hs)
    go_enter Try.func3, Try.ntmps3
    go_wp2_with fail
    with_reducible refine (anchor13 _).mono ?_
    rintro e w1 ⟨rfl, hb⟩
    have HB := hid hb
    clear hb
    go_wp2_with fail
    with_reducible refine (HN.out _).mono ?_
    rintro e w2 ⟨rfl, rfl⟩
    rcases hs with hs | hs
    · go_wp2
      go_ret
      exact ⟨rfl, HB.out⟩
    · have hs2 : 1024 ≤ a := by omega
      go_wp2
      go_ret
      exact ⟨rfl, HB.out⟩
  · have HN := hid (fun w => new_any a w hs0 hs1)
    have HOK := hid (newD_ok hs0 hs1)
    go_enter Try.func3, Try.ntmps3
    go_wp2_with fail
    with_reducible refine (anchor13 _).mono ?_
    rintro e w1 ⟨rfl, hb⟩
    have HB := hid hb
    clear hb
    go_wp2_with fail
    with_reducible refine (HN.out _).mono ?_
    rintro e w2 ⟨rfl, D, B⟩
    obtain ⟨g, hg⟩ : ∃ g, w1.heap.size = g := ⟨_, rfl⟩
    rw [hg] at D B
    rw [hg]
    have P0 : Hid (PreAt w w2 g a A os) := hid ⟨low_disk D (by have := HB.out.size; omega), (HA.out.below HB.out).below (B.mono (by have := HB.out.size; omega)), HB.out.trans (B.mono (by have := HB.out.size; omega))⟩
    clear D B HB HN HA hg
    by_cases hlen : 40 < os.length
    · have hl2 : (40 : Int) < (os.length : Int) := by omega
      go_wp2
      go_ret
      exact ⟨rfl, P0.out.below⟩
    · have hl2 : ¬ (40 : Int) < (os.length : Int) := by omega
      go_wp2_with fail
      go_loopw [44] (fun iv wr => ∃ j : Nat, j ≤ os.length ∧ iv = .int .i64 j ∧ Hid (PreAt w wr g a A os) ∧ Hid (∀ o ∈ os.take j, o.l.length ≤ 3000)) (fun iv _ => os.length - (intOf iv).toNat)
      case atStart => exact ⟨0, Nat.zero_le _, rfl, P0, hid (fun o h => by simp at h)⟩
      case round =>
        clear P0
        obtain ⟨j, hj, rfl, HP, HT⟩ := hrel
        by_cases hlt : j < os.length
        · obtain ⟨b, o, rfl, hb0, ⟨c0, c1, c2, c3⟩, _⟩ := HP.out.args j hlt
          have HT2 : Hid (os[j].l.length ≤ 3000 → ∀ o ∈ os.take (j + 1), o.l.length ≤ 3000) := hid (fun h o ho => by
            rw [List.take_succ_eq_append_getElem hlt] at ho
            rcases List.mem_append.1 ho with h1 | h1
            · exact HT.out o h1
            · rw [List.mem_singleton.1 h1]; exact h)
          obtain ⟨op, hop⟩ : ∃ op, os[j] = op := ⟨_, rfl⟩
          rw [hop] at c0 c1 c2 c3 HT2
          clear hop
          obtain ⟨kd, f, n, C, l, c⟩ := op
          simp only at c0 c1 c2 c3 HT2
          obtain ⟨ln, hln⟩ : ∃ x, l.length = x := ⟨_, rfl⟩
          rw [hln] at c3 HT2
          have HP2 := hid (HP.out.on ((Below.refl wr.heap.size wr).alloc (Nat.le_refl _) (.cells #[.int .i64 kd, .int .i64 f, .int .i64 n, .slice C ln c] 30)))
          have hbw : b < wr.heap.size := Nat.lt_of_lt_of_le hb0 HP.out.below.size
          clear hln HP
          by_cases h3 : 3000 < ln
          · have h4 : (3000 : Int) < (ln : Int) := by omega
            go_wp2
            go_ret
            exact ⟨rfl, HP2.out.below⟩
          · have h4 : ¬ (3000 : Int) < (ln : Int) := by omega
            have HT3 := hid (HT2.out (by omega))
            go_wp2
            go_roundw
            case rel => exact ⟨j + 1, by omega, by go_num, HP2, HT3⟩
            case measure => simp only [intOf]; omega
        · obtain rfl : j = os.length := by omega
          rw [List.take_length] at HT
          go_wp2_with fail
          with_reducible refine (refnew_lit a _).mono ?_
          rintro e w3 ⟨rfl, hb⟩
          have HP3 := hid (HP.out.on hb)
          clear hb HP
          go_upto_region 18 with fail
          have P1 := hid (PlAt.begin HP3.out HOK.out)
          obtain ⟨W, hW⟩ : ∃ W, w3.alloc (.cells #[.int .i64 a, .slice none 0 0, .slice none 0 0, .int .i64 0, .int .i64 0, .int .i64 (-1), .bool false] 34) = W := ⟨_, rfl⟩
          rw [hW] at P1
          rw [hW]
          clear hW HP3
          obtain ⟨p, hp⟩ : ∃ p, w3.heap.size = p := ⟨_, rfl⟩
          rw [hp] at P1
          rw [hp]
          clear hp hj hlt
          have HOK2 : Hid (playD (newD a) (os.take 0) = newD a) := hid rfl
          go_wp2_with fail
          go_loopw [57] (fun iv wr => ∃ j : Nat, j ≤ os.length ∧ iv = .int .i64 j ∧ Hid (∃ v x, PlAt w wr g p (playD (newD a) (os.take j)) v x A os)) (fun iv _ => os.length - (intOf iv).toNat)
          case atStart => exact ⟨0, Nat.zero_le _, rfl, hid ⟨noV, noV, by rw [HOK2.out]; exact P1.out⟩⟩
          case round =>
            clear P1 HOK2
            obtain ⟨j, hj, rfl, HPL⟩ := hrel
            obtain ⟨v, x, hpl⟩ := HPL.out
            by_cases hlt : j < os.length
            · obtain ⟨b, o, rfl, hb0, ⟨c0, c1, c2, c3⟩, _⟩ := hpl.args j hlt
              have HPl := hid (playD_take (newD a) os j hlt)
              have HHeld := hid (fun W (S : PlAt w W g p (playD (newD a) (os.take j)) v x (some ⟨b, o, none⟩) os) => by
                obtain ⟨_, _, _, _, _, h⟩ := S.args j hlt
                exact h)
              obtain ⟨op, hop⟩ : ∃ op, os[j] = op := ⟨_, rfl⟩
              have hmem : op ∈ os := by rw [← hop]; exact List.getElem_mem hlt
              have HMade := hid (HM.out op hmem)
              rw [hop] at c0 c1 c2 c3 HPl HHeld
              clear hop hmem
              have P0 := hid hpl
              clear hpl HPL
              obtain ⟨d, hd⟩ : ∃ d, playD (newD a) (os.take j) = d := ⟨_, rfl⟩
              rw [hd] at P0 HPl HHeld
              clear hd
              obtain ⟨kd, f, n, C, l, c⟩ := op
              simp only at c0 c1 c2 c3 HPl HHeld
              obtain ⟨ln, hln⟩ : ∃ y, l.length = y := ⟨_, rfl⟩
              have HLN := hid hln
              rw [hln] at c3
              clear hln
              have hbw : b < wr.heap.size := Nat.lt_of_lt_of_le hb0 P0.out.below.size
              go_upto_region 20 with fail
              obtain ⟨W1, hW1⟩ : ∃ W1, wr.alloc (.cells #[.int .i64 kd, .int .i64 f, .int .i64 n, .slice C ln c] 30) = W1 := ⟨_, rfl⟩
              rw [hW1]
              obtain ⟨K0, KB⟩ := one_box hW1
              have P1 := hid (P0.out.on KB.out)
              obtain ⟨q, hq⟩ : ∃ q, wr.heap.size = q := ⟨_, rfl⟩
              rw [hq] at K0 hbw
              rw [hq]
              clear hW1 P0 KB hq c0 c1 c2 c3
              have HCopy := hid (copy_any w.heap.size g d v W1 P1.out.disk P1.out.ok)
              go_wp2_with fail
              with_reducible refine HCopy.out.mono ?_
              rintro e w4 ⟨vc, rfl, D, B⟩
              have M0 : Hid (Mine W1 w4 W1.heap.size d vc) := hid ⟨D, B⟩
              have P2 := hid (P1.out.on B)
              clear D B HCopy
              have T1 := hid (rC_size d x)
              have TB := hid P2.out.box.heap
              have HSame := hid (fun W4 (M : Mine W1 W4 W1.heap.size d vc) (P : PlAt w W4 g p d v x (some ⟨b, o, none⟩) os) => same_any W1.heap.size W1.heap.size d vc x W4 M.disk P.ok P.ref)
              go_wp2_with (first
                | (with_reducible refine wpList_load_row (o := ⟨some 64, _, _, _, _, _⟩) rfl 34 (.tmp 9) rfl p rfl 34 (rC d x) (0, 0) _ TB.out Try.underlying34 rfl T1.out ?_))
              with_reducible refine (HSame.out _ M0.out P2.out).mono ?_
              rintro e w5 ⟨rfl, hb⟩
              have M1 := hid (M0.out.on hb)
              clear hb M0 P2 TB HSame
              have HO1 := hid (trimD_ok P1.out.ok 0 0)
              have HTrim := hid (fun W (M : Mine W1 W W1.heap.size d vc) => trim_any W1.heap.size W1.heap.size d vc 0 0 W M.disk P1.out.ok)
              obtain ⟨d1, hd1⟩ : ∃ y, (trimD d 0 0).1 = y := ⟨_, rfl⟩
              obtain ⟨e1, he1⟩ : ∃ y, (trimD d 0 0).2 = y := ⟨_, rfl⟩
              rw [hd1] at HO1
              rw [hd1, he1] at HTrim
              clear hd1 he1
              go_wp2_with fail
              with_reducible refine (HTrim.out _ M1.out).mono ?_
              intro e w6 hd
              obtain ⟨vc2, rfl, m⟩ := M1.out.did hd
              have M2 := hid m
              clear m hd M1 HTrim
              have HArm := hid (fun W (M : Mine W1 W W1.heap.size d1 vc2) => arm_any W1.heap.size W1.heap.size d1 vc2 0 W M.disk)
              have HO2 := hid (armD_ok HO1.out (n := 0) (by decide))
              obtain ⟨d2, hd2⟩ : ∃ y, armD d1 0 = y := ⟨_, rfl⟩
              rw [hd2] at HArm HO2
              clear hd2
              go_wp2_with fail
              with_reducible refine (HArm.out _ M2.out).mono ?_
              intro e w7 hd
              obtain ⟨vc3, rfl, m⟩ := M2.out.did hd
              have M3 := hid m
              clear m hd M2 HArm
              have HApp := hid (fun W (bb : Nat) (M : Mine W1 W W1.heap.size d2 vc3) hb => append_any W1.heap.size W1.heap.size d2 vc3 1 (some ⟨bb, 0, none⟩) [9] 1 1 W M.disk HO2.out rfl (fun h => by cases h) (by decide) (by decide) hb)
              obtain ⟨d3, hd3⟩ : ∃ y, (appD d2 1 [9]).1 = y := ⟨_, rfl⟩
              obtain ⟨e3, he3⟩ : ∃ y, (appD d2 1 [9]).2 = y := ⟨_, rfl⟩
              rw [hd3, he3] at HApp
              clear hd3 he3
              go_wp2_with fail
              have M4 := hid (M3.out.on ((Below.refl w7.heap.size w7).alloc (Nat.le_refl _) (.cells #[.int .u8 9] 5)))
              have HAp : Hid (Apart (OwnD W1.heap.size vc3) (w7.alloc (.cells #[.int .u8 9] 5)) (some ⟨w7.heap.size, 0, none⟩) [9]) := hid (Apart.of_sees (seesE_one (x := 9) _) (fun b o e _ hb => by
                injection e with e
                injection e with e1 e2
                have := (M3.out.disk.own hb).2
                omega))
              with_reducible refine (HApp.out _ _ M4.out HAp.out).mono ?_
              intro e w8 hd
              obtain ⟨vc4, rfl, m⟩ := M4.out.did hd
              have P3 := hid (P1.out.on m.below)
              have K1 := hid (K0.out.below m.below K0.out.lt)
              clear m hd M3 M4 HAp HApp HO1 HO2 P1 K0
              obtain ⟨c0, c1, c2, c3⟩ := op_cells4 K1.out
              have HOK3 := hid (stepD_ok P3.out.ok kd f HMade.out.num l)
              have hroom : ln ≤ c := by rw [← HLN.out]; exact HMade.out.room
              have HStep := hid (fun W (P : PlAt w W g p d v x (some ⟨b, o, none⟩) os) => step_any kd w.heap.size g d v d x f n C l ln c W P.disk P.ok P.ref P.ok HLN.out HMade.out.bare hroom HMade.out.most
                (Apart.of_sees ((HHeld.out W P).sees P.below.size) (fun bb oo e hne hb => by
                  have h1 := (P.disk.own hb).1
                  cases l with
                  | nil => exact hne rfl
                  | cons y ys =>
                    obtain ⟨b', o', e2, hlt', _⟩ := HHeld.out W P 0 y rfl
                    rw [e] at e2
                    injection e2 with e2
                    injection e2 with e3 e4
                    omega)))
              obtain ⟨d5, hd5⟩ : ∃ y, (stepD d kd f n l).1 = y := ⟨_, rfl⟩
              obtain ⟨s5, hs5⟩ : ∃ y, (stepD d kd f n l).2 = y := ⟨_, rfl⟩
              rw [hd5] at HOK3 HPl
              rw [hd5, hs5, show (s5 == s5) = true by simp] at HStep
              clear hd5 hs5 hroom HHeld HMade
              have TB3 := hid P3.out.box.heap
              go_wp2_with (first
                | (with_reducible refine wpList_load_row (o := ⟨some 76, _, _, _, _, _⟩) rfl 34 (.tmp 9) rfl p rfl 34 (rC d x) (0, 0) _ TB3.out Try.underlying34 rfl T1.out ?_))
              with_reducible refine (HStep.out _ P3.out).mono ?_
              rintro e w9 ⟨v9, x9, rfl, D, R, T, O⟩
              obtain ⟨B9, P9⟩ := P3.out.step D R T O HOK3.out
              have P4 := hid P9
              have TB9 := hid B9.heap
              have T3 : Hid ((rC d x).size = (rC d5 x9).size) := hid rfl
              have T2 := hid (rC_size d5 x9)
              have T4 := hid (rC_one (d' := d5) R)
              clear D R T O B9 P9 P3 TB3 K1 c0 c1 c2 c3 HStep
              go_upto_region 28 with (first
                | (with_reducible refine wpList_store_row (o := ⟨none, _, _, _, _, _⟩) rfl 34 (.tmp 9) (.tmp 79) rfl p (rC d5 x9) rfl rfl 34 _ TB9.out T2.out T3.out T4.out ?_))
              obtain ⟨Wz, hWz⟩ : ∃ Wz, w9.setRow p (rC d5 x9) = Wz := ⟨_, rfl⟩
              rw [hWz] at P4
              rw [hWz]
              clear hWz TB9
              have TB5 := hid P4.out.box.heap
              have HSame := hid (same_any w.heap.size g d5 v9 x9 Wz P4.out.disk P4.out.ok P4.out.ref)
              go_wp2_with (first
                | (with_reducible refine wpList_load_rowgE (o := ⟨some 85, _, _, _, _, _⟩) (by kernel_rfl) 34 (.tmp 9) rfl p rfl 34 (rC d5 x9) (0, 0) _ TB5.out Try.underlying34 rfl T2.out ?_))
              with_reducible refine HSame.out.mono ?_
              rintro e wf ⟨rfl, hb⟩
              have P5 : Hid (∃ v x, PlAt w wf g p (playD (newD a) (os.take (j + 1))) v x (some ⟨b, o, none⟩) os) := hid ⟨v9, x9, by rw [HPl.out]; exact P4.out.on hb⟩
              clear hb P4 HSame TB5 HPl
              go_wp2
              go_roundw
              case rel => exact ⟨j + 1, by omega, by go_num, P5⟩
              case measure => simp only [intOf]; omega
            · have HB := hid hpl.below
              clear hpl HPL
              go_wp2
              go_ret
              exact ⟨rfl, HB.out⟩

end Go.Proofs.Ytmedfcpohmhbbaa.diskPlays
