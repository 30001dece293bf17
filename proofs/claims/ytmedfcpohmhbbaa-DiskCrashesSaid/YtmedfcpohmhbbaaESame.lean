/-
  The law's same: a disk, and the document's beside it.
-/
import Derived.Test.YtmedfcpohmhbbaaEStep
import Derived.Test.YtmedfcpohmhbbaaRSame
namespace Go.Proofs.Ytmedfcpohmhbbaa
open Go.ChangeShapes Go.WideShapes Go.ChangeAt Go.RowKit
set_option linter.unusedVariables false
set_option linter.unusedSimpArgs false

/-- What stands while they are held against one another. -/
structure SmAt (w W : World) (base g p : Nat) (d : Dk) (v x : Nat → Value) : Prop where
  disk : DiskAt W base g d v
  ref : RefAt (fun _ => False) W d x
  box : Blk W p 34 (rC d x)
  below : Below p w W
theorem SmAt.on {w W W' : World} {base g p : Nat} {d : Dk} {v x : Nat → Value} (h : SmAt w W base g p d v x) (k : Below W.heap.size W W') : SmAt w W' base g p d v x :=
  ⟨h.disk.on k, h.ref.on k, h.box.below k h.box.lt, h.below.trans (k.mono (by have := h.box.lt; omega))⟩
theorem SmAt.drewN {w W : World} {base g p : Nat} {d : Dk} {v x : Nat → Value} (h : SmAt w W base g p d v x) (n : Nat) : SmAt w (W.drewN n) base g p d v x := h.on (below_drewN (Below.refl _ _) n)
theorem SmAt.drew {w W : World} {base g p : Nat} {d : Dk} {v x : Nat → Value} (h : SmAt w W base g p d v x) : SmAt w W.drew base g p d v x := h.on (below_drew (Below.refl _ _))
theorem SmAt.two {w W : World} {base g p : Nat} {d : Dk} {v x : Nat → Value} (h : SmAt w W base g p d v x) {k : Nat} (hk : k < 2) {u : Value} (hu : x k = u) : W.cell? ⟨p, 1 + k, none⟩ = some u ∧ W.cell? ⟨p, 3 + k, none⟩ = some (.int .i64 (d.s k : Int)) :=
  ⟨hu ▸ (h.box.cell _).trans (rC_get d x k hk), (h.box.cell _).trans (rC_gets d x k hk)⟩
theorem SmAt.sees {w W : World} {base g p : Nat} {d : Dk} {v x : Nat → Value} (h : SmAt w W base g p d v x) {k : Nat} (hk : k < 2) {A : Option Addr} {c : Nat} (hx : x k = .slice A (d.l k).length c) : Sees .u8 W A (d.l k) := by
  obtain ⟨A', c', e1, _, _, e4⟩ := h.ref k hk
  rw [hx] at e1
  injection e1 with q1 q2 q3
  subst q1
  exact e4.sees

set_option maxRecDepth 100000 in
set_option maxHeartbeats 4000000 in
theorem same_any (base g : Nat) (d : Dk) (v x : Nat → Value) {S : Nat → Prop} (w : World) (h : DiskAt w base g d v) (ho : d.Ok) (hx : RefAt S w d x) :
    Calls Try.prog 9 #[.pointer (some ⟨g, 0, none⟩), rV d x] w fun e w' => e = .returned (.bool true) ∧ Below w.heap.size w w' := by
  have HD := hid h
  have HX := hid (hx.turns (T := fun _ => False) (Turns.refl S w) (fun _ _ h => h.elim))
  have HO := hid ho
  clear h ho hx
  go_enter Try.func9, Try.ntmps9
  go_upto_region 1 with fail
  obtain ⟨W, hW⟩ : ∃ W, w.alloc (.cells (rC d x) 34) = W := ⟨_, rfl⟩
  rw [hW]
  obtain ⟨K0, KB⟩ := one_box hW
  have S0 : Hid (SmAt w W base g w.heap.size d v x) := hid ⟨HD.out.on KB.out, HX.out.on KB.out, K0.out, KB.out⟩
  clear hW K0 KB HD HX
  obtain ⟨p, hp⟩ : ∃ p, w.heap.size = p := ⟨_, rfl⟩
  rw [hp] at S0
  rw [hp]
  have HP := hid hp
  clear hp
  go_wp2_with fail
  go_loopw [6] (fun iv wr => ∃ j : Nat, j ≤ 2 ∧ iv = .int .i64 j ∧ Hid (SmAt w wr base g p d v x)) (fun iv _ => 2 - (intOf iv).toNat)
  case atStart => exact ⟨0, by decide, rfl, S0⟩
  case round =>
    clear S0
    obtain ⟨j, hj, rfl, HS⟩ := hrel
    by_cases hlt : j < 2
    · have hj2 : (j : Int) < 2 := by omega
      obtain ⟨A, c, e1, _⟩ := HS.out.ref j hlt
      have HE := hid e1
      have HL := HO.out.len hlt
      have HR := hid (fun W (S : SmAt w W base g p d v x) => read_at base g d v j (j : Int) W S.disk HO.out rfl hlt)
      have HF := hid (fun W (S : SmAt w W base g p d v x) => safe_at base g d v j (j : Int) W S.disk rfl hlt)
      have HTwo := hid (fun W (S : SmAt w W base g p d v x) => S.two hlt e1)
      have HSees := hid (fun W (S : SmAt w W base g p d v x) => S.sees hlt e1)
      obtain ⟨lj, hlj⟩ : ∃ l, d.l j = l := ⟨_, rfl⟩
      obtain ⟨sj, hsj⟩ : ∃ l, d.s j = l := ⟨_, rfl⟩
      rw [hlj] at HR HSees HTwo HL
      rw [hsj] at HF HTwo
      obtain ⟨n, hn⟩ : ∃ n, lj.length = n := ⟨_, rfl⟩
      have HN := hid hn
      rw [hn] at HTwo HL
      clear e1 hlj hsj hn
      go_wp2_with fail
      go_region_held3 (fun w' => w'.cell? ⟨p, 1 + j, none⟩ = some (.slice A n c) ∧ w'.cell? ⟨p, 3 + j, none⟩ = some (.int .i64 (sj : Int)))
        (first | exact HTwo.out _ HS.out | exact HTwo.out _ HS.out.drew | exact HTwo.out _ S1.out | exact HTwo.out _ S2.out | exact HTwo.out _ S3.out)
        (first
          | (go_at_call 14; (with_reducible refine (HR.out _ HS.out.drew).mono ?_); intro e1 w1 hm; obtain ⟨A1, c1, rfl, _, _, hs1, hb1⟩ := hm.hands; have S1 := hid (HS.out.drew.on hb1); have Q1 := hid hs1; rw [HN.out]; clear hm hb1 hs1)
          | (go_at_call 17; (with_reducible refine (same_as _ _ lj n _ _ _ (by omega) HN.out Q1.out (HSees.out _ S1.out)).mono ?_); rintro e2 w2 ⟨rfl, hb2⟩; have S2 := hid (S1.out.on hb2); clear hb2)
          | (go_at_call 15; (with_reducible refine (HF.out _ S2.out).mono ?_); rintro e3 w3 ⟨rfl, rfl⟩))
      rename_i hHeld
      clear hHeld S1 Q1 HR HF HTwo HSees HS HE
      go_wp2
      go_roundw
      case rel => exact ⟨j + 1, by omega, by go_num, S2⟩
      case measure => simp only [intOf]; omega
    · obtain ⟨A0, k0, e0, _⟩ := HS.out.ref 0 (by decide)
      obtain ⟨A1, k1, e1, _⟩ := HS.out.ref 1 (by decide)
      obtain ⟨c0, c1, c2, _, _, _, c6⟩ := rcells HS.out.box
      have h0 := HO.out.sz0
      have h1 := HO.out.sz1
      have h2 := HO.out.room
      have HLe : leftD d = d.sz - ((d.l 0).length : Int) - ((d.l 1).length : Int) := rfl
      have HQ1 := hid (fun n => Calls.quiet_of_same (P := Try.prog) (n := n) ((down_any g d (wr.drewN n) (HS.out.disk.drewN n).cells.2.2.2.2.2.2.2).mono fun _ _ ⟨a, b⟩ => ⟨a, b.symm⟩))
      have HQ2 := hid (fun n => Calls.quiet_of (P := Try.prog) (n := n) ((left_any base g d v (wr.drewN n) (HS.out.disk.drewN n) HO.out).mono fun _ _ ⟨a, m, b⟩ => ⟨a, m, b.symm⟩))
      have HQ3 := hid (fun n => Calls.quiet_of_same (P := Try.prog) (n := n) ((size_any g d (wr.drewN n) (HS.out.disk.drewN n).cells.1).mono fun _ _ ⟨a, b⟩ => ⟨a, b.symm⟩))
      have HQ4 := hid (fun n => Calls.quiet_of_same (P := Try.prog) (n := n) ((read_not (some ⟨g, 0, none⟩) 2 (wr.drewN n) rfl).mono fun _ _ ⟨a, b⟩ => ⟨a, b.symm⟩))
      have HQ5 := hid (fun n => Calls.quiet_of_same (P := Try.prog) (n := n) ((safe_not (some ⟨g, 0, none⟩) (-1) (wr.drewN n) rfl).mono fun _ _ ⟨a, b⟩ => ⟨a, b.symm⟩))
      rw [HLe] at HQ2
      rw [e0] at c1
      rw [e1] at c2
      obtain ⟨n0, hn0⟩ : ∃ n, (d.l 0).length = n := ⟨_, rfl⟩
      obtain ⟨n1, hn1⟩ : ∃ n, (d.l 1).length = n := ⟨_, rfl⟩
      obtain ⟨sz, hsz⟩ : ∃ n, d.sz = n := ⟨_, rfl⟩
      obtain ⟨dn, hdn⟩ : ∃ n, d.dn = n := ⟨_, rfl⟩
      rw [hsz] at c0 h0 h1 h2 HQ2 HQ3
      rw [hn0] at c1 h2 HQ2
      rw [hn1] at c2 h2 HQ2
      rw [hdn] at c6 HQ1
      have HB : Hid (∀ n, Below w.heap.size w (wr.drewN n)) := hid (fun n => by rw [HP.out]; exact below_drewN HS.out.below n)
      clear HLe e0 e1 hn0 hn1 hsz hdn HS
      have q1 : IntKind.i64.wrap (sz - (n0 : Int)) = sz - (n0 : Int) := IntWalk.i64_in _ (by omega)
      have q2 : IntKind.i64.wrap (sz - (n0 : Int) - (n1 : Int)) = sz - (n0 : Int) - (n1 : Int) := IntWalk.i64_in _ (by omega)
      have q3 : ((sz - (n0 : Int) - (n1 : Int)) == (sz - (n0 : Int) - (n1 : Int))) = true := by simp
      have q4 : (sz == sz) = true := by simp
      cases dn
      · go_wp2_with fail
        go_quiet (first
          | (go_at_call 18; exact HQ1.out _)
          | (go_at_call 21; exact HQ2.out _)
          | (go_at_call 22; exact HQ3.out _)
          | (go_at_call 14; exact HQ4.out _)
          | (go_at_call 15; exact HQ5.out _))
        have HB2 := hid (HB.out nq)
        go_wp2
        go_ret
        exact ⟨rfl, HB2.out⟩
      · go_wp2_with fail
        go_quiet (first
          | (go_at_call 18; exact HQ1.out _)
          | (go_at_call 21; exact HQ2.out _)
          | (go_at_call 22; exact HQ3.out _)
          | (go_at_call 14; exact HQ4.out _)
          | (go_at_call 15; exact HQ5.out _))
        have HB2 := hid (HB.out nq)
        go_wp2
        go_ret
        exact ⟨rfl, HB2.out⟩

end Go.Proofs.Ytmedfcpohmhbbaa
