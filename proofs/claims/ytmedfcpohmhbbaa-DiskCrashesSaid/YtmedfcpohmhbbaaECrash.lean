/-
  What is done to a disk (package disk): Crash, Append.
-/
import Derived.Test.YtmedfcpohmhbbaaEFile
namespace Go.Proofs.Ytmedfcpohmhbbaa
open Go.ChangeShapes Go.WideShapes Go.ChangeAt Go.RowKit
set_option linter.unusedVariables false
set_option linter.unusedSimpArgs false

theorem one_box {w W : World} {T : TypeId} {a : Array Value} (h : w.alloc (.cells a T) = W) : Hid (Blk W w.heap.size T a) ∧ Hid (Below w.heap.size w W) := by
  subst h
  exact ⟨hid (Blk.new w T a), hid ((Below.refl _ w).alloc (Nat.le_refl _) _)⟩
theorem two_cells {w : World} {g : Nat} {t : TypeId} {a b : Value} (h : Blk w g t #[a, b]) : w.cell? ⟨g, 0, none⟩ = some a ∧ w.cell? ⟨g, 1, none⟩ = some b := ⟨(h.cell 0).trans rfl, (h.cell 1).trans rfl⟩

/-- The crash, so many files of it. -/
def lossesD (d : Dk) (a b : Int) : Nat → Dk
  | 0 => d
  | 1 => lossD d 0 a
  | _ => lossD (lossD d 0 a) 1 b
def keepAt (a b : Int) (j : Nat) : Int := if j = 0 then a else b
theorem losses_ok {d : Dk} (h : d.Ok) (a b : Int) : ∀ j, j ≤ 2 → (lossesD d a b j).Ok
  | 0, _ => h
  | 1, _ => lossD_ok h (by decide) a
  | 2, _ => lossD_ok (lossD_ok h (by decide) a) (by decide) b
theorem losses_next (d : Dk) (a b : Int) : ∀ j, j < 2 → lossesD d a b (j + 1) = lossD (lossesD d a b j) j (keepAt a b j)
  | 0, _ => rfl
  | 1, _ => rfl
theorem keep_cell {w : World} {p : Nat} {t : TypeId} {a b : Int} (h : Blk w p t #[.int .i64 a, .int .i64 b]) : ∀ j, j < 2 → w.cell? ⟨p, j, none⟩ = some (.int .i64 (keepAt a b j))
  | 0, _ => (h.cell 0).trans rfl
  | 1, _ => (h.cell 1).trans rfl

/-- While the files are gone through. -/
def CrashAt (w wr : World) (base g p : Nat) (d : Dk) (v : Nat → Value) (a b : Int) (j : Nat) : Prop :=
  ∃ v', DiskAt wr base g (lossesD d a b j) v' ∧ Turns (OwnD g v) w wr ∧ (∀ b, OwnD g v' b → OwnD g v b ∨ w.heap.size ≤ b) ∧ Blk wr p 32 #[.int .i64 a, .int .i64 b] ∧ ¬ OwnD g v' p

set_option maxRecDepth 100000 in
set_option maxHeartbeats 2000000 in
theorem crash_any (base g : Nat) (d : Dk) (v : Nat → Value) (a b : Int) (w : World) (h : DiskAt w base g d v) (ho : d.Ok) :
    Calls Try.prog 16 #[.pointer (some ⟨g, 0, none⟩), .agg #[.int .i64 a, .int .i64 b]] w (DoesD base g v (crashD d a b) (.tuple #[]) w) := by
  have HD := hid h
  have HO := hid ho
  clear h ho
  go_enter Try.func16, Try.ntmps16
  go_upto_region 1 with fail
  obtain ⟨W, hW⟩ : ∃ W, w.alloc (.cells #[.int .i64 a, .int .i64 b] 32) = W := ⟨_, rfl⟩
  rw [hW]
  obtain ⟨K0, KB⟩ := one_box hW
  clear hW
  have D0 := hid (HD.out.on KB.out)
  obtain ⟨p, hp⟩ : ∃ p, w.heap.size = p := ⟨_, rfl⟩
  have HP := hid hp
  have C0 : Hid (CrashAt w W base g p d v a b 0) := hid ⟨v, D0.out, .of_below KB.out, fun b hb => .inl hb, hp ▸ K0.out, fun h => by have := (HD.out.own h).2; omega⟩
  rw [hp]
  clear hp K0 KB D0
  go_wp2_with fail
  go_loopw [5] (fun iv wr => ∃ j : Nat, j ≤ 2 ∧ iv = .int .i64 j ∧ Hid (CrashAt w wr base g p d v a b j)) (fun iv _ => 2 - (intOf iv).toNat)
  case atStart => exact ⟨0, by decide, rfl, C0⟩
  case round =>
    clear C0
    obtain ⟨j, hj, rfl, HC⟩ := hrel
    by_cases hlt : j < 2
    · obtain ⟨v1, D, T, O, B, N⟩ := HC.out
      have D1 := hid D
      have T1 := hid T
      have O1 := hid O
      have B1 := hid B
      have N1 := hid N
      have HN := hid (losses_next d a b j hlt)
      have HL := hid (fun W (h : DiskAt W base g (lossesD d a b j) v1) => loss_any base g _ v1 j (keepAt a b j) W h (losses_ok HO.out a b j (by omega)) hlt)
      obtain ⟨q, hq⟩ : ∃ q, keepAt a b j = q := ⟨_, rfl⟩
      have KC := hid (fun W (h : Blk W p 32 #[.int .i64 a, .int .i64 b]) => keep_cell h j hlt)
      rw [hq] at HN HL KC
      have hj2 : (j : Int) < 2 := by omega
      clear D T O B N HC hq
      have c0 := KC.out _ B1.out
      go_wp2_with fail
      go_region_with (go_at_call 30; (with_reducible refine (HL.out _ D1.out.drew).mono ?_); rintro e w1 ⟨v2, rfl, D, T, O⟩)
      have C1 : Hid (CrashAt w w1 base g p d v a b (j + 1)) := hid ⟨v2, HN.out ▸ D, T1.out.drew.trans T (fun i hi h => (O1.out i h).resolve_right (Nat.not_le_of_lt hi)), fun b hb => (O b hb).elim (O1.out b) (fun h => .inr (Nat.le_trans T1.out.size h)), B1.out.drew.turns T N1.out, fun h => (O p h).elim N1.out (Nat.not_le_of_lt B1.out.lt)⟩
      clear D T O D1 T1 O1 B1 N1 HL KC c0 HN
      go_wp2
      go_roundw
      case rel => exact ⟨j + 1, by omega, by go_num, C1⟩
      case measure => simp only [intOf]; omega
    · obtain rfl : j = 2 := by omega
      obtain ⟨v1, D, T, O, _, _⟩ := HC.out
      obtain ⟨_, _, _, _, _, c5, c6, c7⟩ := D.cells
      have f5 := D.blk.frozen 5
      have f6 := D.blk.frozen 6
      have f7 := D.blk.frozen 7
      have HW : Hid (DoesD base g v (crashD d a b) (.tuple #[]) w (.returned (.tuple #[])) (((wr.setCell ⟨g, 5, none⟩ (.bool false)).setCell ⟨g, 6, none⟩ (.int .i64 0)).setCell ⟨g, 7, none⟩ (.bool false))) := hid
        ⟨v1, rfl, (((D.put 5 _ (d' := { lossesD d a b 2 with arm := false }) rfl rfl).put 6 _ (d' := { lossesD d a b 2 with arm := false, un := 0 }) rfl rfl).put 7 _ (d' := crashD d a b) rfl rfl), ((T.at_ _ _).at_ _ _).at_ _ _, O⟩
      clear D T O HC HD HO
      go_wp2
      refine bodyPost_ret (v := .tuple #[]) (results_none (by kernel_rfl) _ _ _) rfl HW.out

theorem app_done {W w' : World} {base g : Nat} {d : Dk} {v : Nat → Value} (D : DiskAt W base g d v) {k : Nat} (hk : k < 2) {A1 : Option Addr} {k1 : Nat} (hv : v k = .slice A1 (d.l k).length k1) {l : List Nat} {n : Nat} (hl : l.length = n) {u : Value}
    (hown : w'.ownsRow base 5 1 u ((d.l k).length + n) (((d.l k).map fun y : Nat => Value.int .u8 (y : Int)) ++ l.map fun y : Nat => Value.int .u8 (y : Int))) (hg : W.grownBy w' (Value.slice A1 (d.l k).length k1).ownBlock)
    (hat : u.ownBlock = (Value.slice A1 (d.l k).length k1).ownBlock ∨ u.ownBlock = some W.heap.size) :
    (DiskAt (w'.setCell ⟨g, 1 + k * 2, none⟩ u) base g (putD d k l) (updD v k u) ∧ Turns (OwnD g v) W (w'.setCell ⟨g, 1 + k * 2, none⟩ u) ∧ ∀ b, OwnD g (updD v k u) b → OwnD g v b ∨ W.heap.size ≤ b) ∧
      w'.frozen? ⟨g, 1 + k * 2, none⟩ = false ∧ w'.cell? ⟨g, 1 + k * 2, none⟩ = some (.slice A1 (d.l k).length k1) := by
  rw [← hv] at hg hat
  rw [← List.map_append] at hown
  refine ⟨D.turn hk hg (fun b hb => hb) (by rw [List.length_append, hl]) hown (fun b hb => ?_), ?_, ?_⟩
  · rcases hat with h | h
    · exact .inl (h ▸ hb)
    · rw [h] at hb
      injection hb with hb
      exact .inr (by omega)
  · exact (D.blk.grown hg (fun e => D.ne hk e.symm)).frozen _
  · rw [← hv]
    exact ((D.blk.grown hg (fun e => D.ne hk e.symm)).cell _).trans (dkC_get d v k hk)

theorem appD_at {d : Dk} {k : Nat} (hk : k < 2) (hd : d.dn = false) (b : List Nat) :
    appD d (k : Int) b = if leftD d < (b.length : Int) then (d, 14) else (putD (spentD d b.length) k (b.take (doneD d b.length)), errD d b.length) := by
  unfold appD
  rw [if_pos (mayD_at hk hd)]
  rfl

set_option maxRecDepth 100000 in
set_option maxHeartbeats 2000000 in
theorem append_any (base g : Nat) (d : Dk) (v : Nat → Value) (f : Int) (A : Option Addr) (b : List Nat) (n c : Nat) (w : World) (h : DiskAt w base g d v) (ho : d.Ok) (hn : b.length = n) (hA0 : A = none → c = 0) (hc : n ≤ c) (hcm : c ≤ maxLen) (hA : Apart (OwnD g v) w A b) :
    Calls Try.prog 12 #[.pointer (some ⟨g, 0, none⟩), .int .i64 f, .slice A n c] w (DoesD base g v (appD d f b).1 (.int .i64 (appD d f b).2) w) := by
  obtain ⟨_, _, _, _, _, _, _, c7⟩ := h.cells
  have HR := hid (ready_any g d f w c7)
  have HD := hid h
  have HLf := hid (fun w (h : DiskAt w base g d v) => left_any base g d v w h ho)
  have HF : Hid (mayD d f ≠ 0 → (appD d f b) = (d, mayD d f)) := hid (fun h => by unfold appD; rw [if_neg h])
  by_cases hm : mayD d f = 0
  · obtain ⟨k, hk, rfl, hd⟩ := mayD_zero hm
    rw [hm] at HR
    have HY := hid (appD_at hk hd b)
    rw [hn] at HY
    have hk2 : (k : Int) < 2 := by omega
    obtain ⟨lf, hlf⟩ : ∃ l, leftD d = l := ⟨_, rfl⟩
    rw [hlf] at HY HLf
    have hl4 : lf ≤ 4194304 := by
      have h1 := ho.sz1
      unfold leftD at hlf
      omega
    rcases (show lf < (n : Int) ∨ (n : Int) ≤ lf by omega) with hlt | hlt
    · have HW : Hid (∀ q, DoesD base g v (appD d (k : Int) b).1 (.int .i64 (appD d (k : Int) b).2) w (.returned (.int .i64 14)) (w.drewN q)) := hid (fun q => by
        rw [HY.out, if_pos hlt]
        exact .same (HD.out.drewN q) rfl ((Turns.refl _ _).drewN q))
      clear h ho HY HF hm hd hA0 hA hn hlf
      go_enter Try.func12, Try.ntmps12
      go_wp2_with fail
      with_reducible refine HR.out.mono ?_
      rintro e w1 ⟨rfl, rfl⟩
      go_wp2_with fail
      with_reducible refine (HLf.out _ HD.out).mono ?_
      rintro e w1 ⟨rfl, q, rfl⟩
      have HW2 := hid (HW.out q)
      clear HLf HD HW
      go_wp2
      go_ret
      exact HW2.out
    · obtain ⟨i0, hi, hz0, hz1, hz2⟩ := info_parts info_u8
      have HY2 : Hid (appD d (k : Int) b = (putD (spentD d n) k (b.take (doneD d n)), errD d n)) := hid (by rw [HY.out, if_neg (by omega)])
      have HO := hid (fun w (h : DiskAt w base g d v) => do_any base g d v n (n : Int) w h ho rfl (by omega))
      have HLE : Hid (((spentD d n).l k).length ≤ 4194304) := hid (by rw [spentD_l]; exact ho.len hk)
      have HDN := hid (doneD_le d n)
      obtain ⟨dn, hdn⟩ : ∃ x, doneD d n = x := ⟨_, rfl⟩
      obtain ⟨er, her⟩ : ∃ x, errD d n = x := ⟨_, rfl⟩
      obtain ⟨d1, hd1⟩ : ∃ x, spentD d n = x := ⟨_, rfl⟩
      rw [hdn, her, hd1] at HO HY2
      rw [hdn] at HDN
      rw [hd1] at HLE
      have HB := hid hA
      have HA0 := hid hA0
      have HBL := hid hn
      have hdn2 : dn ≤ n := HDN.out
      have hcut := fun w => cut_head (P := Try.prog) 28 5 i0 Try.underlying28 hi A hdn2 hc w
      have HI := hid (And.intro hi (And.intro hz0 (And.intro hz1 hz2)))
      clear h ho HY HF hm hd hA0 hA hn hlf hdn her hd1 hi hz0 hz1 hz2
      go_enter Try.func12, Try.ntmps12
      go_wp2_with fail
      with_reducible refine HR.out.mono ?_
      rintro e w1 ⟨rfl, rfl⟩
      go_wp2_with fail
      with_reducible refine (HLf.out _ HD.out).mono ?_
      rintro e w1 ⟨rfl, q, rfl⟩
      go_wp2_with fail
      with_reducible refine (HO.out _ (HD.out.drewN q)).mono ?_
      rintro e w1 ⟨v1, rfl, D, T, O⟩
      have D1 := hid D
      have T1 := hid T
      have O1 := hid O
      have B1 := hid (((HB.out.turns (T := OwnD g v) ((Turns.refl _ w).drewN q) (fun _ _ h => h)).turns T (fun i hi h => (O i h).resolve_right (Nat.not_le_of_lt hi))).sees.take dn)
      obtain ⟨c0, _⟩ := D.file hk
      obtain ⟨A1, k1, e1, _⟩ := D.slice hk
      have HV := hid e1
      rw [e1] at c0
      have HRow : Hid (w1.drew.ownsRow base 5 1 (.slice A1 (d1.l k).length k1) (d1.l k).length ((d1.l k).map fun y : Nat => Value.int .u8 (y : Int))) := hid (by rw [← e1]; exact D.drew.row k hk)
      have HTL : Hid ((b.take dn).length = dn) := hid (by rw [List.length_take, HBL.out]; omega)
      have HDone := hid (fun (w' : World) (u : Value) h1 h2 h3 => app_done D1.out.drew hk HV.out HTL.out (w' := w') (u := u) h1 h2 h3)
      have HBS := hid D.drew.base_le
      clear D T O e1 HO HLf HR
      obtain ⟨hi, hz0, hz1, hz2⟩ := HI.out
      obtain ⟨ln, hln⟩ : ∃ l, (d1.l k).length = l := ⟨_, rfl⟩
      rw [hln] at c0 HRow HDone HLE
      go_wp2_with fail
      go_region_law (refine step_append_seen w1.drew rfl (.tmp 36) (.tmp 39) 28 rfl base 5 i0 (.int .u8 0) 1 Try.underlying28 hi hz0 hz1 hz2 rfl (.slice A1 ln k1) ln _ (by simp [Act.eval, Act.put]) HRow.out A c (b.take dn) dn HTL.out (by simp [Act.eval, Act.put]) HA0.out B1.out (by unfold maxLen; have := HLE.out; omega) (by have := HLE.out; omega) HBS.out ?_; intro u w2 h1 h2 h3; obtain ⟨HX, f2, c2⟩ := HDone.out w2 u h1 h2 h3; obtain ⟨A3, k3, rfl⟩ := own_shape h1; have HX2 := hid HX; clear HX h1 h2 h3)
      have HW : Hid (DoesD base g v (appD d (k : Int) b).1 (.int .i64 (appD d (k : Int) b).2) w (.returned (.int .i64 er)) (w2.setCell ⟨g, 1 + k * 2, none⟩ (.slice A3 (ln + dn) k3))) := hid (by
        rw [HY2.out]
        exact ⟨_, rfl, HX2.out.1, ((((Turns.refl _ w).drewN q).trans T1.out (fun _ _ h => h)).drew).trans HX2.out.2.1 (fun i hi h => (O1.out i h).resolve_right (Nat.not_le_of_lt hi)),
          fun b hb => (HX2.out.2.2 b hb).elim (O1.out b) (fun h => .inr (Nat.le_trans T1.out.size h))⟩)
      clear HX2 HDone HRow T1 O1 B1 HV D1 f2 c2
      go_wp2
      go_ret
      exact HW.out
  · obtain ⟨m, hm2⟩ : ∃ m, mayD d f = m := ⟨_, rfl⟩
    have HF2 := hid (HF.out hm)
    rw [hm2] at HR HF2 hm
    have HW : Hid (DoesD base g v (appD d f b).1 (.int .i64 (appD d f b).2) w (.returned (.int .i64 m)) w) := hid (by
      rw [HF2.out]
      exact .same h rfl (.refl _ _))
    have hm3 : (m != 0) = true := by rw [bne_iff_ne]; exact hm
    clear h ho c7 HD HF HF2 hm2 HLf hA hA0 hn
    go_enter Try.func12, Try.ntmps12
    go_wp2_with fail
    with_reducible refine HR.out.mono ?_
    rintro e w1 ⟨rfl, rfl⟩
    go_wp2
    go_ret
    exact HW.out

end Go.Proofs.Ytmedfcpohmhbbaa
