/-
  What is done to a disk's files (package disk): cut, crash; Sync, Trim, Crash, Append.
-/
import Derived.Test.YtmedfcpohmhbbaaEDo
namespace Go.Proofs.Ytmedfcpohmhbbaa
open Go.ChangeShapes Go.WideShapes Go.ChangeAt Go.RowKit
set_option linter.unusedVariables false
set_option linter.unusedSimpArgs false

theorem own_low {w : World} {base base' n : Nat} {e : TypeId} {v : Value} {xs : List Value} (h : w.ownsRow base e 1 v n xs) (hb : base' ≤ base) : w.ownsRow base' e 1 v n xs :=
  ⟨h.1, h.2.imp id fun ⟨g, cap, cur, a, b, c⟩ => ⟨g, cap, cur, a, Nat.le_trans hb b, c⟩⟩
/-- The first k, with whatever room. -/
theorem cut_head {P : Program} (t e : TypeId) (i : TypeInfo) (ht : P.underlying t = some (.slice e)) (hi : P.info? e = some i) (A : Option Addr) {n c k : Nat} (hk : k ≤ n) (hc : n ≤ c) (w : World) :
    (Instr.slice t (.slice A n c) none (some (.int .i64 (k : Int))) none).run P w = .ok (.slice A k c) w := by
  have he : P.elem t = e := by simp [Program.elem, ht]
  have hsz : ∀ w, (sizeOf (P.elem t)).run P w = .ok i.size w := fun w => by rw [he]; simp [sizeOf, typeInfo, hi]
  rw [run_slice_h (P := P) w t A n c (by rw [ht, he]) .i64 (k : Int) (by omega) (by omega), hsz]
  simp only [Result.andThen_ok, sliced, Int.toNat_natCast, Nat.sub_zero]
  simp
  intro _
  cases A <;> simp [Addr.add]

theorem own_shape {w : World} {base n : Nat} {e : TypeId} {v : Value} {xs : List Value} (h : w.ownsRow base e 1 v n xs) : ∃ A c, v = .slice A n c := by
  rcases h.2 with ⟨rfl, rfl⟩ | ⟨g, cap, cur, rfl, _⟩
  · exact ⟨none, 0, rfl⟩
  · exact ⟨_, cap, rfl⟩
theorem Sees.head {w : World} {A : Option Addr} {l : List Nat} (h : Sees .u8 w A l) (k : Nat) : Sees .u8 w A (l.take k) := h.take k

set_option maxRecDepth 100000 in
set_option maxHeartbeats 1000000 in
theorem cut_any (base g : Nat) (d : Dk) (v : Nat → Value) (k n : Nat) (a : Int) (w : World) (h : DiskAt w base g d v) (ho : d.Ok) (hk : k < 2) (ha : a = n) (hn : n ≤ (d.l k).length) :
    Calls Try.prog 25 #[.pointer (some ⟨g, 1 + k * 2, none⟩), .int .i64 a] w (DoesD base g v (cutD d k n) (.tuple #[]) w) := by
  subst ha
  obtain ⟨i0, hi, _⟩ := info_parts info_u8
  obtain ⟨c0, c1⟩ := h.file hk
  have f0 := h.blk.frozen (1 + k * 2)
  have f1 := h.blk.frozen (1 + k * 2 + 1)
  have HL := ho.len hk
  obtain ⟨A, c, e0, hA, hc, hS⟩ := h.slice hk
  rw [e0] at c0
  have hcut := fun w => cut_head (P := Try.prog) 28 5 i0 Try.underlying28 hi A hn hc w
  have HC := hid (clone_any A ((d.l k).take n) n c w (by rw [List.length_take]; omega) (by omega) hA (hS.take n))
  have hm := fun (w : World) (ts : Array TypeId) (t : TypeId) => run_minE Try.prog (d.s k : Int) (n : Int) ((min (d.s k) n : Nat) : Int) (by omega) w ts t
  have HLT : Hid (((d.l k).take n).length = n) := hid (by rw [List.length_take]; omega)
  have HD := hid h
  have HF := hid (fun (s : Value) (w1 : World) (hb : Below w.heap.size w w1) (hown : w1.ownsRow w.heap.size 5 1 s n (((d.l k).take n).map fun y : Nat => Value.int .u8 (y : Int))) =>
    h.turn hk (row := none) (only_of_below hb none) (fun b hb => by cases hb) HLT.out (own_low hown h.base_le) (fun b hb => .inr (hown.lt b hb).1))
  obtain ⟨sk, hsk⟩ : ∃ s, d.s k = s := ⟨_, rfl⟩
  have HSK := hid hsk
  rw [hsk] at c1 hm
  clear e0 hA hc hS h hn hi hsk ho
  go_enter Try.func25, Try.ntmps25
  go_wp2_with fail
  with_reducible refine HC.out.mono ?_
  rintro e w1 ⟨s, rfl, hown, hb⟩
  rw [HLT.out] at hown
  have c2 := (HD.out.on hb).blk.frozen (1 + k * 2)
  have c3 := ((HD.out.on hb).file hk).1
  have HX := hid (HF.out s w1 hb hown)
  obtain ⟨As, cs, rfl⟩ := own_shape hown
  clear hown hb
  go_upto_region 1 with fail
  obtain ⟨W, hW⟩ : ∃ W, w1.setCell ⟨g, 1 + k * 2, none⟩ (.slice As n cs) = W := ⟨_, rfl⟩
  rw [hW] at HX
  rw [hW]
  clear hW c2 c3 c0 c1 f0 f1
  have D1 := hid HX.out.1
  obtain ⟨_, c1⟩ := D1.out.file hk
  have f1 := D1.out.blk.frozen (1 + k * 2 + 1)
  have HR : Hid (DoesD base g v (cutD d k n) (.tuple #[]) w (.returned (.tuple #[])) (W.setCell ⟨g, 1 + k * 2 + 1, none⟩ (.int .i64 ((min sk n : Nat) : Int)))) := hid
    ⟨_, rfl, D1.out.put (1 + k * 2 + 1) _ (d' := cutD d k n) (by rw [dkC_sets _ _ _ k hk, ← HSK.out]; rfl) rfl, HX.out.2.1.at_ _ _, HX.out.2.2⟩
  have e1 : ({ d with l := updD d.l k ((d.l k).take n) } : Dk).s k = sk := HSK.out
  rw [e1] at c1
  clear HX D1 HC HF HD e1
  go_wp2
  refine bodyPost_ret (v := .tuple #[]) (results_none (by kernel_rfl) _ _ _) rfl HR.out

theorem loss_cut {d : Dk} (ho : d.Ok) {k : Nat} (hk : k < 2) (n : Int) : keepD (cutD d k (restD d k n)) k = lossD d k n := by
  have h1 := restD_le ho hk n
  have h2 : (((d.l k).take (restD d k n)).length) = restD d k n := by rw [List.length_take]; omega
  unfold keepD cutD lossD
  simp only [updD_at, updD_upd, h2]

set_option maxRecDepth 100000 in
set_option maxHeartbeats 1000000 in
theorem loss_any (base g : Nat) (d : Dk) (v : Nat → Value) (k : Nat) (n : Int) (w : World) (h : DiskAt w base g d v) (ho : d.Ok) (hk : k < 2) :
    Calls Try.prog 30 #[.pointer (some ⟨g, 1 + k * 2, none⟩), .int .i64 n] w (DoesD base g v (lossD d k n) (.tuple #[]) w) := by
  obtain ⟨c0, c1⟩ := h.file hk
  obtain ⟨A, c, e0, _⟩ := h.slice hk
  rw [e0] at c0
  have HL := ho.len hk
  have hs := ho.safe k hk
  have HR := hid (restD_le ho hk n)
  have hq : (restD d k n : Int) = (d.s k : Int) + min (if n < 0 then 0 else n) (((d.l k).length : Int) - (d.s k : Int)) := by
    unfold restD
    split <;> omega
  have HD := hid h
  have HC := hid (fun a w (ha : a = (restD d k n : Int)) (h : DiskAt w base g d v) => cut_any base g d v k (restD d k n) a w h ho hk ha HR.out)
  have HE := hid (loss_cut ho hk n)
  have HLE : Hid (((cutD d k (restD d k n)).l k).length = restD d k n) := hid (by
    show (updD d.l k _ k).length = _
    rw [updD_at, List.length_take]
    have := HR.out
    omega)
  obtain ⟨sk, hsk⟩ : ∃ s, d.s k = s := ⟨_, rfl⟩
  have HSK := hid hsk
  obtain ⟨lk, hlk⟩ : ∃ s, (d.l k).length = s := ⟨_, rfl⟩
  obtain ⟨r, hr⟩ : ∃ r, restD d k n = r := ⟨_, rfl⟩
  rw [hsk, hlk, hr] at hq
  rw [hsk] at c1 hs
  rw [hlk] at c0 HL hs
  rw [hr] at HC HLE HR HE
  obtain ⟨m1, hm1⟩ : ∃ m, (if n < 0 then 0 else n) = m := ⟨_, rfl⟩
  rw [hm1] at hq
  have HRl : Hid (r ≤ lk) := hid (by have := HR.out; omega)
  obtain ⟨m2, hm2⟩ : ∃ m, min m1 ((lk : Int) - (sk : Int)) = m := ⟨_, rfl⟩
  rw [hm2] at hq
  have hx := fun (w : World) (ts : Array TypeId) (t : TypeId) => run_maxE Try.prog n 0 m1 hm1 w ts t
  have hn := fun (w : World) (ts : Array TypeId) (t : TypeId) => run_minE Try.prog m1 ((lk : Int) - (sk : Int)) m2 hm2 w ts t
  have hq2 : (sk : Int) + m2 = r := hq.symm
  have hb := HRl.out
  have q1 : IntKind.i64.wrap ((lk : Int) - (sk : Int)) = (lk : Int) - (sk : Int) := IntWalk.i64_in _ (by omega)
  have hm3 : 0 ≤ m2 ∧ m2 ≤ 4194304 := by
    have : 0 ≤ m1 := by rw [← hm1]; split <;> omega
    omega
  obtain ⟨hm4, hm5⟩ := hm3
  clear hsk hlk hr hm1 hm2 hq h ho e0
  go_enter Try.func30, Try.ntmps30
  go_wp2_with fail
  go_quiet (fail)
  clear c0
  have c1 := ((HD.out.drewN nq).file hk).2
  rw [HSK.out] at c1
  go_wp2_with fail
  with_reducible refine (HC.out _ _ (by first | rfl | omega) (HD.out.drewN nq)).mono ?_
  rintro e w1 ⟨v1, rfl, D, T, O⟩
  obtain ⟨c2, c3⟩ := D.file hk
  obtain ⟨A1, k1, e1, _⟩ := D.slice hk
  rw [e1, HLE.out] at c2
  have f3 := D.blk.frozen (1 + k * 2 + 1)
  have HW : Hid (DoesD base g v (lossD d k n) (.tuple #[]) w (.returned (.tuple #[])) (w1.setCell ⟨g, 1 + k * 2 + 1, none⟩ (.int .i64 (r : Int)))) := hid
    ⟨v1, rfl, D.put (1 + k * 2 + 1) _ (d' := lossD d k n) (by rw [dkC_sets _ _ _ k hk, ← HE.out]; unfold keepD; rw [HLE.out]) (by rw [← HE.out]; rfl), (((Turns.refl _ w).drewN nq).trans T (fun _ _ h => h)).at_ _ _, O⟩
  clear D T O e1 HC HE HD HLE c1
  go_wp2
  refine bodyPost_ret (v := .tuple #[]) (results_none (by kernel_rfl) _ _ _) rfl HW.out

theorem errD_one {d : Dk} : errD d 1 = if shortD d 1 then 40 else 0 := rfl

set_option maxRecDepth 100000 in
set_option maxHeartbeats 1000000 in
theorem sync_any (base g : Nat) (d : Dk) (v : Nat → Value) (f : Int) (w : World) (h : DiskAt w base g d v) (ho : d.Ok) :
    Calls Try.prog 19 #[.pointer (some ⟨g, 0, none⟩), .int .i64 f] w (DoesD base g v (syncD d f).1 (.int .i64 (syncD d f).2) w) := by
  obtain ⟨_, _, _, _, _, _, _, c7⟩ := h.cells
  have HR := hid (ready_any g d f w c7)
  have HD := hid h
  have HO := hid (fun w (h : DiskAt w base g d v) => do_any base g d v 1 1 w h ho rfl (by decide))
  have HF : Hid (mayD d f ≠ 0 → (syncD d f) = (d, mayD d f)) := hid (fun h => by unfold syncD; rw [if_neg h])
  by_cases hm : mayD d f = 0
  · obtain ⟨k, hk, rfl, hd⟩ := mayD_zero hm
    rw [hm] at HR
    have HY : Hid (syncD d (k : Int) = if shortD d 1 then (spentD d 1, 40) else (keepD (spentD d 1) k, 0)) := hid (by unfold syncD; rw [if_pos hm]; rfl)
    have HE : Hid (errD d 1 = if shortD d 1 then 40 else 0) := hid rfl
    obtain ⟨b, hb⟩ : ∃ b, shortD d 1 = b := ⟨_, rfl⟩
    rw [hb] at HY HE
    have hk2 : (k : Int) < 2 := by omega
    clear hm hd h c7 HF hb ho
    cases b
    · rw [HE.out] at HO
      go_enter Try.func19, Try.ntmps19
      go_wp2_with fail
      with_reducible refine HR.out.mono ?_
      rintro e w1 ⟨rfl, rfl⟩
      go_wp2_with fail
      with_reducible refine (HO.out _ HD.out).mono ?_
      rintro e w1 ⟨v1, rfl, D, T, O⟩
      obtain ⟨c2, c3⟩ := D.file hk
      obtain ⟨A1, k1, e1, _⟩ := D.slice hk
      rw [e1] at c2
      have f3 := D.blk.frozen (1 + k * 2 + 1)
      have HW : Hid (DoesD base g v (syncD d (k : Int)).1 (.int .i64 (syncD d (k : Int)).2) w (.returned (.int .i64 0)) (w1.drew.setCell ⟨g, 1 + k * 2 + 1, none⟩ (.int .i64 (((spentD d 1).l k).length : Int)))) := hid (by
        rw [HY.out]
        exact ⟨v1, rfl, D.drew.put (1 + k * 2 + 1) _ (d' := keepD (spentD d 1) k) (by rw [dkC_sets _ _ _ k hk]; rfl) rfl, T.drew.at_ _ _, O⟩)
      clear D T O e1 HO HD HR HE HY
      go_wp2_with fail
      go_region
      go_wp2
      go_ret
      exact HW.out
    · have HY2 : Hid (syncD d (k : Int) = (spentD d 1, 40)) := hid HY.out
      rw [HE.out] at HO
      go_enter Try.func19, Try.ntmps19
      go_wp2_with fail
      with_reducible refine HR.out.mono ?_
      rintro e w1 ⟨rfl, rfl⟩
      go_wp2_with fail
      with_reducible refine (HO.out _ HD.out).mono ?_
      rintro e w1 ⟨v1, rfl, D, T, O⟩
      have HW : Hid (DoesD base g v (syncD d (k : Int)).1 (.int .i64 (syncD d (k : Int)).2) w (.returned (.int .i64 40)) w1) := hid (by
        rw [HY2.out]
        exact ⟨v1, rfl, D, T, O⟩)
      clear D T O HO HD HR HE HY HY2
      go_wp2
      go_ret
      exact HW.out
  · obtain ⟨m, hm2⟩ : ∃ m, mayD d f = m := ⟨_, rfl⟩
    have HF2 := hid (HF.out hm)
    rw [hm2] at HR HF2 hm
    have HW : Hid (DoesD base g v (syncD d f).1 (.int .i64 (syncD d f).2) w (.returned (.int .i64 m)) w) := hid (by
      rw [HF2.out]
      exact .same h rfl (.refl _ _))
    have hm3 : (m != 0) = true := by rw [bne_iff_ne]; exact hm
    clear h ho c7 HD HO HF HF2 hm2
    go_enter Try.func19, Try.ntmps19
    go_wp2_with fail
    with_reducible refine HR.out.mono ?_
    rintro e w1 ⟨rfl, rfl⟩
    go_wp2
    go_ret
    exact HW.out

theorem trimD_at {d : Dk} {k : Nat} (hk : k < 2) (hd : d.dn = false) (n : Int) :
    trimD d (k : Int) n = if n < 0 ∨ ((d.l k).length : Int) < n then (d, 12) else if shortD d 1 then (spentD d 1, 40) else (cutD (spentD d 1) k n.toNat, 0) := by
  unfold trimD
  rw [if_pos (mayD_at hk hd)]
  rfl

set_option maxRecDepth 100000 in
set_option maxHeartbeats 1000000 in
theorem trim_any (base g : Nat) (d : Dk) (v : Nat → Value) (f n : Int) (w : World) (h : DiskAt w base g d v) (ho : d.Ok) :
    Calls Try.prog 10 #[.pointer (some ⟨g, 0, none⟩), .int .i64 f, .int .i64 n] w (DoesD base g v (trimD d f n).1 (.int .i64 (trimD d f n).2) w) := by
  obtain ⟨_, _, _, _, _, _, _, c7⟩ := h.cells
  have HR := hid (ready_any g d f w c7)
  have HD := hid h
  have HO := hid (fun w (h : DiskAt w base g d v) => do_any base g d v 1 1 w h ho rfl (by decide))
  have HF : Hid (mayD d f ≠ 0 → (trimD d f n) = (d, mayD d f)) := hid (fun h => by unfold trimD; rw [if_neg h])
  by_cases hm : mayD d f = 0
  · obtain ⟨k, hk, rfl, hd⟩ := mayD_zero hm
    rw [hm] at HR
    have HY := hid (trimD_at hk hd n)
    have HE : Hid (errD d 1 = if shortD d 1 then 40 else 0) := hid rfl
    obtain ⟨b, hb⟩ : ∃ b, shortD d 1 = b := ⟨_, rfl⟩
    rw [hb] at HY HE
    have hk2 : (k : Int) < 2 := by omega
    obtain ⟨c0, _⟩ := h.file hk
    obtain ⟨A, c, e0, _⟩ := h.slice hk
    rw [e0] at c0
    have HLE := ho.len hk
    obtain ⟨ln, hln⟩ : ∃ l, (d.l k).length = l := ⟨_, rfl⟩
    have HLN := hid hln
    rw [hln] at c0 HLE HY
    have HC := hid (fun v1 w (m : Nat) (a : Int) (ha : a = (m : Int)) (hm : m ≤ ln) (h : DiskAt w base g (spentD d 1) v1) => cut_any base g (spentD d 1) v1 k m a w h (spentD_ok ho 1) hk ha (by rw [spentD_l, hln]; exact hm))
    clear hm hd c7 HF hb ho e0 hln
    rcases (show n < 0 ∨ (0 ≤ n ∧ (ln : Int) < n) ∨ (0 ≤ n ∧ n ≤ ln) by omega) with hn | hn | hn
    · have HW : Hid (DoesD base g v (trimD d (k : Int) n).1 (.int .i64 (trimD d (k : Int) n).2) w (.returned (.int .i64 12)) w) := hid (by
        rw [HY.out, if_pos (.inl hn)]
        exact .same h rfl (.refl _ _))
      clear h HD HO HY HE HC
      go_enter Try.func10, Try.ntmps10
      go_wp2_with fail
      with_reducible refine HR.out.mono ?_
      rintro e w1 ⟨rfl, rfl⟩
      go_wp2
      go_ret
      exact HW.out
    · obtain ⟨hn0, hn1⟩ := hn
      have HW : Hid (DoesD base g v (trimD d (k : Int) n).1 (.int .i64 (trimD d (k : Int) n).2) w (.returned (.int .i64 12)) w) := hid (by
        rw [HY.out, if_pos (.inr hn1)]
        exact .same h rfl (.refl _ _))
      clear h HD HO HY HE HC
      go_enter Try.func10, Try.ntmps10
      go_wp2_with fail
      with_reducible refine HR.out.mono ?_
      rintro e w1 ⟨rfl, rfl⟩
      go_wp2
      go_ret
      exact HW.out
    · obtain ⟨hn0, hn1⟩ := hn
      have HZ : Hid (¬ (n < 0 ∨ (ln : Int) < n)) := hid (by omega)
      obtain ⟨m, rfl⟩ := Int.eq_ofNat_of_zero_le hn0
      cases b
      · have HY2 : Hid (trimD d (k : Int) (m : Int) = (cutD (spentD d 1) k m, 0)) := hid (by rw [HY.out, if_neg HZ.out]; rfl)
        rw [HE.out] at HO
        have HN := hid hn1
        clear h HY HE HZ
        go_enter Try.func10, Try.ntmps10
        go_wp2_with fail
        with_reducible refine HR.out.mono ?_
        rintro e w1 ⟨rfl, rfl⟩
        go_wp2_with fail
        with_reducible refine (HO.out _ HD.out).mono ?_
        rintro e w1 ⟨v1, rfl, D, T, O⟩
        have D1 := hid D
        have T1 := hid T
        have O1 := hid O
        clear D T O c0
        go_wp2_with fail
        with_reducible refine (HC.out v1 _ m _ rfl (by have := HN.out; omega) D1.out).mono ?_
        rintro e w2 ⟨v2, rfl, D, T, O⟩
        have HW : Hid (DoesD base g v (trimD d (k : Int) (m : Int)).1 (.int .i64 (trimD d (k : Int) (m : Int)).2) w (.returned (.int .i64 0)) w2) := hid (by
          rw [HY2.out]
          exact ⟨v2, rfl, D, T1.out.trans T (fun i hi h => (O1.out i h).resolve_right (by omega)), fun b hb => (O b hb).elim (fun h => O1.out b h) (fun h => .inr (Nat.le_trans T1.out.size h))⟩)
        clear D T O HO HD HR HC HY2 D1 T1 O1
        go_wp2
        go_ret
        exact HW.out
      · have HY2 : Hid (trimD d (k : Int) (m : Int) = (spentD d 1, 40)) := hid (by rw [HY.out, if_neg HZ.out]; rfl)
        rw [HE.out] at HO
        clear h HY HE HZ HC
        go_enter Try.func10, Try.ntmps10
        go_wp2_with fail
        with_reducible refine HR.out.mono ?_
        rintro e w1 ⟨rfl, rfl⟩
        go_wp2_with fail
        with_reducible refine (HO.out _ HD.out).mono ?_
        rintro e w1 ⟨v1, rfl, D, T, O⟩
        have HW : Hid (DoesD base g v (trimD d (k : Int) (m : Int)).1 (.int .i64 (trimD d (k : Int) (m : Int)).2) w (.returned (.int .i64 40)) w1) := hid (by
          rw [HY2.out]
          exact ⟨v1, rfl, D, T, O⟩)
        clear D T O HO HD HR HY2
        go_wp2
        go_ret
        exact HW.out
  · obtain ⟨m, hm2⟩ : ∃ m, mayD d f = m := ⟨_, rfl⟩
    have HF2 := hid (HF.out hm)
    rw [hm2] at HR HF2 hm
    have HW : Hid (DoesD base g v (trimD d f n).1 (.int .i64 (trimD d f n).2) w (.returned (.int .i64 m)) w) := hid (by
      rw [HF2.out]
      exact .same h rfl (.refl _ _))
    have hm3 : (m != 0) = true := by rw [bne_iff_ne]; exact hm
    clear h ho c7 HD HO HF HF2 hm2
    go_enter Try.func10, Try.ntmps10
    go_wp2_with fail
    with_reducible refine HR.out.mono ?_
    rintro e w1 ⟨rfl, rfl⟩
    go_wp2
    go_ret
    exact HW.out

end Go.Proofs.Ytmedfcpohmhbbaa
