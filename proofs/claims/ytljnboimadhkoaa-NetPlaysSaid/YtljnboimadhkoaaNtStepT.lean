/-
  The law's step: a frame put behind all others (Send, Twice).
-/
import Derived.Test.YtljnboimadhkoaaNtStepS
namespace Go.Proofs.Ytljnboimadhkoaa
open Go.ChangeShapes Go.WideShapes Go.ChangeAt Go.RowKit
set_option linter.unusedVariables false
set_option linter.unusedSimpArgs false

theorem below_alloc {a w : World} (h : Below a.heap.size a w) (o : Obj) : Below a.heap.size a (w.alloc o) := h.alloc h.size o
theorem own_since {w w' : World} {base n s : Nat} {e : TypeId} {v : Value} {xs : List Value} (h : w.ownsRow base e s v n xs) (b : Below w.heap.size w w') : w'.ownsRow base e s v n xs := row_turnsN (S := fun _ => False) h (TurnsD.of_below b) (fun _ _ h => h)
theorem made0 {W : World} {base a s : Nat} {e : TypeId} (hb : base ≤ W.heap.size) (ha : a = W.heap.size) : (W.alloc (.cells #[] e)).ownsRow base e s (.slice (some ⟨a, 0, none⟩) 0 0) 0 [] := by
  subst ha
  exact World.ownsRow_made W #[] 0 hb (by unfold maxLen; omega) (by simp)
theorem blk_at {w : World} {y : Nat} {t : TypeId} {cs : Array Value} (h : y = w.heap.size) : Blk (w.alloc (.cells cs t)) y t cs := by subst h; exact Blk.new _ _ _
theorem ne_own {g b n c : Nat} (h : g ≠ b) : some g ≠ (Value.slice (some ⟨b, 0, none⟩) n c).ownBlock := by
  intro e
  simp [Value.ownBlock] at e
  exact h e
theorem blk_cells3 {w : World} {y : Nat} {t : TypeId} {a b c : Value} (h : Blk w y t #[a, b, c]) : ∀ j u, [a, b, c][j]? = some u → w.cell? ((⟨y, 0, none⟩ : Addr).add j) = some u := by
  intro j u hj
  rw [add_plain, Nat.zero_add, h.cell j]
  simpa using hj
/-- Cells behind those of a row of the call's own, as a step of a region that draws its order. -/
theorem step_append_cellsD {P : Program} {w : World} {ops : Array Oper} {o : Oper} {a : Act} {K : Act → World → Prop} {Q : Exit → Act → World → Prop} {E : Prop} (hgd : o.guard = none) (s x : Operand) (t : TypeId) (ho : o.op = Op.call { callee := Callee.builtin Builtin.append, args := #[s, x], argTypes := #[t, t] })
    (a0 : World) (hD : Below a0.heap.size a0 w) (e : TypeId) (i : TypeInfo) (z : Value) (size bytes : Nat) (ht : P.underlying t = some (.slice e)) (hi : P.info? e = some i) (hz : i.zero = some z)
    (hsize : i.size = size) (hby : i.bytes = bytes) (hzs : z.cells.size = size) (hsz : 0 < size) (v : Value) (n : Nat) (xs : List Value) (hs : a.eval s = v) (hown : w.ownsRow a0.heap.size e size v n xs)
    (X : Option Addr) (m c : Nat) (news : List Value) (hx : a.eval x = .slice X m c) (hnone : X = none → m = 0 ∧ c = 0) (hl : news.length = m * size) (hnews : ∀ ad, X = some ad → ∀ j u, news[j]? = some u → w.cell? (ad.add j) = some u) (h1 : ∀ u ∈ news, u.oneCell' = true)
    (h63 : n + m ≤ maxLen) (hbytes : (n + m) * bytes ≤ 140737488355328)
    (h : ∀ v' w', w'.ownsRow a0.heap.size e size v' (n + m) (xs ++ news) → w.grownBy w' v.ownBlock → Below a0.heap.size a0 w' → K (a.put o.dst v') w') : if Region.wanted o (yielded ops a.tmps) = true then Oper.wp P o a w K Q else E := by
  have key : ∀ w', w.grownBy w' v.ownBlock → Below a0.heap.size a0 w' := fun w' hg => hD.grown hg hD.size (fun k hk => (hown.lt k hk).1)
  cases X with
  | some ad => exact step_append_ownN hgd s x t ho a0.heap.size e i z size bytes ht hi hz hsize hby hzs hsz v n xs hs hown ad m c news hx hl (hnews ad rfl) h1 h63 hbytes hD.size (fun v' w' a b _ => h v' w' a b (key w' b))
  | none =>
    obtain ⟨h2, h3⟩ := hnone rfl
    subst h2 h3
    have hn : news = [] := List.eq_nil_of_length_eq_zero (by rw [hl]; simp)
    subst hn
    have hw : Region.wanted o (yielded ops a.tmps) = true := by simp [Region.wanted, hgd]
    rw [if_pos hw]
    have hrun := run_append_owned_none (P := P) (w := w) a0.heap.size t o.type e i size ht hi v n xs hown
    unfold Oper.wp
    simp [execOp, ho, resolve, invoke, builtin, hs, hx, hrun, Result.andThen]
    exact h v w (by simpa using hown) (World.grownBy.refl _ _) hD
theorem own_nilN {w : World} {base n s c : Nat} {e : TypeId} {X : Option Addr} {xs : List Value} (h : w.ownsRow base e s (.slice X n c) n xs) : X = none → n = 0 ∧ c = 0 := by
  intro hX
  subst hX
  rcases h.2 with ⟨hv, h0⟩ | ⟨g, cap, cur, hv, _⟩
  · injection hv with _ h1 h2; exact ⟨h0, h2⟩
  · injection hv with hv; cases hv
theorem RefAt.src {w w' : World} {N B m rc : Nat} {R : Option Addr} {lr : List FrV} (h : RefAt w N B (.slice R m rc) lr) (hN : N ≤ w.heap.size) (b : Below w.heap.size w w') : ∀ ad, R = some ad → ∀ j u, (flatN lr)[j]? = some u → w'.cell? (ad.add j) = some u := by
  intro ad hR j u hu
  subst hR
  have h2 := (h.on hN b).row
  rcases h2.2 with ⟨hv, _⟩ | ⟨g, cap, cur, hv, _⟩
  · cases hv
  · injection hv with hv _ _
    injection hv with hv
    subst hv
    exact h2.cells (g := g) rfl j u hu
/-- Both nets, one frame longer. -/
theorem BothN.more {w W2 w9 : World} {N B g : Nat} {lim : Int} {v v' u rv rv' s : Value} {lp lr : List FrV} {f : FrL} (h : BothN w N B g lim v lp rv lr) (hs : Below B w W2) (hn : NetAt W2 B g lim v' (lp ++ [(f, u)])) (hr : RefAt W2 N B rv lr) (b : Below W2.heap.size W2 w9) (ho : w9.ownsRow W2.heap.size 41 3 rv' (lr.length + 1) (flatN lr ++ frC (f, s)))
    (hf : ∃ A c, s = .slice A f.d.length c ∧ (A = none → c = 0) ∧ Held N W2 A f.d) (h8 : ∀ x ∈ f.d, x < 256) (hk : knownB f.fr = true ∧ knownB f.to = true) :
    StepN N B g lim w (.returned (.tuple #[rv', .bool true])) w9 := by
  have hN2 : N ≤ W2.heap.size := Nat.le_trans h.low hn.base_le
  refine ⟨rv', v', lp ++ [(f, u)], lr ++ [(f, s)], rfl, ⟨hn.on b, ⟨?_, fun p hp => ?_⟩, h.low, ?_, fun p hp => ?_, fun p hp => ?_⟩, hs.trans (b.mono hn.base_le)⟩
  · rw [List.length_append, List.length_singleton, flatN_app]
    exact own_lowN ho hn.base_le
  · rcases List.mem_append.1 hp with hp | hp
    · exact (hr.on hN2 b).arg p hp
    · simp at hp
      subst hp
      obtain ⟨A, c, h1, h2, h3⟩ := hf
      exact ⟨A, c, h1, h2, h3.below (b.mono hN2)⟩
  · rw [List.map_append, List.map_append, h.same]
    rfl
  · rcases List.mem_append.1 hp with hp | hp
    · exact h.byte p hp
    · simp at hp; subst hp; exact h8
  · rcases List.mem_append.1 hp with hp | hp
    · exact h.known p hp
    · simp at hp; subst hp; exact hk

set_option maxRecDepth 100000 in
set_option maxHeartbeats 4000000 in
theorem ntstep_send_ok (N B g : Nat) (lim : Int) (v : Value) (lp : List FrV) (rv : Value) (lr : List FrV) (o : OpN) (w : World) (h : BothN w N B g lim v lp rv lr) (h1 : o.kind = 1) (hm : (o.A = none → o.c = 0) ∧ Held N w o.A o.f.d ∧ ∀ x ∈ o.f.d, x < 256) (hno : sendE lim lr.length o.f o.f.d.length = 0) :
    Calls Try.prog 7 #[.pointer (some ⟨g, 0, none⟩), rv, .int .i64 lim, .agg (opNC o)] w (StepN N B g lim w) := by
  have hk0 : ¬ (o.f.fr < 0 ∨ 6 < o.f.fr ∨ o.f.to < 0 ∨ 6 < o.f.to) := fun hh => by rw [sendE_a hh] at hno; omega
  rw [sendE_b hk0] at hno
  have hd0 : ¬ 512 < o.f.d.length := fun hh => by rw [if_pos hh] at hno; omega
  rw [if_neg hd0] at hno
  have hl0 : ¬ lim ≤ (lr.length : Int) := fun hh => by rw [if_pos hh] at hno; omega
  have HB := hid h
  have HMd := hid hm
  have HKn : Hid (knownB o.f.fr = true ∧ knownB o.f.to = true) := hid (by unfold knownB; simp; omega)
  have HSend := hid (fun w1 (hb : Below w.heap.size w w1) => ntsend_ok B g lim v lp o.f o.A o.f.d.length o.c w1 (h.net.on hb) (by rw [h.len]; omega) rfl (by omega) hm.1 ((hm.2.1.sees h.size).below hb) HKn.out.1 HKn.out.2)
  have hm9 : lr.length ≤ 4096 := by rw [← h.len]; exact h.net.len
  obtain ⟨R, rc, hrv⟩ := own_shapeN h.ref.row
  obtain ⟨m, hmm⟩ : ∃ m, lr.length = m := ⟨_, rfl⟩
  have HM := hid hmm
  rw [hmm] at hrv hl0 hm9
  subst hrv
  obtain ⟨kd, i, bit, ⟨fr, to, d⟩, A, c⟩ := o
  simp only at h1 hk0 hd0
  subst h1
  obtain ⟨i0, hi0, hz0, hz1, hz2⟩ := info_parts info_rf
  have HI := hid (And.intro hi0 (And.intro hz0 (And.intro hz1 hz2)))
  obtain ⟨n, hn⟩ : ∃ n, d.length = n := ⟨_, rfl⟩
  have HN := hid hn
  simp only [hn] at HSend hd0
  clear h hm hmm hno hi0 hz0 hz1 hz2
  simp only [opNC, hn]
  clear hn
  go_enter Try.func7, Try.ntmps7
  go_upto_region 1 with fail
  obtain ⟨W, hW⟩ : ∃ W, w.alloc (.cells #[.int .i64 1, .int .i64 i, .int .i64 bit, .int .i64 fr, .int .i64 to, .slice A n c] 34) = W := ⟨_, rfl⟩
  rw [hW]
  obtain ⟨K0, KB⟩ := lone_new hW
  obtain ⟨k, hk⟩ : ∃ k, w.heap.size = k := ⟨_, rfl⟩
  rw [hk] at K0 ⊢
  clear hW hk
  obtain ⟨c0, c1, c2, c3, c4, c5⟩ := lcells6N K0.out
  have q1 : ¬ fr < 0 := by omega
  have q2 : ¬ 6 < fr := by omega
  have q3 : ¬ to < 0 := by omega
  have q4 : ¬ 6 < to := by omega
  have q5 : ¬ (512 : Int) < (n : Int) := by omega
  have q6 : ¬ lim ≤ (m : Int) := by omega
  clear hk0 hd0 hl0
  by_cases hi : 0 ≤ i
  all_goals (
    go_upto_region 5 with fail
    obtain ⟨W4, hW4⟩ : ∃ W4, W.alloc (.cells #[.int .i64 fr, .int .i64 to, .slice A n c] 32) = W4 := ⟨_, rfl⟩
    rw [hW4]
    obtain ⟨K4, KB4⟩ := lone_new hW4
    have B4 := hid (below_on KB.out KB4.out)
    have HS := hid (HSend.out W4 B4.out)
    have X4 := hid (HB.out.on B4.out)
    obtain ⟨k4, hk4⟩ : ∃ k, W.heap.size = k := ⟨_, rfl⟩
    have HK4 : Hid (w.heap.size ≤ k4) := hid (by rw [← hk4]; exact KB.out.size)
    rw [hk4] at K4 ⊢
    clear hW4 hk4 c0 c1 c2 c3 c4 c5
    obtain ⟨d0, d1, d2⟩ := lcells3N K4.out
    go_upto_region 7 with (go_at_call 13; (with_reducible refine HS.out.mono ?_); rintro e W2 ⟨v2, u2, rfl, hN2, hT2, _, _⟩; have N2 := hid hN2; have R2 := hid (X4.out.keeps hT2 (fun i hi => .inl hi)).1; have BB := hid ((B4.out.mono HB.out.net.base_le).trans (X4.out.keeps hT2 (fun i hi => .inl hi)).2); have K2 := hid (K4.out.turns hT2 (fun e => by have hh := (HB.out.net.own (.inl e)).2; have := HK4.out; omega)); clear hN2 hT2 d0 d1 d2; obtain ⟨d0, d1, d2⟩ := lcells3N K2.out)
    have hnone := own_nilN (by have hh := R2.out.row; rw [HM.out] at hh; exact hh)
    have HN2 : Hid (N ≤ W2.heap.size) := hid (Nat.le_trans HB.out.low N2.out.base_le)
    have HSrc : Hid (∀ W', Below W2.heap.size W2 W' → ∀ ad, R = some ad → ∀ j u, (flatN lr)[j]? = some u → W'.cell? (ad.add j) = some u) := hid (fun W' b => R2.out.src HN2.out b)
    have HFl : Hid ((flatN lr).length = m * 3) := hid (by rw [flatN_len, HM.out])
    have HOne := hid R2.out.one
    have HOf := hid (fun A n c w => ntof_any fr to A n c w)
    have S0 : Hid (∀ W', Below W2.heap.size W2 W' → (W'.cell? ⟨k4, 0, none⟩ = some (.int .i64 fr) ∧ W'.cell? ⟨k4, 1, none⟩ = some (.int .i64 to) ∧ W'.cell? ⟨k4, 2, none⟩ = some (.slice A n c))) := hid (fun W' b => lcells3N (K2.out.below b K2.out.lt))
    have D0 := hid (below_drew (Below.refl W2.heap.size W2))
    have HM0 := hid (made0 (W := W2.drew) (base := W2.heap.size) (a := W2.heap.size) (s := 3) (e := 41) (Nat.le_refl _) rfl)
    go_region_held3 (fun W' => W'.cell? ⟨k4, 0, none⟩ = some (.int .i64 fr) ∧ W'.cell? ⟨k4, 1, none⟩ = some (.int .i64 to) ∧ W'.cell? ⟨k4, 2, none⟩ = some (.slice A n c))
      (with_reducible exact S0.out _ (by repeat (first | with_reducible exact D0.out | with_reducible exact Below.refl _ _ | with_reducible refine below_alloc ?_ _ | with_reducible refine below_drew ?_)))
      (first
        | (go_at_call 11; (with_reducible refine (HOf.out _ _ _ _).mono ?_); rintro e w6 ⟨rfl, b6⟩; have D0 := hid (below_on (by repeat (first | with_reducible exact D0.out | with_reducible exact Below.refl _ _ | with_reducible refine below_alloc ?_ _ | with_reducible refine below_drew ?_)) b6); have CB := hid b6; clear b6)
        | (refine step_append_cellsD rfl (.tmp 37) (.tmp 38) 29 rfl W2 (by repeat (first | with_reducible exact D0.out | with_reducible exact Below.refl _ _ | with_reducible refine below_alloc ?_ _ | with_reducible refine below_drew ?_)) 41 i0 _ 3 40 Try.underlying29 HI.out.1 HI.out.2.1 HI.out.2.2.1 HI.out.2.2.2 rfl (by decide) (.slice (some ⟨W2.heap.size, 0, none⟩) 0 0) 0 [] rfl (by repeat (first | with_reducible exact O1.out | exact HM0.out | with_reducible refine World.ownsRow.alloc ?_ _ | with_reducible refine World.ownsRow.drew ?_ | with_reducible refine own_since ?_ CB.out)) R m rc (flatN lr) rfl hnone HFl.out (HSrc.out _ (by repeat (first | with_reducible exact D0.out | with_reducible exact Below.refl _ _ | with_reducible refine below_alloc ?_ _ | with_reducible refine below_drew ?_))) HOne.out (by unfold maxLen; omega) (by omega) ?_
           intro v7 w7 hown hg hb
           simp only [Nat.zero_add, List.nil_append] at hown
           obtain ⟨X7, x7, rfl⟩ := own_shapeN hown
           have O1 := hid hown
           have G1 := hid hg
           have D0 := hid hb
           clear hown hg hb)
        | (refine step_append_cellsD rfl (.tmp 39) (.tmp 42) 29 rfl W2 (by repeat (first | with_reducible exact D0.out | with_reducible exact Below.refl _ _ | with_reducible refine below_alloc ?_ _ | with_reducible refine below_drew ?_)) 41 i0 _ 3 40 Try.underlying29 HI.out.1 HI.out.2.1 HI.out.2.2.1 HI.out.2.2.2 rfl (by decide) (.slice X7 m x7) m (flatN lr) rfl (by repeat (first | with_reducible exact O1.out | exact HM0.out | with_reducible refine World.ownsRow.alloc ?_ _ | with_reducible refine World.ownsRow.drew ?_ | with_reducible refine own_since ?_ CB.out)) (some ⟨_, 0, none⟩) 1 1 [.int .i64 fr, .int .i64 to, .slice A n c] rfl (fun h => nomatch h) rfl (fun ad had => by injection had with had; subst had; exact blk_cells3 (t := 41) (by repeat (first | (with_reducible refine blk_at ?_; focus (simp)) | refine Blk.grown ?_ G1.out (ne_own (by omega)) | with_reducible refine Blk.alloc ?_ _ | with_reducible refine Blk.drew ?_); all_goals (simp; try omega))) (by intro y hy; simp at hy; rcases hy with rfl | rfl | rfl <;> rfl) (by unfold maxLen; omega) (by omega) ?_
           intro v8 w8 hown hg hb
           obtain ⟨X8, x8, rfl⟩ := own_shapeN hown
           have O2 := hid hown
           have D0 := hid hb
           clear hown hg hb))
    all_goals (
      rename_i hHeld
      clear hHeld
      have HFin := hid (HB.out.more (f := ⟨fr, to, d⟩) BB.out N2.out R2.out D0.out (by rw [HM.out]; exact O2.out) ⟨A, c, by rw [HN.out], HMd.out.1, HMd.out.2.1.below (BB.out.mono HB.out.low)⟩ HMd.out.2.2 HKn.out)
      go_wp2
      refine bodyPost_ret (v := .tuple #[.slice X8 (m + 1) x8, .bool true]) (by simp [results, Try.results7, go_sem]) rfl HFin.out))
end Go.Proofs.Ytljnboimadhkoaa
