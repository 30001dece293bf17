/-
  The law's walk: what was sent is its own.
-/
import Derived.Test.YtljnboimadhkoaaNtAnch
import Derived.Test.YtljnboimadhkoaaNtList
namespace Go.Proofs.Ytljnboimadhkoaa
open Go.ChangeShapes Go.WideShapes Go.ChangeAt Go.RowKit
set_option linter.unusedVariables false
set_option linter.unusedSimpArgs false

theorem NetAt.lower {w : World} {base base' g : Nat} {lim : Int} {v : Value} {l : List FrV} (h : NetAt w base g lim v l) (hb : base' ≤ base) : NetAt w base' g lim v l :=
  ⟨h.blk, Nat.le_trans hb h.low, own_lowN h.row hb, fun p hp => own_lowN (h.dat p hp) hb, h.apart, h.few, h.small⟩
/-- A net all whose blocks but its own are new. -/
structure HighN (w0 W : World) (base g : Nat) (lim : Int) (v : Value) (l : List FrV) : Prop where
  net : NetAt W base g lim v l
  high : ∀ b, OwnN g v l b → b = g ∨ w0.heap.size ≤ b
theorem HighN.on {w0 W W' : World} {base g : Nat} {lim : Int} {v : Value} {l : List FrV} (h : HighN w0 W base g lim v l) (k : Below W.heap.size W W') : HighN w0 W' base g lim v l := ⟨h.net.on k, h.high⟩
theorem HighN.puts {w0 W W' : World} {base g : Nat} {lim : Int} {v v' u : Value} {l : List FrV} {f : FrL} (h : HighN w0 W base g lim v l) (hs : w0.heap.size ≤ W.heap.size) (n : NetAt W' base g lim v' (l ++ [(f, u)])) (t : TurnsD (RowN g v) W W') (h1 : ∀ b, u.ownBlock = some b → W.heap.size ≤ b) (h2 : ∀ b, v'.ownBlock = some b → v.ownBlock = some b ∨ W.heap.size ≤ b) :
    HighN w0 W' base g lim v' (l ++ [(f, u)]) ∧ TurnsD (fun b => b = g ∨ w0.heap.size ≤ b) W W' := by
  refine ⟨⟨n, fun b hb => ?_⟩, t.more (fun i _ hi => h.high i (.inl hi))⟩
  rcases hb with (rfl | hb) | ⟨p, hp, hb⟩
  · exact .inl rfl
  · exact (h2 b hb).elim (fun e => h.high b (.inl (.inr e))) (fun e => .inr (Nat.le_trans hs e))
  · rcases List.mem_append.1 hp with hp | hp
    · exact h.high b (.inr ⟨p, hp, hb⟩)
    · simp at hp
      subst hp
      exact .inr (Nat.le_trans hs (h1 b hb))
theorem HighN.taken {w0 W W' : World} {base g : Nat} {lim : Int} {v v' : Value} {l : List FrV} {j : Nat} {p : FrV} (h : HighN w0 W base g lim v l) (t : TakenN base g lim v l j p v' W W') :
    HighN w0 W' base g lim v' (l.eraseIdx j) ∧ TurnsD (fun b => b = g ∨ w0.heap.size ≤ b) W W' := by
  refine ⟨⟨t.net, fun b hb => ?_⟩, t.turns.more (fun i _ hi => h.high i (.inl hi))⟩
  rcases hb with (rfl | hb) | ⟨q, hq, hb⟩
  · exact .inl rfl
  · exact h.high b (.inl (.inr (by rw [← t.same]; exact hb)))
  · exact h.high b (.inr ⟨q, (List.eraseIdx_sublist l j).subset hq, hb⟩)
/-- A row that isn't empty begins where its block does. -/
theorem own_at {w : World} {base n s : Nat} {e : TypeId} {v : Value} {xs : List Value} (h : w.ownsRow base e s v n xs) (hn : 0 < n) : ∃ b c, v = .slice (some ⟨b, 0, none⟩) n c ∧ base ≤ b ∧ b < w.heap.size := by
  rcases h.2 with ⟨_, h0⟩ | ⟨g, cap, cur, rfl, hb, hg, _⟩
  · omega
  · exact ⟨g, cap, rfl, hb, (Array.getElem?_eq_some_iff.1 hg).1⟩
theorem num_at {w : World} {base b n c i : Nat} {d : List Nat} (h : w.ownsRow base 5 1 (.slice (some ⟨b, 0, none⟩) n c) n (numsN d)) (hi : i < d.length) : w.cell? ⟨b, i, none⟩ = some (.int .u8 (d[i] : Int)) ∧ w.frozen? ⟨b, i, none⟩ = false := by
  have h1 := h.cells (g := b) rfl i (.int .u8 (d[i] : Int)) (by simp [numsN, hi])
  rw [add_plain, Nat.zero_add] at h1
  obtain ⟨cs, hb⟩ := own_type h (b := b) rfl
  exact ⟨h1, hb.frozen i⟩

theorem own_clone_step {W3 w6 : World} {k7 n : Nat} {a b x s : Value} {xs : List Value} (hk : Blk W3 k7 32 #[a, b, x]) (hb : Below W3.heap.size W3 w6) (ho : w6.ownsRow W3.heap.size 5 1 s n xs) :
    Blk (w6.setCell ⟨k7, 2, none⟩ s) k7 32 #[a, b, s] ∧ (w6.setCell ⟨k7, 2, none⟩ s).ownsRow W3.heap.size 5 1 s n xs ∧ TurnsD (fun b => b = k7) W3 (w6.setCell ⟨k7, 2, none⟩ s) := by
  have h6 := hk.below hb hk.lt
  have g2 : w6.grownBy (w6.setCell ⟨k7, 2, none⟩ s) (some k7) := only_setCell (World.grownBy.refl _ _) (.inl rfl) _
  refine ⟨?_, ho.kept g2 (.inr (own_neB ho h6 (by decide))), (TurnsD.of_below (S := fun b => b = k7) hb).set (p := ⟨k7, 2, none⟩) (.inl rfl) _⟩
  have := h6.set_ 2 s
  simpa only [List.setIfInBounds_toArray, List.set_cons_succ, List.set_cons_zero] using this
theorem own_none {g b : Nat} (h : OwnN g (.slice none 0 0) [] b) : b = g := by
  rcases h with (h | h) | ⟨p, hp, _⟩
  · exact h
  · cases h
  · simp at hp
theorem NetAt.stay0 {S : Nat → Prop} {w w' : World} {base g : Nat} {lim : Int} (h : NetAt w base g lim (.slice none 0 0) []) (t : TurnsD S w w') (hg : ¬ S g) : NetAt w' base g lim (.slice none 0 0) [] :=
  h.stay t (fun b hb => by rw [own_none hb]; exact hg)
theorem slice_own {b b' n c : Nat} (h : (Value.slice (some ⟨b, 0, none⟩) n c).ownBlock = some b') : b = b' := by simpa [Value.ownBlock] using h
theorem turns_cell (w : World) (b q : Nat) (u : Value) : TurnsD (fun x => x = b) w (w.setCell ⟨b, q, none⟩ u) := (TurnsD.refl (fun x => x = b) w).set (p := ⟨b, q, none⟩) (.inl rfl) u
theorem two_of {l1 : List FrV} {f : FrL} {x y : Value} (h : l1.map (·.1) = (([(f, x), (f, y)] : List FrV).take 2).map (·.1)) : ∃ a b, l1 = [(f, a), (f, b)] := by
  match l1, h with
  | [(p, a), (q, b)], h =>
    simp at h
    obtain ⟨rfl, rfl⟩ := h
    exact ⟨a, b, rfl⟩
theorem knownB_of {r : Int} (h0 : ¬ r < 0) (h1 : ¬ 6 < r) : knownB r = true := by unfold knownB; simp; omega
set_option maxRecDepth 100000 in
set_option maxHeartbeats 8000000 in
theorem owns_walk (f : FrL) (A : Option Addr) (n c : Nat) (at_ : Int) (hn : f.d.length = n) (hn9 : n ≤ 9223372036854775807) (hc : A = none → c = 0) (w : World) (hS : Sees .u8 w A f.d) :
    Calls Try.prog 4 #[frV (f, .slice A n c), .int .i64 at_] w fun e w' => e = .returned (.bool true) ∧ Below w.heap.size w w' := by
  have HS := hid hS
  have HN := hid hn
  have HC := hid hc
  have HA := hid anchor19
  have HNew := hid (fun w => ntnew_any 4 w (by decide) (by decide))
  obtain ⟨fr, to, d⟩ := f
  clear hS hn hc
  go_enter Try.func4, Try.ntmps4
  go_upto_region 1 with fail
  obtain ⟨W, hW⟩ : ∃ W, w.alloc (.cells #[.int .i64 fr, .int .i64 to, .slice A n c] 32) = W := ⟨_, rfl⟩
  rw [hW]
  obtain ⟨K0, KB⟩ := lone_new hW
  obtain ⟨k, hk⟩ : ∃ k, w.heap.size = k := ⟨_, rfl⟩
  rw [hk] at K0 ⊢
  have HK := hid hk
  clear hW hk
  go_upto_region 4 with (first
    | (go_at_call 5; (with_reducible refine (HA.out _).mono ?_); rintro e w1 ⟨rfl, b1⟩; have B1 := hid (below_on KB.out b1); have K1 := hid (K0.out.below b1 K0.out.lt); clear b1)
    | (go_at_call 6; (with_reducible refine (HNew.out _).mono ?_); rintro e w2 ⟨rfl, hNet, b2⟩; have N2 := hid hNet; have B2 := hid (below_on B1.out b2); have K2 := hid (K1.out.below b2 K1.out.lt); have HG := hid (show w.heap.size ≤ w1.heap.size from B1.out.size); have HKG := hid (show k < w1.heap.size from K1.out.lt); clear hNet b2))
  obtain ⟨g, hg⟩ : ∃ g, w1.heap.size = g := ⟨_, rfl⟩
  rw [hg] at N2 HG HKG ⊢
  clear hg K0 K1 KB B1
  obtain ⟨c0, c1, c2⟩ := lcells3N K2.out
  by_cases h1 : fr < 0
  · go_wp2; go_ret; exact ⟨rfl, B2.out⟩
  by_cases h2 : 6 < fr
  · go_wp2; go_ret; exact ⟨rfl, B2.out⟩
  by_cases h3 : to < 0
  · go_wp2; go_ret; exact ⟨rfl, B2.out⟩
  by_cases h4 : 6 < to
  · go_wp2; go_ret; exact ⟨rfl, B2.out⟩
  by_cases h5 : (512 : Int) < (n : Int)
  · go_wp2; go_ret; exact ⟨rfl, B2.out⟩
  by_cases h6 : at_ < 0
  · go_wp2; go_ret; exact ⟨rfl, B2.out⟩
  by_cases h7 : (n : Int) ≤ at_
  · go_wp2; go_ret; exact ⟨rfl, B2.out⟩
  obtain ⟨q, rfl⟩ : ∃ q : Nat, at_ = q := ⟨at_.toNat, by omega⟩
  have hq : q < n := by omega
  go_upto_region 7 with fail
  obtain ⟨i0, hi, hz0, hz1, hz2⟩ := info_parts info_u8
  obtain ⟨W3, hW3⟩ : ∃ W3, w2.alloc (.cells #[.int .i64 fr, .int .i64 to, .slice A n c] 32) = W3 := ⟨_, rfl⟩
  rw [hW3]
  obtain ⟨K7, KB3⟩ := lone_new hW3
  have K23 := hid (K2.out.below KB3.out K2.out.lt)
  have B3 := hid (below_on B2.out KB3.out)
  have N3 := hid (N2.out.on KB3.out)
  have HSA := hid (HS.out.below B3.out)
  have HK7 := hid (show g < w2.heap.size from N2.out.lt)
  obtain ⟨k7, hk7⟩ : ∃ k, w2.heap.size = k := ⟨_, rfl⟩
  rw [hk7] at K7 HK7 ⊢
  clear hW3 KB3 hk7 c0 c1 c2 N2 B2 K2
  obtain ⟨c0, c1, c2⟩ := lcells3N K23.out
  obtain ⟨d0, d1, d2⟩ := lcells3N K7.out
  have f2 := K7.out.frozen 2
  go_upto_region 8 with (first
    | ((with_reducible refine wpList_build_none (o := ⟨some 70, _, _, _, _, _⟩) rfl 30 5 rfl Try.underlying30 i0 hi W3.heap.size (Nat.le_refl _) ?_); intro s5 w5 hown5 hb5; have z5 := hb5.size; have c5 : w5.cell? ⟨k, 2, none⟩ = some (.slice A n c) := (lcells3N (K23.out.below hb5 K23.out.lt)).2.2)
    | (at_builtin; refine wpList_append_named rfl (.tmp 70) (.tmp 72) 30 rfl W3.heap.size 5 i0 (.int .u8 0) 1 Try.underlying30 hi hz0 hz1 hz2 rfl _ 0 [] rfl hown5 .u8 A c d n HN.out rfl HC.out (HSA.out.below hb5) (by unfold maxLen; omega) (by omega) z5 ?_; intro s6 w6 hown6 hg6; simp only [Nat.zero_add, List.nil_append] at hown6; have HO := hid hown6; have HB6 := hid (hb5.grown hg6 (by omega) (fun b hb => (hown5.lt b hb).1)); obtain ⟨A6, c6, rfl⟩ := own_shapeN hown6; have x2 := (lcells3N (K7.out.below HB6.out K7.out.lt)).2.2; have y2 := (K7.out.below HB6.out K7.out.lt).frozen 2; clear hown5 hb5 z5 c5 hown6 hg6))
  obtain ⟨KW7, RW7, T7⟩ := own_clone_step K7.out HB6.out HO.out
  obtain ⟨w7, hw7⟩ : ∃ w7, w6.setCell ⟨k7, 2, none⟩ (.slice A6 n c6) = w7 := ⟨_, rfl⟩
  rw [hw7] at KW7 RW7 T7 ⊢
  have KW := hid KW7
  have RW := hid RW7
  have KF := hid (K23.out.turns T7 (by have := HKG.out; have := HK7.out; omega))
  have NN := hid (N3.out.stay0 T7 (by have := HK7.out; omega))
  have B7 : Hid (Below w.heap.size w w7) := hid (B3.out.trans (T7.below B3.out.size (fun i hi => by have := HG.out; have := HK7.out; omega)))
  have HL7 := hid (KW7.lt)
  have HO6 : Hid (∀ b, (Value.slice A6 n c6).ownBlock = some b → b < w7.heap.size) := hid (fun b hb => (RW7.lt b hb).2)
  clear hw7 KW7 RW7 T7 x2 y2 HB6 HO K7 K23 N3 B3 HSA c0 c1 c2 d0 d1 d2 f2
  obtain ⟨c0, c1, c2⟩ := lcells3N KF.out
  go_upto_region 9 with fail
  obtain ⟨W8, hW8⟩ : ∃ W8, w7.alloc (.cells #[.int .i64 fr, .int .i64 to, .slice A n c] 32) = W8 := ⟨_, rfl⟩
  rw [hW8]
  obtain ⟨K8, KB8⟩ := lone_new hW8
  have B8 := hid (below_on B7.out KB8.out)
  have KF8 := hid (KF.out.below KB8.out KF.out.lt)
  have KW8 := hid (KW.out.below KB8.out KW.out.lt)
  have RW8 := hid (row_turnsN (S := fun _ => False) RW.out (TurnsD.of_below KB8.out) (fun _ _ h => h))
  have N8 := hid (NN.out.on KB8.out)
  have HSA8 := hid (HS.out.below B8.out)
  have HO68 : Hid (∀ b, (Value.slice A6 n c6).ownBlock = some b → b < W8.heap.size) := hid (fun b hb => Nat.lt_of_lt_of_le (HO6.out b hb) KB8.out.size)
  obtain ⟨k8, hk8⟩ : ∃ k, w7.heap.size = k := ⟨_, rfl⟩
  rw [hk8] at K8 HL7 ⊢
  have HK8 := hid hk8
  clear hW8 hk8 c0 c1 c2 KF KW RW NN B7 HO6 KB8
  obtain ⟨c0, c1, c2⟩ := lcells3N KF8.out
  obtain ⟨d0, d1, d2⟩ := lcells3N K8.out
  have f2 := K8.out.frozen 2
  go_upto_region 10 with (first
    | ((with_reducible refine wpList_build_none (o := ⟨some 76, _, _, _, _, _⟩) rfl 30 5 rfl Try.underlying30 i0 hi W8.heap.size (Nat.le_refl _) ?_); intro s5 w8 hown5 hb5; have z5 := hb5.size; have c5 : w8.cell? ⟨k, 2, none⟩ = some (.slice A n c) := (lcells3N (KF8.out.below hb5 KF8.out.lt)).2.2)
    | (at_builtin; refine wpList_append_named rfl (.tmp 76) (.tmp 78) 30 rfl W8.heap.size 5 i0 (.int .u8 0) 1 Try.underlying30 hi hz0 hz1 hz2 rfl _ 0 [] rfl hown5 .u8 A c d n HN.out rfl HC.out (HSA8.out.below hb5) (by unfold maxLen; omega) (by omega) z5 ?_; intro s6 w9 hown6 hg6; simp only [Nat.zero_add, List.nil_append] at hown6; have HO := hid hown6; have HB9 := hid (hb5.grown hg6 (by omega) (fun b hb => (hown5.lt b hb).1)); obtain ⟨A8, c8, rfl⟩ := own_shapeN hown6; have x2 := (lcells3N (K8.out.below HB9.out K8.out.lt)).2.2; have y2 := (K8.out.below HB9.out K8.out.lt).frozen 2; clear hown5 hb5 z5 c5 hown6 hg6))
  obtain ⟨KM9, RM9, T9⟩ := own_clone_step K8.out HB9.out HO.out
  obtain ⟨w10, hw10⟩ : ∃ w10, w9.setCell ⟨k8, 2, none⟩ (.slice A8 n c8) = w10 := ⟨_, rfl⟩
  rw [hw10] at KM9 RM9 T9 ⊢
  have KM := hid KM9
  have RM := hid RM9
  have KW := hid (KW8.out.turns T9 (by have := HL7.out; omega))
  have RW := hid (row_turnsN RW8.out T9 (fun b hb e => by rw [e] at hb; exact own_neB RW8.out K8.out (by decide) hb))
  have KF := hid (KF8.out.turns T9 (by have := HKG.out; have := HK7.out; have := HL7.out; omega))
  have NN := hid (N8.out.stay0 T9 (by have := HK7.out; have := HL7.out; omega))
  have B10 : Hid (Below w.heap.size w w10) := hid (B8.out.trans (T9.below B8.out.size (fun i hi => by have := HG.out; have := HK7.out; have := HL7.out; omega)))
  obtain ⟨b8, c8', e8, hb8, hb8'⟩ := own_at RM9 (by omega)
  injection e8 with e8 _ e8c
  subst e8
  clear e8c
  have HSM := hid (Sees.of_own RM9)
  have HNe : Hid (∀ b, (Value.slice A6 n c6).ownBlock = some b → b ≠ b8) := hid (fun b hb e => by have := HO68.out b hb; omega)
  have HG8 : Hid (b8 ≠ g) := hid (fun e => own_neB RM9 NN.out.blk (by decide) (by rw [e]; rfl))
  have HB8k : Hid (b8 ≠ k7 ∧ b8 ≠ k8) := hid ⟨fun e => own_neB RM9 KW.out (by decide) (by rw [e]; rfl), fun e => own_neB RM9 KM9 (by decide) (by rw [e]; rfl)⟩
  have HB8lt := hid hb8'
  have HB8low : Hid (w.heap.size ≤ b8) := hid (Nat.le_trans B8.out.size hb8)
  have HG6 : Hid (∀ b, (Value.slice A6 n c6).ownBlock = some b → b ≠ g ∧ b < w10.heap.size) := hid (fun b hb => ⟨fun e => own_neB RW.out NN.out.blk (by decide) (by rw [← e]; exact hb), (RW.out.lt b hb).2⟩)
  clear hb8 hb8' hw10 KM9 RM9 T9 x2 y2 HB9 HO K8 KF8 KW8 RW8 N8 B8 HSA8 HO68 c0 c1 c2 d0 d1 d2 f2
  have H10 : Hid (HighN w10 w10 g g 4 (.slice none 0 0) []) := hid ⟨NN.out, fun b hb => .inl (own_none hb)⟩
  have HSend := hid (ntsend_ok g g 4 (.slice none 0 0) [] ⟨fr, to, d⟩ (some ⟨b8, 0, none⟩) n c8 w10 NN.out (by simp) HN.out (by omega) (fun e => by cases e) HSM.out (knownB_of h1 h2) (knownB_of h3 h4))
  have HTw := hid (fun w v p (h : NetAt w g g 4 v [p]) => nttwice_ok g g 4 v [p] 0 p 0 rfl w h (by simp) rfl)
  have HN0 := hid (Nat.le_refl w10.heap.size)
  obtain ⟨m0, m1, m2⟩ := lcells3N KM.out
  have HKeep : Hid (∀ W, TurnsD (fun b => b = g ∨ b = b8 ∨ w10.heap.size ≤ b) w10 W → Blk W k7 32 #[.int .i64 fr, .int .i64 to, .slice A6 n c6] ∧ W.ownsRow W3.heap.size 5 1 (.slice A6 n c6) n (numsN d) ∧ Blk W k8 32 #[.int .i64 fr, .int .i64 to, .slice (some ⟨b8, 0, none⟩) n c8]) := hid (fun W t =>
    ⟨KW.out.turns t (by have := HK7.out; have := HB8k.out; have := KW.out.lt; omega), row_turnsN RW.out t (fun b hb e => by have h1 := HG6.out b hb; have h2 := HNe.out b hb; omega), KM.out.turns t (by have := HK7.out; have := HL7.out; have := HB8k.out; have := KM.out.lt; omega)⟩)
  have HKeepM : Hid (∀ W, TurnsD (fun b => b = g ∨ w10.heap.size ≤ b) w10 W → W.ownsRow W8.heap.size 5 1 (.slice (some ⟨b8, 0, none⟩) n c8) n (numsN d)) := hid (fun W t => row_turnsN RM.out t (fun b hb e => by have h0 := slice_own hb; have h1 := HG8.out; have h2 := HB8lt.out; omega))
  go_upto_region 12 with (first
    | (go_at_call 13; (with_reducible refine HSend.out.mono ?_); rintro e w11 ⟨v11, u1, rfl, hN, hT, hF, hF2⟩; obtain ⟨hh, ht⟩ := H10.out.puts (Nat.le_refl _) hN hT hF hF2; have H11 := hid hh; have T11 := hid ht; have U1 := hid hF; clear hN hT hF hF2 hh ht m0 m1 m2)
    | (go_at_call 14; (with_reducible refine (HTw.out _ _ _ H11.out.net).mono ?_); rintro e w12 ⟨v12, u2, rfl, hN, hT, hF, hF2⟩; obtain ⟨hh, ht⟩ := H11.out.puts T11.out.size hN hT hF hF2; have H12 := hid hh; have T12 := hid (T11.out.trans ht (fun _ _ h => h)); clear hN hT hF hF2 hh ht))
  have RM12 := hid (HKeepM.out _ T12.out)
  have TT12 := hid (T12.out.more (T := fun b => b = g ∨ b = b8 ∨ w10.heap.size ≤ b) (fun i _ h => h.elim .inl (fun h => .inr (.inr h))))
  have KM12 := hid (HKeep.out _ TT12.out).2.2
  obtain ⟨m0, m1, m2⟩ := lcells3N KM12.out
  have hqd : q < d.length := by have : d.length = n := HN.out; omega
  obtain ⟨n1, n2⟩ := num_at RM12.out hqd
  have hqn : (q : Int) < (n : Int) := by omega
  go_upto_region 13 with fail
  have T13 := hid (TT12.out.set (p := ⟨b8, q, none⟩) (.inl (.inr (.inl rfl))) (.int .u8 (((d[q] : Int) + 1) % 256)))
  have H13 := hid (show HighN w10 (w12.setCell ⟨b8, q, none⟩ (.int .u8 (((d[q] : Int) + 1) % 256))) g g 4 v12 [(⟨fr, to, d⟩, u1), (⟨fr, to, d⟩, u2)] from ⟨H12.out.net.stay (S := fun b => b = b8) (turns_cell w12 b8 q _) (fun b hb e => by have h1 := H12.out.high b hb; have h2 := HG8.out; have h3 := HB8lt.out; omega), H12.out.high⟩)
  obtain ⟨w13, hw13⟩ : ∃ w13, w12.setCell ⟨b8, q, none⟩ (.int .u8 (((d[q] : Int) + 1) % 256)) = w13 := ⟨_, rfl⟩
  rw [hw13] at T13 H13 ⊢
  clear hw13 n1 n2 m0 m1 m2 RM12 KM12
  have HLi := hid (ntlist_any g g 4 v12 _ w13 H13.out.net)
  go_upto_region 14 with (go_at_call 8; (with_reducible refine HLi.out.mono ?_); rintro e w14 ⟨v14, l14, rfl, hL⟩; have HL14 := hid hL; clear hL)
  obtain ⟨x1, x2, rfl⟩ := two_of HL14.out.1
  obtain ⟨b14, c14, rfl, hb14, _⟩ := own_at HL14.out.2.1 (by simp)
  obtain ⟨e1, ce1, he1, hbe1, _⟩ := own_at (HL14.out.2.2.1 (⟨fr, to, d⟩, x1) (by simp)) (Nat.lt_of_le_of_lt (Nat.zero_le q) hqd)
  obtain ⟨e2, ce2, he2, _, _⟩ := own_at (HL14.out.2.2.1 (⟨fr, to, d⟩, x2) (by simp)) (Nat.lt_of_le_of_lt (Nat.zero_le q) hqd)
  simp only at he1 he2
  subst he1 he2
  have y1 : w14.cell? ⟨b14, 2, none⟩ = some (.slice (some ⟨e1, 0, none⟩) d.length ce1) := (rowN_cells (l := [(⟨fr, to, d⟩, .slice (some ⟨e1, 0, none⟩) d.length ce1), (⟨fr, to, d⟩, .slice (some ⟨e2, 0, none⟩) d.length ce2)]) HL14.out.2.1 (j := 0) rfl).2.2
  have y2 : w14.cell? ⟨b14, 5, none⟩ = some (.slice (some ⟨e2, 0, none⟩) d.length ce2) := (rowN_cells (l := [(⟨fr, to, d⟩, .slice (some ⟨e1, 0, none⟩) d.length ce1), (⟨fr, to, d⟩, .slice (some ⟨e2, 0, none⟩) d.length ce2)]) HL14.out.2.1 (j := 1) rfl).2.2
  have hdn : d.length = n := HN.out
  rw [hdn] at y1 y2
  have hqn2 : ¬ ((n : Int) ≤ (q : Int)) := by omega
  obtain ⟨n1, n2⟩ := num_at (HL14.out.2.2.1 (⟨fr, to, d⟩, .slice (some ⟨e1, 0, none⟩) d.length ce1) (by simp)) hqd
  go_upto_region 17 with fail
  have B16 : Hid (Below w13.heap.size w13 (w14.setCell ⟨e1, q, none⟩ (.int .u8 (((d[q] : Int) + 2) % 256)))) := hid (HL14.out.2.2.2.setCell (p := ⟨e1, q, none⟩) hbe1 _)
  obtain ⟨w16, hw16⟩ : ∃ w16, w14.setCell ⟨e1, q, none⟩ (.int .u8 (((d[q] : Int) + 2) % 256)) = w16 := ⟨_, rfl⟩
  rw [hw16] at B16 ⊢
  have H16 := hid (H13.out.on B16.out)
  have T16 := hid (T13.out.then B16.out)
  clear hw16 n1 n2 y1 y2 HL14 hb14 hbe1
  obtain ⟨bu1, cu1, hu1, _, _⟩ := own_at (H16.out.net.dat (⟨fr, to, d⟩, u1) (by simp)) (Nat.lt_of_le_of_lt (Nat.zero_le q) hqd)
  obtain ⟨bu2, cu2, hu2, _, _⟩ := own_at (H16.out.net.dat (⟨fr, to, d⟩, u2) (by simp)) (Nat.lt_of_le_of_lt (Nat.zero_le q) hqd)
  simp only at hu1 hu2
  subst hu1 hu2
  have HTk := hid (nttake_ok g g 4 v12 [(⟨fr, to, d⟩, .slice (some ⟨bu1, 0, none⟩) d.length cu1), (⟨fr, to, d⟩, .slice (some ⟨bu2, 0, none⟩) d.length cu2)] 0 _ 0 rfl w16 H16.out.net rfl)
  rw [hdn] at HTk H16
  have HU1g : Hid (bu1 ≠ g ∧ (bu1 = g ∨ w10.heap.size ≤ bu1)) := hid ⟨fun e => own_neB (H16.out.net.dat (⟨fr, to, d⟩, .slice (some ⟨bu1, 0, none⟩) n cu1) (by simp)) H16.out.net.blk (by decide) (by rw [e]; rfl), H16.out.high bu1 (.inr ⟨(⟨fr, to, d⟩, .slice (some ⟨bu1, 0, none⟩) n cu1), by simp, rfl⟩)⟩
  go_upto_region 18 with (go_at_call 15; (with_reducible refine HTk.out.mono ?_); rintro e w17 ⟨v17, rfl, hT⟩; obtain ⟨hh, ht⟩ := H16.out.taken hT; have H17 := hid hh; have TK17 := hid hT; have T17 := hid (T16.out.trans ht (fun i _ h => h.elim .inl (fun h => .inr (.inr h)))); clear hT hh ht)
  have HOf := hid (fun A n c w => ntof_any fr to A n c w)
  have HSm := hid (fun (W' : World) (bx cx : Nat) (h1 : Sees .u8 W' (some ⟨bx, 0, none⟩) d) (h2 : Sees .u8 W' A6 d) => ntsame_any ⟨fr, to, d⟩ ⟨fr, to, d⟩ (some ⟨bx, 0, none⟩) A6 n n cx c6 W' hdn hdn (by omega) (by omega) h1 h2)
  rw [sameB_self] at HSm
  obtain ⟨W18, hW18⟩ : ∃ W18, w17.alloc (.cells #[.int .i64 fr, .int .i64 to, .slice (some ⟨bu1, 0, none⟩) n cu1] 32) = W18 := ⟨_, rfl⟩
  rw [hW18]
  obtain ⟨K18, KB18⟩ := lone_new hW18
  have T18 := hid (T17.out.then KB18.out)
  obtain ⟨k18, hk18⟩ : ∃ k, w17.heap.size = k := ⟨_, rfl⟩
  rw [hk18] at K18 ⊢
  have HR18 : Hid (∀ W', Below W18.heap.size W18 W' → W'.ownsRow g 5 1 (.slice (some ⟨bu1, 0, none⟩) n cu1) n (numsN d)) := hid (fun W' b => row_turnsN (S := fun _ => False) (by have h := TK17.out.row; simp only at h; rw [hdn] at h; exact h) (TurnsD.of_below (below_on KB18.out b)) (fun _ _ h => h))
  have S0 : Hid (∀ W', Below W18.heap.size W18 W' → (((W'.cell? ⟨k18, 0, none⟩ = some (.int .i64 fr) ∧ W'.cell? ⟨k18, 1, none⟩ = some (.int .i64 to) ∧ W'.cell? ⟨k18, 2, none⟩ = some (.slice (some ⟨bu1, 0, none⟩) n cu1)) ∧ (W'.cell? ⟨k7, 0, none⟩ = some (.int .i64 fr) ∧ W'.cell? ⟨k7, 1, none⟩ = some (.int .i64 to) ∧ W'.cell? ⟨k7, 2, none⟩ = some (.slice A6 n c6))) ∧ Sees .u8 W' (some ⟨bu1, 0, none⟩) d ∧ Sees .u8 W' A6 d)) := hid (fun W' b =>
    have h := HKeep.out W' (T18.out.then b)
    ⟨⟨lcells3N (K18.out.below b K18.out.lt), lcells3N h.1⟩, Sees.of_own (HR18.out W' b), Sees.of_own h.2.1⟩)
  have D0 := hid (below_drew (Below.refl W18.heap.size W18))
  clear hW18 hk18
  go_region_held3 (fun W' => (W'.cell? ⟨k18, 0, none⟩ = some (.int .i64 fr) ∧ W'.cell? ⟨k18, 1, none⟩ = some (.int .i64 to) ∧ W'.cell? ⟨k18, 2, none⟩ = some (.slice (some ⟨bu1, 0, none⟩) n cu1)) ∧ (W'.cell? ⟨k7, 0, none⟩ = some (.int .i64 fr) ∧ W'.cell? ⟨k7, 1, none⟩ = some (.int .i64 to) ∧ W'.cell? ⟨k7, 2, none⟩ = some (.slice A6 n c6)))
    (with_reducible exact (S0.out _ D0.out).1)
    (first
      | (go_at_call 11; (with_reducible refine (HOf.out _ _ _ _).mono ?_); rintro e w18 ⟨rfl, b18⟩; have D0 := hid (below_on D0.out b18); clear b18)
      | (go_at_call 10; (with_reducible refine (HSm.out _ _ _ (S0.out _ D0.out).2.1 (S0.out _ D0.out).2.2).mono ?_); rintro e w18 ⟨rfl, b18⟩; have D0 := hid (below_on D0.out b18); clear b18))
  all_goals (
    rename_i hHeld
    clear hHeld
    obtain ⟨n1, n2⟩ := num_at (HR18.out _ D0.out) hqd
    obtain ⟨m0, m1, m2⟩ := (S0.out _ D0.out).1.1
    go_upto_region 21 with fail
    have T20 := hid ((T18.out.then D0.out).set (p := ⟨bu1, q, none⟩) (.inl (HU1g.out.2.elim .inl (fun h => .inr (.inr h)))) (.int .u8 (((d[q] : Int) + 3) % 256)))
    have N20 := hid (((H17.out.net.on KB18.out).on D0.out).stay (turns_cell _ bu1 q (.int .u8 (((d[q] : Int) + 3) % 256))) (fun b hb e => TK17.out.far bu1 rfl (by rw [← e]; exact hb))))
  all_goals (
    obtain ⟨w20, hw20⟩ : ∃ w20, w18.setCell ⟨bu1, q, none⟩ (.int .u8 (((d[q] : Int) + 3) % 256)) = w20 := ⟨_, rfl⟩
    rw [hw20] at T20 N20 ⊢
    clear hw20 n1 n2 m0 m1 m2 D0 S0
    have HTk2 := hid (nttake_ok g g 4 v17 [(⟨fr, to, d⟩, .slice (some ⟨bu2, 0, none⟩) n cu2)] 0 _ 0 rfl w20 N20.out rfl)
    go_upto_region 22 with (go_at_call 15; (with_reducible refine HTk2.out.mono ?_); rintro e w21 ⟨v21, rfl, hT⟩; have TK21 := hid hT; have T21 := hid (T20.out.trans hT.turns (fun i hi h => by
      have h2 := H17.out.high i (.inl h)
      exact h2.elim .inl (fun h => .inr (.inr h)))); clear hT)
    obtain ⟨W22, hW22⟩ : ∃ W22, w21.alloc (.cells #[.int .i64 fr, .int .i64 to, .slice (some ⟨bu2, 0, none⟩) n cu2] 32) = W22 := ⟨_, rfl⟩
    rw [hW22]
    obtain ⟨K22, KB22⟩ := lone_new hW22
    have T22 := hid (T21.out.then KB22.out)
    obtain ⟨k22, hk22⟩ : ∃ k, w21.heap.size = k := ⟨_, rfl⟩
    rw [hk22] at K22 ⊢
    have HR22 : Hid (∀ W', Below W22.heap.size W22 W' → W'.ownsRow g 5 1 (.slice (some ⟨bu2, 0, none⟩) n cu2) n (numsN d)) := hid (fun W' b => row_turnsN (S := fun _ => False) (by have h := TK21.out.row; simp only at h; rw [hdn] at h; exact h) (TurnsD.of_below (below_on KB22.out b)) (fun _ _ h => h))
    have S0 : Hid (∀ W', Below W22.heap.size W22 W' → (((W'.cell? ⟨k22, 0, none⟩ = some (.int .i64 fr) ∧ W'.cell? ⟨k22, 1, none⟩ = some (.int .i64 to) ∧ W'.cell? ⟨k22, 2, none⟩ = some (.slice (some ⟨bu2, 0, none⟩) n cu2)) ∧ (W'.cell? ⟨k7, 0, none⟩ = some (.int .i64 fr) ∧ W'.cell? ⟨k7, 1, none⟩ = some (.int .i64 to) ∧ W'.cell? ⟨k7, 2, none⟩ = some (.slice A6 n c6))) ∧ Sees .u8 W' (some ⟨bu2, 0, none⟩) d ∧ Sees .u8 W' A6 d)) := hid (fun W' b =>
      have h := HKeep.out W' (T22.out.then b)
      ⟨⟨lcells3N (K22.out.below b K22.out.lt), lcells3N h.1⟩, Sees.of_own (HR22.out W' b), Sees.of_own h.2.1⟩)
    have HEnd : Hid (∀ W', Below W22.heap.size W22 W' → Below w.heap.size w W') := hid (fun W' b => B10.out.trans ((T22.out.then b).below B10.out.size (fun i hi => by have h1 := HG.out; have h2 := HB8low.out; have h3 := B10.out.size; omega)))
    have D0 := hid (below_drew (Below.refl W22.heap.size W22))
    clear hW22 hk22
    go_region_held3 (fun W' => (W'.cell? ⟨k22, 0, none⟩ = some (.int .i64 fr) ∧ W'.cell? ⟨k22, 1, none⟩ = some (.int .i64 to) ∧ W'.cell? ⟨k22, 2, none⟩ = some (.slice (some ⟨bu2, 0, none⟩) n cu2)) ∧ (W'.cell? ⟨k7, 0, none⟩ = some (.int .i64 fr) ∧ W'.cell? ⟨k7, 1, none⟩ = some (.int .i64 to) ∧ W'.cell? ⟨k7, 2, none⟩ = some (.slice A6 n c6)))
      (with_reducible exact (S0.out _ D0.out).1)
      (first
        | (go_at_call 11; (with_reducible refine (HOf.out _ _ _ _).mono ?_); rintro e w22 ⟨rfl, b18⟩; have D0 := hid (below_on D0.out b18); clear b18)
        | (go_at_call 10; (with_reducible refine (HSm.out _ _ _ (S0.out _ D0.out).2.1 (S0.out _ D0.out).2.2).mono ?_); rintro e w22 ⟨rfl, b18⟩; have D0 := hid (below_on D0.out b18); clear b18))
    all_goals (
      rename_i hHeld
      clear hHeld
      go_wp2
      go_ret
      exact ⟨rfl, HEnd.out _ D0.out⟩))
end Go.Proofs.Ytljnboimadhkoaa
