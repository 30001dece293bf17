/-
  The contracts of lease's those, Sessions, Due.
-/
import Derived.Test.YtbeeklpfbnhdnaaLsCmp
import Derived.Maps.AppendAt
import Derived.Shelf.SlSortCmp.NoneTotal
namespace Go.Proofs.Ytbeeklpfbnhdnaa
open Go.ChangeShapes Go.WideShapes Go.ChangeAt Go.RowKit Go.Maps Go.WideMaps Go.Shelf Go.Sort
set_option linter.unusedVariables false
set_option linter.unusedSimpArgs false

def keyS (s : SeL) : SidT := (s.num, s.foot)
/-- The names of the sessions of which something holds. -/
def keysP (p : SeL → Bool) (l : List SeL) : List SidT := (l.filter p).map keyS
theorem info_sess : (Try.prog.info? 25).map (fun i => (i.zero, i.size, i.bytes)) = some (some (.agg #[.int .u64 0, .string ⟨#[]⟩]), 2, 24) := by kernel_rfl
theorem sid_at {w : World} {b : Nat} {u : Int} {f : ByteArray} (h : Blk w b 25 #[.int .u64 u, .string f]) : ∀ j x, (sidC (u, f))[j]? = some x → w.cell? ((⟨b, 0, none⟩ : Addr).add j) = some x := by
  intro j x hj
  have hl : j < 2 := (List.getElem?_eq_some_iff.1 hj).1
  rcases (show j = 0 ∨ j = 1 by omega) with rfl | rfl
  · simp [sidC] at hj; subst hj; exact (h.cell 0).trans rfl
  · simp [sidC] at hj; subst hj; exact (h.cell 1).trans rfl
theorem keysP_rise {l : List SeL} (h : RiseL l) (p : SeL → Bool) : RiseS (keysP p l) := by
  unfold RiseS keysP
  rw [List.pairwise_map]
  exact (List.Pairwise.filter p h).imp (fun {a b} hab => hab)
theorem keysP_nodup {l ks : List SeL} (h : RiseL l) (hk : ks.Nodup) (hl : ∀ s ∈ ks, s ∈ l) (p : SeL → Bool) : (keysP p ks).Nodup := by
  unfold keysP
  rw [List.nodup_iff_pairwise_ne, List.pairwise_map]
  refine (List.Pairwise.filter p hk).imp_of_mem (fun {a b} ha hb hab e => ?_)
  injection e with e1 e2
  exact hab (h.one (hl a (List.mem_filter.1 ha).1) (hl b (List.mem_filter.1 hb).1) ⟨e1, e2⟩)
/-- Where those's loop stands. -/
def ThoseAt (w W : World) (d r n : Nat) (D : DataW Value) (l ks : List SeL) (left : Lit → Bool) (cnt : Nat) (p : SeL → Bool) (v : Value) : Prop :=
  RangeAt w W d r n D l ks left cnt ∧ W.ownsRow (r + 1) 25 2 v (keysP p ks).length (flatS (keysP p ks)) ∧ r < W.heap.size
/-- What those hands back. -/
def ThoseOut (l : List SeL) (p : SeL → Bool) (w : World) (e : Ending) (w' : World) : Prop :=
  ∃ A c, e = .returned (.slice A ((keysP p l).length : Nat) c) ∧ SeesT w' A (keysP p l) ∧ (∀ b o, A = some ⟨b, o, none⟩ → w.heap.size ≤ b ∧ b < w'.heap.size) ∧ Below w.heap.size w w'
theorem keysP_step (p : SeL → Bool) (ks : List SeL) (s : SeL) : keysP p (ks ++ [s]) = keysP p ks ++ (if p s = true then [keyS s] else []) := by
  unfold keysP
  rw [List.filter_append, List.map_append]
  congr 1
  cases h : p s <;> simp [h]
theorem keysP_len (p : SeL → Bool) (ks : List SeL) : (keysP p ks).length ≤ ks.length := by
  unfold keysP
  rw [List.length_map]
  exact List.length_filter_le p ks

def dueP (time : Int) (s : SeL) : Bool := s.opn && decide (s.dl ≤ time)
theorem holds1_any (s : SeL) (w : World) : Calls Try.prog 34 #[infoV s] w fun e w' => e = .returned (.bool ((fun _ : SeL => true) s)) ∧ Below w.heap.size w w' := by
  go_enter Try.func34, Try.ntmps34
  go_wp2
  go_ret
  exact ⟨rfl, (RowKit.Below.refl _ _).alloc (Nat.le_refl _) _⟩

set_option maxRecDepth 100000 in
set_option maxHeartbeats 4000000 in
theorem lthose1_any (base b d n : Nat) (l : List SeL) (w : World) (h : BkAt w base b d n l) (hn : n ≤ 1000000) :
    Calls Try.prog 33 #[.pointer (some ⟨b, 0, none⟩), .func (.func 34) #[] #[]] w (ThoseOut l (fun _ : SeL => true) w) := by
  have HP : Hid (∀ s W, Below w.heap.size w W → Calls Try.prog 34 #[infoV s] W fun e w' => e = .returned (.bool ((fun _ : SeL => true) s)) ∧ Below W.heap.size W w') := hid (fun s W _ => holds1_any s W)
  obtain ⟨p, hp⟩ : ∃ p, (fun _ : SeL => true) = p := ⟨_, rfl⟩
  rw [hp] at HP ⊢
  clear hp
  simp only [infoV] at HP
  have HB := hid h.blk
  have HL := hid h.lt
  have HR := hid (And.intro h.keys h.rise)
  obtain ⟨D, hD, hM⟩ := h.map
  have HD := hid hD
  have HM : Hid (MapsD l D) := hid hM
  have HN := hid hn
  obtain ⟨i0, hi, hz0, hz1, hz2⟩ := info_parts info_sess
  have HI := hid (And.intro hi (And.intro hz0 (And.intro hz1 hz2)))
  have HNone := hid (fun fv w => AnyF.slices_SortFunc_none Try.sortE none 0 fv w)
  clear h hD hM hn hi hz0 hz1 hz2
  have hc : w.cell? ⟨b, 0, none⟩ = some (.map (some d)) := (HB.out.cell 0).trans rfl
  go_enter Try.func33, Try.ntmps33
  go_wp2_with (first
    | (at_range; with_reducible refine wpList_range_own _ rfl _ 75 rfl 25 89 law_ses Try.underlying75 idR d n D rfl HD.out ?_; intro w0 hrg0 hg0 hs0))
  go_frame
  obtain ⟨rr, hrr⟩ : ∃ r, w.heap.size = r := ⟨_, rfl⟩
  have HRR := hid hrr
  rw [hrr] at hrg0 hs0
  rw [hrr]
  have A0 : Hid (ThoseAt w w0 d rr n D l [] (Maps.has D) (Maps.size D) p (.slice none 0 0)) := hid ⟨⟨hrg0, fun _ h => h, KsAt.start HR.out.1 HR.out.2 HM.out, lbelow_grown hg0, by omega, by have := HD.out.size_le; simpa using this⟩, World.ownsRow_nil _ _ _ _, by omega⟩
  clear hrg0 hg0 hs0 hc
  go_loopw [5] (fun lv wr => ∃ ks left cnt, Hid (ThoseAt w wr d rr n D l ks left cnt p lv)) (fun _ wr => wr.rangeLeft d rr)
  case atStart => exact ⟨[], _, _, A0⟩
  case round =>
    obtain ⟨ks, left, cnt, HA⟩ := hrel
    clear A0
    have HG : Hid (wr.ranges Try.prog 25 idR d rr n D left cnt) := hid HA.out.1.1
    go_wp2_with (first
      | (at_next; with_reducible refine wpList_next_ranges _ rfl _ rfl 25 law_ses idR (fun x : Int × ByteArray => (sesV x.1 x.2 : Value)) (fun c : Value => c) inv_ses inv_any d rr n D left cnt rfl HG.out ?_ ?_))
    · intro _ hl0
      have hp1 := HA.out.1.2.2.1.perm HR.out.2 hl0
      have HPe : Hid ((keysP p ks).Perm (keysP p l)) := hid ((hp1.filter p).map keyS)
      have HNd := hid (keysP_nodup HR.out.2 HA.out.1.2.2.1.1 (fun s hs => (HA.out.1.2.2.1.2.1 s hs).1) p)
      have HBl := hid HA.out.1.2.2.2.1
      have HRw := hid HA.out.2.1
      have HLn : Hid ((keysP p ks).length ≤ 1000000) := hid (by
        have h1 := keysP_len p ks
        have := HA.out.1.2.2.2.2.2
        have := HN.out
        omega)
      clear hl0 hp1 HA HG
      have hlen : (keysP p ks).length = (keysP p l).length := HPe.out.length_eq
      rcases HRw.out.2 with ⟨e1, e2⟩ | ⟨g, cap, cur, e1, _⟩
      · subst e1
        have hk0 : keysP p ks = [] := List.eq_nil_of_length_eq_zero e2
        have H0 : Hid (keysP p l = []) := hid (by have := HPe.out; rw [hk0] at this; exact this.nil_eq.symm ▸ rfl)
        clear e2 hk0 hlen HRw
        go_wp2_with (first
          | (go_at_call 49; refine (HNone.out _ _).mono ?_; rintro e w2 ⟨rfl, rfl⟩))
        go_ret
        exact ⟨none, 0, by rw [H0.out]; rfl, by rw [H0.out]; exact SeesT.nil _ _, fun b o h => (by cases h), HBl.out⟩
      · subst e1
        have HSo := hid (sids_sorted (base := rr + 1) (g := g) (N := cap) HNd.out HRw.out (by have := HLn.out; omega))
        obtain ⟨m, hm⟩ : ∃ m, (keysP p ks).length = m := ⟨_, rfl⟩
        rw [hm] at HSo
        rw [hm] at hlen ⊢
        have HLe := hid hlen
        have HG := hid (HRw.out.lt g rfl).1
        clear hlen hm HRw
        go_wp2_with (first
          | (go_at_call 49; refine HSo.out.mono ?_; rintro e w2 ⟨rfl, ds, k1, k2, k3, k4, k5, k6⟩; have K1 := hid (And.intro k1 (And.intro k2 (And.intro k3 (And.intro k4 (And.intro k5 k6))))); clear k1 k2 k3 k4 k5 k6))
        go_ret
        obtain ⟨k1, k2, k3, k4, k5, k6⟩ := K1.out
        have e : ds = keysP p l := rises_extS k2 (keysP_rise HR.out.2 p) (fun x => (k3 x).trans HPe.out.mem_iff)
        subst e
        exact ⟨_, _, by rw [HLe.out]; rfl, SeesT.of k6 k4, (fun b o h => by injection h with h; injection h with h; subst h; exact ⟨by have := HG.out; omega, k6⟩), HBl.out.trans (k5.mono (by omega))⟩
    · intro u2 f2 c kl y yp w1 cnt1 hkey hlk hv hat hrg1 hlt1 hg1 hs1 hen
      obtain ⟨s, hs, rfl, rfl, rfl, rfl⟩ := entry_ses (y := (y, yp)) HR.out.1 HR.out.2 HM.out hkey (HA.out.1.2.1 _ hlk) hv hat
      have HS := hid hs
      have HC2 := hid (HA.out.1.2.2.1.step HR.out.1 HR.out.2 hs hlk)
      have BG := hid hrg1
      have BH : Hid (∀ kl, (left kl && !kl.sameKey (slit s.num s.foot)) = true → Maps.has D kl = true) := hid (fun kl h => HA.out.1.2.1 kl (by simp at h; exact h.1))
      have BB : Hid (Below w.heap.size w w1) := hid (HA.out.1.2.2.2.1.trans (lbelow_only hg1 (by have := HA.out.1.2.2.2.2.1; omega) (by have := HG.out.lt; have := HA.out.1.2.2.2.1.size; omega)))
      have BL := hid hlt1
      have BT : Hid (wr.rangeLeft d rr = cnt) := hid HG.out.left_eq
      have BS : Hid (rr < w1.heap.size) := hid (by rw [hs1]; exact HG.out.lt)
      have BO := hid HA.out.1.2.2.2.2.1
      have BC : Hid ((ks ++ [s]).length + cnt1 ≤ n) := hid (by have := HA.out.1.2.2.2.2.2; simp; omega)
      have BV := hid (HA.out.2.1.kept hg1 (Or.inr (fun e => by have := (HA.out.2.1.lt rr (by simpa using e)).1; omega)))
      have BK : Hid ((keysP p ks).length ≤ 1000000) := hid (by
        have h1 := keysP_len p ks
        have := HA.out.1.2.2.2.2.2
        have := HN.out
        omega)
      clear hkey hlk hv hat hrg1 hlt1 hg1 hs1 HA HG
      go_upto_region 5 with fail
      obtain ⟨W1, hW1⟩ : ∃ W1, (w1.alloc (.cells #[.int .u64 s.num, .string s.foot] 25)).alloc (.cells (cellsL s) 89) = W1 := ⟨_, rfl⟩
      obtain ⟨v, hv⟩ : ∃ v, w1.heap.size = v := ⟨_, rfl⟩
      obtain ⟨E6, E7, EB⟩ := ltwo_new hW1
      rw [hv] at E6 E7 EB BS ⊢
      rw [hW1]
      have EG := EB.out
      rw [← hv] at EG
      have cG := hid (BG.out.kept (row := none) (only_of_below EG none) (by simp) (by simp))
      have cV := hid (BV.out.kept (row := none) (only_of_below EG none) (Decidable.em _))
      have cB : Hid (RowKit.Below w.heap.size w W1) := hid (BB.out.trans (EB.out.mono (by have := BB.out.size; omega)))
      have BVl : Hid (∀ g, u5.ownBlock = some g → g < v) := hid (fun g hg => by have := (BV.out.lt g hg).2; omega)
      clear hv hW1 BB BG BV EB hen EG
      have HKey : Hid (OkF s.foot) := hid (HR.out.1 s HS.out).2
      obtain ⟨z0, z1⟩ := lcells2 E6.out
      obtain ⟨d0, d1, d2, d3, d4, d5⟩ := lcells6 E7.out
      obtain ⟨ps, hps⟩ : ∃ x, p s = x := ⟨_, rfl⟩
      have HPs := hid (HP.out s W1 cB.out)
      rw [hps] at HPs
      have HKs : Hid (keysP p (ks ++ [s]) = keysP p ks ++ (if ps = true then [keyS s] else [])) := hid (by rw [keysP_step, hps])
      clear hps
      have KG : Hid (∀ (W2 : World), RowKit.Below W1.heap.size W1 W2 → W2.ranges Try.prog 25 idR d rr n D (fun z => left z && !z.sameKey (slit s.num s.foot)) cnt1 ∧ W2.ownsRow (rr + 1) 25 2 u5 (keysP p ks).length (flatS (keysP p ks)) ∧ RowKit.Below w.heap.size w W2 ∧ rr < W2.heap.size) := hid (fun W2 hb =>
        ⟨cG.out.kept (row := none) (only_of_below hb none) (by simp) (by simp), cV.out.kept (row := none) (only_of_below hb none) (Decidable.em _), below_on cB.out hb, by have := hb.size; have := BS.out; have := E6.out.lt; omega⟩)
      cases ps with
      | false =>
        go_wp2_with (first
          | (go_at_call 34; (with_reducible refine HPs.out.mono ?_); rintro e w2 ⟨rfl, b2⟩; have G2 := hid (KG.out _ b2); clear b2))
        go_roundw
        case rel => exact ⟨ks ++ [s], _, cnt1, hid ⟨⟨G2.out.1, BH.out, HC2.out, G2.out.2.2.1, BO.out, BC.out⟩, by rw [HKs.out]; simpa using G2.out.2.1, G2.out.2.2.2⟩⟩
        case measure => rw [G2.out.1.left_eq, BT.out]; exact BL.out
      | true =>
        have HCl := hid (fun w => sclone_any s.foot w HKey.out.le)
        go_upto_region 7 with (first
          | (go_at_call 34; (with_reducible refine HPs.out.mono ?_); rintro e w2 ⟨rfl, b2⟩; have E62 := hid (E6.out.below b2 E6.out.lt); have B2 := hid b2; clear b2; clear z0 z1; have z1 : w2.cell? ⟨v, 1, none⟩ = some (.string s.foot) := (E62.out.cell 1).trans rfl)
          | (go_at_call 48; (with_reducible refine (HCl.out _).mono ?_); rintro e w3 ⟨rfl, b3⟩; have E63 := hid (E62.out.below b3 E62.out.lt); have B3 := hid (below_on B2.out b3); clear b3; have y1 : w3.cell? ⟨v, 1, none⟩ = some (.string s.foot) := (E63.out.cell 1).trans rfl; have f1 := E63.out.frozen 1))
        obtain ⟨W4, hW4⟩ : ∃ W4, w3.setCell ⟨v, 1, none⟩ (.string s.foot) = W4 := ⟨_, rfl⟩
        have E64 := hid (E63.out.set_ 1 (.string s.foot))
        have G3 := KG.out _ B3.out
        have G4 : Hid ((w3.setCell ⟨v, 1, none⟩ (.string s.foot)).ranges Try.prog 25 idR d rr n D (fun z => left z && !z.sameKey (slit s.num s.foot)) cnt1 ∧ (w3.setCell ⟨v, 1, none⟩ (.string s.foot)).ownsRow (rr + 1) 25 2 u5 (keysP p ks).length (flatS (keysP p ks)) ∧ RowKit.Below w.heap.size w (w3.setCell ⟨v, 1, none⟩ (.string s.foot)) ∧ rr < (w3.setCell ⟨v, 1, none⟩ (.string s.foot)).heap.size) := hid (by
          have t := only_setCell (p := ⟨v, 1, none⟩) (World.grownBy.refl w3 (some v)) (.inl rfl) (.string s.foot)
          refine ⟨G3.1.kept t (by simp; have := HL.out; have := BS.out; omega) (by simp; have := BS.out; omega), G3.2.1.kept t (Or.inr (fun e => ?_)), G3.2.2.1.setCell (by simp; have := BS.out; omega) _, by simpa [World.setCell] using G3.2.2.2⟩
          have := BVl.out v e
          omega)
        clear G3
        rw [hW4] at E64 G4 ⊢
        simp only [List.setIfInBounds_toArray, List.set_cons_succ, List.set_cons_zero] at E64
        clear hW4 y1 f1 z1 d0 d1 d2 d3 d4 d5
        obtain ⟨z0, z1⟩ := lcells2 E64.out
        obtain ⟨hi, hz0, hz1, hz2⟩ := HI.out
        have E5 := hid (Blk.new W4 25 #[.int .u64 s.num, .string s.foot])
        have O5 := hid (G4.out.2.1.kept (World.grownBy_alloc W4 (.cells #[.int .u64 s.num, .string s.foot] 25) none) (Decidable.em _))
        have R5 := hid (G4.out.1.kept (World.grownBy_alloc W4 (.cells #[.int .u64 s.num, .string s.foot] 25) none) (by simp) (by simp))
        have B5 : Hid (RowKit.Below w.heap.size w (W4.alloc (.cells #[.int .u64 s.num, .string s.foot] 25))) := hid (G4.out.2.2.1.alloc G4.out.2.2.1.size _)
        have hsz : rr + 1 ≤ (W4.alloc (.cells #[.int .u64 s.num, .string s.foot] 25)).heap.size := by have := G4.out.2.2.2; simp; omega
        have HSz := hid hsz
        have bk := BK.out
        clear G4 E64 hsz
        go_wp2_with (first
          | (at_builtin; refine wpList_append_own_at _ rfl (.tmp 26) (.tmp 28) 39 rfl (rr + 1) 25 i0 _ 2 24 Try.underlying39 hi hz0 hz1 hz2 rfl (by decide) u5 _ _ rfl O5.out ⟨W4.heap.size, 0, none⟩ 1 1 (sidC (s.num, s.foot)) rfl rfl (sid_at E5.out) (sidC_one _) (by unfold maxLen; omega) (by omega) HSz.out ?_; intro v6 w6 own6 hg6 _ hb6; have O6 := hid own6; have Q6 := hid hg6; clear own6 hg6 hb6))
        have hd : d < w.heap.size := HL.out.2
        have hrr' := HRR.out
        have R6 := hid (R5.out.kept Q6.out (fun e => by have := (O5.out.lt d e.symm).1; omega) (fun e => by have := (O5.out.lt rr e.symm).1; omega))
        have B6 : Hid (RowKit.Below w.heap.size w w6) := hid (B5.out.grown Q6.out B5.out.size (fun k hk => by have := (O5.out.lt k hk).1; omega))
        have KF : Hid ((keysP p (ks ++ [s])).length = (keysP p ks).length + 1 ∧ flatS (keysP p (ks ++ [s])) = flatS (keysP p ks) ++ sidC (s.num, s.foot)) := hid (by
          rw [HKs.out]
          simp [flatS, keyS])
        go_roundw
        case rel => exact ⟨ks ++ [s], _, cnt1, hid ⟨⟨R6.out, BH.out, HC2.out, B6.out, BO.out, BC.out⟩, by rw [KF.out.1, KF.out.2]; exact O6.out, by have := Q6.out.size; have := HSz.out; omega⟩⟩
        case measure => rw [R6.out.left_eq, BT.out]; exact BL.out

theorem holds2_any (c : Nat) (time : Int) (s : SeL) (w : World) (hc : w.cell? ⟨c, 0, none⟩ = some (.int .i64 time)) (hcl : c < w.heap.size) : Calls Try.prog 35 #[infoV s, .pointer (some ⟨c, 0, none⟩)] w fun e w' => e = .returned (.bool (dueP time s)) ∧ RowKit.Below w.heap.size w w' := by
  have HC := hid hc
  have hne : c ≠ w.heap.size := by omega
  have HE : Hid (dueP time s = (s.opn && decide (s.dl ≤ time))) := hid rfl
  obtain ⟨op, hop⟩ : ∃ x, s.opn = x := ⟨_, rfl⟩
  rw [hop] at HE
  simp only [infoV]
  rw [hop]
  clear hc hop
  cases op with
  | false =>
    go_enter Try.func35, Try.ntmps35
    go_wp2
    go_ret
    exact ⟨ret_bool HE.out.symm, (RowKit.Below.refl _ _).alloc (Nat.le_refl _) _⟩
  | true =>
    have q0 : (w.alloc (.cells #[.bool true, .bool s.dead, .int .i64 s.dl, .int .i64 s.ttl, .int .i64 (s.told.length : Int)] 58)).cell? ⟨c, 0, none⟩ = some (.int .i64 time) := ((((RowKit.Below.refl w.heap.size w).alloc (Nat.le_refl _) _).cell (p := ⟨c, 0, none⟩) hcl).trans HC.out)
    go_enter Try.func35, Try.ntmps35
    go_wp2
    go_ret
    exact ⟨ret_bool HE.out.symm, (RowKit.Below.refl _ _).alloc (Nat.le_refl _) _⟩

set_option maxRecDepth 100000 in
set_option maxHeartbeats 4000000 in
theorem lthose2_any (base b d n : Nat) (l : List SeL) (c : Nat) (time : Int) (w : World) (h : BkAt w base b d n l) (hn : n ≤ 1000000) (hc : w.cell? ⟨c, 0, none⟩ = some (.int .i64 time)) (hcl : c < w.heap.size) :
    Calls Try.prog 33 #[.pointer (some ⟨b, 0, none⟩), .func (.func 35) #[] #[.pointer (some ⟨c, 0, none⟩)]] w (ThoseOut l (dueP time) w) := by
  have HP : Hid (∀ s W, Below w.heap.size w W → Calls Try.prog 35 #[infoV s, .pointer (some ⟨c, 0, none⟩)] W fun e w' => e = .returned (.bool ((dueP time) s)) ∧ Below W.heap.size W w') := hid (fun s W k => holds2_any c time s W ((k.cell (p := ⟨c, 0, none⟩) hcl).trans hc) (Nat.lt_of_lt_of_le hcl k.size))
  obtain ⟨p, hp⟩ : ∃ p, (dueP time) = p := ⟨_, rfl⟩
  rw [hp] at HP ⊢
  clear hp
  simp only [infoV] at HP
  have HB := hid h.blk
  have HL := hid h.lt
  have HR := hid (And.intro h.keys h.rise)
  obtain ⟨D, hD, hM⟩ := h.map
  have HD := hid hD
  have HM : Hid (MapsD l D) := hid hM
  have HN := hid hn
  obtain ⟨i0, hi, hz0, hz1, hz2⟩ := info_parts info_sess
  have HI := hid (And.intro hi (And.intro hz0 (And.intro hz1 hz2)))
  have HNone := hid (fun fv w => AnyF.slices_SortFunc_none Try.sortE none 0 fv w)
  clear h hD hM hn hi hz0 hz1 hz2 hc hcl
  have hc : w.cell? ⟨b, 0, none⟩ = some (.map (some d)) := (HB.out.cell 0).trans rfl
  go_enter Try.func33, Try.ntmps33
  go_wp2_with (first
    | (at_range; with_reducible refine wpList_range_own _ rfl _ 75 rfl 25 89 law_ses Try.underlying75 idR d n D rfl HD.out ?_; intro w0 hrg0 hg0 hs0))
  go_frame
  obtain ⟨rr, hrr⟩ : ∃ r, w.heap.size = r := ⟨_, rfl⟩
  have HRR := hid hrr
  rw [hrr] at hrg0 hs0
  rw [hrr]
  have A0 : Hid (ThoseAt w w0 d rr n D l [] (Maps.has D) (Maps.size D) p (.slice none 0 0)) := hid ⟨⟨hrg0, fun _ h => h, KsAt.start HR.out.1 HR.out.2 HM.out, lbelow_grown hg0, by omega, by have := HD.out.size_le; simpa using this⟩, World.ownsRow_nil _ _ _ _, by omega⟩
  clear hrg0 hg0 hs0 hc
  go_loopw [5] (fun lv wr => ∃ ks left cnt, Hid (ThoseAt w wr d rr n D l ks left cnt p lv)) (fun _ wr => wr.rangeLeft d rr)
  case atStart => exact ⟨[], _, _, A0⟩
  case round =>
    obtain ⟨ks, left, cnt, HA⟩ := hrel
    clear A0
    have HG : Hid (wr.ranges Try.prog 25 idR d rr n D left cnt) := hid HA.out.1.1
    go_wp2_with (first
      | (at_next; with_reducible refine wpList_next_ranges _ rfl _ rfl 25 law_ses idR (fun x : Int × ByteArray => (sesV x.1 x.2 : Value)) (fun c : Value => c) inv_ses inv_any d rr n D left cnt rfl HG.out ?_ ?_))
    · intro _ hl0
      have hp1 := HA.out.1.2.2.1.perm HR.out.2 hl0
      have HPe : Hid ((keysP p ks).Perm (keysP p l)) := hid ((hp1.filter p).map keyS)
      have HNd := hid (keysP_nodup HR.out.2 HA.out.1.2.2.1.1 (fun s hs => (HA.out.1.2.2.1.2.1 s hs).1) p)
      have HBl := hid HA.out.1.2.2.2.1
      have HRw := hid HA.out.2.1
      have HLn : Hid ((keysP p ks).length ≤ 1000000) := hid (by
        have h1 := keysP_len p ks
        have := HA.out.1.2.2.2.2.2
        have := HN.out
        omega)
      clear hl0 hp1 HA HG
      have hlen : (keysP p ks).length = (keysP p l).length := HPe.out.length_eq
      rcases HRw.out.2 with ⟨e1, e2⟩ | ⟨g, cap, cur, e1, _⟩
      · subst e1
        have hk0 : keysP p ks = [] := List.eq_nil_of_length_eq_zero e2
        have H0 : Hid (keysP p l = []) := hid (by have := HPe.out; rw [hk0] at this; exact this.nil_eq.symm ▸ rfl)
        clear e2 hk0 hlen HRw
        go_wp2_with (first
          | (go_at_call 49; refine (HNone.out _ _).mono ?_; rintro e w2 ⟨rfl, rfl⟩))
        go_ret
        exact ⟨none, 0, by rw [H0.out]; rfl, by rw [H0.out]; exact SeesT.nil _ _, fun b o h => (by cases h), HBl.out⟩
      · subst e1
        have HSo := hid (sids_sorted (base := rr + 1) (g := g) (N := cap) HNd.out HRw.out (by have := HLn.out; omega))
        obtain ⟨m, hm⟩ : ∃ m, (keysP p ks).length = m := ⟨_, rfl⟩
        rw [hm] at HSo
        rw [hm] at hlen ⊢
        have HLe := hid hlen
        have HG := hid (HRw.out.lt g rfl).1
        clear hlen hm HRw
        go_wp2_with (first
          | (go_at_call 49; refine HSo.out.mono ?_; rintro e w2 ⟨rfl, ds, k1, k2, k3, k4, k5, k6⟩; have K1 := hid (And.intro k1 (And.intro k2 (And.intro k3 (And.intro k4 (And.intro k5 k6))))); clear k1 k2 k3 k4 k5 k6))
        go_ret
        obtain ⟨k1, k2, k3, k4, k5, k6⟩ := K1.out
        have e : ds = keysP p l := rises_extS k2 (keysP_rise HR.out.2 p) (fun x => (k3 x).trans HPe.out.mem_iff)
        subst e
        exact ⟨_, _, by rw [HLe.out]; rfl, SeesT.of k6 k4, (fun b o h => by injection h with h; injection h with h; subst h; exact ⟨by have := HG.out; omega, k6⟩), HBl.out.trans (k5.mono (by omega))⟩
    · intro u2 f2 c kl y yp w1 cnt1 hkey hlk hv hat hrg1 hlt1 hg1 hs1 hen
      obtain ⟨s, hs, rfl, rfl, rfl, rfl⟩ := entry_ses (y := (y, yp)) HR.out.1 HR.out.2 HM.out hkey (HA.out.1.2.1 _ hlk) hv hat
      have HS := hid hs
      have HC2 := hid (HA.out.1.2.2.1.step HR.out.1 HR.out.2 hs hlk)
      have BG := hid hrg1
      have BH : Hid (∀ kl, (left kl && !kl.sameKey (slit s.num s.foot)) = true → Maps.has D kl = true) := hid (fun kl h => HA.out.1.2.1 kl (by simp at h; exact h.1))
      have BB : Hid (Below w.heap.size w w1) := hid (HA.out.1.2.2.2.1.trans (lbelow_only hg1 (by have := HA.out.1.2.2.2.2.1; omega) (by have := HG.out.lt; have := HA.out.1.2.2.2.1.size; omega)))
      have BL := hid hlt1
      have BT : Hid (wr.rangeLeft d rr = cnt) := hid HG.out.left_eq
      have BS : Hid (rr < w1.heap.size) := hid (by rw [hs1]; exact HG.out.lt)
      have BO := hid HA.out.1.2.2.2.2.1
      have BC : Hid ((ks ++ [s]).length + cnt1 ≤ n) := hid (by have := HA.out.1.2.2.2.2.2; simp; omega)
      have BV := hid (HA.out.2.1.kept hg1 (Or.inr (fun e => by have := (HA.out.2.1.lt rr (by simpa using e)).1; omega)))
      have BK : Hid ((keysP p ks).length ≤ 1000000) := hid (by
        have h1 := keysP_len p ks
        have := HA.out.1.2.2.2.2.2
        have := HN.out
        omega)
      clear hkey hlk hv hat hrg1 hlt1 hg1 hs1 HA HG
      go_upto_region 5 with fail
      obtain ⟨W1, hW1⟩ : ∃ W1, (w1.alloc (.cells #[.int .u64 s.num, .string s.foot] 25)).alloc (.cells (cellsL s) 89) = W1 := ⟨_, rfl⟩
      obtain ⟨v, hv⟩ : ∃ v, w1.heap.size = v := ⟨_, rfl⟩
      obtain ⟨E6, E7, EB⟩ := ltwo_new hW1
      rw [hv] at E6 E7 EB BS ⊢
      rw [hW1]
      have EG := EB.out
      rw [← hv] at EG
      have cG := hid (BG.out.kept (row := none) (only_of_below EG none) (by simp) (by simp))
      have cV := hid (BV.out.kept (row := none) (only_of_below EG none) (Decidable.em _))
      have cB : Hid (RowKit.Below w.heap.size w W1) := hid (BB.out.trans (EB.out.mono (by have := BB.out.size; omega)))
      have BVl : Hid (∀ g, u5.ownBlock = some g → g < v) := hid (fun g hg => by have := (BV.out.lt g hg).2; omega)
      clear hv hW1 BB BG BV EB hen EG
      have HKey : Hid (OkF s.foot) := hid (HR.out.1 s HS.out).2
      obtain ⟨z0, z1⟩ := lcells2 E6.out
      obtain ⟨d0, d1, d2, d3, d4, d5⟩ := lcells6 E7.out
      obtain ⟨ps, hps⟩ : ∃ x, p s = x := ⟨_, rfl⟩
      have HPs := hid (HP.out s W1 cB.out)
      rw [hps] at HPs
      have HKs : Hid (keysP p (ks ++ [s]) = keysP p ks ++ (if ps = true then [keyS s] else [])) := hid (by rw [keysP_step, hps])
      clear hps
      have KG : Hid (∀ (W2 : World), RowKit.Below W1.heap.size W1 W2 → W2.ranges Try.prog 25 idR d rr n D (fun z => left z && !z.sameKey (slit s.num s.foot)) cnt1 ∧ W2.ownsRow (rr + 1) 25 2 u5 (keysP p ks).length (flatS (keysP p ks)) ∧ RowKit.Below w.heap.size w W2 ∧ rr < W2.heap.size) := hid (fun W2 hb =>
        ⟨cG.out.kept (row := none) (only_of_below hb none) (by simp) (by simp), cV.out.kept (row := none) (only_of_below hb none) (Decidable.em _), below_on cB.out hb, by have := hb.size; have := BS.out; have := E6.out.lt; omega⟩)
      cases ps with
      | false =>
        go_wp2_with (first
          | (go_at_call 35; (with_reducible refine HPs.out.mono ?_); rintro e w2 ⟨rfl, b2⟩; have G2 := hid (KG.out _ b2); clear b2))
        go_roundw
        case rel => exact ⟨ks ++ [s], _, cnt1, hid ⟨⟨G2.out.1, BH.out, HC2.out, G2.out.2.2.1, BO.out, BC.out⟩, by rw [HKs.out]; simpa using G2.out.2.1, G2.out.2.2.2⟩⟩
        case measure => rw [G2.out.1.left_eq, BT.out]; exact BL.out
      | true =>
        have HCl := hid (fun w => sclone_any s.foot w HKey.out.le)
        go_upto_region 7 with (first
          | (go_at_call 35; (with_reducible refine HPs.out.mono ?_); rintro e w2 ⟨rfl, b2⟩; have E62 := hid (E6.out.below b2 E6.out.lt); have B2 := hid b2; clear b2; clear z0 z1; have z1 : w2.cell? ⟨v, 1, none⟩ = some (.string s.foot) := (E62.out.cell 1).trans rfl)
          | (go_at_call 48; (with_reducible refine (HCl.out _).mono ?_); rintro e w3 ⟨rfl, b3⟩; have E63 := hid (E62.out.below b3 E62.out.lt); have B3 := hid (below_on B2.out b3); clear b3; have y1 : w3.cell? ⟨v, 1, none⟩ = some (.string s.foot) := (E63.out.cell 1).trans rfl; have f1 := E63.out.frozen 1))
        obtain ⟨W4, hW4⟩ : ∃ W4, w3.setCell ⟨v, 1, none⟩ (.string s.foot) = W4 := ⟨_, rfl⟩
        have E64 := hid (E63.out.set_ 1 (.string s.foot))
        have G3 := KG.out _ B3.out
        have G4 : Hid ((w3.setCell ⟨v, 1, none⟩ (.string s.foot)).ranges Try.prog 25 idR d rr n D (fun z => left z && !z.sameKey (slit s.num s.foot)) cnt1 ∧ (w3.setCell ⟨v, 1, none⟩ (.string s.foot)).ownsRow (rr + 1) 25 2 u5 (keysP p ks).length (flatS (keysP p ks)) ∧ RowKit.Below w.heap.size w (w3.setCell ⟨v, 1, none⟩ (.string s.foot)) ∧ rr < (w3.setCell ⟨v, 1, none⟩ (.string s.foot)).heap.size) := hid (by
          have t := only_setCell (p := ⟨v, 1, none⟩) (World.grownBy.refl w3 (some v)) (.inl rfl) (.string s.foot)
          refine ⟨G3.1.kept t (by simp; have := HL.out; have := BS.out; omega) (by simp; have := BS.out; omega), G3.2.1.kept t (Or.inr (fun e => ?_)), G3.2.2.1.setCell (by simp; have := BS.out; omega) _, by simpa [World.setCell] using G3.2.2.2⟩
          have := BVl.out v e
          omega)
        clear G3
        rw [hW4] at E64 G4 ⊢
        simp only [List.setIfInBounds_toArray, List.set_cons_succ, List.set_cons_zero] at E64
        clear hW4 y1 f1 z1 d0 d1 d2 d3 d4 d5
        obtain ⟨z0, z1⟩ := lcells2 E64.out
        obtain ⟨hi, hz0, hz1, hz2⟩ := HI.out
        have E5 := hid (Blk.new W4 25 #[.int .u64 s.num, .string s.foot])
        have O5 := hid (G4.out.2.1.kept (World.grownBy_alloc W4 (.cells #[.int .u64 s.num, .string s.foot] 25) none) (Decidable.em _))
        have R5 := hid (G4.out.1.kept (World.grownBy_alloc W4 (.cells #[.int .u64 s.num, .string s.foot] 25) none) (by simp) (by simp))
        have B5 : Hid (RowKit.Below w.heap.size w (W4.alloc (.cells #[.int .u64 s.num, .string s.foot] 25))) := hid (G4.out.2.2.1.alloc G4.out.2.2.1.size _)
        have hsz : rr + 1 ≤ (W4.alloc (.cells #[.int .u64 s.num, .string s.foot] 25)).heap.size := by have := G4.out.2.2.2; simp; omega
        have HSz := hid hsz
        have bk := BK.out
        clear G4 E64 hsz
        go_wp2_with (first
          | (at_builtin; refine wpList_append_own_at _ rfl (.tmp 26) (.tmp 28) 39 rfl (rr + 1) 25 i0 _ 2 24 Try.underlying39 hi hz0 hz1 hz2 rfl (by decide) u5 _ _ rfl O5.out ⟨W4.heap.size, 0, none⟩ 1 1 (sidC (s.num, s.foot)) rfl rfl (sid_at E5.out) (sidC_one _) (by unfold maxLen; omega) (by omega) HSz.out ?_; intro v6 w6 own6 hg6 _ hb6; have O6 := hid own6; have Q6 := hid hg6; clear own6 hg6 hb6))
        have hd : d < w.heap.size := HL.out.2
        have hrr' := HRR.out
        have R6 := hid (R5.out.kept Q6.out (fun e => by have := (O5.out.lt d e.symm).1; omega) (fun e => by have := (O5.out.lt rr e.symm).1; omega))
        have B6 : Hid (RowKit.Below w.heap.size w w6) := hid (B5.out.grown Q6.out B5.out.size (fun k hk => by have := (O5.out.lt k hk).1; omega))
        have KF : Hid ((keysP p (ks ++ [s])).length = (keysP p ks).length + 1 ∧ flatS (keysP p (ks ++ [s])) = flatS (keysP p ks) ++ sidC (s.num, s.foot)) := hid (by
          rw [HKs.out]
          simp [flatS, keyS])
        go_roundw
        case rel => exact ⟨ks ++ [s], _, cnt1, hid ⟨⟨R6.out, BH.out, HC2.out, B6.out, BO.out, BC.out⟩, by rw [KF.out.1, KF.out.2]; exact O6.out, by have := Q6.out.size; have := HSz.out; omega⟩⟩
        case measure => rw [R6.out.left_eq, BT.out]; exact BL.out

theorem lsessions_any (base b d n : Nat) (l : List SeL) (w : World) (h : BkAt w base b d n l) (hn : n ≤ 1000000) :
    Calls Try.prog 10 #[.pointer (some ⟨b, 0, none⟩)] w (ThoseOut l (fun _ : SeL => true) w) := by
  have HT := hid (lthose1_any base b d n l w h hn)
  go_enter Try.func10, Try.ntmps10
  go_wp2_with fail
  refine HT.out.mono ?_
  rintro e w1 ⟨A, c, rfl, h1, h2, h3⟩
  have H := hid (And.intro h1 (And.intro h2 h3))
  clear h1 h2 h3
  go_wp2
  go_ret
  exact ⟨A, c, rfl, H.out⟩
theorem ldue_any (base b d n : Nat) (l : List SeL) (time : Int) (w : World) (h : BkAt w base b d n l) (hn : n ≤ 1000000) :
    Calls Try.prog 11 #[.pointer (some ⟨b, 0, none⟩), .int .i64 time] w (ThoseOut l (dueP time) w) := by
  have BA : RowKit.Below w.heap.size w (w.alloc (.cells #[.int .i64 time] 3)) := (RowKit.Below.refl _ _).alloc (Nat.le_refl _) _
  have HBA := hid BA
  have HT := hid (lthose2_any base b d n l w.heap.size time (w.alloc (.cells #[.int .i64 time] 3)) (h.on BA) hn (((Blk.new w 3 #[.int .i64 time]).cell 0).trans rfl) (by simp))
  clear BA
  go_enter Try.func11, Try.ntmps11
  go_wp2_with fail
  refine HT.out.mono ?_
  rintro e w1 ⟨A, c, rfl, h1, h2, h3⟩
  have H := hid (And.intro h1 (And.intro h2 h3))
  clear h1 h2 h3
  go_wp2
  go_ret
  obtain ⟨h1, h2, h3⟩ := H.out
  exact ⟨A, c, rfl, h1, fun b o e => by have := h2 b o e; have := HBA.out.size; omega, HBA.out.trans (h3.mono HBA.out.size)⟩
end Go.Proofs.Ytbeeklpfbnhdnaa
