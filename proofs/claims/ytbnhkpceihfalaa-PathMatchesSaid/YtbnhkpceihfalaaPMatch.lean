/-
  Contract of path.Match.
-/
import Derived.Test.YtbnhkpceihfalaaPOneMore
namespace Go.Proofs.Ytbnhkpceihfalaa
open Go.ChangeShapes Go.WideShapes Go.ChangeAt Go.RowKit Go.Shelf
attribute [local go_sem] Oper.semAt_some

theorem Blk.ne {w : World} {g g' : Nat} {t t' : TypeId} {cs cs' : Array Value} (h : Blk w g t cs) (h' : Blk w g' t' cs') (ht : t ≠ t') : g ≠ g' := by
  rintro rfl
  unfold Blk at h h'
  rw [h] at h'
  injection h' with h'
  injection h' with h1 h2
  exact ht h2
theorem Vals.own {W W' : World} {row : Option Nat} {B : Nat} {A : Option Addr} {vs : List Value} (h : Vals W A vs) (hg : W.grownBy W' row) (hr : Turned B W row) : Vals W' A vs := fun j u hj => by
  obtain ⟨b, o, hA, hlt, hc⟩ := h j u hj
  exact ⟨b, o, hA, Nat.lt_of_lt_of_le hlt hg.size, cell_kept hc hg (fun r e => (hr r e).2)⟩
theorem Holds.own {W W' : World} {row : Option Nat} {B : Nat} {v : Value} {xs : List ByteArray} (h : Holds W v xs) (hg : W.grownBy W' row) (hr : Turned B W row) : Holds W' v xs := by
  obtain ⟨A, c, h1, h2, h3, h4, h5⟩ := h
  exact ⟨A, c, h1, h2, h3, h4, h5.own hg hr⟩
theorem blk_vals {w : World} {g : Nat} {vs : List Value} (h : Blk w g 4 vs.toArray) : Vals w (some ⟨g, 0, none⟩) vs := fun j u hj => by
  refine ⟨g, 0, rfl, h.lt, ?_⟩
  rw [Nat.zero_add, h.cell j, List.getElem?_toArray]
  exact hj

/-- Between two rounds. -/
def MatchAt (h : Nat) (w3 : World) (pv : Value) (n : Nat) (P : List (List UInt8)) (pre : List ByteArray) (W : World) : Prop :=
  Blk W h 29 #[pv] ∧ (∃ g, Blk W (h + 1 + 1) 51 #[.slice (some ⟨g, 0, none⟩) n n] ∧ Blk W g 4 (marks (pre.map L) P).toArray) ∧ Below h w3 W
theorem MatchAt.own (h : Nat) (w3 : World) (pv : Value) (n : Nat) (P : List (List UInt8)) (B : Nat) (hw : h ≤ w3.heap.size) (hB : h ≤ B) : OwnFrom B (MatchAt h w3 pv n P) := fun _ _ _ _ ⟨a, ⟨g, b, c⟩, d⟩ hg hr =>
  ⟨a.own hg hr, ⟨g, b.own hg hr, c.own hg hr⟩, below_own d hw hB hg hr⟩

/-- Does a pattern mean a path? -/
def matches_ (s p : List UInt8) : Bool := pattern s && right p && means (pieces s) (pieces p)

set_option maxRecDepth 100000 in
set_option maxHeartbeats 2000000 in
theorem match_no (s p : ByteArray) (w : World) (hs : s.size ≤ 900) (hp : p.size ≤ 900) (a b : Bool) (ha : pattern (L s) = a) (hb : right (L p) = b) (h : (a && b) = false) : Calls Try.prog 26 #[.string s, .string p] w (Asks (.bool (matches_ (L s) (L p))) w) := by
  have HM : Hid (matches_ (L s) (L p) = false) := hid (by unfold matches_; rw [ha, hb, h]; rfl)
  have HA := hid ha
  have HB := hid hb
  clear ha hb
  cases a <;> cases b <;> first | exact absurd h (by decide) | skip
  all_goals
    clear h
    go_enter Try.func26, Try.ntmps26
    go_wp2_with (first
      | (go_at_call 25; refine (pattern_any _ _ (by omega)).mono ?_; rintro e w1 ⟨rfl, hw1⟩; rw [HA.out]; have HW := hid hw1; clear hw1)
      | (go_at_call 13; refine (right_any _ _ (by omega)).mono ?_; rintro e w1 ⟨rfl, hw1⟩; rw [HB.out]; replace HW := hid (below_on HW.out hw1); clear hw1))
    go_ret
    exact ⟨ret_bool HM.out.symm, HW.out⟩

set_option maxRecDepth 100000 in
set_option maxHeartbeats 4000000 in
theorem match_yes (s p : ByteArray) (w : World) (hs : s.size ≤ 900) (hp : p.size ≤ 900) (h1 : pattern (L s) = true) (h2 : right (L p) = true) : Calls Try.prog 26 #[.string s, .string p] w (Asks (.bool (matches_ (L s) (L p))) w) := by
  have HM : Hid (matches_ (L s) (L p) = means (pieces (L s)) (parts (L p))) := hid (by unfold matches_; rw [h1, h2, parts_right h2]; rfl)
  have H1 := hid h1
  have H2 := hid h2
  clear h1 h2
  refine (callsIn_wide (n := 9)).1 ?_
  refine callsIn_of_wp_marks Try.func26 rfl trivial ?_ rfl
  simp only [Try.ntmps26, List.size_toArray, List.length_cons, List.length_nil, Nat.reduceAdd, Nat.reduceSub, Array.replicate_succ, Array.replicate_zero, List.push_toArray, List.append_toArray, List.nil_append, List.cons_append]
  gi_wp2_with fail
  refine ⟨trivial, ?_⟩
  refine (callsIn_wide.2 (pattern_any s _ (by omega))).mono ?_
  rintro e w1 ⟨rfl, hw1⟩
  rw [H1.out]
  have HW := hid hw1
  clear hw1
  gi_wp2_with fail
  refine ⟨trivial, ?_⟩
  refine (callsIn_wide.2 (right_any p _ (by omega))).mono ?_
  rintro e w2 ⟨rfl, hw1⟩
  rw [H2.out]
  replace HW := hid (below_on HW.out hw1)
  clear hw1
  gi_wp2_with fail
  refine ⟨trivial, ?_⟩
  refine (callsIn_wide.2 (parts_any p _ (by omega))).mono ?_
  rintro e w3 ⟨v, ys, rfl, hh, hy, hw1⟩
  replace HW := hid (below_on HW.out hw1)
  have HY := hid hy
  have hy8 : ys.length ≤ 8 := by
    have h := congrArg List.length hy
    rw [List.length_map] at h
    rw [h]; exact parts_le
  obtain ⟨A2, c2, rfl, hA2, hc2, hm2, hv2⟩ := hh
  have HH : Hid (Holds w3 (.slice A2 ys.length c2) ys) := hid ⟨A2, c2, rfl, hA2, hc2, hm2, hv2⟩
  obtain ⟨n, hn⟩ : ∃ n, ys.length + 1 = n := ⟨_, rfl⟩
  have hnn : (ys.length : Int) + 1 = (n : Int) := by omega
  obtain ⟨Z, hmk, hZ⟩ := run_boolsZ n (by omega)
  have HZ := hid hZ
  have hZ0 : Z[0]? = some (.bool false) := by rw [hZ, List.getElem?_toArray, List.getElem?_replicate, if_pos (by omega)]
  have HNN := hid hnn
  have hmk2 : ∀ w, (Instr.makeSlice 51 (.int .i64 ((ys.length : Int) + 1)) (.int .i64 ((ys.length : Int) + 1))).run Try.prog w = .ok (.slice (some ⟨w.heap.size, 0, none⟩) n n) (w.alloc (.cells Z 4)) := fun w => by rw [HNN.out]; exact hmk w
  have h0 : 0 < n := by omega
  have HN := hid hn
  unfold maxLen at hm2
  clear hw1 hy hA2 hv2 hZ hnn hn hmk
  gi_wp2_with fail
  refine ⟨trivial, ?_⟩
  refine (callsIn_wide.2 (pieces_any s _)).mono ?_
  rintro e w4 ⟨rfl, rfl⟩
  gi_wp2
  obtain ⟨P, hP⟩ : ∃ P, ys.map L = P := ⟨_, rfl⟩
  have hPl : n = P.length + 1 := by rw [← hP, List.length_map, HN.out]
  have HP := hid hP
  have HPL := hid hPl
  have hM0 : (Z.setIfInBounds 0 (.bool true)) = (marks [] P).toArray := by
    rw [HZ.out, List.setIfInBounds_toArray, hPl]
    congr 1
    apply List.ext_getElem
    · rw [List.length_set, marks_length, List.length_replicate]
    · intro i h3 h4
      rw [marks_length] at h4
      by_cases e : i = 0
      · subst e; rw [List.getElem_set_self]; simp [marks, means]
      · rw [List.getElem_set_ne (by omega)]
        have : (P.take i).isEmpty = false := by
          cases P with
          | nil => simp at h4; omega
          | cons a P => cases i with
            | zero => omega
            | succ i => rfl
        simp [marks, means, this]
  rw [hM0]
  clear hP hPl hM0
  obtain ⟨MK, hMK⟩ : ∃ MK, (marks [] P).toArray = MK := ⟨_, rfl⟩
  rw [hMK]
  have b0 := Blk.new w3 29 #[.slice A2 ys.length c2]
  have b1 := Blk.new (w3.alloc (.cells #[.slice A2 ys.length c2] 29)) 4 MK
  have b2 := Blk.new ((w3.alloc (.cells #[.slice A2 ys.length c2] 29)).alloc (.cells MK 4)) 51 #[.slice (some ⟨w3.heap.size + 1, 0, none⟩) n n]
  have b3 := Blk.new (((w3.alloc (.cells #[.slice A2 ys.length c2] 29)).alloc (.cells MK 4)).alloc (.cells #[.slice (some ⟨w3.heap.size + 1, 0, none⟩) n n] 51)) 9 #[.string s]
  simp only [World.size_alloc] at b1 b2 b3
  have hB0 : Below w3.heap.size w3 ((((w3.alloc (.cells #[.slice A2 ys.length c2] 29)).alloc (.cells MK 4)).alloc (.cells #[.slice (some ⟨w3.heap.size + 1, 0, none⟩) n n] 51)).alloc (.cells #[.string s] 9)) :=
    ((((Below.refl _ w3).alloc (Nat.le_refl _) _).alloc (by simp) _).alloc (by simp <;> omega) _).alloc (by simp <;> omega) _
  have HMK : Hid (MK = (marks [] P).toArray) := hid hMK.symm
  clear hMK
  refine wpIn_rangeFunc_ownF rfl (by omega) (gf := 43) (lb := #[.pointer (some ⟨w3.heap.size + 1 + 1 + 1, 0, none⟩)]) rfl trivial (enters_of Try.func43 (by kernel_rfl) rfl)
    (pieces_stops _ (by omega) s (by omega) (w3.heap.size + 1 + 1 + 1) _ b3.lt (b3.cell 0)) (fun _ _ => trivial) (fun _ _ _ _ _ _ _ _ => trivial) (Below.refl _ _) (fun _ => rfl)
    (MatchAt w3.heap.size w3 (.slice A2 ys.length c2) n P) (fun _ _ _ => False)
    (MatchAt.own _ _ _ _ _ _ (Nat.le_refl _) (by simp <;> omega)) (fun _ _ _ _ _ hs _ _ => hs)
    ⟨((b0.alloc _).alloc _).alloc _, ⟨w3.heap.size + 1, b2.alloc _, by rw [List.map_nil, ← HMK.out]; exact (b1.alloc _).alloc _⟩, hB0⟩
    (fun x => { tmps := #[.string s, .string p, undef, undef, .bool false, .pointer (some ⟨w3.heap.size, 0, none⟩), .pointer (some ⟨w3.heap.size + 1 + 1, 0, none⟩), .string x, .string s, .bool true, .bool false, .bool false, .string p, .bool true, .bool false, .bool false, .string p, .slice A2 ys.length c2, .slice A2 ys.length c2, .int .i64 ys.length, .int .i64 ((ys.length : Int) + 1), .slice (some ⟨w3.heap.size + 1, 0, none⟩) n n, .slice (some ⟨w3.heap.size + 1, 0, none⟩) n n, .pointer (some ⟨w3.heap.size + 1, 0, none⟩), .string s, .func (.func 43) #[] #[.pointer (some ⟨w3.heap.size + 1 + 1 + 1, 0, none⟩)], .string x, undef, undef, undef, undef, undef, undef, undef, undef, undef], defers := [] }) ?assign ?body ?done ?stop
  case assign =>
    intro l x W K hK
    gi_wp2
    exact hK
  case body =>
    rintro l pre x W ⟨b0, ⟨g, b2, bg⟩, hB⟩ _
    have c0 := b0.cell 0
    have c2' := b2.cell 0
    have HHW := hid (HH.out.below hB)
    have HV : Hid (Vals W (some ⟨g, 0, none⟩) (marks (pre.map L) (ys.map L))) := hid (by rw [HP.out]; exact blk_vals bg)
    have HNL : Hid (n = (ys.map L).length + 1) := hid (by rw [HP.out]; exact HPL.out)
    gi_wp2_with fail
    refine ⟨trivial, ?_⟩
    refine (CallsIn.inRound l (callsIn_wide.2 (onemore_any (some ⟨g, 0, none⟩) n n _ x ys (pre.map L) _ HNL.out (by omega) HV.out HHW.out))).mono ?_
    rintro e w1 ⟨g2, rfl, hg2, bg2, hb⟩
    rw [← HNL.out]
    have d0 := b0.below hb b0.lt
    have d2 := b2.below hb b2.lt
    have e2 := d2.cell 0
    have f2 := d2.frozen 0
    have hlt2 := b2.lt
    have HB := hid hb
    have HG := hid bg2
    clear hb bg2
    gi_wp2
    refine ⟨(keeps_below HB.out).trans (KeepsOthers.setCell _ _ _), trivial, d0.far (by simp <;> omega) _, ⟨g2, d2.set_ 0 _, ?_⟩, (hB.trans (HB.out.mono hB.size)).setCell (p := ⟨w3.heap.size + 1 + 1, 0, none⟩) (by simp <;> omega) _⟩
    have := HG.out.far (p := ⟨w3.heap.size + 1 + 1, 0, none⟩) (by simp; omega) (.slice (some ⟨g2, 0, none⟩) n n)
    rw [List.map_append, List.map_singleton, ← HP.out]
    exact this
  case done =>
    rintro D zs W hD hzs ⟨b0, ⟨g, b2, bg⟩, hB⟩ hK
    have c0 := b0.cell 0
    have c2' := b2.cell 0
    have hPys : P.length = ys.length := by rw [← HP.out, List.length_map]
    have cg : W.cell? ⟨g, ys.length, none⟩ = some (.bool (means (pieces (L s)) (parts (L p)))) := by
      rw [bg.cell ys.length, List.getElem?_toArray, marks_at (by omega), hzs, ← hPys, List.take_length, ← HP.out, HY.out]
    obtain ⟨res, hres⟩ : ∃ res, means (pieces (L s)) (parts (L p)) = res := ⟨_, rfl⟩
    rw [hres] at cg
    have HRES := hid (HM.out.trans hres)
    have hyn : ys.length < n := by have := HN.out; omega
    clear hzs hPys hres
    gi_wp2
    refine ⟨by simp, .inl ⟨_, _, rfl, run_takeDeferred hK, ?_⟩⟩
    refine ⟨.bool res, ?_, ret_bool HRES.out.symm, below_on HW.out (hB.trans (belowK_b (w := w3) (Nat.le_refl _) W D _ _ (by simp at hD; omega) hK rfl rfl))⟩
    simp [results, Try.f26, go_sem]
  case stop =>
    rintro D c pre W _ _ h _
    exact h.elim

theorem match_any (s p : ByteArray) (w : World) (hs : s.size ≤ 900) (hp : p.size ≤ 900) : Calls Try.prog 26 #[.string s, .string p] w (Asks (.bool (matches_ (L s) (L p))) w) := by
  by_cases h : pattern (L s) = true ∧ right (L p) = true
  · exact match_yes s p w hs hp h.1 h.2
  · refine match_no s p w hs hp _ _ rfl rfl ?_
    cases h1 : pattern (L s) <;> cases h2 : right (L p) <;> try rfl
    exact absurd ⟨h1, h2⟩ h

end Go.Proofs.Ytbnhkpceihfalaa
