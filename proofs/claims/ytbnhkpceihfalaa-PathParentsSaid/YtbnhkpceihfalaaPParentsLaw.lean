/-
  PathParents: a path's parent is it without its last part, and lies above it; what two paths have in common is the last path that lies above both. For any two texts. No condition.
-/
import Derived.Test.YtbnhkpceihfalaaPAnchor
import Derived.Test.YtbnhkpceihfalaaPParent
import Derived.ProofKit
import Derived.OpenShut
import Derived.ChangeMaps5
namespace Go.Proofs.Ytbnhkpceihfalaa.pathParents
open Go.ChangeShapes Go.WideShapes Go.ChangeAt Go.RowKit Go.ChangeMaps
set_option linter.unusedVariables false

theorem own : ownKnob Try.prog.godebug = none := by kernel_rfl
theorem laidOut : laidOutB Try.prog = true := by kernel_rfl

/-- The law's answer. -/
def Yes (w : World) (e : Ending) (w' : World) : Prop := e = .returned (.bool true) ∧ Below w.heap.size w w'

set_option maxRecDepth 100000 in
set_option maxHeartbeats 1000000 in
theorem walk_long (p q : ByteArray) (w : World) (hp : p.size ≤ maxLen) (hq : q.size ≤ maxLen) (h : 100 < p.size ∨ 100 < q.size) : Calls Try.prog 6 #[.string p, .string q] w (Yes w) := by
  unfold maxLen at hp hq
  by_cases h1 : 100 < p.size
  · clear h
    go_enter Try.func6, Try.ntmps6
    go_wp2_with (go_at_call 10; refine (anchor_any _).mono ?_; rintro e w1 ⟨rfl, hw1⟩; have HB := hid hw1; clear hw1)
    go_ret
    exact ⟨rfl, HB.out⟩
  · have h2 : 100 < q.size := by omega
    clear h
    go_enter Try.func6, Try.ntmps6
    go_wp2_with (go_at_call 10; refine (anchor_any _).mono ?_; rintro e w1 ⟨rfl, hw1⟩; have HB := hid hw1; clear hw1)
    go_ret
    exact ⟨rfl, HB.out⟩

theorem holds_at {w : World} {v : Value} {ys : List ByteArray} {n : Nat} (h : Holds w v ys) (hn : ys.length = n) : ∃ A c, v = .slice A n c ∧ (A = none → c = 0) ∧ n ≤ c ∧ c ≤ maxLen ∧ Vals w A (strs ys) := by
  subst hn; exact h
theorem holds_front {w : World} {A1 : Option Addr} {ys : List ByteArray} {n c k : Nat} (hn : ys.length = n) (hk : k ≤ n) (hc : n ≤ c) (hm : c ≤ maxLen) (g : A1 = none → c = 0) (h : Vals w A1 (strs (ys.take k))) : Holds w (.slice A1 k c) (ys.take k) := by
  have hl : (ys.take k).length = k := by rw [List.length_take]; omega
  exact ⟨A1, c, by rw [hl], g, by omega, hm, h⟩

theorem holds_drewN {w : World} {v : Value} {xs : List ByteArray} (h : Holds w v xs) (n : Nat) : Holds (w.drewN n) v xs := h

theorem drop_take (l : List (List UInt8)) : l.dropLast = l.take (l.length - 1) := List.dropLast_eq_take

set_option maxRecDepth 100000 in
set_option maxHeartbeats 8000000 in
theorem walk_at (p q : ByteArray) (w : World) (hp : p.size ≤ 100) (hq : q.size ≤ 100) :
    Calls Try.prog 6 #[.string p, .string q] w (Yes w) := by
  obtain ⟨i0, hi, hz0, hz1, hz2⟩ := info_parts info_str
  obtain ⟨u, ok, hu⟩ : ∃ u ok, parent (L p) = (u, ok) := ⟨_, _, rfl⟩
  obtain ⟨ny, hny⟩ : ∃ ny, (parts (L p)).length = ny := ⟨_, rfl⟩
  obtain ⟨nz, hnz⟩ : ∃ nz, (parts (L q)).length = nz := ⟨_, rfl⟩
  obtain ⟨cn, hcn⟩ : ∃ cn, common (parts (L p)) (parts (L q)) = cn := ⟨_, rfl⟩
  have hny8 : ny ≤ 8 := by rw [← hny]; exact parts_le
  have hnz8 : nz ≤ 8 := by rw [← hnz]; exact parts_le
  have HU := hid hu
  have HNY := hid hny
  have HNZ := hid hnz
  have HCN := hid hcn
  clear hu hny hnz hcn
  go_enter Try.func6, Try.ntmps6
  go_wp2_with (go_at_call 10; refine (anchor_any _).mono ?_; rintro e w1 ⟨rfl, hw1⟩; have HW := hid hw1; clear hw1)
  refine (parent_any p _ (by omega)).mono ?_
  rintro e w2 ⟨r, rfl, hr, hw2⟩
  rw [HU.out] at hr
  rw [HU.out]
  have HR := hid hr
  replace HW := hid (below_on HW.out hw2)
  clear hr hw2
  go_wp2_with fail
  refine (parts_any p _ (by omega)).mono ?_
  rintro e w3 ⟨v, ys, rfl, hh, hy, hw2⟩
  replace HW := hid (below_on HW.out hw2)
  have HY := hid hy
  have hyl : ys.length = ny := by rw [← HNY.out, ← hy, List.length_map]
  obtain ⟨A, c, rfl, hA, hc, hm, hv⟩ := holds_at hh hyl
  have HYL := hid hyl
  have HA := hid hA
  have HV := hid hv
  have HSZ : Hid (∀ y ∈ ys, y.size ≤ 1000) := hid (fun y hy => by
    have := parts_size (p := L p) (L y) (by rw [← HY.out]; exact List.mem_map_of_mem hy)
    rw [L_length] at this
    omega)
  clear hy hw2 hyl hA hv hh
  have hcm : c ≤ 9223372036854775807 := by unfold maxLen at hm; omega
  by_cases h1 : 1 < ny
  case' pos =>
    have hok : ok = true := by have h := HU.out; unfold parent at h; rw [HNY.out, if_pos h1] at h; exact (congrArg Prod.snd h).symm
    have hur : u = join ((parts (L p)).take (ny - 1)) := by have h := HU.out; unfold parent at h; rw [HNY.out, if_pos h1] at h; have h2 : join (parts (L p)).dropLast = u := congrArg Prod.fst h; rw [← h2, ← HNY.out, drop_take]
    subst hok
    have HUR := hid hur
    have HAB : Hid (above (L r) (L p) = true) := hid (by rw [HR.out, HUR.out]; exact parts_above (by omega) (by rw [HNY.out]; omega))
    obtain ⟨A1, r1, g1, s1⟩ := vals_front (P := Try.prog) 29 9 i0 Try.underlying29 hi (k := ny - 1) (n := ny) (by omega) hc HV.out HA.out
    rw [strs_take] at s1
    rw [show ((ny - 1 : Nat) : Int) = (ny : Int) - 1 by omega] at r1
    have HF := hid (holds_front HYL.out (by omega) hc hm g1 s1)
    have HT : Hid ((ys.take (ny - 1)).map L = (parts (L p)).take (ny - 1)) := hid (by rw [← HY.out, List.map_take])
    clear hur s1 g1
    go_wp2_with fail
    refine (refjoin_any _ (ys.take (ny - 1)) _ HF.out (by rw [List.length_take]; omega) (fun y hy => HSZ.out y (List.mem_of_mem_take hy))).mono ?_
    rintro e w4 ⟨r2, rfl, hr2, hw2⟩
    rw [HT.out, ← HUR.out, ← HR.out] at hr2
    obtain rfl : r2 = r := L_inj.1 hr2
    replace HW := hid (below_on HW.out hw2)
    replace HV := hid (HV.out.below hw2)
    clear hr2 hw2 r1 HF
    go_wp2_with fail
    refine (above_any r2 p _ (by omega)).mono ?_
    rintro e w5 ⟨rfl, hw2⟩
    rw [HAB.out]
    replace HW := hid (below_on HW.out hw2)
    replace HV := hid (HV.out.below hw2)
    clear hw2
    go_wp2_with fail
  case' neg =>
    have hok : ok = false := by have h := HU.out; unfold parent at h; rw [HNY.out, if_neg h1] at h; exact (congrArg Prod.snd h).symm
    have hur : u = [] := by have h := HU.out; unfold parent at h; rw [HNY.out, if_neg h1] at h; exact (congrArg Prod.fst h).symm
    subst hok
    obtain rfl : r = ⟨#[]⟩ := eq_of_L (HR.out.trans hur)
    clear hur
    go_wp2_with fail
  all_goals
    refine (common_any p q _ (by omega) (by omega)).mono ?_
    rintro e w6 ⟨r3, rfl, hr3, hw2⟩
    rw [HCN.out] at hr3
    rw [HCN.out]
    have HR3 := hid hr3
    replace HW := hid (below_on HW.out hw2)
    replace HV := hid (HV.out.below hw2)
    clear hr3 hw2
    go_wp2_with fail
    refine (parts_any q _ (by omega)).mono ?_
    rintro e w7 ⟨v2, zs, rfl, hh, hz, hw2⟩
    replace HW := hid (below_on HW.out hw2)
    replace HV := hid (HV.out.below hw2)
    have HZ := hid hz
    have hzl : zs.length = nz := by rw [← HNZ.out, ← hz, List.length_map]
    obtain ⟨A2, c2, rfl, hA2, hc2, hm2, hv2⟩ := holds_at hh hzl
    have HZL := hid hzl
    have HV2 := hid hv2
    clear hz hw2 hzl hA2 hv2 hh
    obtain ⟨bb, hbb⟩ : ∃ bb, decide (0 < cn) = bb := ⟨_, rfl⟩
    rw [hbb]
    have HBB := hid hbb
    clear hbb
    go_wp2
    go_loopw [11] (fun i wr => ∃ k n : Nat, wr = w7.drewN n ∧ k ≤ ny ∧ k ≤ nz ∧ i = .int .i64 k ∧ Hid (Agree ys zs k)) (fun i _ => ny - (intOf i).toNat)
    case atStart => exact ⟨0, 0, rfl, Nat.zero_le _, Nat.zero_le _, rfl, hid (agree_zero _ _)⟩
    case round =>
      obtain ⟨k, n, rfl, hk1, hk2, rfl, HE⟩ := hrel
      by_cases hgo : ∃ (h1 : k < ys.length) (h2 : k < zs.length), ys[k] = zs[k]
      · obtain ⟨h3, h4, hne⟩ := hgo
        have hlt1 : k < ny := by rw [← HYL.out]; exact h3
        have hlt2 : k < nz := by rw [← HZL.out]; exact h4
        obtain ⟨b, o, rfl, _, hcell⟩ := strs_at HV.out h3
        obtain ⟨b2, o2, rfl, _, hcell2⟩ := strs_at HV2.out h4
        have HE2 := hid (agree_succ HE.out h3 h4 hne)
        rw [← hne] at hcell2
        clear hne hi hz0 hz1 hz2
        go_wp2
        go_quiet (fail)
        go_wp2
        go_roundw
        case rel => exact ⟨k + 1, _, rfl, by omega, by omega, by go_num, HE2⟩
        case measure => simp [intOf]; omega
      · have hc2' : cn = k := by
          rw [← HCN.out, ← HY.out, ← HZ.out]
          exact agree_end HE.out (by rw [HYL.out]; exact hk1) (by rw [HZL.out]; exact hk2) (fun a b e => hgo ⟨a, b, e⟩)
        obtain rfl : k = cn := hc2'.symm
        obtain ⟨A1, r1', g1, s1⟩ := vals_front (P := Try.prog) 29 9 i0 Try.underlying29 hi (k := k) (n := ny) hk1 hc HV.out HA.out
        rw [strs_take] at s1
        have HF := hid (holds_front HYL.out hk1 hc hm g1 s1)
        have HT : Hid ((ys.take k).map L = (parts (L p)).take k) := hid (by rw [← HY.out, List.map_take])
        have HEQ : Hid ((parts (L p)).take k = (parts (L q)).take k) := hid (by rw [← HCN.out]; exact common_take _ _)
        clear s1 g1 hi hz0 hz1 hz2
        by_cases h0 : 0 < k
        · have HAP : Hid (above (L r3) (L p) = true) := hid (by rw [HR3.out]; exact parts_above h0 (by rw [HNY.out]; exact hk1))
          have HAQ : Hid (above (L r3) (L q) = true) := hid (by rw [HR3.out]; exact parts_above' h0 (by rw [HNZ.out]; exact hk2) HEQ.out)
          obtain rfl : bb = true := by rw [← HBB.out]; exact decide_eq_true h0
          by_cases hlt1 : k < ny
          · by_cases hlt2 : k < nz
            · have h3 : k < ys.length := by rw [HYL.out]; exact hlt1
              have h4 : k < zs.length := by rw [HZL.out]; exact hlt2
              obtain ⟨b, o, rfl, _, hcell⟩ := strs_at HV.out h3
              obtain ⟨b2, o2, rfl, _, hcell2⟩ := strs_at HV2.out h4
              obtain ⟨e1, e2, e3⟩ := spell_ne (y := ys[k]) (z := zs[k]) (fun e => hgo ⟨h3, h4, e⟩)
              clear hgo
              go_wp2
              go_quiet (fail)
              go_wp2_with fail
              refine (refjoin_any _ (ys.take k) _ (holds_drewN HF.out _) (by rw [List.length_take]; omega) (fun y hy => HSZ.out y (List.mem_of_mem_take hy))).mono ?_
              rintro e w8 ⟨r4, rfl, hr4, hw2⟩
              rw [HT.out, ← HR3.out] at hr4
              obtain rfl : r4 = r3 := L_inj.1 hr4
              have HX := hid ((below_drewN HW.out (n + nq)).trans (hw2.mono (below_drewN HW.out (n + nq)).size))
              clear hr4 hw2 r1'
              go_wp2_with fail
              refine (above_any r4 p _ (by omega)).mono ?_
              rintro e w9 ⟨rfl, hw2⟩
              rw [HAP.out]
              replace HX := hid (below_on HX.out hw2)
              clear hw2
              go_wp2_with fail
              refine (above_any r4 q _ (by omega)).mono ?_
              rintro e w10 ⟨rfl, hw2⟩
              rw [HAQ.out]
              replace HX := hid (below_on HX.out hw2)
              clear hw2
              go_wp2
              go_ret
              exact ⟨rfl, HX.out⟩
            · clear hgo
              go_wp2
              go_quiet (fail)
              go_wp2_with fail
              refine (refjoin_any _ (ys.take k) _ (holds_drewN HF.out _) (by rw [List.length_take]; omega) (fun y hy => HSZ.out y (List.mem_of_mem_take hy))).mono ?_
              rintro e w8 ⟨r4, rfl, hr4, hw2⟩
              rw [HT.out, ← HR3.out] at hr4
              obtain rfl : r4 = r3 := L_inj.1 hr4
              have HX := hid ((below_drewN HW.out (n + nq)).trans (hw2.mono (below_drewN HW.out (n + nq)).size))
              clear hr4 hw2 r1'
              go_wp2_with fail
              refine (above_any r4 p _ (by omega)).mono ?_
              rintro e w9 ⟨rfl, hw2⟩
              rw [HAP.out]
              replace HX := hid (below_on HX.out hw2)
              clear hw2
              go_wp2_with fail
              refine (above_any r4 q _ (by omega)).mono ?_
              rintro e w10 ⟨rfl, hw2⟩
              rw [HAQ.out]
              replace HX := hid (below_on HX.out hw2)
              clear hw2
              go_wp2
              go_ret
              exact ⟨rfl, HX.out⟩
          · clear hgo
            go_wp2
            go_quiet (fail)
            go_wp2_with fail
            refine (refjoin_any _ (ys.take k) _ (holds_drewN HF.out _) (by rw [List.length_take]; omega) (fun y hy => HSZ.out y (List.mem_of_mem_take hy))).mono ?_
            rintro e w8 ⟨r4, rfl, hr4, hw2⟩
            rw [HT.out, ← HR3.out] at hr4
            obtain rfl : r4 = r3 := L_inj.1 hr4
            have HX := hid ((below_drewN HW.out (n + nq)).trans (hw2.mono (below_drewN HW.out (n + nq)).size))
            clear hr4 hw2 r1'
            go_wp2_with fail
            refine (above_any r4 p _ (by omega)).mono ?_
            rintro e w9 ⟨rfl, hw2⟩
            rw [HAP.out]
            replace HX := hid (below_on HX.out hw2)
            clear hw2
            go_wp2_with fail
            refine (above_any r4 q _ (by omega)).mono ?_
            rintro e w10 ⟨rfl, hw2⟩
            rw [HAQ.out]
            replace HX := hid (below_on HX.out hw2)
            clear hw2
            go_wp2
            go_ret
            exact ⟨rfl, HX.out⟩
        · obtain rfl : bb = false := by rw [← HBB.out]; exact decide_eq_false h0
          by_cases hlt1 : k < ny
          · by_cases hlt2 : k < nz
            · have h3 : k < ys.length := by rw [HYL.out]; exact hlt1
              have h4 : k < zs.length := by rw [HZL.out]; exact hlt2
              obtain ⟨b, o, rfl, _, hcell⟩ := strs_at HV.out h3
              obtain ⟨b2, o2, rfl, _, hcell2⟩ := strs_at HV2.out h4
              obtain ⟨e1, e2, e3⟩ := spell_ne (y := ys[k]) (z := zs[k]) (fun e => hgo ⟨h3, h4, e⟩)
              clear hgo
              go_wp2
              go_quiet (fail)
              go_wp2_with fail
              refine (refjoin_any _ (ys.take k) _ (holds_drewN HF.out _) (by rw [List.length_take]; omega) (fun y hy => HSZ.out y (List.mem_of_mem_take hy))).mono ?_
              rintro e w8 ⟨r4, rfl, hr4, hw2⟩
              rw [HT.out, ← HR3.out] at hr4
              obtain rfl : r4 = r3 := L_inj.1 hr4
              have HX := hid ((below_drewN HW.out (n + nq)).trans (hw2.mono (below_drewN HW.out (n + nq)).size))
              clear hr4 hw2 r1'
              go_wp2
              go_ret
              exact ⟨rfl, HX.out⟩
            · clear hgo
              go_wp2
              go_quiet (fail)
              go_wp2_with fail
              refine (refjoin_any _ (ys.take k) _ (holds_drewN HF.out _) (by rw [List.length_take]; omega) (fun y hy => HSZ.out y (List.mem_of_mem_take hy))).mono ?_
              rintro e w8 ⟨r4, rfl, hr4, hw2⟩
              rw [HT.out, ← HR3.out] at hr4
              obtain rfl : r4 = r3 := L_inj.1 hr4
              have HX := hid ((below_drewN HW.out (n + nq)).trans (hw2.mono (below_drewN HW.out (n + nq)).size))
              clear hr4 hw2 r1'
              go_wp2
              go_ret
              exact ⟨rfl, HX.out⟩
          · clear hgo
            go_wp2
            go_quiet (fail)
            go_wp2_with fail
            refine (refjoin_any _ (ys.take k) _ (holds_drewN HF.out _) (by rw [List.length_take]; omega) (fun y hy => HSZ.out y (List.mem_of_mem_take hy))).mono ?_
            rintro e w8 ⟨r4, rfl, hr4, hw2⟩
            rw [HT.out, ← HR3.out] at hr4
            obtain rfl : r4 = r3 := L_inj.1 hr4
            have HX := hid ((below_drewN HW.out (n + nq)).trans (hw2.mono (below_drewN HW.out (n + nq)).size))
            clear hr4 hw2 r1'
            go_wp2
            go_ret
            exact ⟨rfl, HX.out⟩

/-- The Go text returns true. -/
theorem walk (p q : ByteArray) (hp : p.size ≤ maxLen) (hq : q.size ≤ maxLen) (w : World) :
    Calls Try.prog 6 #[.string p, .string q] w fun e w' => e = .returned (.bool true) ∧ Below w.heap.size w w' := by
  by_cases h : 100 < p.size ∨ 100 < q.size
  · exact walk_long p q w hp hq h
  · exact walk_at p q w (by omega) (by omega)

set_option maxRecDepth 100000 in
theorem lifted (os : Os) (started : os.Started) (H : Type) (enc : TypeId × Value → H) :
    ReturnsInHanded {} Try.checked os 6 .any (Rows.pathParentsSpec.pre6 enc Try.prog Try.f6 Rows.pathParentsRow.domain false) (Rows.pathParentsSpec.post enc Try.prog Try.f6 false true false false) := by
  refine returnsInHanded_of_change (C := Try.checked) own started (by kernel_rfl) Try.func6
    (ChangeSpec.witness6 (enc := enc) (C := Try.checked) false ⟨#[], #[.string ⟨#[]⟩, .string ⟨#[]⟩], []⟩ 8 (by kernel_rfl) (by kernel_rfl) (by kernel_rfl) (by kernel_rfl)) ?_
  intro W base args ds gs before hval0 hW _ _
  have hval : ∀ (j : Nat) t v, Try.f6.params[j]? = some t → args[j]? = some v → Value.okWide Try.prog W .any base t v := hval0
  have hW' := hW
  obtain ⟨p, q, hA0, hV, rfl, _, _⟩ := hW
  have hA : DataW.TrodAll enc Try.prog W 0 (fun _ => true) true Try.f6.params.toList args.toList ds p := hA0
  rw [Try.params6] at hA hval
  have hlt : ∀ x ∈ p, x.block < W.heap.size := fun x hx => by simpa using hW'.lt x (List.mem_append_left _ hx)
  obtain ⟨v0, vs0, d0, ds0, p0, q0, hargs, rfl, rfl, g0, r0⟩ := trodAll_cons hA
  obtain ⟨v1, vs1, d1, ds1, p1, q1, rfl, rfl, rfl, g1, r1⟩ := trodAll_cons r0
  obtain ⟨rfl, rfl, rfl⟩ := trodAll_nil r1
  obtain rfl : args = #[v0, v1] := by cases args; simp_all
  obtain ⟨rfl, rfl⟩ := trodVars_none hV
  obtain ⟨a0, rfl, rfl, rfl, w0⟩ := open_string Try.underlying9 (hval 0 9 v0 rfl rfl) g0
  obtain ⟨a1, rfl, rfl, rfl, w1⟩ := open_string Try.underlying9 (hval 1 9 v1 rfl rfl) g1
  refine (walk a0 a1 w0 w1 W).mono fun e W' ⟨he, hg⟩ => ?_
  subst he
  exact ⟨_, rfl, law_post laidOut hW' (by kernel_rfl) rfl rfl Try.underlying4 rfl hg⟩

theorem proved : Rows.PathParentsSaid :=
  OpenClaim.holds_of_wide 6 Try.f6 rfl rfl rfl rfl rfl rfl rfl ⟨rfl, rfl, rfl, rfl, rfl⟩ rfl rfl rfl rfl rfl (by kernel_rfl) Try.func6 (by kernel_rfl)
    (of_decide_eq_true (by kernel_rfl)) (by unfold Func.isWrapper; first | (rw [if_pos (by decide +kernel)]; kernel_rfl) | (rw [if_neg (by decide +kernel)]; exact ⟨rfl, rfl⟩))
    (fun os started H enc _ => lifted os started H enc)
#print axioms proved
end Go.Proofs.Ytbnhkpceihfalaa.pathParents
