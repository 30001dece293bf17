/-
  CrewOf: for every list of integers and every number the law's call returns true: the set of a list, and of the first so many, is the document's. No condition.
-/
import Derived.Test.YtkkjjhljlcabaaaCAnchor
import Derived.ProofKit
import Derived.OpenShut
namespace Go.Proofs.Ytkkjjhljlcabaaa.crewOf
open Go.ChangeShapes Go.WideShapes Go.ChangeAt Go.RowKit
set_option linter.unusedVariables false

theorem own : ownKnob Try.prog.godebug = none := by kernel_rfl
theorem laidOut : laidOutB Try.prog = true := by kernel_rfl

def Yes (w : World) (e : Ending) (w' : World) : Prop := e = .returned (.bool true) ∧ Below w.heap.size w w'

/-- Is a replica in a list? -/
def inL (l : List Int) (k : Nat) : Bool := l.any fun r => r == (k : Int)
theorem inL_next {l : List Int} {j k : Nat} (h : j < l.length) : inL (l.take (j + 1)) k = (inL (l.take j) k || l[j] == (k : Int)) := by
  unfold inL
  rw [List.take_succ_eq_append_getElem h, List.any_append]
  simp

set_option maxRecDepth 100000 in
set_option maxHeartbeats 4000000 in
theorem walk_few (A : Option Addr) (l : List Int) (c : Nat) (n : Int) (hl : l.length ≤ 100) (h0 : -9223372036854775808 ≤ n) (h1 : n ≤ 9223372036854775807) (w : World) (hv : Vals w A (ints l)) :
    Calls Try.prog 4 #[.slice A l.length c, .int .i64 n] w (Yes w) := by
  have HV := hid hv
  obtain ⟨m, hm⟩ : ∃ m, l.length = m := ⟨_, rfl⟩
  have HL := hid hm
  rw [hm] at hl ⊢
  clear hv hm
  obtain ⟨zs, hzs⟩ : ∃ zs : Array Value, #[Value.bool false, .bool false, .bool false, .bool false, .bool false, .bool false, .bool false] = zs := ⟨_, rfl⟩
  obtain ⟨cs, hcs⟩ : ∃ cs, rowOf (ofN l).testBit = cs := ⟨_, rfl⟩
  obtain ⟨ds, hds⟩ : ∃ ds, rowOf (firstN (cutN n)).testBit = ds := ⟨_, rfl⟩
  have HZ := hid hzs
  have HC := hid hcs
  have HD := hid hds
  have H4 := hid (show (Try.prog.info? 25).map (·.size) = some cs.size by rw [← hcs, rowOf_size]; exact info_s)
  have H5 := hid (show cs.all (·.oneCell') = true by rw [← hcs]; exact rowOf_one _)
  have H6 := hid (show zs.size = cs.size by rw [← hcs, ← hzs, rowOf_size]; rfl)
  have G4 := hid (show (Try.prog.info? 25).map (·.size) = some ds.size by rw [← hds, rowOf_size]; exact info_s)
  have G5 := hid (show ds.all (·.oneCell') = true by rw [← hds]; exact rowOf_one _)
  have G6 := hid (show zs.size = ds.size by rw [← hds, ← hzs, rowOf_size]; rfl)
  have hol := ofN_lt l
  have hfl := first_lt (cut_le n)
  clear hzs hcs hds
  go_enter Try.func4, Try.ntmps4
  go_wp2_with fail
  refine (anchor_any _).mono ?_
  rintro e w1 ⟨rfl, hb1⟩
  have HV1 := hid (HV.out.below hb1)
  have HB1 := hid hb1
  clear hb1
  go_wp2_with fail
  refine (ofset_any A l m c _ HL.out (by omega) HV1.out).mono ?_
  rintro e w' ⟨rfl, rfl⟩
  go_wp2_with fail
  refine (refof_any _ _ hol).mono ?_
  rintro e w2 ⟨rfl, hb2⟩
  rw [HC.out]
  have HB2 := hid (below_on HB1.out hb2)
  clear hb2
  have K2 := hid (first_row w2 HZ.out)
  have K3 := hid (blk_stored (cs := cs) (Blk.new w2 25 zs))
  have L3 := hid (below_setRow_ (cs := cs) (HB2.out.alloc HB2.out.size (.cells zs 25)) HB2.out.size)
  obtain ⟨g, hg⟩ : ∃ g, w2.heap.size = g := ⟨_, rfl⟩
  have hgw : w.heap.size ≤ g := by rw [← hg]; exact HB2.out.size
  rw [hg] at K2 K3 L3
  go_wp2_with ((with_reducible refine wpList_store_row (o := ⟨none, _, _, _, _, _⟩) rfl 25 (.tmp 5) (.tmp 18) rfl g cs rfl rfl 25 zs K2.out H4.out H6.out H5.out ?_); rw [HZ.out]; generalize (w2.alloc (.cells zs 25)).setRow g cs = w3 at K3 L3 ⊢; clear K2)
  clear hg
  refine (allset_any _ _).mono ?_
  rintro e w' ⟨rfl, rfl⟩
  go_wp2_with fail
  refine (refof_any _ _ (by omega)).mono ?_
  rintro e w4 ⟨rfl, hb4⟩
  rw [HD.out]
  have L4 := hid (below_on L3.out hb4)
  have K4 := hid (K3.out.below hb4 K3.out.lt)
  have N2 := hid (first_row w4 HZ.out)
  have K5 := hid (blk_stored (cs := ds) (Blk.new w4 25 zs))
  have J5 := hid (blk_setRow_far (g' := w4.heap.size) (ds := ds) (K4.out.alloc (.cells zs 25)) (by have := K4.out.lt; omega))
  have L5 := hid (below_setRow_ (cs := ds) (L4.out.alloc L4.out.size (.cells zs 25)) L4.out.size)
  obtain ⟨h, hh⟩ : ∃ h, w4.heap.size = h := ⟨_, rfl⟩
  rw [hh] at N2 K5 J5 L5
  clear hb4 K3 L3
  go_wp2_with ((with_reducible refine wpList_store_row (o := ⟨none, _, _, _, _, _⟩) rfl 25 (.tmp 6) (.tmp 21) rfl h ds rfl rfl 25 zs N2.out G4.out G6.out G5.out ?_); rw [HZ.out]; generalize (w4.alloc (.cells zs 25)).setRow h ds = w5 at K5 J5 L5 ⊢; clear N2)
  clear hh
  have HV5 := hid (HV.out.below L5.out)
  go_loop [22] (fun iv => ∃ k : Nat, k ≤ 7 ∧ iv = .int .i64 k) (fun iv => 7 - (intOf iv).toNat)
  case atStart => exact ⟨0, by omega, rfl⟩
  case round =>
    obtain ⟨k, hk, rfl⟩ := hrel
    by_cases hlt : k < 7
    · have hs : w5.cell? ⟨g, k, none⟩ = some (.bool (inL l k)) := by
        rw [J5.out.cell k, ← HC.out, rowOf_get _ hlt, ofN_bit, decide_eq_true hlt]; rfl
      have ha : w5.cell? ⟨h, k, none⟩ = some (.bool (decide ((k : Int) < n))) := by
        rw [K5.out.cell k, ← HD.out, rowOf_get _ hlt, first_bit]
        congr 2
        unfold cutN
        exact decide_eq_decide.2 (by omega)
      have HS := hid hs
      have HA := hid ha
      clear hs ha
      go_wp2
      go_loop [8, 27] (fun bv jv => ∃ j : Nat, j ≤ m ∧ jv = .int .i64 j ∧ bv = .bool (inL (l.take j) k)) (fun _ jv => m - (intOf jv).toNat)
      case atStart => exact ⟨0, by omega, rfl, rfl⟩
      case round =>
        obtain ⟨j, hj, rfl, rfl⟩ := hrel
        by_cases hjm : j < m
        · have hjl : j < l.length := by rw [HL.out]; exact hjm
          obtain ⟨b, o, rfl, _, hcell⟩ := HV5.out.at_ (show j < (ints l).length by rw [ints_length]; exact hjl)
          rw [show (ints l)[j]'(by rw [ints_length]; exact hjl) = .int .i64 l[j] by simp [ints]] at hcell
          have HN := hid (inL_next (k := k) hjl)
          generalize l[j] = x at hcell HN
          generalize inL (l.take j) k = q at HN
          cases q
          · by_cases hx : x = (k : Int)
            · have hxb : (x == (k : Int)) = true := by rw [hx]; simp
              have HM : Hid (inL (l.take (j + 1)) k = true) := hid (by rw [HN.out, hxb]; rfl)
              clear hx
              go_wp2
              go_round
              case rel => exact ⟨j + 1, by omega, by go_num, by rw [HM.out]⟩
              case measure => simp only [intOf]; omega
            · have hxb : (x == (k : Int)) = false := beq_eq_false_iff_ne.2 hx
              have HM : Hid (inL (l.take (j + 1)) k = false) := hid (by rw [HN.out, hxb]; rfl)
              clear hx
              go_wp2
              go_round
              case rel => exact ⟨j + 1, by omega, by go_num, by rw [HM.out]⟩
              case measure => simp only [intOf]; omega
          · have HM : Hid (inL (l.take (j + 1)) k = true) := hid (by rw [HN.out]; rfl)
            go_wp2
            go_round
            case rel => exact ⟨j + 1, by omega, by go_num, by rw [HM.out]⟩
            case measure => simp only [intOf]; omega
        · have e : l.take j = l := List.take_of_length_le (by rw [HL.out]; omega)
          rw [e]
          clear e
          have hs := HS.out
          have ha := HA.out
          generalize inL l k = q at hs
          by_cases hkn : (k : Int) < n
          all_goals
            cases q
            all_goals
              go_wp2
              go_round
              case rel => exact ⟨k + 1, by omega, by go_num⟩
              case measure => simp only [intOf]; omega
    · go_wp2
      go_ret
      exact ⟨rfl, L5.out⟩

set_option maxRecDepth 100000 in
set_option maxHeartbeats 400000 in
theorem walk_many (A : Option Addr) (m c : Nat) (n : Int) (hl : 100 < m) (hm : m ≤ 9223372036854775807) (w : World) :
    Calls Try.prog 4 #[.slice A m c, .int .i64 n] w (Yes w) := by
  go_enter Try.func4, Try.ntmps4
  go_wp2_with fail
  refine (anchor_any _).mono ?_
  rintro e w1 ⟨rfl, hb1⟩
  have HB1 := hid hb1
  clear hb1
  go_wp2
  go_ret
  exact ⟨rfl, HB1.out⟩

/-- The Go text returns true. -/
theorem walk (A : Option Addr) (l : List Int) (c : Nat) (n : Int) (hm : l.length ≤ 9223372036854775807) (wn : (Lit.int .i64 n).wf = true) (w : World) (hv : Vals w A (ints l)) :
    Calls Try.prog 4 #[.slice A l.length c, .int .i64 n] w (Yes w) := by
  by_cases h : l.length ≤ 100
  · exact walk_few A l c n h (i64_ge n wn) (i64_le n wn) w hv
  · exact walk_many A l.length c n (by omega) hm w

set_option maxRecDepth 100000 in
theorem lifted (os : Os) (started : os.Started) (H : Type) (enc : TypeId × Value → H) :
    ReturnsInHanded {} Try.checked os 4 .any (Rows.crewOfSpec.pre6 enc Try.prog Try.f4 Rows.crewOfRow.domain false) (Rows.crewOfSpec.post enc Try.prog Try.f4 false true false false) := by
  refine returnsInHanded_of_change (C := Try.checked) own started (by kernel_rfl) Try.func4
    (ChangeSpec.witness6 (enc := enc) (C := Try.checked) false ⟨#[], #[.slice none 0 0, .int .i64 0], []⟩ 8 (by kernel_rfl) (by kernel_rfl) (by kernel_rfl) (by kernel_rfl)) ?_
  intro W base args ds gs before hval0 hW _ _
  have hval : ∀ (j : Nat) t v, Try.f4.params[j]? = some t → args[j]? = some v → Value.okWide Try.prog W .any base t v := hval0
  have hW' := hW
  obtain ⟨p, q, hA0, hV, rfl, _, _⟩ := hW
  have hA : DataW.TrodAll enc Try.prog W 0 (fun _ => true) true Try.f4.params.toList args.toList ds p := hA0
  rw [Try.params4] at hA hval
  have hlt : ∀ x ∈ p, x.block < W.heap.size := fun x hx => by simpa using hW'.lt x (List.mem_append_left _ hx)
  obtain ⟨v0, vs0, d0, ds0, p0, q0, hargs, rfl, rfl, g0, r0⟩ := trodAll_cons hA
  obtain ⟨v1, vs1, d1, ds1, p1, q1, rfl, rfl, rfl, g1, r1⟩ := trodAll_cons r0
  obtain ⟨rfl, rfl, rfl⟩ := trodAll_nil r1
  obtain rfl : args = #[v0, v1] := by cases args; simp_all
  obtain ⟨rfl, rfl⟩ := trodVars_none hV
  obtain ⟨A0, c0, l0, rfl, _, hl0, hm0, hs0, _, _⟩ := open_ints_vals Try.underlying29 Try.underlying3 (by kernel_rfl) (hval 0 29 v0 rfl rfl) g0 (fun x hx => hlt x <| List.mem_append_left _ hx)
  obtain ⟨a1, rfl, rfl, rfl, w1⟩ := open_int Try.underlying3 (hval 1 3 v1 rfl rfl) g1
  refine (walk A0 l0 c0 a1 (by unfold maxLen at hm0; omega) w1 W hs0).mono fun e W' ⟨he, hg⟩ => ?_
  subst he
  exact ⟨_, rfl, law_post laidOut hW' (by kernel_rfl) rfl rfl Try.underlying4 rfl hg⟩

theorem proved : Rows.CrewOfSaid :=
  OpenClaim.holds_of_wide 4 Try.f4 rfl rfl rfl rfl rfl rfl rfl ⟨rfl, rfl, rfl, rfl, rfl⟩ rfl rfl rfl rfl rfl (by kernel_rfl) Try.func4 (by kernel_rfl)
    (of_decide_eq_true (by kernel_rfl)) (by unfold Func.isWrapper; first | (rw [if_pos (by decide +kernel)]; kernel_rfl) | (rw [if_neg (by decide +kernel)]; exact ⟨rfl, rfl⟩))
    (fun os started H enc _ => lifted os started H enc)
#print axioms proved
end Go.Proofs.Ytkkjjhljlcabaaa.crewOf
