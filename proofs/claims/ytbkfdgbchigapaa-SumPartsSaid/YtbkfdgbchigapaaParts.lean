/-
  SumParts: in whatever parts a message is told, its sum is that of the whole; empty parts change nothing. No condition.
-/
import Derived.Test.YtbkfdgbchigapaaGrow
import Derived.Test.YtbkfdgbchigapaaRefOf
import Derived.Deep.Matrix
namespace Go.Proofs.Ytbkfdgbchigapaa.sumParts
open Go.ChangeShapes Go.WideShapes Go.ChangeAt Go.RowKit
set_option linter.unusedVariables false

theorem own : ownKnob Try.prog.godebug = none := by kernel_rfl
theorem laidOut : laidOutB Try.prog = true := by kernel_rfl
theorem cells_u8 : Try.prog.cellsOf 5 = 1 := by kernel_rfl
theorem cells_row : Try.prog.cellsOf 22 = 1 := by kernel_rfl

/-- A slice of slices of bytes among the arguments. -/
theorem open_rows {H : Type} {enc : TypeId × Value → H} {P : Program} {W : World} {base : Nat} {t e q : TypeId} {v : Value} {d : DataW H} {p : List MemPlace} (ht : P.underlying t = some (.slice e)) (he : P.underlying e = some (.slice q)) (hq : P.underlying q = some (.int .u8))
    (ce : P.cellsOf e = 1) (cq : P.cellsOf q = 1) (hval : Value.okWide P W .any base t v) (hd : DataW.Trod enc P W 0 (fun _ => true) true t v d p) (hlt : ∀ x ∈ p, x.block < W.heap.size) :
    ∃ A cap, ∃ ls : List (List Nat), v = .slice A ls.length cap ∧ ls.length ≤ 9223372036854775807 ∧ SeesRows W A ls ∧ NilBare W A ls.length ∧ (∀ x ∈ ls.flatten, x < 256) := by
  obtain ⟨a0, len, cap, rfl⟩ := okWide_slice ht hval
  obtain ⟨fuel, hf⟩ := hd
  rcases Go.Deep.open_int_rows ht he hq ce cq hf with ⟨hcs, _⟩ | ⟨a, len', cap', A, L, C, Z, hcs, _, hl, hm, hx, hr⟩
  · simp [Value.cells] at hcs
    obtain ⟨rfl, rfl, rfl⟩ := hcs
    exact ⟨none, 0, [], rfl, by simp, SeesRows.nil _ _, fun j b o B n c hj => by simp at hj, by simp⟩
  · simp [Value.cells] at hcs
    obtain ⟨rfl, rfl, rfl⟩ := hcs
    simp only [Prod.mk.injEq] at hx
    obtain ⟨rfl, rfl⟩ := hx
    obtain ⟨ls, hls⟩ : ∃ ls : List (List Nat), ls = (List.range len).map fun r => ((Z r).take (L r)).map Int.toNat := ⟨_, rfl⟩
    have hlen : ls.length = len := by rw [hls]; simp
    have hget : ∀ j l, ls[j]? = some l → j < len ∧ l = ((Z j).take (L j)).map Int.toNat := by
      intro j l hj
      have hjl : j < len := by have := (List.getElem?_eq_some_iff.1 hj).1; omega
      rw [hls, List.getElem?_map, List.getElem?_range hjl] at hj
      injection hj with hj
      exact ⟨hjl, hj.symm⟩
    have hbyte : ∀ r, r < cap → ∀ x ∈ ((Z r).take (L r)).map Int.toNat, x < 256 := by
      intro r hrc x hx
      obtain ⟨n, hn, rfl⟩ := List.mem_map.1 hx
      have hw := (hr r hrc).2.2.2.2.1 n (List.mem_of_mem_take hn)
      have h1 := u8_pos n hw
      have h2 := u8_lt n hw
      omega
    obtain ⟨ab, ao, asp⟩ := a
    have hspot : 0 < cap → asp = none := fun h => by
      have := (hr 0 h).1
      simpa [Addr.add] using World.cell?_spot this
    refine ⟨some ⟨ab, ao, asp⟩, cap, ls, by rw [hlen], by unfold maxLen at hm; omega, ?_, ?_, ?_⟩
    · intro j l hj
      obtain ⟨hjl, rfl⟩ := hget j l hj
      obtain ⟨h1, h2, h3, h4, h5, h6, h7⟩ := hr j (by omega)
      have hs := hspot (by omega)
      subst hs
      have hll : (((Z j).take (L j)).map Int.toNat).length = L j := by rw [List.length_map, List.length_take]; omega
      refine ⟨ab, ao, A j, C j, rfl, hlt (.cell ab ao) (List.mem_append_left _ (MemPlace.mem_row.2 ⟨0, by omega, by simp⟩)), ?_, by rw [hll]; unfold maxLen at h3; omega, hbyte j (by omega), ?_⟩
      · rw [hll, ← add_plain]
        exact h1
      · intro i x hi
        have hil : i < L j := by have := (List.getElem?_eq_some_iff.1 hi).1; omega
        have hiz : i < (Z j).length := by omega
        have hx : x = ((Z j)[i]).toNat := by
          rw [List.getElem?_map, List.getElem?_take, if_pos hil, List.getElem?_eq_getElem hiz] at hi
          simp at hi
          exact hi.symm
        cases hA : A j with
        | none => have := h6 hA; omega
        | some aj =>
          obtain ⟨bj, oj, sj⟩ := aj
          have h8 := h7 _ hA
          have hsp : sj = none := by simpa [Addr.add] using World.cell?_spot (h8.2 0 (by omega))
          subst hsp
          have hbl : bj < W.heap.size := by
            have hc := h8.2 0 (by omega)
            exact World.block_lt_of_cell? W _ hc
          refine ⟨bj, oj, rfl, hbl, ?_⟩
          rw [← add_plain, h8.2 i (by omega), hx, List.getD_eq_getElem?_getD, List.getElem?_eq_getElem hiz]
          simp only [Option.getD_some]
          rw [Int.toNat_of_nonneg (u8_pos _ (h5 _ (List.getElem_mem hiz)))]
    · intro j b o B n c hj he hc hB
      rw [hlen] at hj
      injection he with he
      have hs := hspot (by omega)
      subst hs
      injection he with he1 he2
      subst he1; subst he2
      obtain ⟨h1, h2, h3, h4, h5, h6, h7⟩ := hr j (by omega)
      rw [add_plain, hc] at h1
      simp at h1
      obtain ⟨e1, e2, e3⟩ := h1
      rw [e3]
      exact h6 (by rw [← e1]; exact hB)
    · intro x hx
      obtain ⟨l, h1, h2⟩ := List.mem_flatten.1 hx
      obtain ⟨j, hj⟩ := List.getElem?_of_mem h1
      obtain ⟨hjl, rfl⟩ := hget j l hj
      exact hbyte j (by omega) x h2

theorem rows_below {w w' : World} {A : Option Addr} {ls : List (List Nat)} (h : SeesRows w A ls) (hb : Below w.heap.size w w') : SeesRows w' A ls := by
  intro j l hj
  obtain ⟨b, o, B, c, hA, hlt, hc, hn, hx, hs⟩ := h j l hj
  exact ⟨b, o, B, c, hA, Nat.lt_of_lt_of_le hlt hb.size, (hb.cell (by exact hlt)).trans hc, hn, hx, hs.below hb⟩
theorem bare_below {w w' : World} {A : Option Addr} {ls : List (List Nat)} (hs : SeesRows w A ls) (h : NilBare w A ls.length) (hb : Below w.heap.size w w') : NilBare w' A ls.length := by
  intro j b o B n c hj he hc hB
  obtain ⟨b', o', B', c', hA, hlt, hc', _⟩ := hs j ls[j] (List.getElem?_eq_getElem hj)
  rw [he] at hA
  injection hA with hA
  injection hA with e1 e2
  subst e1; subst e2
  rw [hb.cell (by exact hlt)] at hc
  exact h j b o B n c hj he hc hB

def PartsRel (ls : List (List Nat)) (w : World) (v i : Value) (wr : World) : Prop := JoinRel ls w v i wr ∧ (∀ k : Nat, i = .int .i64 (k : Int) → (ls.take k).flatten.length ≤ 400)

set_option maxRecDepth 100000 in
set_option maxHeartbeats 1000000 in
theorem walk (A : Option Addr) (ls : List (List Nat)) (ca : Nat) (w : World) (hl : ls.length ≤ 9223372036854775807) (h8 : ∀ x ∈ ls.flatten, x < 256) (hA : SeesRows w A ls) (hN : NilBare w A ls.length) :
    Calls Try.prog 7 #[.slice A ls.length ca] w fun e w' => e = .returned (.bool true) ∧ Below w.heap.size w w' := by
  obtain ⟨i0, hi, hz0, hz1, hz2⟩ := info_parts info_u8
  have HA := hid hA
  have HN := hid hN
  have H8 := hid h8
  clear hA hN h8
  go_enter Try.func7, Try.ntmps7
  go_wp2_with (go_at_call 8; refine (anchor_any _).mono ?_; rintro e w1 ⟨rfl, hw1⟩)
  have HA1 := hid (rows_below HA.out hw1)
  have HN1 := hid (bare_below HA.out HN.out hw1)
  have H1 := hid hw1
  clear hw1 HA HN
  go_loopw [3, 10] (fun v i wr => PartsRel ls w1 v i wr) (fun _ i _ => ls.length - (intOf i).toNat)
  case atStart => exact ⟨⟨0, Nat.zero_le _, rfl, World.ownsRow_nil _ _ _ _, Below.refl _ _⟩, fun k hk => by injection hk with _ hk; obtain rfl : k = 0 := (by omega); simp⟩
  case round =>
    obtain ⟨⟨j, hj, rfl, hown, hb⟩, hbd⟩ := hrel
    have hq := hbd j rfl
    clear hbd
    have hsz := hb.size
    by_cases hlt2 : j < ls.length
    · obtain ⟨b, o, B, c, rfl, hbl, hc, hx, _, hs⟩ := HA1.out j ls[j] (List.getElem?_eq_getElem hlt2)
      have hc2 := (hb.cell (p := ⟨b, o + j, none⟩) (by exact hbl)).trans hc
      have hcn : Hid (B = none → c = 0) := hid (HN1.out j b o B _ c hlt2 rfl hc)
      have HS := hid (hs.below hb)
      have HB := hid (below_on H1.out hb)
      have HFL := hid (flat_len hlt2)
      have HJ := hid (fun (w1 : World) (v' : Value) => join_step (w1 := w1) (v' := v') hlt2 hown hb)
      have HW := hid hown
      obtain ⟨A3, c3, rfl, _, _, _⟩ := own_slice (k := .u8) (l := (ls.take j).flatten) hown
      clear hc hs hown hb
      generalize (ls.take j).flatten.length = q at *
      generalize (ls.take j).flatten = F at *
      generalize ls[j] = l at *
      by_cases hbig : 100 < l.length
      · go_wp2
        go_ret
        exact ⟨rfl, HB.out⟩
      · by_cases hbig2 : 300 < q
        · go_wp2
          go_ret
          exact ⟨rfl, HB.out⟩
        · go_wp2_with (at_builtin; refine wpList_append_sees rfl (.tmp 22) (.tmp 23) 22 rfl w1.heap.size 5 i0 (.int .u8 0) 1 Try.underlying22 hi hz0 hz1 hz2 rfl _ _ _ rfl HW.out .u8 B c l rfl hcn.out HS.out (by unfold maxLen; omega) (by omega) hsz ?_; intro v' w2 hown2 hg2)
          have R := hid (HJ.out _ _ hown2 hg2)
          clear hown2 hg2
          go_wp2
          go_roundw
          case rel => exact ⟨R.out, fun k hk => by injection hk with _ hk; obtain rfl : k = j + 1 := (by omega); rw [HFL.out]; omega⟩
          case measure => simp only [intOf]; omega
    · have e : ls.take j = ls := List.take_of_length_le (by omega)
      rw [e] at hown
      obtain ⟨A3, c3, rfl, hn3, hc3, hs3⟩ := own_slice (k := .u8) (l := ls.flatten) hown
      have HR := hid (rows_below HA1.out hb)
      have HB := hid (below_on H1.out hb)
      have HS := hid hs3
      have hfl : ls.flatten.length ≤ 400 := by rw [e] at hq; exact hq
      clear hown hs3 e hb hq
      obtain ⟨m, hm⟩ : ∃ m, m = ls.flatten.length := ⟨_, rfl⟩
      rw [← hm]
      have HM := hid hm.symm
      rw [← hm] at hfl
      clear hm hn3 hc3
      go_wp2_with (first
        | (go_at_call 10; ((with_reducible refine (of_any A ls ca _ hl H8.out HR.out).mono ?_); rintro e w' ⟨rfl, rfl⟩))
        | (go_at_call 9; ((with_reducible refine (refof_any A3 ls.flatten m c3 _ HM.out (by omega) H8.out HS.out).mono ?_); rintro e w3 ⟨rfl, hb3⟩; have H3 := hid (below_on HB.out hb3); clear hb3)))
      go_ret
      exact ⟨rfl, H3.out⟩

set_option maxRecDepth 100000 in
theorem lifted (os : Os) (started : os.Started) (H : Type) (enc : TypeId × Value → H) :
    ReturnsInHanded {} Try.checked os 7 .any (Rows.sumPartsSpec.pre6 enc Try.prog Try.f7 Rows.sumPartsRow.domain false) (Rows.sumPartsSpec.post enc Try.prog Try.f7 false true false false) := by
  refine returnsInHanded_of_change (C := Try.checked) own started (by kernel_rfl) Try.func7
    (ChangeSpec.witness6 (enc := enc) (C := Try.checked) false ⟨#[], #[.slice none 0 0], []⟩ 8 (by kernel_rfl) (by kernel_rfl) (by kernel_rfl) (by kernel_rfl)) ?_
  intro W base args ds gs before hval0 hW _ _
  have hval : ∀ (j : Nat) t v, Try.f7.params[j]? = some t → args[j]? = some v → Value.okWide Try.prog W .any base t v := hval0
  have hW' := hW
  obtain ⟨p, q, hA0, hV, rfl, _, _⟩ := hW
  have hA : DataW.TrodAll enc Try.prog W 0 (fun _ => true) true Try.f7.params.toList args.toList ds p := hA0
  rw [Try.params7] at hA hval
  have hlt : ∀ x ∈ p, x.block < W.heap.size := fun x hx => by simpa using hW'.lt x (List.mem_append_left _ hx)
  obtain ⟨v0, vs0, d0, ds0, p0, q0, hargs, rfl, rfl, g0, r0⟩ := trodAll_cons hA
  obtain ⟨rfl, rfl, rfl⟩ := trodAll_nil r0
  obtain rfl : args = #[v0] := by cases args; simp_all
  obtain ⟨rfl, rfl⟩ := trodVars_none hV
  obtain ⟨A0, c0, l0, rfl, hl0, hs0, hn0, hx0⟩ := open_rows Try.underlying37 Try.underlying22 Try.underlying5 cells_row cells_u8 (hval 0 37 v0 rfl rfl) g0 (fun x hx => hlt x <| List.mem_append_left _ hx)
  refine (walk A0 l0 c0 W hl0 hx0 hs0 hn0).mono fun e W' ⟨he, hg⟩ => ?_
  subst he
  exact ⟨_, rfl, law_post laidOut hW' (by kernel_rfl) rfl rfl Try.underlying4 rfl hg⟩

theorem proved : Rows.SumPartsSaid :=
  OpenClaim.holds_of_wide 7 Try.f7 rfl rfl rfl rfl rfl rfl rfl ⟨rfl, rfl, rfl, rfl, rfl⟩ rfl rfl rfl rfl rfl (by kernel_rfl) Try.func7 (by kernel_rfl)
    (of_decide_eq_true (by kernel_rfl)) (by unfold Func.isWrapper; first | (rw [if_pos (by decide +kernel)]; kernel_rfl) | (rw [if_neg (by decide +kernel)]; exact ⟨rfl, rfl⟩))
    (fun os started H enc _ => lifted os started H enc)
#print axioms proved

end Go.Proofs.Ytbkfdgbchigapaa.sumParts
