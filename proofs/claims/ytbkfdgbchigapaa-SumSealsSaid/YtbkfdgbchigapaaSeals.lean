/-
  SumSeals: any bytes that were sealed are opened as they were; the sealed text has four bytes more. No condition.
-/
import Derived.Test.YtbkfdgbchigapaaOpen
import Derived.Test.YtbkfdgbchigapaaSameT
namespace Go.Proofs.Ytbkfdgbchigapaa.sumSeals
open Go.ChangeShapes Go.WideShapes Go.ChangeAt Go.RowKit
set_option linter.unusedVariables false

theorem own : ownKnob Try.prog.godebug = none := by kernel_rfl
theorem laidOut : laidOutB Try.prog = true := by kernel_rfl
theorem bytes_u8 : Try.prog.bytesOf 5 = 1 := by kernel_rfl
theorem cells_u8 : Try.prog.cellsOf 5 = 1 := by kernel_rfl

set_option maxRecDepth 100000 in
set_option maxHeartbeats 400000 in
theorem walk_all (A : Option Addr) (l : List Nat) (n ca : Nat) (w : World) (hln : l.length = n) (hn : A = none → ca = 0) (hl : n ≤ 140737488351232) (h8 : ∀ x ∈ l, x < 256) (hA : Sees .u8 w A l) :
    Calls Try.prog 4 #[.slice A n ca] w fun e w' => e = .returned (.bool true) ∧ Below w.heap.size w w' := by
  have HA := hid hA
  have H8 := hid h8
  have HN := hid hn
  have HL := hid hln
  clear hA h8 hn hln
  go_enter Try.func4, Try.ntmps4
  go_wp2_with (first
    | (go_at_call 8; refine (anchor_any _).mono ?_; rintro e w1 ⟨rfl, hw1⟩; have H1 := hid hw1; clear hw1)
    | (go_at_call 11; ((with_reducible refine (seal_hands A l n ca _ HL.out hl HN.out H8.out (HA.out.below H1.out)).mono ?_); rintro e w2 ⟨b, o, c, rfl, hc, hs, hb⟩; have HS := hid hs; have H2 := hid (below_on H1.out hb); clear hs hb))
    | (go_at_call 12; ((with_reducible refine (open_ok b o l (le4 (crcOf l)) n c _ HL.out rfl hl hc H8.out HS.out rfl).mono ?_); rintro e w3 ⟨A3, c3, rfl, _, hs3, hb3⟩; have HS3 := hid hs3; have H3 := hid (below_on H2.out hb3); clear hs3 hb3))
    | (go_at_call 13; ((with_reducible refine (same_as A3 A l n c3 ca _ (by omega) HL.out HS3.out (HA.out.below H3.out)).mono ?_); rintro e w4 ⟨rfl, hb4⟩; have H4 := hid (below_on H3.out hb4); clear hb4)))
  go_ret
  exact ⟨rfl, H4.out⟩

/-- The Go text returns true. -/
theorem walk (A : Option Addr) (l : List Nat) (ca : Nat) (hn : A = none → ca = 0) (hl : l.length ≤ ca) (hm : ca ≤ maxLen) (hr : l.length * 1 ≤ 140737488351232) (h8 : ∀ x ∈ l, (Lit.int .u8 (x : Int)).wf = true) (w : World) (hA : Sees .u8 w A l) :
    Calls Try.prog 4 #[.slice A l.length ca] w fun e w' => e = .returned (.bool true) ∧ Below w.heap.size w w' :=
  walk_all A l l.length ca w rfl hn (by omega) (fun x hx => by have := u8_lt _ (h8 x hx); omega) hA

set_option maxRecDepth 100000 in
theorem lifted (os : Os) (started : os.Started) (H : Type) (enc : TypeId × Value → H) :
    ReturnsInHanded {} Try.checked os 4 .any (Rows.sumSealsSpec.pre6 enc Try.prog Try.f4 Rows.sumSealsRow.domain false) (Rows.sumSealsSpec.post enc Try.prog Try.f4 false true false false) := by
  refine returnsInHanded_of_change_sized (C := Try.checked) own started (by kernel_rfl) Try.func4
    (ChangeSpec.witness6 (enc := enc) (C := Try.checked) false ⟨#[], #[.slice none 0 0], []⟩ 8 (by kernel_rfl) (by kernel_rfl) (by kernel_rfl) (by kernel_rfl)) ?_
  intro W base args ds gs before hval0 hW _ hsz0 _
  have hsz : (DataW.weightsEach Try.prog (Try.f4.params.toList ++ Rows.sumSealsSpec.plain.varTypes Try.prog) (ds ++ gs)).all (· ≤ reachBytes) = true := hsz0
  have hval : ∀ (j : Nat) t v, Try.f4.params[j]? = some t → args[j]? = some v → Value.okWide Try.prog W .any base t v := hval0
  have hW' := hW
  obtain ⟨p, q, hA0, hV, rfl, _, _⟩ := hW
  have hA : DataW.TrodAll enc Try.prog W 0 (fun _ => true) true Try.f4.params.toList args.toList ds p := hA0
  rw [Try.params4] at hA hval hsz
  have hlt : ∀ x ∈ p, x.block < W.heap.size := fun x hx => by simpa using hW'.lt x (List.mem_append_left _ hx)
  obtain ⟨v0, vs0, d0, ds0, p0, q0, hargs, rfl, rfl, g0, r0⟩ := trodAll_cons hA
  obtain ⟨rfl, rfl, rfl⟩ := trodAll_nil r0
  obtain rfl : args = #[v0] := by cases args; simp_all
  obtain ⟨rfl, rfl⟩ := trodVars_none hV
  obtain ⟨A0, c0, l0, rfl, hn0, hl0, hm0, hs0, hw0, hd0⟩ := open_nums Try.underlying22 Try.underlying5 cells_u8 u8_pos (hval 0 22 v0 rfl rfl) g0 (fun x hx => hlt x <| List.mem_append_left _ hx)
  have hr0 : l0.length * 1 ≤ 140737488351232 := by
    rcases hd0 with rfl | ⟨es, sp, hd, hlen⟩
    · simp
    · have := sized_slice hsz (j := 0) (t := 22) (e := 5) rfl (by rw [hd]; rfl) Try.underlying22
      rw [bytes_u8] at this
      simp only [reachBytes] at this
      omega
  refine (walk A0 l0 c0 hn0 hl0 hm0 hr0 hw0 W hs0).mono fun e W' ⟨he, hg⟩ => ?_
  subst he
  exact ⟨_, rfl, law_post laidOut hW' (by kernel_rfl) rfl rfl Try.underlying4 rfl hg⟩

theorem proved : Rows.SumSealsSaid :=
  OpenClaim.holds_of_wide 4 Try.f4 rfl rfl rfl rfl rfl rfl rfl ⟨rfl, rfl, rfl, rfl, rfl⟩ rfl rfl rfl rfl rfl (by kernel_rfl) Try.func4 (by kernel_rfl)
    (of_decide_eq_true (by kernel_rfl)) (by unfold Func.isWrapper; first | (rw [if_pos (by decide +kernel)]; kernel_rfl) | (rw [if_neg (by decide +kernel)]; exact ⟨rfl, rfl⟩))
    (fun os started H enc _ => lifted os started H enc)
#print axioms proved

end Go.Proofs.Ytbkfdgbchigapaa.sumSeals
