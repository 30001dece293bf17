/-
  SumOf: any bytes have the document's sum, in whatever two parts they are told. No condition.
-/
import Derived.Test.YtbkfdgbchigapaaRefOf
import Derived.RegionTactic
import Derived.Deep.RegionHeld3
namespace Go.Proofs.Ytbkfdgbchigapaa.sumOf
open Go.ChangeShapes Go.WideShapes Go.ChangeAt Go.RowKit
set_option linter.unusedVariables false

theorem own : ownKnob Try.prog.godebug = none := by kernel_rfl
theorem laidOut : laidOutB Try.prog = true := by kernel_rfl
theorem bytes_u8 : Try.prog.bytesOf 5 = 1 := by kernel_rfl
theorem cells_u8 : Try.prog.cellsOf 5 = 1 := by kernel_rfl

/-- A slice of two slices. -/
theorem of_two (g : Nat) (B1 B2 : Option Addr) (l1 l2 : List Nat) (n1 n2 c1 c2 ca : Nat) (w : World) (e1 : l1.length = n1) (e2 : l2.length = n2) (hg : g < w.heap.size) (hc1 : w.cell? ⟨g, 0, none⟩ = some (.slice B1 n1 c1)) (hc2 : w.cell? ⟨g, 1, none⟩ = some (.slice B2 n2 c2))
    (hn1 : n1 ≤ 9223372036854775807) (hn2 : n2 ≤ 9223372036854775807) (hx1 : ∀ x ∈ l1, x < 256) (hx2 : ∀ x ∈ l2, x < 256) (hs1 : Sees .u8 w B1 l1) (hs2 : Sees .u8 w B2 l2) :
    Calls Try.prog 10 #[.slice (some ⟨g, 0, none⟩) 2 ca] w fun e w' => e = .returned (.int .u32 (crcOf (l1 ++ l2))) ∧ w = w' := by
  subst e1
  subst e2
  have hs : SeesRows w (some ⟨g, 0, none⟩) [l1, l2] := by
    intro j l hj
    match j, hj with
    | 0, hj =>
      simp at hj
      subst hj
      exact ⟨g, 0, B1, c1, rfl, hg, hc1, hn1, hx1, hs1⟩
    | 1, hj =>
      simp at hj
      subst hj
      exact ⟨g, 0, B2, c2, rfl, hg, hc2, hn2, hx2, hs2⟩
  have h := of_any (some ⟨g, 0, none⟩) [l1, l2] ca w (by simp) (by
    intro x hx
    simp at hx
    rcases hx with hx | hx
    · exact hx1 x hx
    · exact hx2 x hx) hs
  simpa using h

set_option maxRecDepth 100000 in
set_option maxHeartbeats 400000 in
theorem walk_long (A : Option Addr) (n ca : Nat) (a : Int) (w : World) (hn : 400 < n) :
    Calls Try.prog 3 #[.slice A n ca, .int .i64 a] w fun e w' => e = .returned (.bool true) ∧ Below w.heap.size w w' := by
  go_enter Try.func3, Try.ntmps3
  go_wp2_with (go_at_call 8; refine (anchor_any _).mono ?_; rintro e w1 ⟨rfl, hw1⟩)
  go_ret
  exact ⟨rfl, hw1⟩

set_option maxRecDepth 100000 in
set_option maxHeartbeats 400000 in
theorem walk_out (A : Option Addr) (l : List Nat) (n ca : Nat) (a : Int) (w : World) (hln : l.length = n) (hl : n ≤ 400) (hout : a < 0 ∨ (n : Int) < a) (h8 : ∀ x ∈ l, x < 256) (hA : Sees .u8 w A l) :
    Calls Try.prog 3 #[.slice A n ca, .int .i64 a] w fun e w' => e = .returned (.bool true) ∧ Below w.heap.size w w' := by
  have HA := hid hA
  have H8 := hid h8
  have HL := hid hln
  clear hA h8 hln
  rcases hout with h | h
  · go_enter Try.func3, Try.ntmps3
    go_wp2_with (first
      | (go_at_call 8; refine (anchor_any _).mono ?_; rintro e w1 ⟨rfl, hw1⟩; have H1 := hid hw1; clear hw1)
      | (go_at_call 9; ((with_reducible refine (refof_any A l n ca _ HL.out (by omega) H8.out (HA.out.below H1.out)).mono ?_); rintro e w2 ⟨rfl, hb2⟩; have H2 := hid (below_on H1.out hb2); clear hb2))
      | (go_at_call 10; ((with_reducible refine (of_made w2 A l n ca 1 HL.out (by omega) H8.out (HA.out.below H2.out)).mono ?_); rintro e w' ⟨rfl, rfl⟩)))
    go_ret
    exact ⟨rfl, H2.out.alloc H2.out.size _⟩
  · have h' : ¬ a < 0 := by omega
    go_enter Try.func3, Try.ntmps3
    go_wp2_with (first
      | (go_at_call 8; refine (anchor_any _).mono ?_; rintro e w1 ⟨rfl, hw1⟩; have H1 := hid hw1; clear hw1)
      | (go_at_call 9; ((with_reducible refine (refof_any A l n ca _ HL.out (by omega) H8.out (HA.out.below H1.out)).mono ?_); rintro e w2 ⟨rfl, hb2⟩; have H2 := hid (below_on H1.out hb2); clear hb2))
      | (go_at_call 10; ((with_reducible refine (of_made w2 A l n ca 1 HL.out (by omega) H8.out (HA.out.below H2.out)).mono ?_); rintro e w' ⟨rfl, rfl⟩)))
    go_ret
    exact ⟨rfl, H2.out.alloc H2.out.size _⟩

set_option maxRecDepth 100000 in
set_option maxHeartbeats 1000000 in
theorem walk_mid (b o : Nat) (l : List Nat) (n ca a : Nat) (w : World) (hln : l.length = n) (hl : n ≤ 400) (hca : n ≤ ca) (hin : a ≤ n) (hne : a ≠ ca) (h8 : ∀ x ∈ l, x < 256) (hA : Sees .u8 w (some ⟨b, o, none⟩) l) :
    Calls Try.prog 3 #[.slice (some ⟨b, o, none⟩) n ca, .int .i64 a] w fun e w' => e = .returned (.bool true) ∧ Below w.heap.size w w' := by
  have HA := hid hA
  have H8 := hid h8
  have HL := hid hln
  have HS1 := hid (hA.take a)
  have HS2 := hid (hA.rest (i := a) rfl)
  have HL1 := hid (show (l.take a).length = a by rw [List.length_take]; omega)
  have HL2 := hid (show (l.drop a).length = n - a by rw [List.length_drop]; omega)
  have HX1 := hid (show ∀ x ∈ l.take a, x < 256 from fun x hx => h8 x (List.mem_of_mem_take hx))
  have HX2 := hid (show ∀ x ∈ l.drop a, x < 256 from fun x hx => h8 x (List.mem_of_mem_drop hx))
  have HJ := hid (List.take_append_drop a l)
  clear hA h8 hln
  have hc1 : ¬ ca = a := by omega
  have hc2 : (a : Int) ≤ (ca : Int) := by omega
  have hc3 : (a : Int) ≤ (n : Int) := by omega
  have hc4 : (0 : Int) ≤ (a : Int) := by omega
  have hc5 : (n : Int) ≤ (ca : Int) := by omega
  go_enter Try.func3, Try.ntmps3
  go_wp2_with (first
    | (go_at_call 8; refine (anchor_any _).mono ?_; rintro e w1 ⟨rfl, hw1⟩; have H1 := hid hw1; clear hw1)
    | (go_at_call 9; ((with_reducible refine (refof_any (some ⟨b, o, none⟩) l n ca _ HL.out (by omega) H8.out (HA.out.below H1.out)).mono ?_); rintro e w2 ⟨rfl, hb2⟩; have H2 := hid (below_on H1.out hb2); clear hb2)))
  have HA2 := hid (HA.out.below H2.out)
  have HP2 := hid (HS1.out.below H2.out)
  have HR2 := hid (HS2.out.below H2.out)
  go_region_held3 (fun _ => True) (exact trivial) (first
    | (go_at_call 10; ((with_reducible refine (of_new w2 (some ⟨b, o, none⟩) l n ca 1 _ rfl HL.out (by omega) H8.out HA2.out).mono ?_); rintro e w' ⟨rfl, rfl⟩))
    | (go_at_call 10; refine (of_two _ (some ⟨b, o, none⟩) (some ⟨b, o + a, none⟩) (l.take a) (l.drop a) a (n - a) ca (ca - a) 2 _ HL1.out HL2.out ?_ ?_ ?_ (by omega) (by omega) HX1.out HX2.out ?_ ?_).mono ?_; (focus (simp <;> done)); (focus (go_simp <;> done)); (focus (go_simp <;> done)); (focus ((repeat (first | exact HP2.out | apply Sees.drew_ | apply Sees.alloc_)) <;> done)); (focus ((repeat (first | exact HR2.out | apply Sees.drew_ | apply Sees.alloc_)) <;> done)); rintro e w' ⟨rfl, rfl⟩; rw [HJ.out])
    | (go_at_call 10; refine (of_two _ (some ⟨b, o, none⟩) none l [] n 0 ca 0 2 _ HL.out rfl ?_ ?_ ?_ (by omega) (by omega) H8.out (by simp) ?_ (Sees.nil _ _ _)).mono ?_; (focus (simp <;> done)); (focus (go_simp <;> done)); (focus (go_simp <;> done)); (focus ((repeat (first | exact HA2.out | apply Sees.drew_ | apply Sees.alloc_)) <;> done)); rintro e w' ⟨rfl, rfl⟩; rw [List.append_nil]))
  have z2 := H2.out.size
  go_wp2
  go_ret
  exact ⟨rfl, below_drew (((H2.out.alloc z2 _).alloc (by simp; omega) _).alloc (by simp; omega) _)⟩

set_option maxRecDepth 100000 in
set_option maxHeartbeats 1000000 in
theorem walk_end (b o : Nat) (l : List Nat) (n : Nat) (w : World) (hln : l.length = n) (hl : n ≤ 400) (h8 : ∀ x ∈ l, x < 256) (hA : Sees .u8 w (some ⟨b, o, none⟩) l) :
    Calls Try.prog 3 #[.slice (some ⟨b, o, none⟩) n n, .int .i64 n] w fun e w' => e = .returned (.bool true) ∧ Below w.heap.size w w' := by
  have HA := hid hA
  have H8 := hid h8
  have HL := hid hln
  clear hA h8 hln
  have hc4 : (0 : Int) ≤ (n : Int) := by omega
  go_enter Try.func3, Try.ntmps3
  go_wp2_with (first
    | (go_at_call 8; refine (anchor_any _).mono ?_; rintro e w1 ⟨rfl, hw1⟩; have H1 := hid hw1; clear hw1)
    | (go_at_call 9; ((with_reducible refine (refof_any (some ⟨b, o, none⟩) l n n _ HL.out (by omega) H8.out (HA.out.below H1.out)).mono ?_); rintro e w2 ⟨rfl, hb2⟩; have H2 := hid (below_on H1.out hb2); clear hb2)))
  have HA2 := hid (HA.out.below H2.out)
  go_region_held3 (fun _ => True) (exact trivial) (first
    | (go_at_call 10; ((with_reducible refine (of_new w2 (some ⟨b, o, none⟩) l n n 1 _ rfl HL.out (by omega) H8.out HA2.out).mono ?_); rintro e w' ⟨rfl, rfl⟩))
    | (go_at_call 10; refine (of_two _ (some ⟨b, o, none⟩) (some ⟨b, o, none⟩) l [] n 0 n 0 2 _ HL.out rfl ?_ ?_ ?_ (by omega) (by omega) H8.out (by simp) ?_ (Sees.nil _ _ _)).mono ?_; (focus (simp <;> done)); (focus (go_simp <;> done)); (focus (go_simp <;> done)); (focus ((repeat (first | exact HA2.out | apply Sees.drew_ | apply Sees.alloc_)) <;> done)); rintro e w' ⟨rfl, rfl⟩; rw [List.append_nil])
    | (go_at_call 10; refine (of_two _ (some ⟨b, o, none⟩) none l [] n 0 n 0 2 _ HL.out rfl ?_ ?_ ?_ (by omega) (by omega) H8.out (by simp) ?_ (Sees.nil _ _ _)).mono ?_; (focus (simp <;> done)); (focus (go_simp <;> done)); (focus (go_simp <;> done)); (focus ((repeat (first | exact HA2.out | apply Sees.drew_ | apply Sees.alloc_)) <;> done)); rintro e w' ⟨rfl, rfl⟩; rw [List.append_nil])
    | (go_at_call 10; trace_state; fail))
  have z2 := H2.out.size
  go_wp2
  go_ret
  exact ⟨rfl, below_drew (((H2.out.alloc z2 _).alloc (by simp; omega) _).alloc (by simp; omega) _)⟩

set_option maxRecDepth 100000 in
set_option maxHeartbeats 1000000 in
theorem walk_nil  (w : World) :
    Calls Try.prog 3 #[.slice none 0 0, .int .i64 0] w fun e w' => e = .returned (.bool true) ∧ Below w.heap.size w w' := by
  go_enter Try.func3, Try.ntmps3
  go_wp2_with (first
    | (go_at_call 8; refine (anchor_any _).mono ?_; rintro e w1 ⟨rfl, hw1⟩; have H1 := hid hw1; clear hw1)
    | (go_at_call 9; ((with_reducible refine (refof_any none [] 0 0 _ rfl (by omega) (by simp) (Sees.nil _ _ _)).mono ?_); rintro e w2 ⟨rfl, hb2⟩; have H2 := hid (below_on H1.out hb2); clear hb2)))
  go_region_held3 (fun _ => True) (exact trivial) (first
    | (go_at_call 10; ((with_reducible refine (of_new w2 none [] 0 0 1 _ rfl rfl (by omega) (by simp) (Sees.nil _ _ _)).mono ?_); rintro e w' ⟨rfl, rfl⟩))
    | (go_at_call 10; refine (of_two _ none none [] [] 0 0 0 0 2 _ rfl rfl ?_ ?_ ?_ (by omega) (by omega) (by simp) (by simp) (Sees.nil _ _ _) (Sees.nil _ _ _)).mono ?_; (focus (simp <;> done)); (focus (go_simp <;> done)); (focus (go_simp <;> done)); rintro e w' ⟨rfl, rfl⟩; rw [List.append_nil])
    | (go_at_call 10; refine (of_two _ none none [] [] 0 0 0 0 2 _ rfl rfl ?_ ?_ ?_ (by omega) (by omega) (by simp) (by simp) (Sees.nil _ _ _) (Sees.nil _ _ _)).mono ?_; (focus (simp <;> done)); (focus (go_simp <;> done)); (focus (go_simp <;> done)); rintro e w' ⟨rfl, rfl⟩; rw [List.append_nil])
    | (go_at_call 10; trace_state; fail))
  have z2 := H2.out.size
  go_wp2
  go_ret
  exact ⟨rfl, below_drew (((H2.out.alloc z2 _).alloc (by simp; omega) _).alloc (by simp; omega) _)⟩

set_option maxRecDepth 100000 in
set_option maxHeartbeats 1000000 in
theorem walk_bare (ad : Addr) (w : World) :
    Calls Try.prog 3 #[.slice (some ad) 0 0, .int .i64 0] w fun e w' => e = .returned (.bool true) ∧ Below w.heap.size w w' := by
  go_enter Try.func3, Try.ntmps3
  go_wp2_with (first
    | (go_at_call 8; refine (anchor_any _).mono ?_; rintro e w1 ⟨rfl, hw1⟩; have H1 := hid hw1; clear hw1)
    | (go_at_call 9; ((with_reducible refine (refof_any (some ad) [] 0 0 _ rfl (by omega) (by simp) (Sees.nil _ _ _)).mono ?_); rintro e w2 ⟨rfl, hb2⟩; have H2 := hid (below_on H1.out hb2); clear hb2)))
  go_region_held3 (fun _ => True) (exact trivial) (first
    | (go_at_call 10; ((with_reducible refine (of_new w2 (some ad) [] 0 0 1 _ rfl rfl (by omega) (by simp) (Sees.nil _ _ _)).mono ?_); rintro e w' ⟨rfl, rfl⟩))
    | (go_at_call 10; refine (of_two _ (some ad) (some ad) [] [] 0 0 0 0 2 _ rfl rfl ?_ ?_ ?_ (by omega) (by omega) (by simp) (by simp) (Sees.nil _ _ _) (Sees.nil _ _ _)).mono ?_; (focus (simp <;> done)); (focus (go_simp <;> done)); (focus (go_simp <;> done)); rintro e w' ⟨rfl, rfl⟩; rw [List.append_nil])
    | (go_at_call 10; refine (of_two _ (some ad) none [] [] 0 0 0 0 2 _ rfl rfl ?_ ?_ ?_ (by omega) (by omega) (by simp) (by simp) (Sees.nil _ _ _) (Sees.nil _ _ _)).mono ?_; (focus (simp <;> done)); (focus (go_simp <;> done)); (focus (go_simp <;> done)); rintro e w' ⟨rfl, rfl⟩; rw [List.append_nil])
    | (go_at_call 10; trace_state; fail))
  have z2 := H2.out.size
  go_wp2
  go_ret
  exact ⟨rfl, below_drew (((H2.out.alloc z2 _).alloc (by simp; omega) _).alloc (by simp; omega) _)⟩

set_option maxRecDepth 100000 in
set_option maxHeartbeats 1000000 in
theorem walk_room (ad : Addr) (ca : Nat) (hca : 0 < ca) (w : World) :
    Calls Try.prog 3 #[.slice (some ad) 0 ca, .int .i64 0] w fun e w' => e = .returned (.bool true) ∧ Below w.heap.size w w' := by
  have hc1 : ¬ ca = 0 := by omega
  go_enter Try.func3, Try.ntmps3
  go_wp2_with (first
    | (go_at_call 8; refine (anchor_any _).mono ?_; rintro e w1 ⟨rfl, hw1⟩; have H1 := hid hw1; clear hw1)
    | (go_at_call 9; ((with_reducible refine (refof_any (some ad) [] 0 ca _ rfl (by omega) (by simp) (Sees.nil _ _ _)).mono ?_); rintro e w2 ⟨rfl, hb2⟩; have H2 := hid (below_on H1.out hb2); clear hb2)))
  go_region_held3 (fun _ => True) (exact trivial) (first
    | (go_at_call 10; ((with_reducible refine (of_new w2 (some ad) [] 0 ca 1 _ rfl rfl (by omega) (by simp) (Sees.nil _ _ _)).mono ?_); rintro e w' ⟨rfl, rfl⟩))
    | (go_at_call 10; refine (of_two _ (some ad) (some (ad.add 0)) [] [] 0 0 ca ca 2 _ rfl rfl ?_ ?_ ?_ (by omega) (by omega) (by simp) (by simp) (Sees.nil _ _ _) (Sees.nil _ _ _)).mono ?_; (focus (simp <;> done)); (focus (go_simp <;> done)); (focus (go_simp <;> done)); rintro e w' ⟨rfl, rfl⟩; rw [List.append_nil])
    | (go_at_call 10; refine (of_two _ (some ad) none [] [] 0 0 ca 0 2 _ rfl rfl ?_ ?_ ?_ (by omega) (by omega) (by simp) (by simp) (Sees.nil _ _ _) (Sees.nil _ _ _)).mono ?_; (focus (simp <;> done)); (focus (go_simp <;> done)); (focus (go_simp <;> done)); rintro e w' ⟨rfl, rfl⟩; rw [List.append_nil])
    | (go_at_call 10; trace_state; fail))
  have z2 := H2.out.size
  go_wp2
  go_ret
  exact ⟨rfl, below_drew (((H2.out.alloc z2 _).alloc (by simp; omega) _).alloc (by simp; omega) _)⟩

/-- The Go text returns true. -/
theorem walk (A : Option Addr) (l : List Nat) (ca : Nat) (a : Int) (hn : A = none → ca = 0) (hl : l.length ≤ ca) (hm : ca ≤ maxLen) (hr : l.length * 1 ≤ 140737488351232) (h8 : ∀ x ∈ l, (Lit.int .u8 (x : Int)).wf = true) (wa : (Lit.int .i64 a).wf = true) (w : World) (hA : Sees .u8 w A l) :
    Calls Try.prog 3 #[.slice A l.length ca, .int .i64 a] w fun e w' => e = .returned (.bool true) ∧ Below w.heap.size w w' := by
  have x8 : ∀ x ∈ l, x < 256 := fun x hx => by have := u8_lt _ (h8 x hx); omega
  by_cases hlong : 400 < l.length
  · exact walk_long A l.length ca a w hlong
  · by_cases hout : a < 0 ∨ (l.length : Int) < a
    · exact walk_out A l l.length ca a w rfl (by omega) hout x8 hA
    · obtain ⟨n, rfl⟩ := Int.eq_ofNat_of_zero_le (show 0 ≤ a by omega)
      by_cases hz : l.length = 0
      · obtain rfl := List.eq_nil_of_length_eq_zero hz
        obtain rfl : n = 0 := by
          have h2 : ¬ (([] : List Nat).length : Int) < (n : Int) := fun h => hout (.inr h)
          simp at h2
          omega
        cases A with
        | none =>
          obtain rfl := hn rfl
          exact walk_nil w
        | some ad =>
          rcases Nat.eq_zero_or_pos ca with h0 | h0
          · subst h0
            exact walk_bare ad w
          · exact walk_room ad ca h0 w
      · have hpos : 0 < l.length := by omega
        obtain ⟨b, o, rfl, _, _⟩ := hA 0 _ (List.getElem?_eq_getElem hpos)
        by_cases he : n = ca
        · have e2 : ca = l.length := by omega
          rw [he, e2]
          exact walk_end b o l l.length w rfl (by omega) x8 hA
        · exact walk_mid b o l l.length ca n w rfl (by omega) hl (by omega) he x8 hA

set_option maxRecDepth 100000 in
theorem lifted (os : Os) (started : os.Started) (H : Type) (enc : TypeId × Value → H) :
    ReturnsInHanded {} Try.checked os 3 .any (Rows.sumOfSpec.pre6 enc Try.prog Try.f3 Rows.sumOfRow.domain false) (Rows.sumOfSpec.post enc Try.prog Try.f3 false true false false) := by
  refine returnsInHanded_of_change_sized (C := Try.checked) own started (by kernel_rfl) Try.func3
    (ChangeSpec.witness6 (enc := enc) (C := Try.checked) false ⟨#[], #[.slice none 0 0, .int .i64 0], []⟩ 8 (by kernel_rfl) (by kernel_rfl) (by kernel_rfl) (by kernel_rfl)) ?_
  intro W base args ds gs before hval0 hW _ hsz0 _
  have hsz : (DataW.weightsEach Try.prog (Try.f3.params.toList ++ Rows.sumOfSpec.plain.varTypes Try.prog) (ds ++ gs)).all (· ≤ reachBytes) = true := hsz0
  have hval : ∀ (j : Nat) t v, Try.f3.params[j]? = some t → args[j]? = some v → Value.okWide Try.prog W .any base t v := hval0
  have hW' := hW
  obtain ⟨p, q, hA0, hV, rfl, _, _⟩ := hW
  have hA : DataW.TrodAll enc Try.prog W 0 (fun _ => true) true Try.f3.params.toList args.toList ds p := hA0
  rw [Try.params3] at hA hval hsz
  have hlt : ∀ x ∈ p, x.block < W.heap.size := fun x hx => by simpa using hW'.lt x (List.mem_append_left _ hx)
  obtain ⟨v0, vs0, d0, ds0, p0, q0, hargs, rfl, rfl, g0, r0⟩ := trodAll_cons hA
  obtain ⟨v1, vs1, d1, ds1, p1, q1, rfl, rfl, rfl, g1, r1⟩ := trodAll_cons r0
  obtain ⟨rfl, rfl, rfl⟩ := trodAll_nil r1
  obtain rfl : args = #[v0, v1] := by cases args; simp_all
  obtain ⟨rfl, rfl⟩ := trodVars_none hV
  obtain ⟨A0, c0, l0, rfl, hn0, hl0, hm0, hs0, hw0, hd0⟩ := open_nums Try.underlying22 Try.underlying5 cells_u8 u8_pos (hval 0 22 v0 rfl rfl) g0 (fun x hx => hlt x <| List.mem_append_left _ hx)
  have hr0 : l0.length * 1 ≤ 140737488351232 := by
    rcases hd0 with rfl | ⟨es, sp, hd, hlen⟩
    · simp
    · have := sized_slice hsz (j := 0) (t := 22) (e := 5) rfl (by rw [hd]; rfl) Try.underlying22
      rw [bytes_u8] at this
      simp only [reachBytes] at this
      omega
  obtain ⟨a1, rfl, rfl, rfl, w1⟩ := open_int Try.underlying3 (hval 1 3 v1 rfl rfl) g1
  refine (walk A0 l0 c0 a1 hn0 hl0 hm0 hr0 hw0 w1 W hs0).mono fun e W' ⟨he, hg⟩ => ?_
  subst he
  exact ⟨_, rfl, law_post laidOut hW' (by kernel_rfl) rfl rfl Try.underlying4 rfl hg⟩

theorem proved : Rows.SumOfSaid :=
  OpenClaim.holds_of_wide 3 Try.f3 rfl rfl rfl rfl rfl rfl rfl ⟨rfl, rfl, rfl, rfl, rfl⟩ rfl rfl rfl rfl rfl (by kernel_rfl) Try.func3 (by kernel_rfl)
    (of_decide_eq_true (by kernel_rfl)) (by unfold Func.isWrapper; first | (rw [if_pos (by decide +kernel)]; kernel_rfl) | (rw [if_neg (by decide +kernel)]; exact ⟨rfl, rfl⟩))
    (fun os started H enc _ => lifted os started H enc)
#print axioms proved

end Go.Proofs.Ytbkfdgbchigapaa.sumOf
