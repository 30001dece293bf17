/-
  LogTurns: its walk.
-/
import Derived.Test.YtilocedppkmikaaGTurn
namespace Go.Proofs.Ytilocedppkmikaa.logTurns
open Go.ChangeShapes Go.WideShapes Go.ChangeAt Go.RowKit
set_option linter.unusedVariables false

/-- What Frame hands back, as one who writes into it reads it. -/
theorem frame_owns (A : Option Addr) (r : List Nat) (n c N : Nat) (w : World) (hr : r.length = n) (hn : n ≤ 16384) (hA0 : A = none → c = 0) (h8 : ∀ x ∈ r, x < 256) (hA : Sees .u8 w A r) (hN : (frameN r).length = N) :
    Calls Try.prog 8 #[.slice A n c] w (fun e w' => ∃ g cap, e = .returned (.tuple #[.slice (some ⟨g, 0, none⟩) N cap, .int .i64 0]) ∧ w.heap.size ≤ g ∧ w'.ownsRow w.heap.size 5 1 (.slice (some ⟨g, 0, none⟩) N cap) N ((frameN r).map bv) ∧ Below w.heap.size w w') := by
  subst hN
  refine (frame_any A r n c w hr hn hA0 h8 hA).mono ?_
  rintro e w' ⟨s, rfl, hown, hb⟩
  rcases hown.2 with ⟨rfl, h0⟩ | ⟨g, cap, cur, rfl, hg, _, hc, _⟩
  · have := frameN_ge r; omega
  · exact ⟨g, cap, rfl, hg, hown, hb⟩

theorem set_owns {w4 W4 : World} {base g cap F Q R y : Nat} {l f' : List Nat} (hown : w4.ownsRow base 5 1 (.slice (some ⟨g, 0, none⟩) F cap) F (l.map bv)) (hW : w4.setCell ⟨g, Q, none⟩ (.int .u8 (bits BinOp.xor IntKind.u8 (y : Int) ((2 : Int) ^ R % 256))) = W4) (hy : y < 256) (hR : R < 8) (hf : l.set Q (y ^^^ 2 ^ R) = f') :
    W4.ownsRow base 5 1 (.slice (some ⟨g, 0, none⟩) F cap) F (f'.map bv) := by
  rw [← hW, turn_walk y R hy hR]
  have := (hown.stored Q (bv (y ^^^ 2 ^ R))).1
  rw [← List.map_set, hf] at this
  exact this
theorem set_below {w3 w4 W4 : World} {g Q : Nat} {u : Value} (hg : w3.heap.size ≤ g) (hb : Below w3.heap.size w3 w4) (hW : w4.setCell ⟨g, Q, none⟩ u = W4) : Below w3.heap.size w3 W4 := by
  rw [← hW]
  exact hb.setCell (by exact hg) _

/-- Three lists one behind the other, in a row of the call's own. -/
theorem own_three {w : World} {base N F z T : Nat} {E : TypeId} {v : Value} {a b c L : List Nat} (hL : a ++ (b ++ c) = L) (hT : L.length = T) (hN : N + F + z = T)
    (h : w.ownsRow base E 1 v (N + F + z) (((a.map fun y : Nat => Value.int .u8 (y : Int)) ++ b.map fun y : Nat => Value.int .u8 (y : Int)) ++ c.map fun y : Nat => Value.int .u8 (y : Int))) :
    ∃ A k, v = .slice A T k ∧ (A = none → k = 0) ∧ T ≤ k ∧ Sees .u8 w A L := by
  rw [List.append_assoc, ← List.map_append, ← List.map_append, hL] at h
  obtain ⟨A, k, h1, h2, h3, h4⟩ := own_slice h
  rw [hT] at h1 h3
  exact ⟨A, k, h1, h2, h3, h4⟩

set_option maxRecDepth 100000 in
set_option maxHeartbeats 1000000 in
theorem walk_any (A : Option Addr) (ls : List (List Nat)) (n ca : Nat) (A1 : Option Addr) (r : List Nat) (p c1 : Nat) (A2 : Option Addr) (more : List Nat) (z c2 : Nat) (x : Int) (w : World) (hln : ls.length = n) (hl : n ≤ 9223372036854775807) (h8 : ∀ x ∈ ls.flatten, x < 256) (hA : SeesRows w A ls) (hB : NilBare w A ls.length)
    (hrp : r.length = p) (hA10 : A1 = none → c1 = 0) (h81 : ∀ x ∈ r, x < 256) (hA1 : Sees .u8 w A1 r) (hmz : more.length = z) (hA20 : A2 = none → c2 = 0) (h82 : ∀ x ∈ more, x < 256) (hA2 : Sees .u8 w A2 more) (hp9 : p ≤ 9223372036854775807) (hz9 : z ≤ 9223372036854775807) :
    Calls Try.prog 6 #[.slice A n ca, .slice A1 p c1, .slice A2 z c2, .int .i64 x] w fun e w' => e = .returned (.bool true) ∧ Below w.heap.size w w' := by
  obtain ⟨i0, hi, hz0, hz1, hz2⟩ := info_parts info_u8
  have HA := hid hA
  have HNB := hid hB
  have H8 := hid h8
  have HL := hid hln
  have HRP := hid hrp
  have H10 := hid hA10
  have H81 := hid h81
  have HA1 := hid hA1
  have HMZ := hid hmz
  have H20 := hid hA20
  have H82 := hid h82
  have HA2 := hid hA2
  clear hA hB h8 hln hrp hA10 h81 hA1 hmz hA20 h82 hA2
  go_enter Try.func6, Try.ntmps6
  go_wp2_with (go_at_call 7; ((with_reducible refine (anchor14_any _).mono ?_); rintro e w1 ⟨rfl, hb1⟩; have HB1 := hid hb1; have HR1 := hid (rows_below HA.out hb1); have HNB1 := hid (bare_below HA.out HNB.out hb1); clear hb1))
  with_reducible refine (small_any A ls n ca _ HL.out hl HR1.out).mono ?_
  rintro e w2 ⟨t, rfl, rfl, hsm⟩
  cases t
  · clear hsm
    go_wp2
    go_ret
    exact ⟨rfl, HB1.out⟩
  · obtain ⟨hf, h40⟩ := hsm rfl
    clear hsm
    by_cases hp4 : 400 < p
    · have hpi : ¬ (p : Int) ≤ 400 := by omega
      go_wp2
      go_ret
      exact ⟨rfl, HB1.out⟩
    · by_cases hz4 : 400 < z
      · have hzi : ¬ (z : Int) ≤ 400 := by omega
        have hpi : (p : Int) ≤ 400 := by omega
        go_wp2
        go_ret
        exact ⟨rfl, HB1.out⟩
      · have hzi : (z : Int) ≤ 400 := by omega
        have hpi : (p : Int) ≤ 400 := by omega
        obtain ⟨h2000, hfr⟩ := frames_small hf h40
        have x8 : ∀ r ∈ ls, ∀ x ∈ r, x < 256 := fun r hr x hx => H8.out x (List.mem_flatten.2 ⟨r, hr, hx⟩)
        have hrs : ∀ r ∈ ls, r.length ≤ 16384 := fun r hr => by have := h2000 r hr; omega
        obtain ⟨N, hN⟩ : ∃ N, (framesN ls).length = N := ⟨_, rfl⟩
        rw [hN] at hfr
        obtain ⟨a, ha⟩ : ∃ a, (shortN (r.length + 4)).length = a := ⟨_, rfl⟩
        have ha3 : a ≤ 3 := by rw [← ha]; exact shortN_len3 (by rw [HRP.out]; omega)
        obtain ⟨F, hF⟩ : ∃ F, (frameN r).length = F := ⟨_, rfl⟩
        have hFa : F = a + (p + 4) := by rw [← hF, frameN_len, ha, HRP.out]
        have hF407 : F ≤ 407 := by omega
        have HN := hid hN
        have HF := hid hF
        have HAA := hid ha
        have HRS := hid hrs
        have HX8 := hid x8
        have hn40 : n ≤ 40 := by rw [← HL.out]; exact h40
        have hFi : (F : Int) - (p : Int) - 4 = (a : Int) := by omega
        clear hf h40 h2000 x8 hrs hN ha hF hFa
        by_cases hlo : x < (a : Int) * 8
        · go_wp2_with (first
            | (go_at_call 14; ((with_reducible refine (join_any A ls n ca _ HL.out hl HRS.out (by rw [HN.out]; omega) HR1.out HNB1.out).mono ?_); rintro e w3 ⟨s, rfl, hown3, hb3⟩; have HB3 := hid (below_on HB1.out hb3); clear hown3 hb3))
            | (go_at_call 8; ((with_reducible refine (frame_owns A1 r p c1 F _ HRP.out (by omega) H10.out H81.out (HA1.out.below HB3.out) HF.out).mono ?_); rintro e w4 ⟨g, cap, rfl, hg, hown4, hb4⟩; have HB4 := hid (below_on HB3.out hb4); clear hown4 hb4)))
          go_ret
          exact ⟨rfl, HB4.out⟩
        · by_cases hhi : (F : Int) * 8 ≤ x
          · go_wp2_with (first
              | (go_at_call 14; ((with_reducible refine (join_any A ls n ca _ HL.out hl HRS.out (by rw [HN.out]; omega) HR1.out HNB1.out).mono ?_); rintro e w3 ⟨s, rfl, hown3, hb3⟩; have HB3 := hid (below_on HB1.out hb3); clear hown3 hb3))
              | (go_at_call 8; ((with_reducible refine (frame_owns A1 r p c1 F _ HRP.out (by omega) H10.out H81.out (HA1.out.below HB3.out) HF.out).mono ?_); rintro e w4 ⟨g, cap, rfl, hg, hown4, hb4⟩; have HB4 := hid (below_on HB3.out hb4); clear hown4 hb4)))
            go_ret
            exact ⟨rfl, HB4.out⟩
          · obtain ⟨k, rfl⟩ := Int.eq_ofNat_of_zero_le (show 0 ≤ x by omega)
            obtain ⟨Q, R, hR, hk⟩ : ∃ Q R, R < 8 ∧ k = 8 * Q + R := ⟨k / 8, k % 8, by omega, by omega⟩
            have hQF : Q < F := by omega
            have haQ : a ≤ Q := by omega
            have e2 : (k : Int) / 8 = (Q : Int) := by omega
            have e3 : (k : Int) % 8 = (R : Int) := by omega
            have hQl : Q < (frameN r).length := by rw [HF.out]; exact hQF
            have hrl : r.length ≤ 16384 := by rw [HRP.out]; omega
            obtain ⟨y, hy⟩ : ∃ y, (frameN r)[Q] = y := ⟨_, rfl⟩
            have HY8 : Hid (y < 256) := hid (by rw [← hy]; exact frameN_byte H81.out _ (List.getElem_mem hQl))
            have HGY : Hid ((frameN r)[Q]? = some y) := hid (by rw [List.getElem?_eq_getElem hQl, hy])
            obtain ⟨f', hf'⟩ : ∃ f', (frameN r).set Q (y ^^^ 2 ^ R) = f' := ⟨_, rfl⟩
            have HTO : Hid (Torn (f' ++ more)) := hid (by rw [← hf', ← hy]; exact torn_turned H81.out hrl HAA.out.symm haQ hQl hR)
            have HF' := hid hf'
            have HFL : Hid (f'.length = F) := hid (by rw [← hf', List.length_set]; exact HF.out)
            have HF8 : Hid (∀ x ∈ f', x < 256) := hid (by rw [← hf']; exact set_byte (frameN_byte H81.out) Q _ (xor_lt8 HY8.out (pow_lt8 hR)))
            obtain ⟨all, hall⟩ : ∃ all, framesN ls ++ (f' ++ more) = all := ⟨_, rfl⟩
            obtain ⟨T, hT⟩ : ∃ T, N + F + z = T := ⟨_, rfl⟩
            have hT9 : T ≤ 10000 := by omega
            have HTN := hid hT
            have HALL := hid hall
            have HTL : Hid (all.length = T) := hid (by rw [← hall, List.length_append, List.length_append, HN.out, HFL.out, HMZ.out]; omega)
            have HALL8 : Hid (∀ x ∈ all, x < 256) := hid (fun x hx => by
              rw [← hall] at hx
              rcases List.mem_append.1 hx with h | h
              · exact framesN_byte HX8.out x h
              · rcases List.mem_append.1 h with h | h
                · exact HF8.out x h
                · exact H82.out x h)
            clear hy hf' hall hk hQl hrl hT
            go_wp2_with (first
              | (go_at_call 14; ((with_reducible refine (join_any A ls n ca _ HL.out hl HRS.out (by rw [HN.out]; omega) HR1.out HNB1.out).mono ?_); rintro e w3 ⟨s, rfl, hown3, hb3⟩; obtain ⟨A3, c3, rfl, hk3, _, hs3⟩ := own_slice (k := .u8) (l := framesN ls) hown3; rw [HN.out]; have HB3 := hid (below_on HB1.out hb3); have HS3 := hid hs3; have HK3 := hid hk3; clear hown3 hs3 hk3 hb3))
              | (go_at_call 8; ((with_reducible refine (frame_owns A1 r p c1 F _ HRP.out (by omega) H10.out H81.out (HA1.out.below HB3.out) HF.out).mono ?_); rintro e w4 ⟨g, cap, rfl, hg, hown4, hb4⟩; have hcell : w4.cell? ⟨g, Q, none⟩ = some (.int .u8 (y : Int)) := (hown4.cellAt Q (by omega)).trans (by rw [List.getElem?_map, HGY.out]; rfl); have hfz := hown4.frozenAt Q; obtain ⟨W4, hW4⟩ : ∃ W4, w4.setCell ⟨g, Q, none⟩ (.int .u8 (bits BinOp.xor IntKind.u8 (y : Int) ((2 : Int) ^ R % 256))) = W4 := ⟨_, rfl⟩; have HO4 := hid (set_owns hown4 hW4 HY8.out hR HF'.out); have HB4 := hid (set_below hg hb4 hW4); clear hown4 hb4))
              | ((with_reducible refine wpList_build_none (o := ⟨some 76, _, _, _, _, _⟩) rfl 22 5 rfl Try.underlying22 i0 hi W4.heap.size (Nat.le_refl _) ?_); intro s5 w5 hown5 hb5; have HO5 := hid hown5; have HB5 := hid hb5; have hz5 := hb5.size; clear hown5 hb5)
              | (at_builtin; refine wpList_append_named rfl (.tmp 76) (.tmp 77) 22 rfl W4.heap.size 5 i0 (.int .u8 0) 1 Try.underlying22 hi hz0 hz1 hz2 rfl _ 0 [] rfl HO5.out .u8 A3 c3 (framesN ls) N HN.out rfl HK3.out ((HS3.out.below HB4.out).below HB5.out) (by unfold maxLen; omega) (by omega) hz5 ?_; intro s6 w6 hown6 hg6; simp only [Nat.zero_add, List.nil_append] at hown6; have HB6 := hid (HB5.out.grown hg6 hz5 (fun k hk => (HO5.out.lt k hk).1)); have hz6 := Nat.le_trans hz5 hg6.size; have HO6 := hid hown6; clear hown6 hg6)
              | (at_builtin; refine wpList_append_named rfl (.tmp 78) (.tmp 79) 22 rfl W4.heap.size 5 i0 (.int .u8 0) 1 Try.underlying22 hi hz0 hz1 hz2 rfl _ N _ rfl HO6.out .u8 (some ⟨g, 0, none⟩) cap f' F HFL.out rfl (fun h => nomatch h) ((Sees.of_own HO4.out).below HB6.out) (by unfold maxLen; omega) (by omega) hz6 ?_; intro s7 w7 hown7 hg7; have HB7 := hid (HB6.out.grown hg7 hz6 (fun k hk => (HO6.out.lt k hk).1)); have hz7 := Nat.le_trans hz6 hg7.size; have HO7 := hid hown7; clear hown7 hg7)
              | (at_builtin; refine wpList_append_named rfl (.tmp 80) (.tmp 81) 22 rfl W4.heap.size 5 i0 (.int .u8 0) 1 Try.underlying22 hi hz0 hz1 hz2 rfl _ (N + F) _ rfl HO7.out .u8 A2 c2 more z HMZ.out rfl H20.out (((HA2.out.below HB3.out).below HB4.out).below HB7.out) (by unfold maxLen; omega) (by omega) hz7 ?_; intro s8 w8 hown8 hg8; have HB8 := hid (HB7.out.grown hg8 hz7 (fun k hk => (HO7.out.lt k hk).1)); obtain ⟨A8, c8, rfl, hk8, hc8, hs8⟩ := own_three HALL.out HTL.out HTN.out hown8; have HK8 := hid hk8; have HS8 := hid hs8; clear hown8 hg8 hk8 hs8)
              | (go_at_call 12; ((with_reducible refine (scan_any A8 all (f' ++ more) ls T c8 _ HTL.out (by omega) hc8 HK8.out HALL8.out HS8.out HRS.out HTO.out HALL.out.symm).mono ?_); rintro e w9 ⟨A9, c9, rfl, _, _, _, _, hb9⟩; rw [HL.out, HN.out]; have HB9 := hid hb9; clear hb9)))
            go_ret
            exact ⟨rfl, below_on (below_on (below_on HB3.out HB4.out) HB8.out) HB9.out⟩

/-- The Go text returns true. -/
theorem walk (A : Option Addr) (ls : List (List Nat)) (ca : Nat) (A1 : Option Addr) (r : List Nat) (c1 : Nat) (A2 : Option Addr) (more : List Nat) (c2 : Nat) (x : Int) (hl : ls.length ≤ 9223372036854775807) (h8 : ∀ x ∈ ls.flatten, x < 256)
    (hn1 : A1 = none → c1 = 0) (hl1 : r.length ≤ c1) (hm1 : c1 ≤ maxLen) (hr1 : r.length * 1 ≤ 140737488351232) (h81 : ∀ x ∈ r, (Lit.int .u8 (x : Int)).wf = true)
    (hn2 : A2 = none → c2 = 0) (hl2 : more.length ≤ c2) (hm2 : c2 ≤ maxLen) (hr2 : more.length * 1 ≤ 140737488351232) (h82 : ∀ x ∈ more, (Lit.int .u8 (x : Int)).wf = true)
    (wx : (Lit.int .i64 x).wf = true) (w : World) (hA : SeesRows w A ls) (hB : NilBare w A ls.length) (hs1 : Sees .u8 w A1 r) (hs2 : Sees .u8 w A2 more) :
    Calls Try.prog 6 #[.slice A ls.length ca, .slice A1 r.length c1, .slice A2 more.length c2, .int .i64 x] w fun e w' => e = .returned (.bool true) ∧ Below w.heap.size w w' :=
  walk_any A ls ls.length ca A1 r r.length c1 A2 more more.length c2 x w rfl hl h8 hA hB rfl hn1 (fun x hx => by have := u8_lt _ (h81 x hx); omega) hs1 rfl hn2 (fun x hx => by have := u8_lt _ (h82 x hx); omega) hs2 (by omega) (by omega)

end Go.Proofs.Ytilocedppkmikaa.logTurns
