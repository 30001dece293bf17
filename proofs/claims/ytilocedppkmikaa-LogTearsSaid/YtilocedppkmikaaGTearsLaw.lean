/-
  LogTears: its walk.
-/
import Derived.Test.YtilocedppkmikaaGOpen
namespace Go.Proofs.Ytilocedppkmikaa.logTears
open Go.ChangeShapes Go.WideShapes Go.ChangeAt Go.RowKit
set_option linter.unusedVariables false

theorem run_maxi (P : Program) (a b m : Int) (h : (if a < b then b else a) = m) (w : World) (ts : Array TypeId) (t : TypeId) : (Builtin.max_ ts t #[.int .i64 a, .int .i64 b]).run P w = .ok (.int .i64 m) w := by
  subst h
  by_cases h : a < b <;> simp [Builtin.max_, Builtin.max2, h]
theorem run_mini (P : Program) (a b m : Int) (h : min a b = m) (w : World) (ts : Array TypeId) (t : TypeId) : (Builtin.min_ ts t #[.int .i64 a, .int .i64 b]).run P w = .ok (.int .i64 m) w := by
  subst h
  rcases (show b < a ∨ a ≤ b by omega) with h | h
  · have : min a b = b := by omega
    rw [this]
    simp [Builtin.min_, Builtin.min2, h]
  · have : min a b = a := by omega
    rw [this]
    simp [Builtin.min_, Builtin.min2, show ¬ b < a by omega]

set_option maxRecDepth 100000 in
set_option maxHeartbeats 1000000 in
theorem walk_any (A : Option Addr) (ls : List (List Nat)) (n ca : Nat) (x : Int) (w : World) (hln : ls.length = n) (hl : n ≤ 9223372036854775807) (h8 : ∀ x ∈ ls.flatten, x < 256) (hA : SeesRows w A ls) (hB : NilBare w A ls.length) :
    Calls Try.prog 5 #[.slice A n ca, .int .i64 x] w fun e w' => e = .returned (.bool true) ∧ Below w.heap.size w w' := by
  have HA := hid hA
  have HNB := hid hB
  have H8 := hid h8
  have HL := hid hln
  clear hA hB h8 hln
  go_enter Try.func5, Try.ntmps5
  go_wp2_with (go_at_call 7; ((with_reducible refine (anchor14_any _).mono ?_); rintro e w1 ⟨rfl, hb1⟩; have HB1 := hid hb1; have HA1 := hid (rows_below HA.out hb1); have HNB1 := hid (bare_below HA.out HNB.out hb1); clear hb1))
  with_reducible refine (small_any A ls n ca _ HL.out hl HA1.out).mono ?_
  rintro e w2 ⟨t, rfl, rfl, hsm⟩
  cases t
  · clear hsm
    go_wp2
    go_ret
    exact ⟨rfl, HB1.out⟩
  · obtain ⟨hf, h40⟩ := hsm rfl
    obtain ⟨h2000, hfr⟩ := frames_small hf h40
    have x8 : ∀ r ∈ ls, ∀ x ∈ r, x < 256 := fun r hr x hx => H8.out x (List.mem_flatten.2 ⟨r, hr, hx⟩)
    have hrs : ∀ r ∈ ls, r.length ≤ 16384 := fun r hr => by have := h2000 r hr; omega
    obtain ⟨N, hN⟩ : ∃ N, (framesN ls).length = N := ⟨_, rfl⟩
    rw [hN] at hfr
    obtain ⟨y, hy⟩ : ∃ y : Int, min x (N : Int) = y := ⟨_, rfl⟩
    obtain ⟨cc, hcc⟩ : ∃ cc : Nat, (if y < 0 then 0 else y) = (cc : Int) := ⟨y.toNat, by split <;> omega⟩
    have hccN : cc ≤ N := by split at hcc <;> omega
    have hm1 := fun (w : World) (ts : Array TypeId) (t : TypeId) => run_mini Try.prog x N y hy w ts t
    have hm2 := fun (w : World) (ts : Array TypeId) (t : TypeId) => run_maxi Try.prog y 0 cc hcc w ts t
    obtain ⟨i, m, hi, htake, htorn, hnext, hle, hsum⟩ := tear_exists ls cc hrs (by omega)
    obtain ⟨Gd, hGd⟩ : ∃ Gd, (framesN (ls.take i)).length = Gd := ⟨_, rfl⟩
    have hGN : i = n → Gd = N := fun h => by rw [← hGd, ← hN, List.take_of_length_le (by rw [HL.out]; omega)]
    have hil : (ls.take i).length = i := by rw [List.length_take]; omega
    have hin : i ≤ n := by rw [← HL.out]; exact hi
    have HLT : Hid (((framesN ls).take cc).length = cc) := hid (by rw [List.length_take]; omega)
    have XT : Hid (∀ x ∈ (framesN ls).take cc, x < 256) := hid (fun x hx => framesN_byte x8 x (List.mem_of_mem_take hx))
    have HRI : Hid (∀ r ∈ ls.take i, r.length ≤ 16384) := hid (fun r hr => hrs r (List.mem_of_mem_take hr))
    have HTK := hid htake
    have HTO := hid htorn
    have HN := hid hN
    have HG := hid hGd
    have HI := hid hil
    have HRS := hid hrs
    have H20 := hid h2000
    have HNX := hid hnext
    have HGN := hid hGN
    have hGc : Gd ≤ cc := by rw [← hGd]; exact hle
    have hn40 : n ≤ 40 := by rw [← HL.out]; exact h40
    clear hsm hf h40 h2000 x8 hrs hN hy hcc htake htorn hnext hle hsum hGd hGN hil hi
    go_wp2_with (first
      | (go_at_call 14; ((with_reducible refine (join_any A ls n ca _ HL.out hl HRS.out (by rw [HN.out]; omega) HA1.out HNB1.out).mono ?_); rintro e w3 ⟨s, rfl, hown3, hb3⟩; obtain ⟨A3, c3, rfl, hk3, hc3, hs3⟩ := own_slice (k := .u8) (l := framesN ls) hown3; rw [HN.out] at hc3; rw [HN.out]; obtain ⟨A4, hrun4, hnil4, hs4⟩ := cut_head hccN hc3 hs3 hk3; have HS4 := hid hs4; have HN4 := hid hnil4; have HB3 := hid (below_on HB1.out hb3); have HA3 := hid (rows_below HA1.out hb3); have hcc3 : cc ≤ c3 := Nat.le_trans hccN hc3; clear hown3 hs3 hb3 hs4 hnil4 hk3))
      | (go_at_call 12; ((with_reducible refine (scan_any A4 ((framesN ls).take cc) m (ls.take i) cc c3 _ HLT.out (by omega) hcc3 HN4.out XT.out HS4.out HRI.out HTO.out HTK.out).mono ?_); rintro e w4 ⟨A5, c5, rfl, _, hc5, hr5, _, hb4⟩; rw [HI.out] at hc5; rw [HI.out, HG.out]; have HB4 := hid (below_on HB3.out hb4); have HR5 := hid hr5; have HA4 := hid (rows_below HA3.out hb4); clear hr5 hb4)))
    go_loopw [9, 39] (fun g iv wr => ∃ j : Nat, j ≤ i ∧ iv = .int .i64 (j : Int) ∧ g = .int .i64 ((framesN (ls.take j)).length : Int) ∧ Below w4.heap.size w4 wr) (fun _ iv _ => n - (intOf iv).toNat)
    case atStart => exact ⟨0, Nat.zero_le _, rfl, rfl, Below.refl _ _⟩
    case round =>
      obtain ⟨j, hj, rfl, rfl, hb⟩ := hrel
      have HB := hid hb
      by_cases hlt : j < n
      · have hlt' : j < ls.length := by rw [HL.out]; exact hlt
        obtain ⟨b1, o1, B1, d1, rfl, hbl1, hc1, hx1, _, hs1⟩ := HA4.out j ls[j] (List.getElem?_eq_getElem hlt')
        have hc1' := (hb.cell (p := ⟨b1, o1 + j, none⟩) (by exact hbl1)).trans hc1
        have HS1 := hid (hs1.below hb)
        have HTL := hid (framesN_take_len hlt')
        have hq0 := H20.out _ (List.getElem_mem hlt')
        obtain ⟨P, hP⟩ : ∃ P, (framesN (ls.take j)).length = P := ⟨_, rfl⟩
        obtain ⟨Q, hQ⟩ : ∃ Q, (frameN ls[j]).length = Q := ⟨_, rfl⟩
        have hPQ : (framesN (ls.take (j + 1))).length = P + Q := by rw [HTL.out, hP, hQ]
        have HPQ := hid hPQ
        have HQ := hid hQ
        rw [hP]
        by_cases hji : j = i
        · obtain rfl : j = i := hji
          have hgt : cc < P + Q := by rw [← hPQ]; exact HNX.out hlt'
          have hPG : P = Gd := by rw [← hP]; exact HG.out
          have hgt2 : ¬ (P : Int) + (Q : Int) ≤ (cc : Int) := by omega
          have hQ2 : Q ≤ 2007 := by rw [← hQ]; have := frameN_le (r := ls[j]) (by omega); omega
          clear hP hQ hPQ hc1 hs1 hb
          obtain rfl := hPG
          generalize ls[j] = r at *
          obtain ⟨q, hq⟩ : ∃ q, r.length = q := ⟨_, rfl⟩
          have HQL := hid hq
          rw [hq] at hc1' hx1 hq0
          clear hq
          go_wp2_with (go_at_call 9; ((with_reducible refine (size_any B1 r q d1 _ HQL.out (by omega)).mono ?_); rintro e w5 ⟨rfl, hb5⟩; rw [HQ.out]; have HB5 := hid (below_on HB.out hb5); clear hb5))
          go_ret
          exact ⟨rfl, below_on HB4.out HB5.out⟩
        · have hji2 : j < i := by omega
          have hle2 : P + Q ≤ cc := by
            rw [← hPQ]
            have := framesN_mono ls (j := j + 1) (k := i) (by omega)
            rw [HG.out] at this
            omega
          have hle3 : (P : Int) + (Q : Int) ≤ (cc : Int) := by omega
          have hget : (ls.take i)[j]? = some ls[j] := by rw [List.getElem?_take, if_pos hji2, List.getElem?_eq_getElem hlt']
          obtain ⟨b4, o4, B4, d4, rfl, hbl4, hc4, hx4, _, hs4⟩ := HR5.out j ls[j] hget
          have hc4' := (hb.cell (p := ⟨b4, o4 + j, none⟩) (by exact hbl4)).trans hc4
          have HS4' := hid (hs4.below hb)
          clear hP hQ hPQ hc1 hs1 hb hc4 hs4 hget
          generalize ls[j] = r at *
          obtain ⟨q, hq⟩ : ∃ q, r.length = q := ⟨_, rfl⟩
          have HQL := hid hq
          rw [hq] at hc1' hx1 hq0 hc4'
          clear hq
          have hji3 : ¬ (i : Int) ≤ (j : Int) := by omega
          go_wp2_with (first
            | (go_at_call 9; ((with_reducible refine (size_any B1 r q d1 _ HQL.out (by omega)).mono ?_); rintro e w5 ⟨rfl, hb5⟩; rw [HQ.out]; have hc5' := (hb5.cell (p := ⟨b4, o4 + j, none⟩) (by exact (Nat.lt_of_lt_of_le hbl4 HB.out.size))).trans hc4'; have HS15 := hid (HS1.out.below hb5); have HS45 := hid (HS4'.out.below hb5); have HB5 := hid (below_on HB.out hb5); clear hb5))
            | (go_at_call 10; ((with_reducible refine (same_as B4 B1 r q d4 d1 _ hx1 HQL.out HS45.out HS15.out).mono ?_); rintro e w6 ⟨rfl, hb6⟩; have HB6 := hid (below_on HB5.out hb6); clear hb6)))
          go_roundw
          case rel => exact ⟨j + 1, hji2, by go_num, by rw [HPQ.out]; go_num, HB6.out⟩
          case measure => simp only [intOf]; omega
      · obtain rfl : i = n := by omega
        obtain rfl : j = i := by omega
        have hGN := HGN.out rfl
        obtain rfl := hGN
        clear hb
        go_wp2
        go_ret
        exact ⟨rfl, below_on HB4.out HB.out⟩

/-- The Go text returns true. -/
theorem walk (A : Option Addr) (ls : List (List Nat)) (ca : Nat) (x : Int) (hl : ls.length ≤ 9223372036854775807) (h8 : ∀ x ∈ ls.flatten, x < 256) (wx : (Lit.int .i64 x).wf = true) (w : World) (hA : SeesRows w A ls) (hB : NilBare w A ls.length) :
    Calls Try.prog 5 #[.slice A ls.length ca, .int .i64 x] w fun e w' => e = .returned (.bool true) ∧ Below w.heap.size w w' :=
  walk_any A ls ls.length ca x w rfl hl h8 hA hB

end Go.Proofs.Ytilocedppkmikaa.logTears
