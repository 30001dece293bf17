/-
  The contract of Show (package cmd), once for each class of kinds: a right command's text.
-/
import Derived.Test.YtohffiehmmcgbaaGreatDoorXK
import Derived.Test.YtohffiehmmcgbaaGreatDoorXKRight
import Derived.Deep.RegionHeld3
namespace Go.Proofs.YtohffiehmmcgbaaGreatDoor
open Go.ChangeShapes Go.WideShapes Go.ChangeAt Go.RowKit Go.Lib
set_option linter.unusedSimpArgs false
set_option linter.unusedVariables false
attribute [local go_sem] Oper.semAt_some
set_option maxRecDepth 100000 in
set_option maxHeartbeats 4000000 in
theorem showc_0 (k u : Int) (f : ByteArray) (q : Int) (s : ByteArray) (m n t : Int) (w : World) (hL : Laid7 w) (hs : Sig k false false false false false false) (hr : rightK ⟨k, u, f, q, s, m, n, t⟩ = true)
    (hk : 0 ≤ k ∧ k ≤ 8) (hu : 0 ≤ u ∧ u < 18446744073709551616) (hq : 0 ≤ q ∧ q < 18446744073709551616) (hn : 0 ≤ n ∧ n < 18446744073709551616) (hm : 0 ≤ m ∧ m ≤ 2) (ht : 0 ≤ t ∧ t ≤ 1099511627776) (hf : f.size ≤ 64) (hp : s.size ≤ 64) :
    Calls Tryz.prog 22 #[val ⟨k, u, f, q, s, m, n, t⟩] w fun e w' => (∃ r : ByteArray, e = .returned (.tuple #[.string r, .int .i64 0]) ∧ L r = txt ⟨k, u, f, q, s, m, n, t⟩) ∧ Below w.heap.size w w' := by
  obtain ⟨s0, s1, s2, s3, s4, s5⟩ := hs
  have S0 := hid s0
  have S1 := hid s1
  have S2 := hid s2
  have S3 := hid s3
  have S4 := hid s4
  have S5 := hid s5
  have HR := hid hr
  have HL := hid hL
  have A0 := hid (Boxed.start hL.1 ⟨k, u, f, q, s, m, n, t⟩)
  obtain ⟨kn, hkn⟩ : ∃ kn : Nat, k = (kn : Int) := ⟨k.toNat, by omega⟩
  obtain ⟨un, hun⟩ : ∃ kn : Nat, u = (kn : Int) := ⟨u.toNat, by omega⟩
  obtain ⟨qn, hqn⟩ : ∃ kn : Nat, q = (kn : Int) := ⟨q.toNat, by omega⟩
  obtain ⟨mn, hmn⟩ : ∃ kn : Nat, m = (kn : Int) := ⟨m.toNat, by omega⟩
  obtain ⟨nn, hnn⟩ : ∃ kn : Nat, n = (kn : Int) := ⟨n.toNat, by omega⟩
  obtain ⟨tn, htn⟩ : ∃ kn : Nat, t = (kn : Int) := ⟨t.toNat, by omega⟩
  have b1 : kn ≤ 8 := by omega
  have b2 : un < 18446744073709551616 := by omega
  have b3 : qn < 18446744073709551616 := by omega
  have b4 : mn < 18446744073709551616 := by omega
  have b5 : nn < 18446744073709551616 := by omega
  have b6 : tn < 18446744073709551616 := by omega
  have W2 : IntKind.u64.wrap m = m := by rw [IntKind.wrap_u64]; omega
  have W3 : IntKind.u64.wrap t = t := by rw [IntKind.wrap_u64]; omega
  have M2 : m % 18446744073709551616 = m := by omega
  have M3 : t % 18446744073709551616 = t := by omega
  have j1 : (0 : Int) ≤ k := by omega
  have j2 : k < 9 := by omega
  have hf' : f.size ≤ 4611686018427387903 := by omega
  have hp' : s.size ≤ 4611686018427387903 := by omega
  obtain ⟨nx, hnx⟩ : ∃ x, mk (nameL k) = x := ⟨_, rfl⟩
  have NXL : Hid (L nx = nameL k) := hid (by rw [← hnx]; exact L_mk7 _)
  have znx : nx.size ≤ 7 := size_of_L NXL.out (name_len k)
  have hkt : k.toNat = kn := by omega
  have HKN := hid hkn
  have HUN := hid hun
  have HQN := hid hqn
  have HMN := hid hmn
  have HNN := hid hnn
  have HTN := hid htn
  have E : Hid (txt ⟨k, u, f, q, s, m, n, t⟩ = nameL k) := hid (by simp only [txt, t0, t1, t2, t3, t4, t5, s0, s1, s2, s3, s4, s5]; simp [hun, hqn, hmn, hnn, htn, List.append_assoc])
  have NC : Hid (∀ W, Laid7 W → W.cell? ⟨1, kn, none⟩ = some (.string nx)) := hid (fun W h => by rw [names_cell h.2.1 kn b1, ← hkn, hnx])
  clear s0 s1 s2 s3 s4 s5 hr hL hkn hun hqn hmn hnn htn hk hu hq hn hm ht hnx
  go_enter Tryz.func22, Tryz.ntmps22
  go_wp2_with fail
  with_reducible refine (cmdright_any ⟨k, u, f, q, s, m, n, t⟩ _ A0.out.parts hf' hp').mono ?_
  rw [HR.out]
  rintro e w1 ⟨rfl, hb⟩
  have A1 := hid (A0.out.on hb)
  clear hb A0
  have nc := NC.out _ (HL.out.below A1.out.below)
  obtain ⟨⟨c0, c1, c2, c3, c4, c5, c6, c7⟩, f0, f1, f2, f3, f4, f5, f6, f7⟩ := cells8 A1.out.1
  go_wp2_with fail
  with_reducible refine (has_0 ⟨k, u, f, q, s, m, n, t⟩ false _ S0.out A1.out.parts).mono ?_
  rintro e w2 ⟨rfl, hb⟩
  have A2 := hid (A1.out.on hb)
  clear hb A1
  clear c0 c1 c2 c3 c4 c5 c6 c7 f0 f1 f2 f3 f4 f5 f6 f7
  obtain ⟨⟨c0, c1, c2, c3, c4, c5, c6, c7⟩, f0, f1, f2, f3, f4, f5, f6, f7⟩ := cells8 A2.out.1
  clear nc
  go_wp2_with fail
  with_reducible refine (has_1 ⟨k, u, f, q, s, m, n, t⟩ false _ S1.out A2.out.parts).mono ?_
  rintro e w3 ⟨rfl, hb⟩
  have A3 := hid (A2.out.on hb)
  clear hb A2
  clear c0 c1 c2 c3 c4 c5 c6 c7 f0 f1 f2 f3 f4 f5 f6 f7
  obtain ⟨⟨c0, c1, c2, c3, c4, c5, c6, c7⟩, f0, f1, f2, f3, f4, f5, f6, f7⟩ := cells8 A3.out.1
  go_wp2_with fail
  with_reducible refine (has_2 ⟨k, u, f, q, s, m, n, t⟩ false _ S2.out A3.out.parts).mono ?_
  rintro e w4 ⟨rfl, hb⟩
  have A4 := hid (A3.out.on hb)
  clear hb A3
  clear c0 c1 c2 c3 c4 c5 c6 c7 f0 f1 f2 f3 f4 f5 f6 f7
  obtain ⟨⟨c0, c1, c2, c3, c4, c5, c6, c7⟩, f0, f1, f2, f3, f4, f5, f6, f7⟩ := cells8 A4.out.1
  go_wp2_with fail
  with_reducible refine (has_3 ⟨k, u, f, q, s, m, n, t⟩ false _ S3.out A4.out.parts).mono ?_
  rintro e w5 ⟨rfl, hb⟩
  have A5 := hid (A4.out.on hb)
  clear hb A4
  clear c0 c1 c2 c3 c4 c5 c6 c7 f0 f1 f2 f3 f4 f5 f6 f7
  obtain ⟨⟨c0, c1, c2, c3, c4, c5, c6, c7⟩, f0, f1, f2, f3, f4, f5, f6, f7⟩ := cells8 A5.out.1
  go_wp2_with fail
  with_reducible refine (has_4 ⟨k, u, f, q, s, m, n, t⟩ false _ S4.out A5.out.parts).mono ?_
  rintro e w6 ⟨rfl, hb⟩
  have A6 := hid (A5.out.on hb)
  clear hb A5
  clear c0 c1 c2 c3 c4 c5 c6 c7 f0 f1 f2 f3 f4 f5 f6 f7
  obtain ⟨⟨c0, c1, c2, c3, c4, c5, c6, c7⟩, f0, f1, f2, f3, f4, f5, f6, f7⟩ := cells8 A6.out.1
  go_wp2_with fail
  with_reducible refine (has_5 ⟨k, u, f, q, s, m, n, t⟩ false _ S5.out A6.out.parts).mono ?_
  rintro e w7 ⟨rfl, hb⟩
  have A7 := hid (A6.out.on hb)
  clear hb A6
  clear c0 c1 c2 c3 c4 c5 c6 c7 f0 f1 f2 f3 f4 f5 f6 f7
  obtain ⟨⟨c0, c1, c2, c3, c4, c5, c6, c7⟩, f0, f1, f2, f3, f4, f5, f6, f7⟩ := cells8 A7.out.1
  have G := hid A7.out.below
  go_wp2
  go_ret2
  exact ⟨⟨_, rfl, by rw [E.out]; simp [L_append, L_num, L_foot, L_req, L_path, L_mode, L_n, L_time, NXL.out]⟩, G.out⟩
set_option maxRecDepth 100000 in
set_option maxHeartbeats 4000000 in
theorem showc_1 (k u : Int) (f : ByteArray) (q : Int) (s : ByteArray) (m n t : Int) (w : World) (hL : Laid7 w) (hs : Sig k true true false false true true) (hr : rightK ⟨k, u, f, q, s, m, n, t⟩ = true)
    (hk : 0 ≤ k ∧ k ≤ 8) (hu : 0 ≤ u ∧ u < 18446744073709551616) (hq : 0 ≤ q ∧ q < 18446744073709551616) (hn : 0 ≤ n ∧ n < 18446744073709551616) (hm : 0 ≤ m ∧ m ≤ 2) (ht : 0 ≤ t ∧ t ≤ 1099511627776) (hf : f.size ≤ 64) (hp : s.size ≤ 64) :
    Calls Tryz.prog 22 #[val ⟨k, u, f, q, s, m, n, t⟩] w fun e w' => (∃ r : ByteArray, e = .returned (.tuple #[.string r, .int .i64 0]) ∧ L r = txt ⟨k, u, f, q, s, m, n, t⟩) ∧ Below w.heap.size w w' := by
  obtain ⟨s0, s1, s2, s3, s4, s5⟩ := hs
  have S0 := hid s0
  have S1 := hid s1
  have S2 := hid s2
  have S3 := hid s3
  have S4 := hid s4
  have S5 := hid s5
  have HR := hid hr
  have HL := hid hL
  have A0 := hid (Boxed.start hL.1 ⟨k, u, f, q, s, m, n, t⟩)
  obtain ⟨kn, hkn⟩ : ∃ kn : Nat, k = (kn : Int) := ⟨k.toNat, by omega⟩
  obtain ⟨un, hun⟩ : ∃ kn : Nat, u = (kn : Int) := ⟨u.toNat, by omega⟩
  obtain ⟨qn, hqn⟩ : ∃ kn : Nat, q = (kn : Int) := ⟨q.toNat, by omega⟩
  obtain ⟨mn, hmn⟩ : ∃ kn : Nat, m = (kn : Int) := ⟨m.toNat, by omega⟩
  obtain ⟨nn, hnn⟩ : ∃ kn : Nat, n = (kn : Int) := ⟨n.toNat, by omega⟩
  obtain ⟨tn, htn⟩ : ∃ kn : Nat, t = (kn : Int) := ⟨t.toNat, by omega⟩
  have b1 : kn ≤ 8 := by omega
  have b2 : un < 18446744073709551616 := by omega
  have b3 : qn < 18446744073709551616 := by omega
  have b4 : mn < 18446744073709551616 := by omega
  have b5 : nn < 18446744073709551616 := by omega
  have b6 : tn < 18446744073709551616 := by omega
  have W2 : IntKind.u64.wrap m = m := by rw [IntKind.wrap_u64]; omega
  have W3 : IntKind.u64.wrap t = t := by rw [IntKind.wrap_u64]; omega
  have M2 : m % 18446744073709551616 = m := by omega
  have M3 : t % 18446744073709551616 = t := by omega
  have j1 : (0 : Int) ≤ k := by omega
  have j2 : k < 9 := by omega
  have hf' : f.size ≤ 4611686018427387903 := by omega
  have hp' : s.size ≤ 4611686018427387903 := by omega
  obtain ⟨nx, hnx⟩ : ∃ x, mk (nameL k) = x := ⟨_, rfl⟩
  have NXL : Hid (L nx = nameL k) := hid (by rw [← hnx]; exact L_mk7 _)
  have znx : nx.size ≤ 7 := size_of_L NXL.out (name_len k)
  have hkt : k.toNat = kn := by omega
  have HKN := hid hkn
  have HUN := hid hun
  have HQN := hid hqn
  have HMN := hid hmn
  have HNN := hid hnn
  have HTN := hid htn
  have E : Hid (txt ⟨k, u, f, q, s, m, n, t⟩ = nameL k ++ (wordL nNum (decDigits un) ++ (wordL nFoot (L f) ++ (wordL nReq (decDigits qn) ++ (wordL nN (decDigits nn) ++ (wordL nTime (decDigits tn))))))) := hid (by simp only [txt, t0, t1, t2, t3, t4, t5, s0, s1, s2, s3, s4, s5]; simp [hun, hqn, hmn, hnn, htn, List.append_assoc])
  have NC : Hid (∀ W, Laid7 W → W.cell? ⟨1, kn, none⟩ = some (.string nx)) := hid (fun W h => by rw [names_cell h.2.1 kn b1, ← hkn, hnx])
  clear s0 s1 s2 s3 s4 s5 hr hL hkn hun hqn hmn hnn htn hk hu hq hn hm ht hnx
  go_enter Tryz.func22, Tryz.ntmps22
  go_wp2_with fail
  with_reducible refine (cmdright_any ⟨k, u, f, q, s, m, n, t⟩ _ A0.out.parts hf' hp').mono ?_
  rw [HR.out]
  rintro e w1 ⟨rfl, hb⟩
  have A1 := hid (A0.out.on hb)
  clear hb A0
  have nc := NC.out _ (HL.out.below A1.out.below)
  obtain ⟨⟨c0, c1, c2, c3, c4, c5, c6, c7⟩, f0, f1, f2, f3, f4, f5, f6, f7⟩ := cells8 A1.out.1
  go_wp2_with fail
  with_reducible refine (has_0 ⟨k, u, f, q, s, m, n, t⟩ true _ S0.out A1.out.parts).mono ?_
  rintro e w2 ⟨rfl, hb⟩
  have A2 := hid (A1.out.on hb)
  clear hb A1
  clear c0 c1 c2 c3 c4 c5 c6 c7 f0 f1 f2 f3 f4 f5 f6 f7
  obtain ⟨⟨c0, c1, c2, c3, c4, c5, c6, c7⟩, f0, f1, f2, f3, f4, f5, f6, f7⟩ := cells8 A2.out.1
  clear nc
  go_wp2_with fail
  have D := hid A2.out.drew
  have PD := hid (Laid7.pow (HL.out.below D.out.below))
  have w7a := fun (r : ByteArray) (w : World) (h : r.size ≤ 20) => word7 ⟨#[110, 117, 109]⟩ r w (by decide) (by omega)
  have w7b := fun (w : World) => word7 ⟨#[102, 111, 111, 116]⟩ f w (by decide) (by omega)
  have n3 : (⟨#[110, 117, 109]⟩ : ByteArray).size ≤ 3 := by decide
  have n4 : (⟨#[102, 111, 111, 116]⟩ : ByteArray).size ≤ 4 := by decide
  have le1 : 25 + 70 ≤ 9223372036854775807 := by decide
  have le2 : 7 + (25 + 70) ≤ 9223372036854775807 := by decide
  have W7A := hid w7a
  have W7B := hid w7b
  clear w7a w7b
  go_region_held3 (fun w' => w'.cell? ⟨w.heap.size, 1, none⟩ = some (.int .u64 u) ∧ w'.cell? ⟨w.heap.size, 2, none⟩ = some (.string f))
    (first | exact ⟨(cells8 A2.out.1).1.2.1, (cells8 A2.out.1).1.2.2.1⟩ | exact ⟨(cells8 D.out.1).1.2.1, (cells8 D.out.1).1.2.2.1⟩ | exact ⟨(cells8 D1.out.1).1.2.1, (cells8 D1.out.1).1.2.2.1⟩ | exact ⟨(cells8 D2.out.1).1.2.1, (cells8 D2.out.1).1.2.2.1⟩ | exact ⟨(cells8 D3.out.1).1.2.1, (cells8 D3.out.1).1.2.2.1⟩)
    (first
      | (go_at_call 64; (with_reducible refine (show_any7 un u _ HUN.out b2 PD.out).mono ?_); rintro e wa ⟨ra, rfl, hra, hba⟩; have D1 := hid (D.out.on hba); have za := size_of_L hra (dec_len7 b2))
      | (go_at_call 63; (with_reducible refine (W7A.out ra _ za).mono ?_); rintro e wb ⟨rb, rfl, hrb, hbb⟩; have D2 := hid (D1.out.on hbb); have zb := word_size (k := 25) hrb n3 za rfl)
      | (go_at_call 63; (with_reducible refine (W7B.out _).mono ?_); rintro e wc ⟨rc, rfl, hrc, hbc⟩; have D3 := hid (D2.out.on hbc); have zc := word_size (k := 70) hrc n4 hf rfl; have y1 := Nat.not_lt.2 (Nat.le_trans (Nat.add_le_add zb zc) le1); have y2 := Nat.not_lt.2 (Nat.le_trans (Nat.add_le_add znx (Nat.add_le_add zb zc)) le2)))
  rename_i hHeld
  have RA := hid hra
  have RB := hid hrb
  have RC := hid hrc
  clear hHeld hra hrb hrc hba hbb hbc W7A W7B PD D D1 D2 A2 n3 n4 le1 le2 y1 y2
  clear c0 c1 c2 c3 c4 c5 c6 c7 f0 f1 f2 f3 f4 f5 f6 f7
  obtain ⟨⟨c0, c1, c2, c3, c4, c5, c6, c7⟩, f0, f1, f2, f3, f4, f5, f6, f7⟩ := cells8 D3.out.1
  go_wp2_with fail
  with_reducible refine (has_1 ⟨k, u, f, q, s, m, n, t⟩ true _ S1.out D3.out.parts).mono ?_
  rintro e w3 ⟨rfl, hb⟩
  have A3 := hid (D3.out.on hb)
  clear hb D3
  clear c0 c1 c2 c3 c4 c5 c6 c7 f0 f1 f2 f3 f4 f5 f6 f7
  obtain ⟨⟨c0, c1, c2, c3, c4, c5, c6, c7⟩, f0, f1, f2, f3, f4, f5, f6, f7⟩ := cells8 A3.out.1
  go_wp2_with fail
  with_reducible refine (show_any7 qn q _ HQN.out b3 (Laid7.pow (HL.out.below A3.out.below))).mono ?_
  rintro e w4 ⟨r4, rfl, hr4, hb⟩
  have z4 := size_of_L hr4 (dec_len7 b3)
  have R4 := hid hr4
  clear hr4
  have A4 := hid (A3.out.on hb)
  clear hb A3
  clear c0 c1 c2 c3 c4 c5 c6 c7 f0 f1 f2 f3 f4 f5 f6 f7
  obtain ⟨⟨c0, c1, c2, c3, c4, c5, c6, c7⟩, f0, f1, f2, f3, f4, f5, f6, f7⟩ := cells8 A4.out.1
  go_wp2_with fail
  with_reducible refine (word7 ⟨#[114, 101, 113, 117, 101, 115, 116]⟩ r4 _ (by decide) (by omega)).mono ?_
  rintro e w5 ⟨r5, rfl, hr5, hb⟩
  have z5 := word_size (i := 7) (j := 20) (k := 29) hr5 (by decide) z4 rfl
  have R5 := hid hr5
  clear hr5
  have A5 := hid (A4.out.on hb)
  clear hb A4
  clear c0 c1 c2 c3 c4 c5 c6 c7 f0 f1 f2 f3 f4 f5 f6 f7
  obtain ⟨⟨c0, c1, c2, c3, c4, c5, c6, c7⟩, f0, f1, f2, f3, f4, f5, f6, f7⟩ := cells8 A5.out.1
  go_wp2_with fail
  with_reducible refine (has_2 ⟨k, u, f, q, s, m, n, t⟩ false _ S2.out A5.out.parts).mono ?_
  rintro e w6 ⟨rfl, hb⟩
  have A6 := hid (A5.out.on hb)
  clear hb A5
  clear c0 c1 c2 c3 c4 c5 c6 c7 f0 f1 f2 f3 f4 f5 f6 f7
  obtain ⟨⟨c0, c1, c2, c3, c4, c5, c6, c7⟩, f0, f1, f2, f3, f4, f5, f6, f7⟩ := cells8 A6.out.1
  go_wp2_with fail
  with_reducible refine (has_3 ⟨k, u, f, q, s, m, n, t⟩ false _ S3.out A6.out.parts).mono ?_
  rintro e w7 ⟨rfl, hb⟩
  have A7 := hid (A6.out.on hb)
  clear hb A6
  clear c0 c1 c2 c3 c4 c5 c6 c7 f0 f1 f2 f3 f4 f5 f6 f7
  obtain ⟨⟨c0, c1, c2, c3, c4, c5, c6, c7⟩, f0, f1, f2, f3, f4, f5, f6, f7⟩ := cells8 A7.out.1
  go_wp2_with fail
  with_reducible refine (has_4 ⟨k, u, f, q, s, m, n, t⟩ true _ S4.out A7.out.parts).mono ?_
  rintro e w8 ⟨rfl, hb⟩
  have A8 := hid (A7.out.on hb)
  clear hb A7
  clear c0 c1 c2 c3 c4 c5 c6 c7 f0 f1 f2 f3 f4 f5 f6 f7
  obtain ⟨⟨c0, c1, c2, c3, c4, c5, c6, c7⟩, f0, f1, f2, f3, f4, f5, f6, f7⟩ := cells8 A8.out.1
  go_wp2_with fail
  with_reducible refine (show_any7 nn n _ HNN.out b5 (Laid7.pow (HL.out.below A8.out.below))).mono ?_
  rintro e w9 ⟨r9, rfl, hr9, hb⟩
  have z9 := size_of_L hr9 (dec_len7 b5)
  have R9 := hid hr9
  clear hr9
  have A9 := hid (A8.out.on hb)
  clear hb A8
  clear c0 c1 c2 c3 c4 c5 c6 c7 f0 f1 f2 f3 f4 f5 f6 f7
  obtain ⟨⟨c0, c1, c2, c3, c4, c5, c6, c7⟩, f0, f1, f2, f3, f4, f5, f6, f7⟩ := cells8 A9.out.1
  go_wp2_with fail
  with_reducible refine (word7 ⟨#[110]⟩ r9 _ (by decide) (by omega)).mono ?_
  rintro e w10 ⟨r10, rfl, hr10, hb⟩
  have z10 := word_size (i := 1) (j := 20) (k := 23) hr10 (by decide) z9 rfl
  have R10 := hid hr10
  clear hr10
  have A10 := hid (A9.out.on hb)
  clear hb A9
  clear c0 c1 c2 c3 c4 c5 c6 c7 f0 f1 f2 f3 f4 f5 f6 f7
  obtain ⟨⟨c0, c1, c2, c3, c4, c5, c6, c7⟩, f0, f1, f2, f3, f4, f5, f6, f7⟩ := cells8 A10.out.1
  go_wp2_with fail
  with_reducible refine (has_5 ⟨k, u, f, q, s, m, n, t⟩ true _ S5.out A10.out.parts).mono ?_
  rintro e w11 ⟨rfl, hb⟩
  have A11 := hid (A10.out.on hb)
  clear hb A10
  clear c0 c1 c2 c3 c4 c5 c6 c7 f0 f1 f2 f3 f4 f5 f6 f7
  obtain ⟨⟨c0, c1, c2, c3, c4, c5, c6, c7⟩, f0, f1, f2, f3, f4, f5, f6, f7⟩ := cells8 A11.out.1
  go_wp2_with fail
  with_reducible refine (show_any7 tn t _ HTN.out b6 (Laid7.pow (HL.out.below A11.out.below))).mono ?_
  rintro e w12 ⟨r12, rfl, hr12, hb⟩
  have z12 := size_of_L hr12 (dec_len7 b6)
  have R12 := hid hr12
  clear hr12
  have A12 := hid (A11.out.on hb)
  clear hb A11
  clear c0 c1 c2 c3 c4 c5 c6 c7 f0 f1 f2 f3 f4 f5 f6 f7
  obtain ⟨⟨c0, c1, c2, c3, c4, c5, c6, c7⟩, f0, f1, f2, f3, f4, f5, f6, f7⟩ := cells8 A12.out.1
  go_wp2_with fail
  with_reducible refine (word7 ⟨#[116, 105, 109, 101]⟩ r12 _ (by decide) (by omega)).mono ?_
  rintro e w13 ⟨r13, rfl, hr13, hb⟩
  have z13 := word_size (i := 4) (j := 20) (k := 26) hr13 (by decide) z12 rfl
  have R13 := hid hr13
  clear hr13
  have A13 := hid (A12.out.on hb)
  clear hb A12
  clear c0 c1 c2 c3 c4 c5 c6 c7 f0 f1 f2 f3 f4 f5 f6 f7
  obtain ⟨⟨c0, c1, c2, c3, c4, c5, c6, c7⟩, f0, f1, f2, f3, f4, f5, f6, f7⟩ := cells8 A13.out.1
  have G := hid A13.out.below
  go_wp2
  go_ret2
  exact ⟨⟨_, rfl, by rw [E.out]; simp [L_append, L_num, L_foot, L_req, L_path, L_mode, L_n, L_time, NXL.out, RA.out, RB.out, RC.out, R5.out, R4.out, R10.out, R9.out, R13.out, R12.out]⟩, G.out⟩
set_option maxRecDepth 100000 in
set_option maxHeartbeats 4000000 in
theorem showc_2 (k u : Int) (f : ByteArray) (q : Int) (s : ByteArray) (m n t : Int) (w : World) (hL : Laid7 w) (hs : Sig k true true false false false false) (hr : rightK ⟨k, u, f, q, s, m, n, t⟩ = true)
    (hk : 0 ≤ k ∧ k ≤ 8) (hu : 0 ≤ u ∧ u < 18446744073709551616) (hq : 0 ≤ q ∧ q < 18446744073709551616) (hn : 0 ≤ n ∧ n < 18446744073709551616) (hm : 0 ≤ m ∧ m ≤ 2) (ht : 0 ≤ t ∧ t ≤ 1099511627776) (hf : f.size ≤ 64) (hp : s.size ≤ 64) :
    Calls Tryz.prog 22 #[val ⟨k, u, f, q, s, m, n, t⟩] w fun e w' => (∃ r : ByteArray, e = .returned (.tuple #[.string r, .int .i64 0]) ∧ L r = txt ⟨k, u, f, q, s, m, n, t⟩) ∧ Below w.heap.size w w' := by
  obtain ⟨s0, s1, s2, s3, s4, s5⟩ := hs
  have S0 := hid s0
  have S1 := hid s1
  have S2 := hid s2
  have S3 := hid s3
  have S4 := hid s4
  have S5 := hid s5
  have HR := hid hr
  have HL := hid hL
  have A0 := hid (Boxed.start hL.1 ⟨k, u, f, q, s, m, n, t⟩)
  obtain ⟨kn, hkn⟩ : ∃ kn : Nat, k = (kn : Int) := ⟨k.toNat, by omega⟩
  obtain ⟨un, hun⟩ : ∃ kn : Nat, u = (kn : Int) := ⟨u.toNat, by omega⟩
  obtain ⟨qn, hqn⟩ : ∃ kn : Nat, q = (kn : Int) := ⟨q.toNat, by omega⟩
  obtain ⟨mn, hmn⟩ : ∃ kn : Nat, m = (kn : Int) := ⟨m.toNat, by omega⟩
  obtain ⟨nn, hnn⟩ : ∃ kn : Nat, n = (kn : Int) := ⟨n.toNat, by omega⟩
  obtain ⟨tn, htn⟩ : ∃ kn : Nat, t = (kn : Int) := ⟨t.toNat, by omega⟩
  have b1 : kn ≤ 8 := by omega
  have b2 : un < 18446744073709551616 := by omega
  have b3 : qn < 18446744073709551616 := by omega
  have b4 : mn < 18446744073709551616 := by omega
  have b5 : nn < 18446744073709551616 := by omega
  have b6 : tn < 18446744073709551616 := by omega
  have W2 : IntKind.u64.wrap m = m := by rw [IntKind.wrap_u64]; omega
  have W3 : IntKind.u64.wrap t = t := by rw [IntKind.wrap_u64]; omega
  have M2 : m % 18446744073709551616 = m := by omega
  have M3 : t % 18446744073709551616 = t := by omega
  have j1 : (0 : Int) ≤ k := by omega
  have j2 : k < 9 := by omega
  have hf' : f.size ≤ 4611686018427387903 := by omega
  have hp' : s.size ≤ 4611686018427387903 := by omega
  obtain ⟨nx, hnx⟩ : ∃ x, mk (nameL k) = x := ⟨_, rfl⟩
  have NXL : Hid (L nx = nameL k) := hid (by rw [← hnx]; exact L_mk7 _)
  have znx : nx.size ≤ 7 := size_of_L NXL.out (name_len k)
  have hkt : k.toNat = kn := by omega
  have HKN := hid hkn
  have HUN := hid hun
  have HQN := hid hqn
  have HMN := hid hmn
  have HNN := hid hnn
  have HTN := hid htn
  have E : Hid (txt ⟨k, u, f, q, s, m, n, t⟩ = nameL k ++ (wordL nNum (decDigits un) ++ (wordL nFoot (L f) ++ (wordL nReq (decDigits qn))))) := hid (by simp only [txt, t0, t1, t2, t3, t4, t5, s0, s1, s2, s3, s4, s5]; simp [hun, hqn, hmn, hnn, htn, List.append_assoc])
  have NC : Hid (∀ W, Laid7 W → W.cell? ⟨1, kn, none⟩ = some (.string nx)) := hid (fun W h => by rw [names_cell h.2.1 kn b1, ← hkn, hnx])
  clear s0 s1 s2 s3 s4 s5 hr hL hkn hun hqn hmn hnn htn hk hu hq hn hm ht hnx
  go_enter Tryz.func22, Tryz.ntmps22
  go_wp2_with fail
  with_reducible refine (cmdright_any ⟨k, u, f, q, s, m, n, t⟩ _ A0.out.parts hf' hp').mono ?_
  rw [HR.out]
  rintro e w1 ⟨rfl, hb⟩
  have A1 := hid (A0.out.on hb)
  clear hb A0
  have nc := NC.out _ (HL.out.below A1.out.below)
  obtain ⟨⟨c0, c1, c2, c3, c4, c5, c6, c7⟩, f0, f1, f2, f3, f4, f5, f6, f7⟩ := cells8 A1.out.1
  go_wp2_with fail
  with_reducible refine (has_0 ⟨k, u, f, q, s, m, n, t⟩ true _ S0.out A1.out.parts).mono ?_
  rintro e w2 ⟨rfl, hb⟩
  have A2 := hid (A1.out.on hb)
  clear hb A1
  clear c0 c1 c2 c3 c4 c5 c6 c7 f0 f1 f2 f3 f4 f5 f6 f7
  obtain ⟨⟨c0, c1, c2, c3, c4, c5, c6, c7⟩, f0, f1, f2, f3, f4, f5, f6, f7⟩ := cells8 A2.out.1
  clear nc
  go_wp2_with fail
  have D := hid A2.out.drew
  have PD := hid (Laid7.pow (HL.out.below D.out.below))
  have w7a := fun (r : ByteArray) (w : World) (h : r.size ≤ 20) => word7 ⟨#[110, 117, 109]⟩ r w (by decide) (by omega)
  have w7b := fun (w : World) => word7 ⟨#[102, 111, 111, 116]⟩ f w (by decide) (by omega)
  have n3 : (⟨#[110, 117, 109]⟩ : ByteArray).size ≤ 3 := by decide
  have n4 : (⟨#[102, 111, 111, 116]⟩ : ByteArray).size ≤ 4 := by decide
  have le1 : 25 + 70 ≤ 9223372036854775807 := by decide
  have le2 : 7 + (25 + 70) ≤ 9223372036854775807 := by decide
  have W7A := hid w7a
  have W7B := hid w7b
  clear w7a w7b
  go_region_held3 (fun w' => w'.cell? ⟨w.heap.size, 1, none⟩ = some (.int .u64 u) ∧ w'.cell? ⟨w.heap.size, 2, none⟩ = some (.string f))
    (first | exact ⟨(cells8 A2.out.1).1.2.1, (cells8 A2.out.1).1.2.2.1⟩ | exact ⟨(cells8 D.out.1).1.2.1, (cells8 D.out.1).1.2.2.1⟩ | exact ⟨(cells8 D1.out.1).1.2.1, (cells8 D1.out.1).1.2.2.1⟩ | exact ⟨(cells8 D2.out.1).1.2.1, (cells8 D2.out.1).1.2.2.1⟩ | exact ⟨(cells8 D3.out.1).1.2.1, (cells8 D3.out.1).1.2.2.1⟩)
    (first
      | (go_at_call 64; (with_reducible refine (show_any7 un u _ HUN.out b2 PD.out).mono ?_); rintro e wa ⟨ra, rfl, hra, hba⟩; have D1 := hid (D.out.on hba); have za := size_of_L hra (dec_len7 b2))
      | (go_at_call 63; (with_reducible refine (W7A.out ra _ za).mono ?_); rintro e wb ⟨rb, rfl, hrb, hbb⟩; have D2 := hid (D1.out.on hbb); have zb := word_size (k := 25) hrb n3 za rfl)
      | (go_at_call 63; (with_reducible refine (W7B.out _).mono ?_); rintro e wc ⟨rc, rfl, hrc, hbc⟩; have D3 := hid (D2.out.on hbc); have zc := word_size (k := 70) hrc n4 hf rfl; have y1 := Nat.not_lt.2 (Nat.le_trans (Nat.add_le_add zb zc) le1); have y2 := Nat.not_lt.2 (Nat.le_trans (Nat.add_le_add znx (Nat.add_le_add zb zc)) le2)))
  rename_i hHeld
  have RA := hid hra
  have RB := hid hrb
  have RC := hid hrc
  clear hHeld hra hrb hrc hba hbb hbc W7A W7B PD D D1 D2 A2 n3 n4 le1 le2 y1 y2
  clear c0 c1 c2 c3 c4 c5 c6 c7 f0 f1 f2 f3 f4 f5 f6 f7
  obtain ⟨⟨c0, c1, c2, c3, c4, c5, c6, c7⟩, f0, f1, f2, f3, f4, f5, f6, f7⟩ := cells8 D3.out.1
  go_wp2_with fail
  with_reducible refine (has_1 ⟨k, u, f, q, s, m, n, t⟩ true _ S1.out D3.out.parts).mono ?_
  rintro e w3 ⟨rfl, hb⟩
  have A3 := hid (D3.out.on hb)
  clear hb D3
  clear c0 c1 c2 c3 c4 c5 c6 c7 f0 f1 f2 f3 f4 f5 f6 f7
  obtain ⟨⟨c0, c1, c2, c3, c4, c5, c6, c7⟩, f0, f1, f2, f3, f4, f5, f6, f7⟩ := cells8 A3.out.1
  go_wp2_with fail
  with_reducible refine (show_any7 qn q _ HQN.out b3 (Laid7.pow (HL.out.below A3.out.below))).mono ?_
  rintro e w4 ⟨r4, rfl, hr4, hb⟩
  have z4 := size_of_L hr4 (dec_len7 b3)
  have R4 := hid hr4
  clear hr4
  have A4 := hid (A3.out.on hb)
  clear hb A3
  clear c0 c1 c2 c3 c4 c5 c6 c7 f0 f1 f2 f3 f4 f5 f6 f7
  obtain ⟨⟨c0, c1, c2, c3, c4, c5, c6, c7⟩, f0, f1, f2, f3, f4, f5, f6, f7⟩ := cells8 A4.out.1
  go_wp2_with fail
  with_reducible refine (word7 ⟨#[114, 101, 113, 117, 101, 115, 116]⟩ r4 _ (by decide) (by omega)).mono ?_
  rintro e w5 ⟨r5, rfl, hr5, hb⟩
  have z5 := word_size (i := 7) (j := 20) (k := 29) hr5 (by decide) z4 rfl
  have R5 := hid hr5
  clear hr5
  have A5 := hid (A4.out.on hb)
  clear hb A4
  clear c0 c1 c2 c3 c4 c5 c6 c7 f0 f1 f2 f3 f4 f5 f6 f7
  obtain ⟨⟨c0, c1, c2, c3, c4, c5, c6, c7⟩, f0, f1, f2, f3, f4, f5, f6, f7⟩ := cells8 A5.out.1
  go_wp2_with fail
  with_reducible refine (has_2 ⟨k, u, f, q, s, m, n, t⟩ false _ S2.out A5.out.parts).mono ?_
  rintro e w6 ⟨rfl, hb⟩
  have A6 := hid (A5.out.on hb)
  clear hb A5
  clear c0 c1 c2 c3 c4 c5 c6 c7 f0 f1 f2 f3 f4 f5 f6 f7
  obtain ⟨⟨c0, c1, c2, c3, c4, c5, c6, c7⟩, f0, f1, f2, f3, f4, f5, f6, f7⟩ := cells8 A6.out.1
  go_wp2_with fail
  with_reducible refine (has_3 ⟨k, u, f, q, s, m, n, t⟩ false _ S3.out A6.out.parts).mono ?_
  rintro e w7 ⟨rfl, hb⟩
  have A7 := hid (A6.out.on hb)
  clear hb A6
  clear c0 c1 c2 c3 c4 c5 c6 c7 f0 f1 f2 f3 f4 f5 f6 f7
  obtain ⟨⟨c0, c1, c2, c3, c4, c5, c6, c7⟩, f0, f1, f2, f3, f4, f5, f6, f7⟩ := cells8 A7.out.1
  go_wp2_with fail
  with_reducible refine (has_4 ⟨k, u, f, q, s, m, n, t⟩ false _ S4.out A7.out.parts).mono ?_
  rintro e w8 ⟨rfl, hb⟩
  have A8 := hid (A7.out.on hb)
  clear hb A7
  clear c0 c1 c2 c3 c4 c5 c6 c7 f0 f1 f2 f3 f4 f5 f6 f7
  obtain ⟨⟨c0, c1, c2, c3, c4, c5, c6, c7⟩, f0, f1, f2, f3, f4, f5, f6, f7⟩ := cells8 A8.out.1
  go_wp2_with fail
  with_reducible refine (has_5 ⟨k, u, f, q, s, m, n, t⟩ false _ S5.out A8.out.parts).mono ?_
  rintro e w9 ⟨rfl, hb⟩
  have A9 := hid (A8.out.on hb)
  clear hb A8
  clear c0 c1 c2 c3 c4 c5 c6 c7 f0 f1 f2 f3 f4 f5 f6 f7
  obtain ⟨⟨c0, c1, c2, c3, c4, c5, c6, c7⟩, f0, f1, f2, f3, f4, f5, f6, f7⟩ := cells8 A9.out.1
  have G := hid A9.out.below
  go_wp2
  go_ret2
  exact ⟨⟨_, rfl, by rw [E.out]; simp [L_append, L_num, L_foot, L_req, L_path, L_mode, L_n, L_time, NXL.out, RA.out, RB.out, RC.out, R5.out, R4.out]⟩, G.out⟩
set_option maxRecDepth 100000 in
set_option maxHeartbeats 4000000 in
theorem showc_3 (k u : Int) (f : ByteArray) (q : Int) (s : ByteArray) (m n t : Int) (w : World) (hL : Laid7 w) (hs : Sig k true true false false false true) (hr : rightK ⟨k, u, f, q, s, m, n, t⟩ = true)
    (hk : 0 ≤ k ∧ k ≤ 8) (hu : 0 ≤ u ∧ u < 18446744073709551616) (hq : 0 ≤ q ∧ q < 18446744073709551616) (hn : 0 ≤ n ∧ n < 18446744073709551616) (hm : 0 ≤ m ∧ m ≤ 2) (ht : 0 ≤ t ∧ t ≤ 1099511627776) (hf : f.size ≤ 64) (hp : s.size ≤ 64) :
    Calls Tryz.prog 22 #[val ⟨k, u, f, q, s, m, n, t⟩] w fun e w' => (∃ r : ByteArray, e = .returned (.tuple #[.string r, .int .i64 0]) ∧ L r = txt ⟨k, u, f, q, s, m, n, t⟩) ∧ Below w.heap.size w w' := by
  obtain ⟨s0, s1, s2, s3, s4, s5⟩ := hs
  have S0 := hid s0
  have S1 := hid s1
  have S2 := hid s2
  have S3 := hid s3
  have S4 := hid s4
  have S5 := hid s5
  have HR := hid hr
  have HL := hid hL
  have A0 := hid (Boxed.start hL.1 ⟨k, u, f, q, s, m, n, t⟩)
  obtain ⟨kn, hkn⟩ : ∃ kn : Nat, k = (kn : Int) := ⟨k.toNat, by omega⟩
  obtain ⟨un, hun⟩ : ∃ kn : Nat, u = (kn : Int) := ⟨u.toNat, by omega⟩
  obtain ⟨qn, hqn⟩ : ∃ kn : Nat, q = (kn : Int) := ⟨q.toNat, by omega⟩
  obtain ⟨mn, hmn⟩ : ∃ kn : Nat, m = (kn : Int) := ⟨m.toNat, by omega⟩
  obtain ⟨nn, hnn⟩ : ∃ kn : Nat, n = (kn : Int) := ⟨n.toNat, by omega⟩
  obtain ⟨tn, htn⟩ : ∃ kn : Nat, t = (kn : Int) := ⟨t.toNat, by omega⟩
  have b1 : kn ≤ 8 := by omega
  have b2 : un < 18446744073709551616 := by omega
  have b3 : qn < 18446744073709551616 := by omega
  have b4 : mn < 18446744073709551616 := by omega
  have b5 : nn < 18446744073709551616 := by omega
  have b6 : tn < 18446744073709551616 := by omega
  have W2 : IntKind.u64.wrap m = m := by rw [IntKind.wrap_u64]; omega
  have W3 : IntKind.u64.wrap t = t := by rw [IntKind.wrap_u64]; omega
  have M2 : m % 18446744073709551616 = m := by omega
  have M3 : t % 18446744073709551616 = t := by omega
  have j1 : (0 : Int) ≤ k := by omega
  have j2 : k < 9 := by omega
  have hf' : f.size ≤ 4611686018427387903 := by omega
  have hp' : s.size ≤ 4611686018427387903 := by omega
  obtain ⟨nx, hnx⟩ : ∃ x, mk (nameL k) = x := ⟨_, rfl⟩
  have NXL : Hid (L nx = nameL k) := hid (by rw [← hnx]; exact L_mk7 _)
  have znx : nx.size ≤ 7 := size_of_L NXL.out (name_len k)
  have hkt : k.toNat = kn := by omega
  have HKN := hid hkn
  have HUN := hid hun
  have HQN := hid hqn
  have HMN := hid hmn
  have HNN := hid hnn
  have HTN := hid htn
  have E : Hid (txt ⟨k, u, f, q, s, m, n, t⟩ = nameL k ++ (wordL nNum (decDigits un) ++ (wordL nFoot (L f) ++ (wordL nReq (decDigits qn) ++ (wordL nTime (decDigits tn)))))) := hid (by simp only [txt, t0, t1, t2, t3, t4, t5, s0, s1, s2, s3, s4, s5]; simp [hun, hqn, hmn, hnn, htn, List.append_assoc])
  have NC : Hid (∀ W, Laid7 W → W.cell? ⟨1, kn, none⟩ = some (.string nx)) := hid (fun W h => by rw [names_cell h.2.1 kn b1, ← hkn, hnx])
  clear s0 s1 s2 s3 s4 s5 hr hL hkn hun hqn hmn hnn htn hk hu hq hn hm ht hnx
  go_enter Tryz.func22, Tryz.ntmps22
  go_wp2_with fail
  with_reducible refine (cmdright_any ⟨k, u, f, q, s, m, n, t⟩ _ A0.out.parts hf' hp').mono ?_
  rw [HR.out]
  rintro e w1 ⟨rfl, hb⟩
  have A1 := hid (A0.out.on hb)
  clear hb A0
  have nc := NC.out _ (HL.out.below A1.out.below)
  obtain ⟨⟨c0, c1, c2, c3, c4, c5, c6, c7⟩, f0, f1, f2, f3, f4, f5, f6, f7⟩ := cells8 A1.out.1
  go_wp2_with fail
  with_reducible refine (has_0 ⟨k, u, f, q, s, m, n, t⟩ true _ S0.out A1.out.parts).mono ?_
  rintro e w2 ⟨rfl, hb⟩
  have A2 := hid (A1.out.on hb)
  clear hb A1
  clear c0 c1 c2 c3 c4 c5 c6 c7 f0 f1 f2 f3 f4 f5 f6 f7
  obtain ⟨⟨c0, c1, c2, c3, c4, c5, c6, c7⟩, f0, f1, f2, f3, f4, f5, f6, f7⟩ := cells8 A2.out.1
  clear nc
  go_wp2_with fail
  have D := hid A2.out.drew
  have PD := hid (Laid7.pow (HL.out.below D.out.below))
  have w7a := fun (r : ByteArray) (w : World) (h : r.size ≤ 20) => word7 ⟨#[110, 117, 109]⟩ r w (by decide) (by omega)
  have w7b := fun (w : World) => word7 ⟨#[102, 111, 111, 116]⟩ f w (by decide) (by omega)
  have n3 : (⟨#[110, 117, 109]⟩ : ByteArray).size ≤ 3 := by decide
  have n4 : (⟨#[102, 111, 111, 116]⟩ : ByteArray).size ≤ 4 := by decide
  have le1 : 25 + 70 ≤ 9223372036854775807 := by decide
  have le2 : 7 + (25 + 70) ≤ 9223372036854775807 := by decide
  have W7A := hid w7a
  have W7B := hid w7b
  clear w7a w7b
  go_region_held3 (fun w' => w'.cell? ⟨w.heap.size, 1, none⟩ = some (.int .u64 u) ∧ w'.cell? ⟨w.heap.size, 2, none⟩ = some (.string f))
    (first | exact ⟨(cells8 A2.out.1).1.2.1, (cells8 A2.out.1).1.2.2.1⟩ | exact ⟨(cells8 D.out.1).1.2.1, (cells8 D.out.1).1.2.2.1⟩ | exact ⟨(cells8 D1.out.1).1.2.1, (cells8 D1.out.1).1.2.2.1⟩ | exact ⟨(cells8 D2.out.1).1.2.1, (cells8 D2.out.1).1.2.2.1⟩ | exact ⟨(cells8 D3.out.1).1.2.1, (cells8 D3.out.1).1.2.2.1⟩)
    (first
      | (go_at_call 64; (with_reducible refine (show_any7 un u _ HUN.out b2 PD.out).mono ?_); rintro e wa ⟨ra, rfl, hra, hba⟩; have D1 := hid (D.out.on hba); have za := size_of_L hra (dec_len7 b2))
      | (go_at_call 63; (with_reducible refine (W7A.out ra _ za).mono ?_); rintro e wb ⟨rb, rfl, hrb, hbb⟩; have D2 := hid (D1.out.on hbb); have zb := word_size (k := 25) hrb n3 za rfl)
      | (go_at_call 63; (with_reducible refine (W7B.out _).mono ?_); rintro e wc ⟨rc, rfl, hrc, hbc⟩; have D3 := hid (D2.out.on hbc); have zc := word_size (k := 70) hrc n4 hf rfl; have y1 := Nat.not_lt.2 (Nat.le_trans (Nat.add_le_add zb zc) le1); have y2 := Nat.not_lt.2 (Nat.le_trans (Nat.add_le_add znx (Nat.add_le_add zb zc)) le2)))
  rename_i hHeld
  have RA := hid hra
  have RB := hid hrb
  have RC := hid hrc
  clear hHeld hra hrb hrc hba hbb hbc W7A W7B PD D D1 D2 A2 n3 n4 le1 le2 y1 y2
  clear c0 c1 c2 c3 c4 c5 c6 c7 f0 f1 f2 f3 f4 f5 f6 f7
  obtain ⟨⟨c0, c1, c2, c3, c4, c5, c6, c7⟩, f0, f1, f2, f3, f4, f5, f6, f7⟩ := cells8 D3.out.1
  go_wp2_with fail
  with_reducible refine (has_1 ⟨k, u, f, q, s, m, n, t⟩ true _ S1.out D3.out.parts).mono ?_
  rintro e w3 ⟨rfl, hb⟩
  have A3 := hid (D3.out.on hb)
  clear hb D3
  clear c0 c1 c2 c3 c4 c5 c6 c7 f0 f1 f2 f3 f4 f5 f6 f7
  obtain ⟨⟨c0, c1, c2, c3, c4, c5, c6, c7⟩, f0, f1, f2, f3, f4, f5, f6, f7⟩ := cells8 A3.out.1
  go_wp2_with fail
  with_reducible refine (show_any7 qn q _ HQN.out b3 (Laid7.pow (HL.out.below A3.out.below))).mono ?_
  rintro e w4 ⟨r4, rfl, hr4, hb⟩
  have z4 := size_of_L hr4 (dec_len7 b3)
  have R4 := hid hr4
  clear hr4
  have A4 := hid (A3.out.on hb)
  clear hb A3
  clear c0 c1 c2 c3 c4 c5 c6 c7 f0 f1 f2 f3 f4 f5 f6 f7
  obtain ⟨⟨c0, c1, c2, c3, c4, c5, c6, c7⟩, f0, f1, f2, f3, f4, f5, f6, f7⟩ := cells8 A4.out.1
  go_wp2_with fail
  with_reducible refine (word7 ⟨#[114, 101, 113, 117, 101, 115, 116]⟩ r4 _ (by decide) (by omega)).mono ?_
  rintro e w5 ⟨r5, rfl, hr5, hb⟩
  have z5 := word_size (i := 7) (j := 20) (k := 29) hr5 (by decide) z4 rfl
  have R5 := hid hr5
  clear hr5
  have A5 := hid (A4.out.on hb)
  clear hb A4
  clear c0 c1 c2 c3 c4 c5 c6 c7 f0 f1 f2 f3 f4 f5 f6 f7
  obtain ⟨⟨c0, c1, c2, c3, c4, c5, c6, c7⟩, f0, f1, f2, f3, f4, f5, f6, f7⟩ := cells8 A5.out.1
  go_wp2_with fail
  with_reducible refine (has_2 ⟨k, u, f, q, s, m, n, t⟩ false _ S2.out A5.out.parts).mono ?_
  rintro e w6 ⟨rfl, hb⟩
  have A6 := hid (A5.out.on hb)
  clear hb A5
  clear c0 c1 c2 c3 c4 c5 c6 c7 f0 f1 f2 f3 f4 f5 f6 f7
  obtain ⟨⟨c0, c1, c2, c3, c4, c5, c6, c7⟩, f0, f1, f2, f3, f4, f5, f6, f7⟩ := cells8 A6.out.1
  go_wp2_with fail
  with_reducible refine (has_3 ⟨k, u, f, q, s, m, n, t⟩ false _ S3.out A6.out.parts).mono ?_
  rintro e w7 ⟨rfl, hb⟩
  have A7 := hid (A6.out.on hb)
  clear hb A6
  clear c0 c1 c2 c3 c4 c5 c6 c7 f0 f1 f2 f3 f4 f5 f6 f7
  obtain ⟨⟨c0, c1, c2, c3, c4, c5, c6, c7⟩, f0, f1, f2, f3, f4, f5, f6, f7⟩ := cells8 A7.out.1
  go_wp2_with fail
  with_reducible refine (has_4 ⟨k, u, f, q, s, m, n, t⟩ false _ S4.out A7.out.parts).mono ?_
  rintro e w8 ⟨rfl, hb⟩
  have A8 := hid (A7.out.on hb)
  clear hb A7
  clear c0 c1 c2 c3 c4 c5 c6 c7 f0 f1 f2 f3 f4 f5 f6 f7
  obtain ⟨⟨c0, c1, c2, c3, c4, c5, c6, c7⟩, f0, f1, f2, f3, f4, f5, f6, f7⟩ := cells8 A8.out.1
  go_wp2_with fail
  with_reducible refine (has_5 ⟨k, u, f, q, s, m, n, t⟩ true _ S5.out A8.out.parts).mono ?_
  rintro e w9 ⟨rfl, hb⟩
  have A9 := hid (A8.out.on hb)
  clear hb A8
  clear c0 c1 c2 c3 c4 c5 c6 c7 f0 f1 f2 f3 f4 f5 f6 f7
  obtain ⟨⟨c0, c1, c2, c3, c4, c5, c6, c7⟩, f0, f1, f2, f3, f4, f5, f6, f7⟩ := cells8 A9.out.1
  go_wp2_with fail
  with_reducible refine (show_any7 tn t _ HTN.out b6 (Laid7.pow (HL.out.below A9.out.below))).mono ?_
  rintro e w10 ⟨r10, rfl, hr10, hb⟩
  have z10 := size_of_L hr10 (dec_len7 b6)
  have R10 := hid hr10
  clear hr10
  have A10 := hid (A9.out.on hb)
  clear hb A9
  clear c0 c1 c2 c3 c4 c5 c6 c7 f0 f1 f2 f3 f4 f5 f6 f7
  obtain ⟨⟨c0, c1, c2, c3, c4, c5, c6, c7⟩, f0, f1, f2, f3, f4, f5, f6, f7⟩ := cells8 A10.out.1
  go_wp2_with fail
  with_reducible refine (word7 ⟨#[116, 105, 109, 101]⟩ r10 _ (by decide) (by omega)).mono ?_
  rintro e w11 ⟨r11, rfl, hr11, hb⟩
  have z11 := word_size (i := 4) (j := 20) (k := 26) hr11 (by decide) z10 rfl
  have R11 := hid hr11
  clear hr11
  have A11 := hid (A10.out.on hb)
  clear hb A10
  clear c0 c1 c2 c3 c4 c5 c6 c7 f0 f1 f2 f3 f4 f5 f6 f7
  obtain ⟨⟨c0, c1, c2, c3, c4, c5, c6, c7⟩, f0, f1, f2, f3, f4, f5, f6, f7⟩ := cells8 A11.out.1
  have G := hid A11.out.below
  go_wp2
  go_ret2
  exact ⟨⟨_, rfl, by rw [E.out]; simp [L_append, L_num, L_foot, L_req, L_path, L_mode, L_n, L_time, NXL.out, RA.out, RB.out, RC.out, R5.out, R4.out, R11.out, R10.out]⟩, G.out⟩
set_option maxRecDepth 100000 in
set_option maxHeartbeats 4000000 in
theorem showc_4 (k u : Int) (f : ByteArray) (q : Int) (s : ByteArray) (m n t : Int) (w : World) (hL : Laid7 w) (hs : Sig k true true true true false false) (hr : rightK ⟨k, u, f, q, s, m, n, t⟩ = true)
    (hk : 0 ≤ k ∧ k ≤ 8) (hu : 0 ≤ u ∧ u < 18446744073709551616) (hq : 0 ≤ q ∧ q < 18446744073709551616) (hn : 0 ≤ n ∧ n < 18446744073709551616) (hm : 0 ≤ m ∧ m ≤ 2) (ht : 0 ≤ t ∧ t ≤ 1099511627776) (hf : f.size ≤ 64) (hp : s.size ≤ 64) :
    Calls Tryz.prog 22 #[val ⟨k, u, f, q, s, m, n, t⟩] w fun e w' => (∃ r : ByteArray, e = .returned (.tuple #[.string r, .int .i64 0]) ∧ L r = txt ⟨k, u, f, q, s, m, n, t⟩) ∧ Below w.heap.size w w' := by
  obtain ⟨s0, s1, s2, s3, s4, s5⟩ := hs
  have S0 := hid s0
  have S1 := hid s1
  have S2 := hid s2
  have S3 := hid s3
  have S4 := hid s4
  have S5 := hid s5
  have HR := hid hr
  have HL := hid hL
  have A0 := hid (Boxed.start hL.1 ⟨k, u, f, q, s, m, n, t⟩)
  obtain ⟨kn, hkn⟩ : ∃ kn : Nat, k = (kn : Int) := ⟨k.toNat, by omega⟩
  obtain ⟨un, hun⟩ : ∃ kn : Nat, u = (kn : Int) := ⟨u.toNat, by omega⟩
  obtain ⟨qn, hqn⟩ : ∃ kn : Nat, q = (kn : Int) := ⟨q.toNat, by omega⟩
  obtain ⟨mn, hmn⟩ : ∃ kn : Nat, m = (kn : Int) := ⟨m.toNat, by omega⟩
  obtain ⟨nn, hnn⟩ : ∃ kn : Nat, n = (kn : Int) := ⟨n.toNat, by omega⟩
  obtain ⟨tn, htn⟩ : ∃ kn : Nat, t = (kn : Int) := ⟨t.toNat, by omega⟩
  have b1 : kn ≤ 8 := by omega
  have b2 : un < 18446744073709551616 := by omega
  have b3 : qn < 18446744073709551616 := by omega
  have b4 : mn < 18446744073709551616 := by omega
  have b5 : nn < 18446744073709551616 := by omega
  have b6 : tn < 18446744073709551616 := by omega
  have W2 : IntKind.u64.wrap m = m := by rw [IntKind.wrap_u64]; omega
  have W3 : IntKind.u64.wrap t = t := by rw [IntKind.wrap_u64]; omega
  have M2 : m % 18446744073709551616 = m := by omega
  have M3 : t % 18446744073709551616 = t := by omega
  have j1 : (0 : Int) ≤ k := by omega
  have j2 : k < 9 := by omega
  have hf' : f.size ≤ 4611686018427387903 := by omega
  have hp' : s.size ≤ 4611686018427387903 := by omega
  obtain ⟨nx, hnx⟩ : ∃ x, mk (nameL k) = x := ⟨_, rfl⟩
  have NXL : Hid (L nx = nameL k) := hid (by rw [← hnx]; exact L_mk7 _)
  have znx : nx.size ≤ 7 := size_of_L NXL.out (name_len k)
  have hkt : k.toNat = kn := by omega
  have HKN := hid hkn
  have HUN := hid hun
  have HQN := hid hqn
  have HMN := hid hmn
  have HNN := hid hnn
  have HTN := hid htn
  have E : Hid (txt ⟨k, u, f, q, s, m, n, t⟩ = nameL k ++ (wordL nNum (decDigits un) ++ (wordL nFoot (L f) ++ (wordL nReq (decDigits qn) ++ (wordL nPath (L s) ++ (wordL nMode (decDigits mn))))))) := hid (by simp only [txt, t0, t1, t2, t3, t4, t5, s0, s1, s2, s3, s4, s5]; simp [hun, hqn, hmn, hnn, htn, List.append_assoc])
  have NC : Hid (∀ W, Laid7 W → W.cell? ⟨1, kn, none⟩ = some (.string nx)) := hid (fun W h => by rw [names_cell h.2.1 kn b1, ← hkn, hnx])
  clear s0 s1 s2 s3 s4 s5 hr hL hkn hun hqn hmn hnn htn hk hu hq hn hm ht hnx
  go_enter Tryz.func22, Tryz.ntmps22
  go_wp2_with fail
  with_reducible refine (cmdright_any ⟨k, u, f, q, s, m, n, t⟩ _ A0.out.parts hf' hp').mono ?_
  rw [HR.out]
  rintro e w1 ⟨rfl, hb⟩
  have A1 := hid (A0.out.on hb)
  clear hb A0
  have nc := NC.out _ (HL.out.below A1.out.below)
  obtain ⟨⟨c0, c1, c2, c3, c4, c5, c6, c7⟩, f0, f1, f2, f3, f4, f5, f6, f7⟩ := cells8 A1.out.1
  go_wp2_with fail
  with_reducible refine (has_0 ⟨k, u, f, q, s, m, n, t⟩ true _ S0.out A1.out.parts).mono ?_
  rintro e w2 ⟨rfl, hb⟩
  have A2 := hid (A1.out.on hb)
  clear hb A1
  clear c0 c1 c2 c3 c4 c5 c6 c7 f0 f1 f2 f3 f4 f5 f6 f7
  obtain ⟨⟨c0, c1, c2, c3, c4, c5, c6, c7⟩, f0, f1, f2, f3, f4, f5, f6, f7⟩ := cells8 A2.out.1
  clear nc
  go_wp2_with fail
  have D := hid A2.out.drew
  have PD := hid (Laid7.pow (HL.out.below D.out.below))
  have w7a := fun (r : ByteArray) (w : World) (h : r.size ≤ 20) => word7 ⟨#[110, 117, 109]⟩ r w (by decide) (by omega)
  have w7b := fun (w : World) => word7 ⟨#[102, 111, 111, 116]⟩ f w (by decide) (by omega)
  have n3 : (⟨#[110, 117, 109]⟩ : ByteArray).size ≤ 3 := by decide
  have n4 : (⟨#[102, 111, 111, 116]⟩ : ByteArray).size ≤ 4 := by decide
  have le1 : 25 + 70 ≤ 9223372036854775807 := by decide
  have le2 : 7 + (25 + 70) ≤ 9223372036854775807 := by decide
  have W7A := hid w7a
  have W7B := hid w7b
  clear w7a w7b
  go_region_held3 (fun w' => w'.cell? ⟨w.heap.size, 1, none⟩ = some (.int .u64 u) ∧ w'.cell? ⟨w.heap.size, 2, none⟩ = some (.string f))
    (first | exact ⟨(cells8 A2.out.1).1.2.1, (cells8 A2.out.1).1.2.2.1⟩ | exact ⟨(cells8 D.out.1).1.2.1, (cells8 D.out.1).1.2.2.1⟩ | exact ⟨(cells8 D1.out.1).1.2.1, (cells8 D1.out.1).1.2.2.1⟩ | exact ⟨(cells8 D2.out.1).1.2.1, (cells8 D2.out.1).1.2.2.1⟩ | exact ⟨(cells8 D3.out.1).1.2.1, (cells8 D3.out.1).1.2.2.1⟩)
    (first
      | (go_at_call 64; (with_reducible refine (show_any7 un u _ HUN.out b2 PD.out).mono ?_); rintro e wa ⟨ra, rfl, hra, hba⟩; have D1 := hid (D.out.on hba); have za := size_of_L hra (dec_len7 b2))
      | (go_at_call 63; (with_reducible refine (W7A.out ra _ za).mono ?_); rintro e wb ⟨rb, rfl, hrb, hbb⟩; have D2 := hid (D1.out.on hbb); have zb := word_size (k := 25) hrb n3 za rfl)
      | (go_at_call 63; (with_reducible refine (W7B.out _).mono ?_); rintro e wc ⟨rc, rfl, hrc, hbc⟩; have D3 := hid (D2.out.on hbc); have zc := word_size (k := 70) hrc n4 hf rfl; have y1 := Nat.not_lt.2 (Nat.le_trans (Nat.add_le_add zb zc) le1); have y2 := Nat.not_lt.2 (Nat.le_trans (Nat.add_le_add znx (Nat.add_le_add zb zc)) le2)))
  rename_i hHeld
  have RA := hid hra
  have RB := hid hrb
  have RC := hid hrc
  clear hHeld hra hrb hrc hba hbb hbc W7A W7B PD D D1 D2 A2 n3 n4 le1 le2 y1 y2
  clear c0 c1 c2 c3 c4 c5 c6 c7 f0 f1 f2 f3 f4 f5 f6 f7
  obtain ⟨⟨c0, c1, c2, c3, c4, c5, c6, c7⟩, f0, f1, f2, f3, f4, f5, f6, f7⟩ := cells8 D3.out.1
  go_wp2_with fail
  with_reducible refine (has_1 ⟨k, u, f, q, s, m, n, t⟩ true _ S1.out D3.out.parts).mono ?_
  rintro e w3 ⟨rfl, hb⟩
  have A3 := hid (D3.out.on hb)
  clear hb D3
  clear c0 c1 c2 c3 c4 c5 c6 c7 f0 f1 f2 f3 f4 f5 f6 f7
  obtain ⟨⟨c0, c1, c2, c3, c4, c5, c6, c7⟩, f0, f1, f2, f3, f4, f5, f6, f7⟩ := cells8 A3.out.1
  go_wp2_with fail
  with_reducible refine (show_any7 qn q _ HQN.out b3 (Laid7.pow (HL.out.below A3.out.below))).mono ?_
  rintro e w4 ⟨r4, rfl, hr4, hb⟩
  have z4 := size_of_L hr4 (dec_len7 b3)
  have R4 := hid hr4
  clear hr4
  have A4 := hid (A3.out.on hb)
  clear hb A3
  clear c0 c1 c2 c3 c4 c5 c6 c7 f0 f1 f2 f3 f4 f5 f6 f7
  obtain ⟨⟨c0, c1, c2, c3, c4, c5, c6, c7⟩, f0, f1, f2, f3, f4, f5, f6, f7⟩ := cells8 A4.out.1
  go_wp2_with fail
  with_reducible refine (word7 ⟨#[114, 101, 113, 117, 101, 115, 116]⟩ r4 _ (by decide) (by omega)).mono ?_
  rintro e w5 ⟨r5, rfl, hr5, hb⟩
  have z5 := word_size (i := 7) (j := 20) (k := 29) hr5 (by decide) z4 rfl
  have R5 := hid hr5
  clear hr5
  have A5 := hid (A4.out.on hb)
  clear hb A4
  clear c0 c1 c2 c3 c4 c5 c6 c7 f0 f1 f2 f3 f4 f5 f6 f7
  obtain ⟨⟨c0, c1, c2, c3, c4, c5, c6, c7⟩, f0, f1, f2, f3, f4, f5, f6, f7⟩ := cells8 A5.out.1
  go_wp2_with fail
  with_reducible refine (has_2 ⟨k, u, f, q, s, m, n, t⟩ true _ S2.out A5.out.parts).mono ?_
  rintro e w6 ⟨rfl, hb⟩
  have A6 := hid (A5.out.on hb)
  clear hb A5
  clear c0 c1 c2 c3 c4 c5 c6 c7 f0 f1 f2 f3 f4 f5 f6 f7
  obtain ⟨⟨c0, c1, c2, c3, c4, c5, c6, c7⟩, f0, f1, f2, f3, f4, f5, f6, f7⟩ := cells8 A6.out.1
  go_wp2_with fail
  with_reducible refine (word7 ⟨#[112, 97, 116, 104]⟩ s _ (by decide) (by omega)).mono ?_
  rintro e w7 ⟨r7, rfl, hr7, hb⟩
  have z7 := word_size (i := 4) (j := 64) (k := 70) hr7 (by decide) hp rfl
  have R7 := hid hr7
  clear hr7
  have A7 := hid (A6.out.on hb)
  clear hb A6
  clear c0 c1 c2 c3 c4 c5 c6 c7 f0 f1 f2 f3 f4 f5 f6 f7
  obtain ⟨⟨c0, c1, c2, c3, c4, c5, c6, c7⟩, f0, f1, f2, f3, f4, f5, f6, f7⟩ := cells8 A7.out.1
  go_wp2_with fail
  with_reducible refine (has_3 ⟨k, u, f, q, s, m, n, t⟩ true _ S3.out A7.out.parts).mono ?_
  rintro e w8 ⟨rfl, hb⟩
  have A8 := hid (A7.out.on hb)
  clear hb A7
  clear c0 c1 c2 c3 c4 c5 c6 c7 f0 f1 f2 f3 f4 f5 f6 f7
  obtain ⟨⟨c0, c1, c2, c3, c4, c5, c6, c7⟩, f0, f1, f2, f3, f4, f5, f6, f7⟩ := cells8 A8.out.1
  go_wp2_with fail
  with_reducible refine (show_any7 mn m _ HMN.out b4 (Laid7.pow (HL.out.below A8.out.below))).mono ?_
  rintro e w9 ⟨r9, rfl, hr9, hb⟩
  have z9 := size_of_L hr9 (dec_len7 b4)
  have R9 := hid hr9
  clear hr9
  have A9 := hid (A8.out.on hb)
  clear hb A8
  clear c0 c1 c2 c3 c4 c5 c6 c7 f0 f1 f2 f3 f4 f5 f6 f7
  obtain ⟨⟨c0, c1, c2, c3, c4, c5, c6, c7⟩, f0, f1, f2, f3, f4, f5, f6, f7⟩ := cells8 A9.out.1
  go_wp2_with fail
  with_reducible refine (word7 ⟨#[109, 111, 100, 101]⟩ r9 _ (by decide) (by omega)).mono ?_
  rintro e w10 ⟨r10, rfl, hr10, hb⟩
  have z10 := word_size (i := 4) (j := 20) (k := 26) hr10 (by decide) z9 rfl
  have R10 := hid hr10
  clear hr10
  have A10 := hid (A9.out.on hb)
  clear hb A9
  clear c0 c1 c2 c3 c4 c5 c6 c7 f0 f1 f2 f3 f4 f5 f6 f7
  obtain ⟨⟨c0, c1, c2, c3, c4, c5, c6, c7⟩, f0, f1, f2, f3, f4, f5, f6, f7⟩ := cells8 A10.out.1
  go_wp2_with fail
  with_reducible refine (has_4 ⟨k, u, f, q, s, m, n, t⟩ false _ S4.out A10.out.parts).mono ?_
  rintro e w11 ⟨rfl, hb⟩
  have A11 := hid (A10.out.on hb)
  clear hb A10
  clear c0 c1 c2 c3 c4 c5 c6 c7 f0 f1 f2 f3 f4 f5 f6 f7
  obtain ⟨⟨c0, c1, c2, c3, c4, c5, c6, c7⟩, f0, f1, f2, f3, f4, f5, f6, f7⟩ := cells8 A11.out.1
  go_wp2_with fail
  with_reducible refine (has_5 ⟨k, u, f, q, s, m, n, t⟩ false _ S5.out A11.out.parts).mono ?_
  rintro e w12 ⟨rfl, hb⟩
  have A12 := hid (A11.out.on hb)
  clear hb A11
  clear c0 c1 c2 c3 c4 c5 c6 c7 f0 f1 f2 f3 f4 f5 f6 f7
  obtain ⟨⟨c0, c1, c2, c3, c4, c5, c6, c7⟩, f0, f1, f2, f3, f4, f5, f6, f7⟩ := cells8 A12.out.1
  have G := hid A12.out.below
  go_wp2
  go_ret2
  exact ⟨⟨_, rfl, by rw [E.out]; simp [L_append, L_num, L_foot, L_req, L_path, L_mode, L_n, L_time, NXL.out, RA.out, RB.out, RC.out, R5.out, R4.out, R7.out, R10.out, R9.out]⟩, G.out⟩
set_option maxRecDepth 100000 in
set_option maxHeartbeats 4000000 in
theorem showc_6 (k u : Int) (f : ByteArray) (q : Int) (s : ByteArray) (m n t : Int) (w : World) (hL : Laid7 w) (hs : Sig k true true true false false false) (hr : rightK ⟨k, u, f, q, s, m, n, t⟩ = true)
    (hk : 0 ≤ k ∧ k ≤ 8) (hu : 0 ≤ u ∧ u < 18446744073709551616) (hq : 0 ≤ q ∧ q < 18446744073709551616) (hn : 0 ≤ n ∧ n < 18446744073709551616) (hm : 0 ≤ m ∧ m ≤ 2) (ht : 0 ≤ t ∧ t ≤ 1099511627776) (hf : f.size ≤ 64) (hp : s.size ≤ 64) :
    Calls Tryz.prog 22 #[val ⟨k, u, f, q, s, m, n, t⟩] w fun e w' => (∃ r : ByteArray, e = .returned (.tuple #[.string r, .int .i64 0]) ∧ L r = txt ⟨k, u, f, q, s, m, n, t⟩) ∧ Below w.heap.size w w' := by
  obtain ⟨s0, s1, s2, s3, s4, s5⟩ := hs
  have S0 := hid s0
  have S1 := hid s1
  have S2 := hid s2
  have S3 := hid s3
  have S4 := hid s4
  have S5 := hid s5
  have HR := hid hr
  have HL := hid hL
  have A0 := hid (Boxed.start hL.1 ⟨k, u, f, q, s, m, n, t⟩)
  obtain ⟨kn, hkn⟩ : ∃ kn : Nat, k = (kn : Int) := ⟨k.toNat, by omega⟩
  obtain ⟨un, hun⟩ : ∃ kn : Nat, u = (kn : Int) := ⟨u.toNat, by omega⟩
  obtain ⟨qn, hqn⟩ : ∃ kn : Nat, q = (kn : Int) := ⟨q.toNat, by omega⟩
  obtain ⟨mn, hmn⟩ : ∃ kn : Nat, m = (kn : Int) := ⟨m.toNat, by omega⟩
  obtain ⟨nn, hnn⟩ : ∃ kn : Nat, n = (kn : Int) := ⟨n.toNat, by omega⟩
  obtain ⟨tn, htn⟩ : ∃ kn : Nat, t = (kn : Int) := ⟨t.toNat, by omega⟩
  have b1 : kn ≤ 8 := by omega
  have b2 : un < 18446744073709551616 := by omega
  have b3 : qn < 18446744073709551616 := by omega
  have b4 : mn < 18446744073709551616 := by omega
  have b5 : nn < 18446744073709551616 := by omega
  have b6 : tn < 18446744073709551616 := by omega
  have W2 : IntKind.u64.wrap m = m := by rw [IntKind.wrap_u64]; omega
  have W3 : IntKind.u64.wrap t = t := by rw [IntKind.wrap_u64]; omega
  have M2 : m % 18446744073709551616 = m := by omega
  have M3 : t % 18446744073709551616 = t := by omega
  have j1 : (0 : Int) ≤ k := by omega
  have j2 : k < 9 := by omega
  have hf' : f.size ≤ 4611686018427387903 := by omega
  have hp' : s.size ≤ 4611686018427387903 := by omega
  obtain ⟨nx, hnx⟩ : ∃ x, mk (nameL k) = x := ⟨_, rfl⟩
  have NXL : Hid (L nx = nameL k) := hid (by rw [← hnx]; exact L_mk7 _)
  have znx : nx.size ≤ 7 := size_of_L NXL.out (name_len k)
  have hkt : k.toNat = kn := by omega
  have HKN := hid hkn
  have HUN := hid hun
  have HQN := hid hqn
  have HMN := hid hmn
  have HNN := hid hnn
  have HTN := hid htn
  have E : Hid (txt ⟨k, u, f, q, s, m, n, t⟩ = nameL k ++ (wordL nNum (decDigits un) ++ (wordL nFoot (L f) ++ (wordL nReq (decDigits qn) ++ (wordL nPath (L s)))))) := hid (by simp only [txt, t0, t1, t2, t3, t4, t5, s0, s1, s2, s3, s4, s5]; simp [hun, hqn, hmn, hnn, htn, List.append_assoc])
  have NC : Hid (∀ W, Laid7 W → W.cell? ⟨1, kn, none⟩ = some (.string nx)) := hid (fun W h => by rw [names_cell h.2.1 kn b1, ← hkn, hnx])
  clear s0 s1 s2 s3 s4 s5 hr hL hkn hun hqn hmn hnn htn hk hu hq hn hm ht hnx
  go_enter Tryz.func22, Tryz.ntmps22
  go_wp2_with fail
  with_reducible refine (cmdright_any ⟨k, u, f, q, s, m, n, t⟩ _ A0.out.parts hf' hp').mono ?_
  rw [HR.out]
  rintro e w1 ⟨rfl, hb⟩
  have A1 := hid (A0.out.on hb)
  clear hb A0
  have nc := NC.out _ (HL.out.below A1.out.below)
  obtain ⟨⟨c0, c1, c2, c3, c4, c5, c6, c7⟩, f0, f1, f2, f3, f4, f5, f6, f7⟩ := cells8 A1.out.1
  go_wp2_with fail
  with_reducible refine (has_0 ⟨k, u, f, q, s, m, n, t⟩ true _ S0.out A1.out.parts).mono ?_
  rintro e w2 ⟨rfl, hb⟩
  have A2 := hid (A1.out.on hb)
  clear hb A1
  clear c0 c1 c2 c3 c4 c5 c6 c7 f0 f1 f2 f3 f4 f5 f6 f7
  obtain ⟨⟨c0, c1, c2, c3, c4, c5, c6, c7⟩, f0, f1, f2, f3, f4, f5, f6, f7⟩ := cells8 A2.out.1
  clear nc
  go_wp2_with fail
  have D := hid A2.out.drew
  have PD := hid (Laid7.pow (HL.out.below D.out.below))
  have w7a := fun (r : ByteArray) (w : World) (h : r.size ≤ 20) => word7 ⟨#[110, 117, 109]⟩ r w (by decide) (by omega)
  have w7b := fun (w : World) => word7 ⟨#[102, 111, 111, 116]⟩ f w (by decide) (by omega)
  have n3 : (⟨#[110, 117, 109]⟩ : ByteArray).size ≤ 3 := by decide
  have n4 : (⟨#[102, 111, 111, 116]⟩ : ByteArray).size ≤ 4 := by decide
  have le1 : 25 + 70 ≤ 9223372036854775807 := by decide
  have le2 : 7 + (25 + 70) ≤ 9223372036854775807 := by decide
  have W7A := hid w7a
  have W7B := hid w7b
  clear w7a w7b
  go_region_held3 (fun w' => w'.cell? ⟨w.heap.size, 1, none⟩ = some (.int .u64 u) ∧ w'.cell? ⟨w.heap.size, 2, none⟩ = some (.string f))
    (first | exact ⟨(cells8 A2.out.1).1.2.1, (cells8 A2.out.1).1.2.2.1⟩ | exact ⟨(cells8 D.out.1).1.2.1, (cells8 D.out.1).1.2.2.1⟩ | exact ⟨(cells8 D1.out.1).1.2.1, (cells8 D1.out.1).1.2.2.1⟩ | exact ⟨(cells8 D2.out.1).1.2.1, (cells8 D2.out.1).1.2.2.1⟩ | exact ⟨(cells8 D3.out.1).1.2.1, (cells8 D3.out.1).1.2.2.1⟩)
    (first
      | (go_at_call 64; (with_reducible refine (show_any7 un u _ HUN.out b2 PD.out).mono ?_); rintro e wa ⟨ra, rfl, hra, hba⟩; have D1 := hid (D.out.on hba); have za := size_of_L hra (dec_len7 b2))
      | (go_at_call 63; (with_reducible refine (W7A.out ra _ za).mono ?_); rintro e wb ⟨rb, rfl, hrb, hbb⟩; have D2 := hid (D1.out.on hbb); have zb := word_size (k := 25) hrb n3 za rfl)
      | (go_at_call 63; (with_reducible refine (W7B.out _).mono ?_); rintro e wc ⟨rc, rfl, hrc, hbc⟩; have D3 := hid (D2.out.on hbc); have zc := word_size (k := 70) hrc n4 hf rfl; have y1 := Nat.not_lt.2 (Nat.le_trans (Nat.add_le_add zb zc) le1); have y2 := Nat.not_lt.2 (Nat.le_trans (Nat.add_le_add znx (Nat.add_le_add zb zc)) le2)))
  rename_i hHeld
  have RA := hid hra
  have RB := hid hrb
  have RC := hid hrc
  clear hHeld hra hrb hrc hba hbb hbc W7A W7B PD D D1 D2 A2 n3 n4 le1 le2 y1 y2
  clear c0 c1 c2 c3 c4 c5 c6 c7 f0 f1 f2 f3 f4 f5 f6 f7
  obtain ⟨⟨c0, c1, c2, c3, c4, c5, c6, c7⟩, f0, f1, f2, f3, f4, f5, f6, f7⟩ := cells8 D3.out.1
  go_wp2_with fail
  with_reducible refine (has_1 ⟨k, u, f, q, s, m, n, t⟩ true _ S1.out D3.out.parts).mono ?_
  rintro e w3 ⟨rfl, hb⟩
  have A3 := hid (D3.out.on hb)
  clear hb D3
  clear c0 c1 c2 c3 c4 c5 c6 c7 f0 f1 f2 f3 f4 f5 f6 f7
  obtain ⟨⟨c0, c1, c2, c3, c4, c5, c6, c7⟩, f0, f1, f2, f3, f4, f5, f6, f7⟩ := cells8 A3.out.1
  go_wp2_with fail
  with_reducible refine (show_any7 qn q _ HQN.out b3 (Laid7.pow (HL.out.below A3.out.below))).mono ?_
  rintro e w4 ⟨r4, rfl, hr4, hb⟩
  have z4 := size_of_L hr4 (dec_len7 b3)
  have R4 := hid hr4
  clear hr4
  have A4 := hid (A3.out.on hb)
  clear hb A3
  clear c0 c1 c2 c3 c4 c5 c6 c7 f0 f1 f2 f3 f4 f5 f6 f7
  obtain ⟨⟨c0, c1, c2, c3, c4, c5, c6, c7⟩, f0, f1, f2, f3, f4, f5, f6, f7⟩ := cells8 A4.out.1
  go_wp2_with fail
  with_reducible refine (word7 ⟨#[114, 101, 113, 117, 101, 115, 116]⟩ r4 _ (by decide) (by omega)).mono ?_
  rintro e w5 ⟨r5, rfl, hr5, hb⟩
  have z5 := word_size (i := 7) (j := 20) (k := 29) hr5 (by decide) z4 rfl
  have R5 := hid hr5
  clear hr5
  have A5 := hid (A4.out.on hb)
  clear hb A4
  clear c0 c1 c2 c3 c4 c5 c6 c7 f0 f1 f2 f3 f4 f5 f6 f7
  obtain ⟨⟨c0, c1, c2, c3, c4, c5, c6, c7⟩, f0, f1, f2, f3, f4, f5, f6, f7⟩ := cells8 A5.out.1
  go_wp2_with fail
  with_reducible refine (has_2 ⟨k, u, f, q, s, m, n, t⟩ true _ S2.out A5.out.parts).mono ?_
  rintro e w6 ⟨rfl, hb⟩
  have A6 := hid (A5.out.on hb)
  clear hb A5
  clear c0 c1 c2 c3 c4 c5 c6 c7 f0 f1 f2 f3 f4 f5 f6 f7
  obtain ⟨⟨c0, c1, c2, c3, c4, c5, c6, c7⟩, f0, f1, f2, f3, f4, f5, f6, f7⟩ := cells8 A6.out.1
  go_wp2_with fail
  with_reducible refine (word7 ⟨#[112, 97, 116, 104]⟩ s _ (by decide) (by omega)).mono ?_
  rintro e w7 ⟨r7, rfl, hr7, hb⟩
  have z7 := word_size (i := 4) (j := 64) (k := 70) hr7 (by decide) hp rfl
  have R7 := hid hr7
  clear hr7
  have A7 := hid (A6.out.on hb)
  clear hb A6
  clear c0 c1 c2 c3 c4 c5 c6 c7 f0 f1 f2 f3 f4 f5 f6 f7
  obtain ⟨⟨c0, c1, c2, c3, c4, c5, c6, c7⟩, f0, f1, f2, f3, f4, f5, f6, f7⟩ := cells8 A7.out.1
  go_wp2_with fail
  with_reducible refine (has_3 ⟨k, u, f, q, s, m, n, t⟩ false _ S3.out A7.out.parts).mono ?_
  rintro e w8 ⟨rfl, hb⟩
  have A8 := hid (A7.out.on hb)
  clear hb A7
  clear c0 c1 c2 c3 c4 c5 c6 c7 f0 f1 f2 f3 f4 f5 f6 f7
  obtain ⟨⟨c0, c1, c2, c3, c4, c5, c6, c7⟩, f0, f1, f2, f3, f4, f5, f6, f7⟩ := cells8 A8.out.1
  go_wp2_with fail
  with_reducible refine (has_4 ⟨k, u, f, q, s, m, n, t⟩ false _ S4.out A8.out.parts).mono ?_
  rintro e w9 ⟨rfl, hb⟩
  have A9 := hid (A8.out.on hb)
  clear hb A8
  clear c0 c1 c2 c3 c4 c5 c6 c7 f0 f1 f2 f3 f4 f5 f6 f7
  obtain ⟨⟨c0, c1, c2, c3, c4, c5, c6, c7⟩, f0, f1, f2, f3, f4, f5, f6, f7⟩ := cells8 A9.out.1
  go_wp2_with fail
  with_reducible refine (has_5 ⟨k, u, f, q, s, m, n, t⟩ false _ S5.out A9.out.parts).mono ?_
  rintro e w10 ⟨rfl, hb⟩
  have A10 := hid (A9.out.on hb)
  clear hb A9
  clear c0 c1 c2 c3 c4 c5 c6 c7 f0 f1 f2 f3 f4 f5 f6 f7
  obtain ⟨⟨c0, c1, c2, c3, c4, c5, c6, c7⟩, f0, f1, f2, f3, f4, f5, f6, f7⟩ := cells8 A10.out.1
  have G := hid A10.out.below
  go_wp2
  go_ret2
  exact ⟨⟨_, rfl, by rw [E.out]; simp [L_append, L_num, L_foot, L_req, L_path, L_mode, L_n, L_time, NXL.out, RA.out, RB.out, RC.out, R5.out, R4.out, R7.out]⟩, G.out⟩
set_option maxRecDepth 100000 in
set_option maxHeartbeats 4000000 in
theorem showc_7 (k u : Int) (f : ByteArray) (q : Int) (s : ByteArray) (m n t : Int) (w : World) (hL : Laid7 w) (hs : Sig k true true true false true false) (hr : rightK ⟨k, u, f, q, s, m, n, t⟩ = true)
    (hk : 0 ≤ k ∧ k ≤ 8) (hu : 0 ≤ u ∧ u < 18446744073709551616) (hq : 0 ≤ q ∧ q < 18446744073709551616) (hn : 0 ≤ n ∧ n < 18446744073709551616) (hm : 0 ≤ m ∧ m ≤ 2) (ht : 0 ≤ t ∧ t ≤ 1099511627776) (hf : f.size ≤ 64) (hp : s.size ≤ 64) :
    Calls Tryz.prog 22 #[val ⟨k, u, f, q, s, m, n, t⟩] w fun e w' => (∃ r : ByteArray, e = .returned (.tuple #[.string r, .int .i64 0]) ∧ L r = txt ⟨k, u, f, q, s, m, n, t⟩) ∧ Below w.heap.size w w' := by
  obtain ⟨s0, s1, s2, s3, s4, s5⟩ := hs
  have S0 := hid s0
  have S1 := hid s1
  have S2 := hid s2
  have S3 := hid s3
  have S4 := hid s4
  have S5 := hid s5
  have HR := hid hr
  have HL := hid hL
  have A0 := hid (Boxed.start hL.1 ⟨k, u, f, q, s, m, n, t⟩)
  obtain ⟨kn, hkn⟩ : ∃ kn : Nat, k = (kn : Int) := ⟨k.toNat, by omega⟩
  obtain ⟨un, hun⟩ : ∃ kn : Nat, u = (kn : Int) := ⟨u.toNat, by omega⟩
  obtain ⟨qn, hqn⟩ : ∃ kn : Nat, q = (kn : Int) := ⟨q.toNat, by omega⟩
  obtain ⟨mn, hmn⟩ : ∃ kn : Nat, m = (kn : Int) := ⟨m.toNat, by omega⟩
  obtain ⟨nn, hnn⟩ : ∃ kn : Nat, n = (kn : Int) := ⟨n.toNat, by omega⟩
  obtain ⟨tn, htn⟩ : ∃ kn : Nat, t = (kn : Int) := ⟨t.toNat, by omega⟩
  have b1 : kn ≤ 8 := by omega
  have b2 : un < 18446744073709551616 := by omega
  have b3 : qn < 18446744073709551616 := by omega
  have b4 : mn < 18446744073709551616 := by omega
  have b5 : nn < 18446744073709551616 := by omega
  have b6 : tn < 18446744073709551616 := by omega
  have W2 : IntKind.u64.wrap m = m := by rw [IntKind.wrap_u64]; omega
  have W3 : IntKind.u64.wrap t = t := by rw [IntKind.wrap_u64]; omega
  have M2 : m % 18446744073709551616 = m := by omega
  have M3 : t % 18446744073709551616 = t := by omega
  have j1 : (0 : Int) ≤ k := by omega
  have j2 : k < 9 := by omega
  have hf' : f.size ≤ 4611686018427387903 := by omega
  have hp' : s.size ≤ 4611686018427387903 := by omega
  obtain ⟨nx, hnx⟩ : ∃ x, mk (nameL k) = x := ⟨_, rfl⟩
  have NXL : Hid (L nx = nameL k) := hid (by rw [← hnx]; exact L_mk7 _)
  have znx : nx.size ≤ 7 := size_of_L NXL.out (name_len k)
  have hkt : k.toNat = kn := by omega
  have HKN := hid hkn
  have HUN := hid hun
  have HQN := hid hqn
  have HMN := hid hmn
  have HNN := hid hnn
  have HTN := hid htn
  have E : Hid (txt ⟨k, u, f, q, s, m, n, t⟩ = nameL k ++ (wordL nNum (decDigits un) ++ (wordL nFoot (L f) ++ (wordL nReq (decDigits qn) ++ (wordL nPath (L s) ++ (wordL nN (decDigits nn))))))) := hid (by simp only [txt, t0, t1, t2, t3, t4, t5, s0, s1, s2, s3, s4, s5]; simp [hun, hqn, hmn, hnn, htn, List.append_assoc])
  have NC : Hid (∀ W, Laid7 W → W.cell? ⟨1, kn, none⟩ = some (.string nx)) := hid (fun W h => by rw [names_cell h.2.1 kn b1, ← hkn, hnx])
  clear s0 s1 s2 s3 s4 s5 hr hL hkn hun hqn hmn hnn htn hk hu hq hn hm ht hnx
  go_enter Tryz.func22, Tryz.ntmps22
  go_wp2_with fail
  with_reducible refine (cmdright_any ⟨k, u, f, q, s, m, n, t⟩ _ A0.out.parts hf' hp').mono ?_
  rw [HR.out]
  rintro e w1 ⟨rfl, hb⟩
  have A1 := hid (A0.out.on hb)
  clear hb A0
  have nc := NC.out _ (HL.out.below A1.out.below)
  obtain ⟨⟨c0, c1, c2, c3, c4, c5, c6, c7⟩, f0, f1, f2, f3, f4, f5, f6, f7⟩ := cells8 A1.out.1
  go_wp2_with fail
  with_reducible refine (has_0 ⟨k, u, f, q, s, m, n, t⟩ true _ S0.out A1.out.parts).mono ?_
  rintro e w2 ⟨rfl, hb⟩
  have A2 := hid (A1.out.on hb)
  clear hb A1
  clear c0 c1 c2 c3 c4 c5 c6 c7 f0 f1 f2 f3 f4 f5 f6 f7
  obtain ⟨⟨c0, c1, c2, c3, c4, c5, c6, c7⟩, f0, f1, f2, f3, f4, f5, f6, f7⟩ := cells8 A2.out.1
  clear nc
  go_wp2_with fail
  have D := hid A2.out.drew
  have PD := hid (Laid7.pow (HL.out.below D.out.below))
  have w7a := fun (r : ByteArray) (w : World) (h : r.size ≤ 20) => word7 ⟨#[110, 117, 109]⟩ r w (by decide) (by omega)
  have w7b := fun (w : World) => word7 ⟨#[102, 111, 111, 116]⟩ f w (by decide) (by omega)
  have n3 : (⟨#[110, 117, 109]⟩ : ByteArray).size ≤ 3 := by decide
  have n4 : (⟨#[102, 111, 111, 116]⟩ : ByteArray).size ≤ 4 := by decide
  have le1 : 25 + 70 ≤ 9223372036854775807 := by decide
  have le2 : 7 + (25 + 70) ≤ 9223372036854775807 := by decide
  have W7A := hid w7a
  have W7B := hid w7b
  clear w7a w7b
  go_region_held3 (fun w' => w'.cell? ⟨w.heap.size, 1, none⟩ = some (.int .u64 u) ∧ w'.cell? ⟨w.heap.size, 2, none⟩ = some (.string f))
    (first | exact ⟨(cells8 A2.out.1).1.2.1, (cells8 A2.out.1).1.2.2.1⟩ | exact ⟨(cells8 D.out.1).1.2.1, (cells8 D.out.1).1.2.2.1⟩ | exact ⟨(cells8 D1.out.1).1.2.1, (cells8 D1.out.1).1.2.2.1⟩ | exact ⟨(cells8 D2.out.1).1.2.1, (cells8 D2.out.1).1.2.2.1⟩ | exact ⟨(cells8 D3.out.1).1.2.1, (cells8 D3.out.1).1.2.2.1⟩)
    (first
      | (go_at_call 64; (with_reducible refine (show_any7 un u _ HUN.out b2 PD.out).mono ?_); rintro e wa ⟨ra, rfl, hra, hba⟩; have D1 := hid (D.out.on hba); have za := size_of_L hra (dec_len7 b2))
      | (go_at_call 63; (with_reducible refine (W7A.out ra _ za).mono ?_); rintro e wb ⟨rb, rfl, hrb, hbb⟩; have D2 := hid (D1.out.on hbb); have zb := word_size (k := 25) hrb n3 za rfl)
      | (go_at_call 63; (with_reducible refine (W7B.out _).mono ?_); rintro e wc ⟨rc, rfl, hrc, hbc⟩; have D3 := hid (D2.out.on hbc); have zc := word_size (k := 70) hrc n4 hf rfl; have y1 := Nat.not_lt.2 (Nat.le_trans (Nat.add_le_add zb zc) le1); have y2 := Nat.not_lt.2 (Nat.le_trans (Nat.add_le_add znx (Nat.add_le_add zb zc)) le2)))
  rename_i hHeld
  have RA := hid hra
  have RB := hid hrb
  have RC := hid hrc
  clear hHeld hra hrb hrc hba hbb hbc W7A W7B PD D D1 D2 A2 n3 n4 le1 le2 y1 y2
  clear c0 c1 c2 c3 c4 c5 c6 c7 f0 f1 f2 f3 f4 f5 f6 f7
  obtain ⟨⟨c0, c1, c2, c3, c4, c5, c6, c7⟩, f0, f1, f2, f3, f4, f5, f6, f7⟩ := cells8 D3.out.1
  go_wp2_with fail
  with_reducible refine (has_1 ⟨k, u, f, q, s, m, n, t⟩ true _ S1.out D3.out.parts).mono ?_
  rintro e w3 ⟨rfl, hb⟩
  have A3 := hid (D3.out.on hb)
  clear hb D3
  clear c0 c1 c2 c3 c4 c5 c6 c7 f0 f1 f2 f3 f4 f5 f6 f7
  obtain ⟨⟨c0, c1, c2, c3, c4, c5, c6, c7⟩, f0, f1, f2, f3, f4, f5, f6, f7⟩ := cells8 A3.out.1
  go_wp2_with fail
  with_reducible refine (show_any7 qn q _ HQN.out b3 (Laid7.pow (HL.out.below A3.out.below))).mono ?_
  rintro e w4 ⟨r4, rfl, hr4, hb⟩
  have z4 := size_of_L hr4 (dec_len7 b3)
  have R4 := hid hr4
  clear hr4
  have A4 := hid (A3.out.on hb)
  clear hb A3
  clear c0 c1 c2 c3 c4 c5 c6 c7 f0 f1 f2 f3 f4 f5 f6 f7
  obtain ⟨⟨c0, c1, c2, c3, c4, c5, c6, c7⟩, f0, f1, f2, f3, f4, f5, f6, f7⟩ := cells8 A4.out.1
  go_wp2_with fail
  with_reducible refine (word7 ⟨#[114, 101, 113, 117, 101, 115, 116]⟩ r4 _ (by decide) (by omega)).mono ?_
  rintro e w5 ⟨r5, rfl, hr5, hb⟩
  have z5 := word_size (i := 7) (j := 20) (k := 29) hr5 (by decide) z4 rfl
  have R5 := hid hr5
  clear hr5
  have A5 := hid (A4.out.on hb)
  clear hb A4
  clear c0 c1 c2 c3 c4 c5 c6 c7 f0 f1 f2 f3 f4 f5 f6 f7
  obtain ⟨⟨c0, c1, c2, c3, c4, c5, c6, c7⟩, f0, f1, f2, f3, f4, f5, f6, f7⟩ := cells8 A5.out.1
  go_wp2_with fail
  with_reducible refine (has_2 ⟨k, u, f, q, s, m, n, t⟩ true _ S2.out A5.out.parts).mono ?_
  rintro e w6 ⟨rfl, hb⟩
  have A6 := hid (A5.out.on hb)
  clear hb A5
  clear c0 c1 c2 c3 c4 c5 c6 c7 f0 f1 f2 f3 f4 f5 f6 f7
  obtain ⟨⟨c0, c1, c2, c3, c4, c5, c6, c7⟩, f0, f1, f2, f3, f4, f5, f6, f7⟩ := cells8 A6.out.1
  go_wp2_with fail
  with_reducible refine (word7 ⟨#[112, 97, 116, 104]⟩ s _ (by decide) (by omega)).mono ?_
  rintro e w7 ⟨r7, rfl, hr7, hb⟩
  have z7 := word_size (i := 4) (j := 64) (k := 70) hr7 (by decide) hp rfl
  have R7 := hid hr7
  clear hr7
  have A7 := hid (A6.out.on hb)
  clear hb A6
  clear c0 c1 c2 c3 c4 c5 c6 c7 f0 f1 f2 f3 f4 f5 f6 f7
  obtain ⟨⟨c0, c1, c2, c3, c4, c5, c6, c7⟩, f0, f1, f2, f3, f4, f5, f6, f7⟩ := cells8 A7.out.1
  go_wp2_with fail
  with_reducible refine (has_3 ⟨k, u, f, q, s, m, n, t⟩ false _ S3.out A7.out.parts).mono ?_
  rintro e w8 ⟨rfl, hb⟩
  have A8 := hid (A7.out.on hb)
  clear hb A7
  clear c0 c1 c2 c3 c4 c5 c6 c7 f0 f1 f2 f3 f4 f5 f6 f7
  obtain ⟨⟨c0, c1, c2, c3, c4, c5, c6, c7⟩, f0, f1, f2, f3, f4, f5, f6, f7⟩ := cells8 A8.out.1
  go_wp2_with fail
  with_reducible refine (has_4 ⟨k, u, f, q, s, m, n, t⟩ true _ S4.out A8.out.parts).mono ?_
  rintro e w9 ⟨rfl, hb⟩
  have A9 := hid (A8.out.on hb)
  clear hb A8
  clear c0 c1 c2 c3 c4 c5 c6 c7 f0 f1 f2 f3 f4 f5 f6 f7
  obtain ⟨⟨c0, c1, c2, c3, c4, c5, c6, c7⟩, f0, f1, f2, f3, f4, f5, f6, f7⟩ := cells8 A9.out.1
  go_wp2_with fail
  with_reducible refine (show_any7 nn n _ HNN.out b5 (Laid7.pow (HL.out.below A9.out.below))).mono ?_
  rintro e w10 ⟨r10, rfl, hr10, hb⟩
  have z10 := size_of_L hr10 (dec_len7 b5)
  have R10 := hid hr10
  clear hr10
  have A10 := hid (A9.out.on hb)
  clear hb A9
  clear c0 c1 c2 c3 c4 c5 c6 c7 f0 f1 f2 f3 f4 f5 f6 f7
  obtain ⟨⟨c0, c1, c2, c3, c4, c5, c6, c7⟩, f0, f1, f2, f3, f4, f5, f6, f7⟩ := cells8 A10.out.1
  go_wp2_with fail
  with_reducible refine (word7 ⟨#[110]⟩ r10 _ (by decide) (by omega)).mono ?_
  rintro e w11 ⟨r11, rfl, hr11, hb⟩
  have z11 := word_size (i := 1) (j := 20) (k := 23) hr11 (by decide) z10 rfl
  have R11 := hid hr11
  clear hr11
  have A11 := hid (A10.out.on hb)
  clear hb A10
  clear c0 c1 c2 c3 c4 c5 c6 c7 f0 f1 f2 f3 f4 f5 f6 f7
  obtain ⟨⟨c0, c1, c2, c3, c4, c5, c6, c7⟩, f0, f1, f2, f3, f4, f5, f6, f7⟩ := cells8 A11.out.1
  go_wp2_with fail
  with_reducible refine (has_5 ⟨k, u, f, q, s, m, n, t⟩ false _ S5.out A11.out.parts).mono ?_
  rintro e w12 ⟨rfl, hb⟩
  have A12 := hid (A11.out.on hb)
  clear hb A11
  clear c0 c1 c2 c3 c4 c5 c6 c7 f0 f1 f2 f3 f4 f5 f6 f7
  obtain ⟨⟨c0, c1, c2, c3, c4, c5, c6, c7⟩, f0, f1, f2, f3, f4, f5, f6, f7⟩ := cells8 A12.out.1
  have G := hid A12.out.below
  go_wp2
  go_ret2
  exact ⟨⟨_, rfl, by rw [E.out]; simp [L_append, L_num, L_foot, L_req, L_path, L_mode, L_n, L_time, NXL.out, RA.out, RB.out, RC.out, R5.out, R4.out, R7.out, R11.out, R10.out]⟩, G.out⟩
set_option maxRecDepth 100000 in
set_option maxHeartbeats 4000000 in
theorem showc_8 (k u : Int) (f : ByteArray) (q : Int) (s : ByteArray) (m n t : Int) (w : World) (hL : Laid7 w) (hs : Sig k true false false false false true) (hr : rightK ⟨k, u, f, q, s, m, n, t⟩ = true)
    (hk : 0 ≤ k ∧ k ≤ 8) (hu : 0 ≤ u ∧ u < 18446744073709551616) (hq : 0 ≤ q ∧ q < 18446744073709551616) (hn : 0 ≤ n ∧ n < 18446744073709551616) (hm : 0 ≤ m ∧ m ≤ 2) (ht : 0 ≤ t ∧ t ≤ 1099511627776) (hf : f.size ≤ 64) (hp : s.size ≤ 64) :
    Calls Tryz.prog 22 #[val ⟨k, u, f, q, s, m, n, t⟩] w fun e w' => (∃ r : ByteArray, e = .returned (.tuple #[.string r, .int .i64 0]) ∧ L r = txt ⟨k, u, f, q, s, m, n, t⟩) ∧ Below w.heap.size w w' := by
  obtain ⟨s0, s1, s2, s3, s4, s5⟩ := hs
  have S0 := hid s0
  have S1 := hid s1
  have S2 := hid s2
  have S3 := hid s3
  have S4 := hid s4
  have S5 := hid s5
  have HR := hid hr
  have HL := hid hL
  have A0 := hid (Boxed.start hL.1 ⟨k, u, f, q, s, m, n, t⟩)
  obtain ⟨kn, hkn⟩ : ∃ kn : Nat, k = (kn : Int) := ⟨k.toNat, by omega⟩
  obtain ⟨un, hun⟩ : ∃ kn : Nat, u = (kn : Int) := ⟨u.toNat, by omega⟩
  obtain ⟨qn, hqn⟩ : ∃ kn : Nat, q = (kn : Int) := ⟨q.toNat, by omega⟩
  obtain ⟨mn, hmn⟩ : ∃ kn : Nat, m = (kn : Int) := ⟨m.toNat, by omega⟩
  obtain ⟨nn, hnn⟩ : ∃ kn : Nat, n = (kn : Int) := ⟨n.toNat, by omega⟩
  obtain ⟨tn, htn⟩ : ∃ kn : Nat, t = (kn : Int) := ⟨t.toNat, by omega⟩
  have b1 : kn ≤ 8 := by omega
  have b2 : un < 18446744073709551616 := by omega
  have b3 : qn < 18446744073709551616 := by omega
  have b4 : mn < 18446744073709551616 := by omega
  have b5 : nn < 18446744073709551616 := by omega
  have b6 : tn < 18446744073709551616 := by omega
  have W2 : IntKind.u64.wrap m = m := by rw [IntKind.wrap_u64]; omega
  have W3 : IntKind.u64.wrap t = t := by rw [IntKind.wrap_u64]; omega
  have M2 : m % 18446744073709551616 = m := by omega
  have M3 : t % 18446744073709551616 = t := by omega
  have j1 : (0 : Int) ≤ k := by omega
  have j2 : k < 9 := by omega
  have hf' : f.size ≤ 4611686018427387903 := by omega
  have hp' : s.size ≤ 4611686018427387903 := by omega
  obtain ⟨nx, hnx⟩ : ∃ x, mk (nameL k) = x := ⟨_, rfl⟩
  have NXL : Hid (L nx = nameL k) := hid (by rw [← hnx]; exact L_mk7 _)
  have znx : nx.size ≤ 7 := size_of_L NXL.out (name_len k)
  have hkt : k.toNat = kn := by omega
  have HKN := hid hkn
  have HUN := hid hun
  have HQN := hid hqn
  have HMN := hid hmn
  have HNN := hid hnn
  have HTN := hid htn
  have E : Hid (txt ⟨k, u, f, q, s, m, n, t⟩ = nameL k ++ (wordL nNum (decDigits un) ++ (wordL nFoot (L f) ++ (wordL nTime (decDigits tn))))) := hid (by simp only [txt, t0, t1, t2, t3, t4, t5, s0, s1, s2, s3, s4, s5]; simp [hun, hqn, hmn, hnn, htn, List.append_assoc])
  have NC : Hid (∀ W, Laid7 W → W.cell? ⟨1, kn, none⟩ = some (.string nx)) := hid (fun W h => by rw [names_cell h.2.1 kn b1, ← hkn, hnx])
  clear s0 s1 s2 s3 s4 s5 hr hL hkn hun hqn hmn hnn htn hk hu hq hn hm ht hnx
  go_enter Tryz.func22, Tryz.ntmps22
  go_wp2_with fail
  with_reducible refine (cmdright_any ⟨k, u, f, q, s, m, n, t⟩ _ A0.out.parts hf' hp').mono ?_
  rw [HR.out]
  rintro e w1 ⟨rfl, hb⟩
  have A1 := hid (A0.out.on hb)
  clear hb A0
  have nc := NC.out _ (HL.out.below A1.out.below)
  obtain ⟨⟨c0, c1, c2, c3, c4, c5, c6, c7⟩, f0, f1, f2, f3, f4, f5, f6, f7⟩ := cells8 A1.out.1
  go_wp2_with fail
  with_reducible refine (has_0 ⟨k, u, f, q, s, m, n, t⟩ true _ S0.out A1.out.parts).mono ?_
  rintro e w2 ⟨rfl, hb⟩
  have A2 := hid (A1.out.on hb)
  clear hb A1
  clear c0 c1 c2 c3 c4 c5 c6 c7 f0 f1 f2 f3 f4 f5 f6 f7
  obtain ⟨⟨c0, c1, c2, c3, c4, c5, c6, c7⟩, f0, f1, f2, f3, f4, f5, f6, f7⟩ := cells8 A2.out.1
  clear nc
  go_wp2_with fail
  have D := hid A2.out.drew
  have PD := hid (Laid7.pow (HL.out.below D.out.below))
  have w7a := fun (r : ByteArray) (w : World) (h : r.size ≤ 20) => word7 ⟨#[110, 117, 109]⟩ r w (by decide) (by omega)
  have w7b := fun (w : World) => word7 ⟨#[102, 111, 111, 116]⟩ f w (by decide) (by omega)
  have n3 : (⟨#[110, 117, 109]⟩ : ByteArray).size ≤ 3 := by decide
  have n4 : (⟨#[102, 111, 111, 116]⟩ : ByteArray).size ≤ 4 := by decide
  have le1 : 25 + 70 ≤ 9223372036854775807 := by decide
  have le2 : 7 + (25 + 70) ≤ 9223372036854775807 := by decide
  have W7A := hid w7a
  have W7B := hid w7b
  clear w7a w7b
  go_region_held3 (fun w' => w'.cell? ⟨w.heap.size, 1, none⟩ = some (.int .u64 u) ∧ w'.cell? ⟨w.heap.size, 2, none⟩ = some (.string f))
    (first | exact ⟨(cells8 A2.out.1).1.2.1, (cells8 A2.out.1).1.2.2.1⟩ | exact ⟨(cells8 D.out.1).1.2.1, (cells8 D.out.1).1.2.2.1⟩ | exact ⟨(cells8 D1.out.1).1.2.1, (cells8 D1.out.1).1.2.2.1⟩ | exact ⟨(cells8 D2.out.1).1.2.1, (cells8 D2.out.1).1.2.2.1⟩ | exact ⟨(cells8 D3.out.1).1.2.1, (cells8 D3.out.1).1.2.2.1⟩)
    (first
      | (go_at_call 64; (with_reducible refine (show_any7 un u _ HUN.out b2 PD.out).mono ?_); rintro e wa ⟨ra, rfl, hra, hba⟩; have D1 := hid (D.out.on hba); have za := size_of_L hra (dec_len7 b2))
      | (go_at_call 63; (with_reducible refine (W7A.out ra _ za).mono ?_); rintro e wb ⟨rb, rfl, hrb, hbb⟩; have D2 := hid (D1.out.on hbb); have zb := word_size (k := 25) hrb n3 za rfl)
      | (go_at_call 63; (with_reducible refine (W7B.out _).mono ?_); rintro e wc ⟨rc, rfl, hrc, hbc⟩; have D3 := hid (D2.out.on hbc); have zc := word_size (k := 70) hrc n4 hf rfl; have y1 := Nat.not_lt.2 (Nat.le_trans (Nat.add_le_add zb zc) le1); have y2 := Nat.not_lt.2 (Nat.le_trans (Nat.add_le_add znx (Nat.add_le_add zb zc)) le2)))
  rename_i hHeld
  have RA := hid hra
  have RB := hid hrb
  have RC := hid hrc
  clear hHeld hra hrb hrc hba hbb hbc W7A W7B PD D D1 D2 A2 n3 n4 le1 le2 y1 y2
  clear c0 c1 c2 c3 c4 c5 c6 c7 f0 f1 f2 f3 f4 f5 f6 f7
  obtain ⟨⟨c0, c1, c2, c3, c4, c5, c6, c7⟩, f0, f1, f2, f3, f4, f5, f6, f7⟩ := cells8 D3.out.1
  go_wp2_with fail
  with_reducible refine (has_1 ⟨k, u, f, q, s, m, n, t⟩ false _ S1.out D3.out.parts).mono ?_
  rintro e w3 ⟨rfl, hb⟩
  have A3 := hid (D3.out.on hb)
  clear hb D3
  clear c0 c1 c2 c3 c4 c5 c6 c7 f0 f1 f2 f3 f4 f5 f6 f7
  obtain ⟨⟨c0, c1, c2, c3, c4, c5, c6, c7⟩, f0, f1, f2, f3, f4, f5, f6, f7⟩ := cells8 A3.out.1
  go_wp2_with fail
  with_reducible refine (has_2 ⟨k, u, f, q, s, m, n, t⟩ false _ S2.out A3.out.parts).mono ?_
  rintro e w4 ⟨rfl, hb⟩
  have A4 := hid (A3.out.on hb)
  clear hb A3
  clear c0 c1 c2 c3 c4 c5 c6 c7 f0 f1 f2 f3 f4 f5 f6 f7
  obtain ⟨⟨c0, c1, c2, c3, c4, c5, c6, c7⟩, f0, f1, f2, f3, f4, f5, f6, f7⟩ := cells8 A4.out.1
  go_wp2_with fail
  with_reducible refine (has_3 ⟨k, u, f, q, s, m, n, t⟩ false _ S3.out A4.out.parts).mono ?_
  rintro e w5 ⟨rfl, hb⟩
  have A5 := hid (A4.out.on hb)
  clear hb A4
  clear c0 c1 c2 c3 c4 c5 c6 c7 f0 f1 f2 f3 f4 f5 f6 f7
  obtain ⟨⟨c0, c1, c2, c3, c4, c5, c6, c7⟩, f0, f1, f2, f3, f4, f5, f6, f7⟩ := cells8 A5.out.1
  go_wp2_with fail
  with_reducible refine (has_4 ⟨k, u, f, q, s, m, n, t⟩ false _ S4.out A5.out.parts).mono ?_
  rintro e w6 ⟨rfl, hb⟩
  have A6 := hid (A5.out.on hb)
  clear hb A5
  clear c0 c1 c2 c3 c4 c5 c6 c7 f0 f1 f2 f3 f4 f5 f6 f7
  obtain ⟨⟨c0, c1, c2, c3, c4, c5, c6, c7⟩, f0, f1, f2, f3, f4, f5, f6, f7⟩ := cells8 A6.out.1
  go_wp2_with fail
  with_reducible refine (has_5 ⟨k, u, f, q, s, m, n, t⟩ true _ S5.out A6.out.parts).mono ?_
  rintro e w7 ⟨rfl, hb⟩
  have A7 := hid (A6.out.on hb)
  clear hb A6
  clear c0 c1 c2 c3 c4 c5 c6 c7 f0 f1 f2 f3 f4 f5 f6 f7
  obtain ⟨⟨c0, c1, c2, c3, c4, c5, c6, c7⟩, f0, f1, f2, f3, f4, f5, f6, f7⟩ := cells8 A7.out.1
  go_wp2_with fail
  with_reducible refine (show_any7 tn t _ HTN.out b6 (Laid7.pow (HL.out.below A7.out.below))).mono ?_
  rintro e w8 ⟨r8, rfl, hr8, hb⟩
  have z8 := size_of_L hr8 (dec_len7 b6)
  have R8 := hid hr8
  clear hr8
  have A8 := hid (A7.out.on hb)
  clear hb A7
  clear c0 c1 c2 c3 c4 c5 c6 c7 f0 f1 f2 f3 f4 f5 f6 f7
  obtain ⟨⟨c0, c1, c2, c3, c4, c5, c6, c7⟩, f0, f1, f2, f3, f4, f5, f6, f7⟩ := cells8 A8.out.1
  go_wp2_with fail
  with_reducible refine (word7 ⟨#[116, 105, 109, 101]⟩ r8 _ (by decide) (by omega)).mono ?_
  rintro e w9 ⟨r9, rfl, hr9, hb⟩
  have z9 := word_size (i := 4) (j := 20) (k := 26) hr9 (by decide) z8 rfl
  have R9 := hid hr9
  clear hr9
  have A9 := hid (A8.out.on hb)
  clear hb A8
  clear c0 c1 c2 c3 c4 c5 c6 c7 f0 f1 f2 f3 f4 f5 f6 f7
  obtain ⟨⟨c0, c1, c2, c3, c4, c5, c6, c7⟩, f0, f1, f2, f3, f4, f5, f6, f7⟩ := cells8 A9.out.1
  have G := hid A9.out.below
  go_wp2
  go_ret2
  exact ⟨⟨_, rfl, by rw [E.out]; simp [L_append, L_num, L_foot, L_req, L_path, L_mode, L_n, L_time, NXL.out, RA.out, RB.out, RC.out, R9.out, R8.out]⟩, G.out⟩
end Go.Proofs.YtohffiehmmcgbaaGreatDoor
