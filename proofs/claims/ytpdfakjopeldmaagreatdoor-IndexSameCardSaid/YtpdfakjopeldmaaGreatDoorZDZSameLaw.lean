/-
  IndexSame: an index that is given the entries of another one is the same; any entry that was put is taken again. The table of kinds is listed.
-/
import Derived.Test.YtpdfakjopeldmaaGreatDoorZDZBase
import Derived.Test.YtpdfakjopeldmaaGreatDoorMgF
namespace Go.Proofs.YtpdfakjopeldmaaGreatDoor.indexSame
open Go.ChangeShapes Go.WideShapes Go.ChangeAt Go.RowKit Go.Maps Go.WideMaps
set_option linter.unusedVariables false
set_option linter.unusedSimpArgs false

/-- Both indexes. -/
def Tw (w W : World) (g : Nat) (c : K) (r e : Int) (A : Option Addr) (os : List OpV) (x m : Nat) (L : List Nt) (y my : Nat) (M : List Nt) : Prop := Pl w W g c r e A os ∧ Ix W x m L ∧ Ix W y my M
theorem Tw.on {w W W' : World} {g : Nat} {c : K} {r e : Int} {A : Option Addr} {os : List OpV} {x m : Nat} {L : List Nt} {y my : Nat} {M : List Nt} (h : Tw w W g c r e A os x m L y my M) (hb : Below W.heap.size W W') : Tw w W' g c r e A os x m L y my M := ⟨h.1.on hb, h.2.1.on hb, h.2.2.on hb⟩
theorem Tw.onb {w W W' : World} {g : Nat} {c : K} {r e : Int} {A : Option Addr} {os : List OpV} {x m : Nat} {L : List Nt} {y my : Nat} {M : List Nt} (h : Tw w W g c r e A os x m L y my M) {p : Nat} (hb : Below p W W') (hp : g + 1 < p ∧ x < p ∧ m < p ∧ y < p ∧ my < p) : Tw w W' g c r e A os x m L y my M :=
  ⟨h.1.onb hb hp.1, ixg_below h.2.1 hb hp.2.1 hp.2.2.1, ixg_below h.2.2 hb hp.2.2.2.1 hp.2.2.2.2⟩
theorem Tw.drew {w W : World} {g : Nat} {c : K} {r e : Int} {A : Option Addr} {os : List OpV} {x m : Nat} {L : List Nt} {y my : Nat} {M : List Nt} (h : Tw w W g c r e A os x m L y my M) : Tw w W.drew g c r e A os x m L y my M := h.on (below_drew (Below.refl _ _))
theorem Tw.grown {w W W' : World} {g : Nat} {c : K} {r e : Int} {A : Option Addr} {os : List OpV} {x m : Nat} {L : List Nt} {y my : Nat} {M : List Nt} (h : Tw w W g c r e A os x m L y my M) {p : Nat} (hg : W.grownBy W' (some p)) (hp : g + 1 < p ∧ x < p ∧ m < p ∧ y < p ∧ my < p) : Tw w W' g c r e A os x m L y my M :=
  ⟨h.1.grown hg (fun k hk => by cases hk; exact hp.1), ixg_grown h.2.1 hg (by simp; omega) (by simp; omega), ixg_grown h.2.2 hg (by simp; omega) (by simp; omega)⟩
theorem Tw.pl {w W : World} {g : Nat} {c : K} {r e : Int} {A : Option Addr} {os : List OpV} {x m : Nat} {L : List Nt} {y my : Nat} {M : List Nt} (h : Tw w W g c r e A os x m L y my M) : Pl w W g c r e A os := h.1
theorem Tw.ix {w W : World} {g : Nat} {c : K} {r e : Int} {A : Option Addr} {os : List OpV} {x m : Nat} {L : List Nt} {y my : Nat} {M : List Nt} (h : Tw w W g c r e A os x m L y my M) : Ix W x m L := h.2.1
theorem Tw.iy {w W : World} {g : Nat} {c : K} {r e : Int} {A : Option Addr} {os : List OpV} {x m : Nat} {L : List Nt} {y my : Nat} {M : List Nt} (h : Tw w W g c r e A os x m L y my M) : Ix W y my M := h.2.2
theorem Tw.parts {w W : World} {g : Nat} {c : K} {r e : Int} {A : Option Addr} {os : List OpV} {x m : Nat} {L : List Nt} {y my : Nat} {M : List Nt} (h : Tw w W g c r e A os x m L y my M) : PartsIs W := h.1.parts
theorem Tw.open {w W : World} {g : Nat} {k u : Int} {f : ByteArray} {q : Int} {s : ByteArray} {m' n t : Int} {r e : Int} {A : Option Addr} {os : List OpV} {x m : Nat} {L : List Nt} {y my : Nat} {M : List Nt} (h : Tw w W g ⟨k, u, f, q, s, m', n, t⟩ r e A os x m L y my M) :
    (W.cell? ⟨g, 0, none⟩ = some (.int .i64 k) ∧ W.cell? ⟨g, 1, none⟩ = some (.int .u64 u) ∧ W.cell? ⟨g, 2, none⟩ = some (.string f) ∧ W.cell? ⟨g, 3, none⟩ = some (.int .u64 q) ∧ W.cell? ⟨g, 4, none⟩ = some (.string s) ∧ W.cell? ⟨g, 5, none⟩ = some (.int .i64 m') ∧ W.cell? ⟨g, 6, none⟩ = some (.int .u64 n) ∧ W.cell? ⟨g, 7, none⟩ = some (.int .i64 t)) ∧ W.cell? ⟨g + 1, 0, none⟩ = some (.int .i64 r) ∧ W.cell? ⟨g + 1, 1, none⟩ = some (.int .i64 e) := h.1.open
theorem ten_of {W : World} {b o : Nat} {f : ByteArray} {u : Int} {a : Nat → Int} (h : W.rangeAt b o (ntC ⟨f, u, a⟩)) : W.cell? ⟨b, o, none⟩ = some (.string f) ∧ W.cell? ⟨b, o + 1, none⟩ = some (.int .u64 u) ∧ W.cell? ⟨b, o + 2, none⟩ = some (.int .i64 (a 0)) ∧ W.cell? ⟨b, o + 3, none⟩ = some (.int .i64 (a 1)) ∧ W.cell? ⟨b, o + 4, none⟩ = some (.int .i64 (a 2)) ∧ W.cell? ⟨b, o + 5, none⟩ = some (.int .i64 (a 3)) ∧ W.cell? ⟨b, o + 6, none⟩ = some (.int .i64 (a 4)) ∧ W.cell? ⟨b, o + 7, none⟩ = some (.int .i64 (a 5)) ∧ W.cell? ⟨b, o + 8, none⟩ = some (.int .i64 (a 6)) ∧ W.cell? ⟨b, o + 9, none⟩ = some (.int .i64 (a 7)) :=
  ⟨h 0 _ rfl, h 1 _ rfl, h 2 _ rfl, h 3 _ rfl, h 4 _ rfl, h 5 _ rfl, h 6 _ rfl, h 7 _ rfl, h 8 _ rfl, h 9 _ rfl⟩

set_option maxRecDepth 100000 in
set_option maxHeartbeats 20000000 in
theorem walk (A : Option Addr) (os : List OpV) (ca : Nat) (c : K) (r e : Int) (w : World) (hA : SeesO w.heap.size w A os)
    (hos : ∀ o ∈ os, Made o) (hl1 : os.length ≤ 9223372036854775807) (hc : okK c) (hP : PartsIs w) (hg : 1 < w.heap.size) :
    Calls Tryz.prog 3 #[.slice A os.length ca, val c, nm r e] w fun e w' => e = .returned (.bool true) ∧ Below w.heap.size w w' := by
  have HS0 := hid (fun W (h : Pl w W w.heap.size c r e A os) => fits_any A os ca 40 W (h.2.2.2.1.mono (by have := h.lt; omega)) hl1)
  have HS2 := hid (fun w => small12 c w)
  obtain ⟨z0, hz0⟩ : ∃ z, fitsL os 40 = z := ⟨_, rfl⟩
  obtain ⟨z2, hz2⟩ : ∃ z, smallK c = z := ⟨_, rfl⟩
  rw [hz0] at HS0
  rw [hz2] at HS2
  have HZ := hid (And.intro hz0 hz2)
  have HM := hid hos
  have HOK := hid hc
  have HA := hid hA
  have HP := hid hP
  have HG := hid hg
  clear hA hos hc hP hg hz0 hz2
  obtain ⟨k, u, f, q, s, m', n, t⟩ := c
  go_enter Tryz.func3, Tryz.ntmps3
  go_upto_region 1 with fail
  obtain ⟨W, hW⟩ : ∃ W, (w.alloc (.cells (cellsOf ⟨k, u, f, q, s, m', n, t⟩) 27)).alloc (.cells #[.int .i64 r, .int .i64 e] 29) = W := ⟨_, rfl⟩
  rw [hW]
  obtain ⟨K0, K1, KB⟩ := two_new hW
  have C0 : Hid (Pl w W w.heap.size ⟨k, u, f, q, s, m', n, t⟩ r e A os) := hid ⟨K0.out, K1.out, KB.out, HA.out.below KB.out, HP.out.below KB.out, HG.out⟩
  clear hW HA HP K0 K1 KB
  obtain ⟨g, hk⟩ : ∃ k, w.heap.size = k := ⟨_, rfl⟩
  rw [hk] at C0 HG HS0
  rw [hk]
  have HGK := hid hk
  clear hk
  go_wp2_with fail
  with_reducible refine (anchor12 _ C0.out.parts C0.out.big).mono ?_
  rintro e1 x1 ⟨rfl, hb⟩
  have C1 := hid (C0.out.on hb)
  clear hb C0
  go_wp2_with fail
  with_reducible refine (HS0.out _ C1.out).mono ?_
  rintro e1 x2 ⟨rfl, hb⟩
  have C2 := hid (C1.out.on hb)
  clear hb C1 HS0
  cases z0
  · go_wp2
    go_ret
    exact ⟨rfl, by rw [HGK.out]; exact C2.out.2.2.1⟩
  obtain ⟨⟨c0, c1, c2, c3, c4, c5, c6, c7⟩, _⟩ := cells8 C2.out.cmd
  go_wp2_with fail
  with_reducible refine (HS2.out _).mono ?_
  rintro e1 x3 ⟨rfl, hb⟩
  have C3 := hid (C2.out.on hb)
  clear hb C2 HS2 c0 c1 c2 c3 c4 c5 c6 c7
  cases z2
  · go_wp2
    go_ret
    exact ⟨rfl, by rw [HGK.out]; exact C3.out.2.2.1⟩
  have HSA : Hid (f.size < 200 ∧ s.size < 200) := hid (by have h := HZ.out.2; unfold smallK at h; simp at h; exact ⟨h.2, h.1⟩)
  have hfit : Hid (∀ o ∈ os, fitsO o = true) := hid (fun o ho => by have h := HZ.out.1; unfold fitsL at h; simp only [Bool.and_eq_true] at h; exact List.all_eq_true.1 h.1 o ho)
  have hlen : Hid (os.length ≤ 40) := hid (by have h := HZ.out.1; unfold fitsL at h; simp at h; omega)
  have hNew := hid (fun W (h : Pl w W g ⟨k, u, f, q, s, m', n, t⟩ r e A os) => ixnew_any W h.big)
  go_wp2_with fail
  with_reducible refine (hNew.out _ C3.out).mono ?_
  rintro e1 y0 ⟨x, m, rfl, a1, a2, a3⟩
  have X0 := hid a1
  have D0 := hid (C3.out.on a2)
  have hm : Hid (g + 1 < m) := hid (by have := C3.out.lt; omega)
  clear a1 a2 a3 C3
  go_wp2_with fail
  with_reducible refine (hNew.out _ D0.out).mono ?_
  rintro e1 y1 ⟨y, my, rfl, a1, a2, a3⟩
  have Y0 := hid a1
  have X1 := hid (X0.out.on a2)
  have D1 := hid (D0.out.on a2)
  have hmy : Hid (g + 1 < my ∧ m < my) := hid (by have := D0.out.lt; have := X0.out.lt; omega)
  clear a1 a2 a3 D0 X0 hNew
  go_wp2_with fail
  go_loopw [32] (fun iv wr => ∃ j : Nat, j ≤ os.length ∧ iv = .int .i64 j ∧ Hid (Pl w wr g ⟨k, u, f, q, s, m', n, t⟩ r e A os) ∧ Hid (Ix wr x m (playL [] (os.take j))) ∧ Hid (Ix wr y my [])) (fun iv _ => os.length - (intOf iv).toNat)
  case atStart => exact ⟨0, Nat.zero_le _, rfl, D1, hid (by rw [List.take_zero]; exact X1.out), Y0⟩
  case round =>
    clear D1 X1 Y0
    obtain ⟨j, hj, rfl, HD, HX, HY⟩ := hrel
    by_cases hlt : j < os.length
    · obtain ⟨b, o, rfl, hb0, hr0⟩ := HD.out.2.2.2.1 j hlt
      have HR := hid hr0
      obtain ⟨op, hop⟩ : ∃ op, os[j] = op := ⟨_, rfl⟩
      have hmem : op ∈ os := by rw [← hop]; exact List.getElem_mem hlt
      have HMO := hid (HM.out op hmem)
      have HFO := hid (hfit.out op hmem)
      have HPL : Hid (playL [] (os.take (j + 1)) = stepL (playL [] (os.take j)) op) := hid (by rw [playL_take _ _ _ hlt, hop])
      have HLN : Hid ((playL [] (os.take j)).length < 1000) := hid (by
        have h1 := playL_len [] (os.take j)
        have h2 := hlen.out
        rw [List.length_take] at h1
        simp at h1
        omega)
      rw [hop] at HR
      clear hop hmem hr0
      have HL := hid (len_opC op)
      have hs1 := opC_size op
      have hst := op_store op wr
      obtain ⟨cs, hcs⟩ : ∃ cs, (opC op).toList = cs := ⟨_, rfl⟩
      have HCS := hid hcs
      rw [hcs] at HR HL
      clear hcs
      go_upto_region 9 with (first
        | (with_reducible refine wpList_load_mid (op := ⟨some 35, _, _, _, _, _⟩) rfl 43 (.tmp 34) rfl b (o + j * 22) rfl cs _ HR.out Tryz.underlying43 rfl HL.out ?_; rw [← HCS.out, opC_list]))
      obtain ⟨W1, hW1⟩ : ∃ W1, (wr.alloc (.cells #[.int .i64 0, .int .i64 0, .int .u64 0, .string ⟨#[]⟩, .int .u64 0, .string ⟨#[]⟩, .int .i64 0, .int .u64 0, .int .i64 0, .int .i64 0, .int .i64 0, .int .i64 0, .string ⟨#[]⟩, .int .u64 0, .int .i64 0, .int .i64 0, .int .i64 0, .int .i64 0, .int .i64 0, .int .i64 0, .int .i64 0, .int .i64 0] 43)).setRow wr.heap.size (opC op) = W1 := ⟨_, rfl⟩
      rw [hW1]
      obtain ⟨K0, KB⟩ := op_box hW1
      have E0 := hid (HD.out.on KB.out)
      have F0 := hid (HX.out.on KB.out)
      have G0 := hid (HY.out.on KB.out)
      clear hW1 hst hs1 HR KB HX HD HY
      obtain ⟨p, hp⟩ : ∃ p, wr.heap.size = p := ⟨_, rfl⟩
      rw [hp] at K0
      rw [hp]
      clear hp
      have HA2 := hid (len_opA op)
      have HSt := hid (fun W (h : Ix W x m (playL [] (os.take j))) hP => step_any x m (playL [] (os.take j)) [] (.slice none 0 0) op W h (DocV.nil W) hP HMO.out HFO.out HLN.out (by simp))
      go_wp2_with (first
        | (with_reducible refine wpList_load_row (o := ⟨some 37, _, _, _, _, _⟩) rfl 43 (.tmp 10) rfl p rfl 43 (opC op) (0, 0) _ K0.out.heap Tryz.underlying43 rfl HA2.out ?_))
      with_reducible refine (HSt.out _ F0.out E0.out.parts).mono ?_
      rintro e' w2 ⟨v2, rfl, a1, a2, a3⟩
      have F1 : Hid (Ix w2 x m (playL [] (os.take (j + 1)))) := hid (by rw [HPL.out]; exact a1)
      have G1 := hid (ixg_grown G0.out a3 (fun h => ixg_apart F0.out G0.out (by injection h)) (fun h => by injection h with h; have := hmy.out; omega))
      have E1 := hid (E0.out.grown a3 (fun i hi => by cases hi; exact hm.out))
      clear a1 a2 a3 HSt K0 E0 F0 G0 HA2
      go_wp2
      go_roundw
      case rel => exact ⟨j + 1, by omega, by go_num, E1, F1, G1⟩
      case measure => simp only [intOf]; omega
    · have hj2 : j = os.length := by omega
      subst hj2
      rw [List.take_length] at HX
      have HLF : Hid (AllFair (playL [] os)) := hid (playL_fair os AllFair.nil HM.out hfit.out)
      have HLR : Hid (RightL (playL [] os)) := hid (playL_right os RightL.nil)
      have HLL : Hid ((playL [] os).length < 1000) := hid (by have h1 := playL_len [] os; have h2 := hlen.out; simp at h1; omega)
      clear hlt hj HM hfit
      obtain ⟨L, hL⟩ : ∃ L, playL [] os = L := ⟨_, rfl⟩
      rw [hL] at HX HLF HLR HLL
      clear hL
      have T0 : Hid (Tw w wr g ⟨k, u, f, q, s, m', n, t⟩ r e A os x m L y my []) := hid ⟨HD.out, HX.out, HY.out⟩
      have hxy : Hid (x ≠ my) := hid (ixg_apart HY.out HX.out)
      clear HD HX HY
      go_upto_region 12 with fail
      obtain ⟨W1, hW1⟩ : ∃ W1, wr.alloc (.cells #[.slice none 0 0] 50) = W1 := ⟨_, rfl⟩
      rw [hW1]
      have O1 : Hid (OutAt W1 wr.heap.size wr.heap.size []) := hid (by rw [← hW1]; exact out_new wr)
      have T1 := hid (T0.out.on (W' := W1) (by rw [← hW1]; exact (Below.refl _ _).alloc (Nat.le_refl _) _))
      have hpo : Hid (g + 1 < wr.heap.size ∧ x < wr.heap.size ∧ m < wr.heap.size ∧ y < wr.heap.size ∧ my < wr.heap.size) := hid ⟨T0.out.1.lt, T0.out.2.1.lt.1, T0.out.2.1.lt.2, T0.out.2.2.lt.1, T0.out.2.2.lt.2⟩
      have hsz : Hid (W1.heap.size = wr.heap.size + 1) := hid (by rw [← hW1]; simp)
      clear hW1 T0
      obtain ⟨po, hpo1⟩ : ∃ p, wr.heap.size = p := ⟨_, rfl⟩
      rw [hpo1] at O1 hpo hsz
      rw [hpo1]
      clear hpo1
      go_wp2_with fail
      with_reducible refine (list_any x m L _ T1.out.ix HLL.out).mono ?_
      rintro e1 w2 ⟨b, cap, ks, rfl, a1, a2, hb, a3, a4, a5, a6, cs, a7⟩
      have HEn : Hid (EntK L ks) := hid ⟨a4, a5⟩
      have hks : Hid (ks.length < 1000) := hid (by
        obtain ⟨D, hD, _, _⟩ := T1.out.2.1.2.1
        have h1 := a6 _ D hD
        have h2 := hD.size_le
        have h3 := HLL.out
        omega)
      have T2 := hid (T1.out.on hb)
      have O2 := hid (O1.out.later hb)
      have BC := hid a7
      have hbp : Hid (po < b) := hid (by have := hsz.out; omega)
      have FC : Hid (∀ (j : Nat) (v : Value), (flatN (ks.map (mkE L)))[j]? = some v → cs[j]? = some v) := hid (fun j v hv => by
        have h1 := a3 j v hv
        rw [a7.cell j] at h1
        exact h1)
      clear a1 a2 a3 a4 a5 a6 a7 hb T1 O1 hsz
      have FN := hid (listed_ok HEn.out HLF.out HLR.out)
      obtain ⟨ns, hns⟩ : ∃ ns, ks.map (mkE L) = ns := ⟨_, rfl⟩
      have HNS := hid hns
      have hnl : ks.length = ns.length := by rw [← hns]; simp
      rw [hns] at FC FN
      rw [hnl] at hks
      rw [hnl]
      clear hns
      have hn1 := hks.out
      go_wp2_with fail
      go_loopw [46] (fun iv wr => ∃ j : Nat, j ≤ ns.length ∧ iv = .int .i64 j ∧ Hid (Tw w wr g ⟨k, u, f, q, s, m', n, t⟩ r e A os x m L y my []) ∧ Hid (OutAt wr po po (encL (ns.take j))) ∧ Hid (Blk wr b 41 cs)) (fun iv _ => ns.length - (intOf iv).toNat)
      case atStart => exact ⟨0, Nat.zero_le _, rfl, T2, hid (by rw [List.take_zero]; exact O2.out), BC⟩
      case round =>
        clear T2 O2 BC
        obtain ⟨j, hj, rfl, T, O, B⟩ := hrel
        by_cases hlt : j < ns.length
        · have RG := hid (listed_at B.out FC.out hlt)
          have HN2 := hid (FN.out ns[j] (List.getElem_mem hlt))
          have HTk := hid (encL_take hlt)
          have HLj : Hid ((encL (ns.take j)).length ≤ 300000) := hid (by
            have h1 := encL_len (l := ns.take j) (fun n hn => (FN.out n (List.mem_of_mem_take hn)).1)
            rw [List.length_take] at h1
            omega)
          obtain ⟨n0, hn0⟩ : ∃ n, ns[j] = n := ⟨_, rfl⟩
          rw [hn0] at RG HN2 HTk
          clear hn0
          obtain ⟨f2, u2, a2⟩ := n0
          have LN := hid (len_entry ⟨f2, u2, a2⟩)
          have hst := entry_store ⟨f2, u2, a2⟩ wr
          have hs1 : (ntC ⟨f2, u2, a2⟩).length = 10 := rfl
          obtain ⟨cz, hcs⟩ : ∃ cs, ntC ⟨f2, u2, a2⟩ = cs := ⟨_, rfl⟩
          have HCS := hid hcs
          rw [hcs] at RG LN hst hs1
          clear hcs
          go_upto_region 16 with (first
            | (with_reducible refine wpList_load_mid (op := ⟨some 49, _, _, _, _, _⟩) rfl 41 (.tmp 48) rfl b (j * 10) rfl cz _ RG.out Tryz.underlying41 rfl LN.out ?_))
          obtain ⟨W3, hW3⟩ : ∃ W3, (wr.alloc (.cells #[.string ⟨#[]⟩, .int .u64 0, .int .i64 0, .int .i64 0, .int .i64 0, .int .i64 0, .int .i64 0, .int .i64 0, .int .i64 0, .int .i64 0] 41)).setRow wr.heap.size cz.toArray = W3 := ⟨_, rfl⟩
          rw [hW3]
          rw [← HCS.out] at hW3
          obtain ⟨K0, KB⟩ := entry_box hW3
          have T3 := hid (T.out.on KB.out)
          have O3 := hid (O.out.later KB.out)
          have B3 := hid (B.out.below KB.out B.out.lt)
          clear hW3 hst hs1 RG KB T O B HCS LN
          obtain ⟨p, hp⟩ : ∃ p, wr.heap.size = p := ⟨_, rfl⟩
          rw [hp] at K0
          rw [hp]
          clear hp
          have K1 : Hid (Blk W3 p 41 (#[.string f2, .int .u64 u2, .int .i64 (a2 0), .int .i64 (a2 1), .int .i64 (a2 2), .int .i64 (a2 3), .int .i64 (a2 4), .int .i64 (a2 5), .int .i64 (a2 6), .int .i64 (a2 7)])) := hid K0.out
          have LA := hid (len_entryA ⟨f2, u2, a2⟩)
          have HPut := hid (fun w h => eput_any po po (encL (ns.take j)) f2 u2 a2 w h HN2.out.1 (by have := HLj.out; omega))
          go_wp2_with (first
            | (with_reducible refine wpList_load_row (o := ⟨some 50, _, _, _, _, _⟩) rfl 41 (.tmp 14) rfl p rfl 41 (#[.string f2, .int .u64 u2, .int .i64 (a2 0), .int .i64 (a2 1), .int .i64 (a2 2), .int .i64 (a2 3), .int .i64 (a2 4), .int .i64 (a2 5), .int .i64 (a2 6), .int .i64 (a2 7)]) (0, 0) _ K1.out.heap Tryz.underlying41 rfl LA.out ?_))
          with_reducible refine (HPut.out _ O3.out).mono ?_
          rintro e3 w4 ⟨rfl, o4, b4, s4⟩
          have T4 := hid (T3.out.onb b4 hpo.out)
          have O4 : Hid (OutAt w4 po po (encL (ns.take (j + 1)))) := hid (by rw [HTk.out]; exact o4)
          have B4 := hid (s4.2 b _ _ (by have := hbp.out; omega) (by decide) B3.out)
          clear o4 b4 s4 K0 K1 T3 O3 B3 HPut
          go_wp2
          go_roundw
          case rel => exact ⟨j + 1, by omega, by go_num, T4, O4, B4⟩
          case measure => simp only [intOf]; omega
        · have hj2 : j = ns.length := by omega
          subst hj2
          rw [List.take_length] at O
          have HEL : Hid ((encL ns).length ≤ 300000) := hid (by
            have h1 := encL_len (l := ns) (fun n hn => (FN.out n hn).1)
            omega)
          have HEB := hid (encL_byte ns)
          go_wp2_with fail
          with_reducible refine (outbytes_any po po (encL ns) _ O.out (by have := HEL.out; omega)).mono ?_
          rintro e3 w5 hmk
          obtain ⟨A5, c5, rfl, hA5, _, hs5, hb5⟩ := hmk.hands
          have S5 := hid hs5
          have T5 := hid (T.out.on hb5)
          have B5 := hid (B.out.below hb5 B.out.lt)
          have HA5 := hid hA5
          clear hmk hs5 hb5 hA5 T O B
          go_wp2_with fail
          with_reducible refine (newin_any A5 (encL ns) (encL ns).length c5 _ rfl (by have := HEL.out; omega) HA5.out S5.out).mono ?_
          rintro e3 w6 ⟨gi, rfl, i1, hb6, hgi⟩
          have I6 := hid i1
          have T6 := hid (T5.out.on hb6)
          have B6 := hid (B5.out.below hb6 B5.out.lt)
          have hgb : Hid (b < gi ∧ g + 1 < gi ∧ x < gi ∧ m < gi ∧ y < gi ∧ my < gi) := hid ⟨by have := B5.out.lt; omega, by have := T5.out.1.lt; omega, by have := T5.out.2.1.lt; omega, by have := T5.out.2.1.lt; omega, by have := T5.out.2.2.lt; omega, by have := T5.out.2.2.lt; omega⟩
          clear i1 hb6 hgi T5 B5 S5 HA5
          go_wp2_with fail
          go_loopw [59] (fun iv wr => ∃ j : Nat, j ≤ ns.length ∧ iv = .int .i64 j ∧ Hid (Tw w wr g ⟨k, u, f, q, s, m', n, t⟩ r e A os x m L y my (ns.take j)) ∧ Hid (InAt wr gi (encL (ns.drop j)) 0) ∧ Hid (Blk wr b 41 cs)) (fun iv _ => ns.length - (intOf iv).toNat)
          case atStart => exact ⟨0, Nat.zero_le _, rfl, hid (by rw [List.take_zero]; exact T6.out), I6, B6⟩
          case round =>
            clear T6 I6 B6
            obtain ⟨j, hj, rfl, T, I, B⟩ := hrel
            by_cases hlt : j < ns.length
            · have HN2 := hid (FN.out ns[j] (List.getElem_mem hlt))
              have HDr := hid (encL_drop hlt)
              have HTk : Hid (ns.take (j + 1) = ns.take j ++ [ns[j]]) := hid (List.take_succ_eq_append_getElem hlt)
              have HB2 := hid (encL_byte (ns.drop (j + 1)))
              have HLd : Hid ((encL (ns.drop j)).length ≤ 300000) := hid (by
                have h1 := encL_len (l := ns.drop j) (fun n hn => (FN.out n (List.mem_of_mem_drop hn)).1)
                rw [List.length_drop] at h1
                omega)
              have HLt : Hid ((ns.take j).length < 1000) := hid (by rw [List.length_take]; omega)
              obtain ⟨n0, hn0⟩ : ∃ n, ns[j] = n := ⟨_, rfl⟩
              rw [hn0] at HN2 HDr HTk
              clear hn0
              obtain ⟨f2, u2, a2⟩ := n0
              obtain ⟨r2, hr2⟩ : ∃ r, encL (ns.drop (j + 1)) = r := ⟨_, rfl⟩
              have HR2 := hid hr2
              rw [hr2] at HDr HB2
              rw [HDr.out] at I HLd
              clear hr2
              have HTa := hid (fun w h => etake_any gi r2 f2 u2 a2 w h HN2.out.1 HN2.out.2 HB2.out (by have := HLd.out; omega))
              obtain ⟨hA1, hA2⟩ := addL_ok (l := ns.take j) HN2.out.1 HN2.out.2
              have HAdd := hid (fun w h => ixadd_any y my (ns.take j) ⟨f2, u2, a2⟩ w h HN2.out.1.came HLt.out)
              rw [hA1, hA2] at HAdd
              clear hA1 hA2
              have HAd2 : Hid (∀ w, Ix w y my (ns.take j) → Calls Tryz.prog 13 #[.pointer (some ⟨y, 0, none⟩), .agg #[.string f2, .int .u64 u2, .int .i64 (a2 0), .int .i64 (a2 1), .int .i64 (a2 2), .int .i64 (a2 3), .int .i64 (a2 4), .int .i64 (a2 5), .int .i64 (a2 6), .int .i64 (a2 7)]] w fun e w' => e = .returned (.int .i64 0) ∧ Ix w' y my (ns.take j ++ [⟨f2, u2, a2⟩]) ∧ w.grownBy w' (some my)) := hid HAdd.out
              clear HAdd
              go_wp2_with fail
              with_reducible refine (HTa.out _ I.out).mono ?_
              rintro e3 w7 ⟨rfl, i7, g7⟩
              have T7 := hid (T.out.grown g7 hgb.out.2)
              have I7 := hid i7
              have B7 := hid (B.out.grown g7 (by have := hgb.out; simp; omega))
              clear i7 g7 T I B HTa
              go_wp2_with fail
              with_reducible refine (HAd2.out _ T7.out.iy).mono ?_
              rintro e3 w8 ⟨rfl, y8, g8⟩
              have T8 : Hid (Tw w w8 g ⟨k, u, f, q, s, m', n, t⟩ r e A os x m L y my (ns.take (j + 1))) := hid ⟨T7.out.1.grown g8 (fun k hk => by cases hk; exact hmy.out.1), ixg_grown T7.out.2.1 g8 (by have := hxy.out; simp; omega) (by have := hmy.out; simp; omega), by rw [HTk.out]; exact y8⟩
              have I8 : Hid (InAt w8 gi (encL (ns.drop (j + 1))) 0) := hid (by rw [HR2.out]; exact I7.out.beside T7.out.2.2 g8 (by have := hgb.out; omega))
              have B8 := hid (B7.out.grown g8 (by have := hbp.out; have := hpo.out; simp; omega))
              clear y8 g8 T7 I7 B7 HAd2
              go_wp2
              go_roundw
              case rel => exact ⟨j + 1, by omega, by go_num, T8, I8, B8⟩
              case measure => simp only [intOf]; omega
            · have hj2 : j = ns.length := by omega
              subst hj2
              rw [List.take_length] at T
              rw [List.drop_length] at I
              have I0 : Hid (InAt wr gi [] 0) := hid I.out
              clear I
              have hHL := hid (HLL.out)
              go_wp2_with fail
              with_reducible refine (list_any y my ns _ T.out.iy (by have := hks.out; omega)).mono ?_
              rintro e3 w9 ⟨b2, cap2, ks2, rfl, a1, a2, hb, a3, a4, a5, a6, cs2, a7⟩
              obtain rfl : ks2 = ks := rises_ext a4 HEn.out.1 (fun z => (a5 z).trans (by rw [← HNS.out, told_list HEn.out]; exact (HEn.out.2 z).symm))
              have hfl : ks2.map (mkE ns) = ns := by
                rw [← HNS.out]
                exact List.map_congr_left fun z hz => mkE_list HEn.out z
              rw [hfl] at a3
              have T9 := hid (T.out.on hb)
              have I9 := hid (I0.out.keep (hb.mono I0.out.lt))
              have B9 := hid (B.out.below hb B.out.lt)
              have C9 := hid a7
              have FC2 : Hid (∀ (j : Nat) (v : Value), (flatN ns)[j]? = some v → cs2[j]? = some v) := hid (fun j v hv => by
                have h1 := a3 j v hv
                rw [a7.cell j] at h1
                exact h1)
              clear a1 a2 a3 a4 a5 a6 a7 hb hfl T I0 B
              rw [hnl]
              have HEd := hid (end_any gi [] 0 _ I9.out)
              have hneq : ((ns.length : Int) == (ns.length : Int)) = true := by simp
              go_wp2_with (go_at_call 15; (with_reducible refine HEd.out.mono ?_); rintro e4 w0 ⟨rfl, rfl⟩)
              go_loopw [81] (fun iv wr => ∃ j : Nat, j ≤ ns.length ∧ iv = .int .i64 j ∧ Hid (∃ q, wr = w9.drewN q)) (fun iv _ => ns.length - (intOf iv).toNat)
              case atStart => exact ⟨0, Nat.zero_le _, rfl, hid ⟨0, rfl⟩⟩
              case round =>
                obtain ⟨j, hj, rfl, HW⟩ := hrel
                obtain ⟨q2, rfl⟩ := HW.out
                by_cases hlt : j < ns.length
                · have R1 := hid (listed_at B9.out FC.out hlt)
                  have R2 := hid (listed_at C9.out FC2.out hlt)
                  obtain ⟨n0, hn0⟩ : ∃ n, ns[j] = n := ⟨_, rfl⟩
                  rw [hn0] at R1 R2
                  clear hn0
                  obtain ⟨f2, u2, a2⟩ := n0
                  obtain ⟨c0, c1, c2, c3, c4, c5, c6, c7, c8, c9⟩ := ten_of R1.out
                  obtain ⟨d0, d1, d2, d3, d4, d5, d6, d7, d8, d9⟩ := ten_of R2.out
                  have EN := entry_same f2 u2 a2
                  have EG := entry_guard
                  go_wp2_with fail
                  go_quiet (fail)
                  go_wp2
                  go_roundw
                  case rel => exact ⟨j + 1, by omega, by go_num, hid ⟨_, rfl⟩⟩
                  case measure => simp only [intOf]; omega
                · have T10 := hid (T9.out.on (below_drewN (Below.refl _ _) q2))
                  have HQ1 := hid (fun W (h : Tw w W g ⟨k, u, f, q, s, m', n, t⟩ r e A os x m L y my ns) => ixask_any x m L ⟨k, u, f, q, s, m', n, t⟩ r e W h.ix h.parts HSA.out.1 HSA.out.2)
                  have HQ2 := hid (fun W (h : Tw w W g ⟨k, u, f, q, s, m', n, t⟩ r e A os x m L y my ns) => ixask_any y my ns ⟨k, u, f, q, s, m', n, t⟩ r e W h.iy h.parts HSA.out.1 HSA.out.2)
                  have hFe : askF ns ⟨k, u, f, q, s, m', n, t⟩ r e = askF L ⟨k, u, f, q, s, m', n, t⟩ r e := by rw [← HNS.out]; exact askF_list HEn.out HLF.out ⟨k, u, f, q, s, m', n, t⟩ r e
                  obtain ⟨F, hF⟩ : ∃ F, askF L ⟨k, u, f, q, s, m', n, t⟩ r e = F := ⟨_, rfl⟩
                  rw [hF] at hFe HQ1
                  rw [hFe] at HQ2
                  clear hF hFe FC FC2 FN B9 C9 I9 HEd
                  have EQ : ∀ w, (Op.equalIn 10000 39 (.agg (rowA F)) (.agg (rowA F))).run Tryz.prog w = .ok true w := fun w => eq_attr F F true (eqA_self F) w
                  have EG := attr_guard
                  go_upto_region 33 with fail
                  obtain ⟨wz, hwz⟩ : ∃ wz, w9.drewN q2 = wz := ⟨_, rfl⟩
                  rw [hwz] at T10 ⊢
                  clear hwz HW
                  go_region_held3 (fun w' => (w'.cell? ⟨g, 0, none⟩ = some (.int .i64 k) ∧ w'.cell? ⟨g, 1, none⟩ = some (.int .u64 u) ∧ w'.cell? ⟨g, 2, none⟩ = some (.string f) ∧ w'.cell? ⟨g, 3, none⟩ = some (.int .u64 q) ∧ w'.cell? ⟨g, 4, none⟩ = some (.string s) ∧ w'.cell? ⟨g, 5, none⟩ = some (.int .i64 m') ∧ w'.cell? ⟨g, 6, none⟩ = some (.int .u64 n) ∧ w'.cell? ⟨g, 7, none⟩ = some (.int .i64 t)) ∧ w'.cell? ⟨g + 1, 0, none⟩ = some (.int .i64 r) ∧ w'.cell? ⟨g + 1, 1, none⟩ = some (.int .i64 e))
                    (first | exact T10.out.open | exact T10.out.drew.open | exact T11.out.open | exact T12.out.open)
                    (first
                      | (go_at_call 16; (with_reducible refine (HQ1.out _ T10.out.drew).mono ?_); rintro e1 w5 ⟨rfl, b1⟩; have T11 := hid (T10.out.drew.on b1))
                      | (go_at_call 16; (with_reducible refine (HQ2.out _ T11.out).mono ?_); rintro e1 w6 ⟨rfl, b2⟩; have T12 := hid (T11.out.on b2)))
                  rename_i hHeld
                  clear hHeld
                  go_wp2
                  go_ret
                  exact ⟨rfl, by rw [HGK.out]; exact T12.out.1.2.2.1⟩

end Go.Proofs.YtpdfakjopeldmaaGreatDoor.indexSame
