/-
  IndexPlays: behind any notes the entries are the document's, and so is what comes ahead of any command. The table of kinds is listed.
-/
import Derived.Test.YtpdfakjopeldmaaDoorZDPl
import Derived.Test.YtpdfakjopeldmaaDoorZDList
import Derived.Test.YtpdfakjopeldmaaDoorZDEntries
import Derived.Test.YtpdfakjopeldmaaDoorZDRefAsk
import Derived.Test.YtpdfakjopeldmaaDoorMgF
namespace Go.Proofs.YtpdfakjopeldmaaDoor.indexPlays
open Go.ChangeShapes Go.WideShapes Go.ChangeAt Go.RowKit Go.Maps Go.WideMaps
set_option linter.unusedVariables false
set_option linter.unusedSimpArgs false

/-- .. and what is known of the index and of the document's list. -/
def Pd (w W : World) (g : Nat) (c : K) (r e : Int) (A : Option Addr) (os : List OpV) (x m : Nat) (L : List Nt) (lv : Value) : Prop := Pl w W g c r e A os ∧ Ix W x m L ∧ DocV W lv L
theorem Pd.on {w W W' : World} {g : Nat} {c : K} {r e : Int} {A : Option Addr} {os : List OpV} {x m : Nat} {L : List Nt} {lv : Value} (h : Pd w W g c r e A os x m L lv) (hb : Below W.heap.size W W') : Pd w W' g c r e A os x m L lv := ⟨h.1.on hb, h.2.1.on hb, h.2.2.below hb⟩
theorem Pd.drew {w W : World} {g : Nat} {c : K} {r e : Int} {A : Option Addr} {os : List OpV} {x m : Nat} {L : List Nt} {lv : Value} (h : Pd w W g c r e A os x m L lv) : Pd w W.drew g c r e A os x m L lv := h.on (below_drew (Below.refl _ _))
theorem Pd.ix {w W : World} {g : Nat} {c : K} {r e : Int} {A : Option Addr} {os : List OpV} {x m : Nat} {L : List Nt} {lv : Value} (h : Pd w W g c r e A os x m L lv) : Ix W x m L := h.2.1
theorem Pd.doc {w W : World} {g : Nat} {c : K} {r e : Int} {A : Option Addr} {os : List OpV} {x m : Nat} {L : List Nt} {lv : Value} (h : Pd w W g c r e A os x m L lv) : DocV W lv L := h.2.2
theorem Pd.parts {w W : World} {g : Nat} {c : K} {r e : Int} {A : Option Addr} {os : List OpV} {x m : Nat} {L : List Nt} {lv : Value} (h : Pd w W g c r e A os x m L lv) : PartsIs W := h.1.parts
theorem Pd.open {w W : World} {g : Nat} {k u : Int} {f : ByteArray} {q : Int} {s : ByteArray} {m' n t : Int} {r e : Int} {A : Option Addr} {os : List OpV} {x m : Nat} {L : List Nt} {lv : Value} (h : Pd w W g ⟨k, u, f, q, s, m', n, t⟩ r e A os x m L lv) :
    (W.cell? ⟨g, 0, none⟩ = some (.int .i64 k) ∧ W.cell? ⟨g, 1, none⟩ = some (.int .u64 u) ∧ W.cell? ⟨g, 2, none⟩ = some (.string f) ∧ W.cell? ⟨g, 3, none⟩ = some (.int .u64 q) ∧ W.cell? ⟨g, 4, none⟩ = some (.string s) ∧ W.cell? ⟨g, 5, none⟩ = some (.int .i64 m') ∧ W.cell? ⟨g, 6, none⟩ = some (.int .u64 n) ∧ W.cell? ⟨g, 7, none⟩ = some (.int .i64 t)) ∧ W.cell? ⟨g + 1, 0, none⟩ = some (.int .i64 r) ∧ W.cell? ⟨g + 1, 1, none⟩ = some (.int .i64 e) := h.1.open

set_option maxRecDepth 100000 in
set_option maxHeartbeats 20000000 in
theorem walk (A : Option Addr) (os : List OpV) (ca : Nat) (c : K) (r e : Int) (w : World) (hA : SeesO w.heap.size w A os)
    (hos : ∀ o ∈ os, Made o) (hl1 : os.length ≤ 9223372036854775807) (hc : okK c) (hP : PartsIs w) (hg : 1 < w.heap.size) :
    Calls Tryd.prog 3 #[.slice A os.length ca, val c, nm r e] w fun e w' => e = .returned (.bool true) ∧ Below w.heap.size w w' := by
  have HS0 := hid (fun W (h : Pl w W w.heap.size c r e A os) => fits_any A os ca 40 W (h.2.2.2.1.mono (by have := h.lt; omega)) hl1)
  have HS2 := hid (fun w => small12 c w)
  obtain ⟨z0, hz0⟩ : ∃ z, fitsL os 40 = z := ⟨_, rfl⟩
  obtain ⟨z2, hz2⟩ : ∃ z, smallK c = z := ⟨_, rfl⟩
  rw [hz0] at HS0
  rw [hz2] at HS2
  have HZ := hid (And.intro hz0 hz2)
  have HM := hid hos
  have HOK := hid hc
  have HA := hid hA
  have HP := hid hP
  have HG := hid hg
  clear hA hos hc hP hg hz0 hz2
  obtain ⟨k, u, f, q, s, m', n, t⟩ := c
  go_enter Tryd.func3, Tryd.ntmps3
  go_upto_region 1 with fail
  obtain ⟨W, hW⟩ : ∃ W, (w.alloc (.cells (cellsOf ⟨k, u, f, q, s, m', n, t⟩) 27)).alloc (.cells #[.int .i64 r, .int .i64 e] 29) = W := ⟨_, rfl⟩
  rw [hW]
  obtain ⟨K0, K1, KB⟩ := two_new hW
  have C0 : Hid (Pl w W w.heap.size ⟨k, u, f, q, s, m', n, t⟩ r e A os) := hid ⟨K0.out, K1.out, KB.out, HA.out.below KB.out, HP.out.below KB.out, HG.out⟩
  clear hW HA HP K0 K1 KB
  obtain ⟨g, hk⟩ : ∃ k, w.heap.size = k := ⟨_, rfl⟩
  rw [hk] at C0 HG HS0
  rw [hk]
  have HGK := hid hk
  clear hk
  go_wp2_with fail
  with_reducible refine (anchor12 _ C0.out.parts C0.out.big).mono ?_
  rintro e1 x1 ⟨rfl, hb⟩
  have C1 := hid (C0.out.on hb)
  clear hb C0
  go_wp2_with fail
  with_reducible refine (HS0.out _ C1.out).mono ?_
  rintro e1 x2 ⟨rfl, hb⟩
  have C2 := hid (C1.out.on hb)
  clear hb C1 HS0
  cases z0
  · go_wp2
    go_ret
    exact ⟨rfl, by rw [HGK.out]; exact C2.out.2.2.1⟩
  obtain ⟨⟨c0, c1, c2, c3, c4, c5, c6, c7⟩, _⟩ := cells8 C2.out.cmd
  go_wp2_with fail
  with_reducible refine (HS2.out _).mono ?_
  rintro e1 x3 ⟨rfl, hb⟩
  have C3 := hid (C2.out.on hb)
  clear hb C2 HS2 c0 c1 c2 c3 c4 c5 c6 c7
  cases z2
  · go_wp2
    go_ret
    exact ⟨rfl, by rw [HGK.out]; exact C3.out.2.2.1⟩
  have HSA : Hid (f.size < 200 ∧ s.size < 200) := hid (by have h := HZ.out.2; unfold smallK at h; simp at h; exact ⟨h.2, h.1⟩)
  have hfit : Hid (∀ o ∈ os, fitsO o = true) := hid (fun o ho => by have h := HZ.out.1; unfold fitsL at h; simp only [Bool.and_eq_true] at h; exact List.all_eq_true.1 h.1 o ho)
  have hlen : Hid (os.length ≤ 40) := hid (by have h := HZ.out.1; unfold fitsL at h; simp at h; omega)
  have hNew := hid (fun W (h : Pl w W g ⟨k, u, f, q, s, m', n, t⟩ r e A os) => ixnew_any W h.big)
  go_wp2_with fail
  with_reducible refine (hNew.out _ C3.out).mono ?_
  rintro e1 y0 ⟨x, m, rfl, a1, a2, a3⟩
  have X0 := hid a1
  have D0 := hid (C3.out.on a2)
  have hm : Hid (g + 1 < m) := hid (by have := C3.out.lt; omega)
  clear a1 a2 a3 C3
  go_wp2_with fail
  go_loopw [8, 29] (fun lv iv wr => ∃ j : Nat, j ≤ os.length ∧ iv = .int .i64 j ∧ Hid (Pl w wr g ⟨k, u, f, q, s, m', n, t⟩ r e A os) ∧ Hid (Ix wr x m (playL [] (os.take j))) ∧ Hid (DocV wr lv (playL [] (os.take j)))) (fun _ iv _ => os.length - (intOf iv).toNat)
  case atStart => exact ⟨0, Nat.zero_le _, rfl, D0, hid (by rw [List.take_zero]; exact X0.out), hid (by rw [List.take_zero]; exact DocV.nil _)⟩
  case round =>
    clear D0 X0
    obtain ⟨j, hj, rfl, HD, HX, HV⟩ := hrel
    by_cases hlt : j < os.length
    · obtain ⟨b, o, rfl, hb0, hr0⟩ := HD.out.2.2.2.1 j hlt
      have HR := hid hr0
      obtain ⟨op, hop⟩ : ∃ op, os[j] = op := ⟨_, rfl⟩
      have hmem : op ∈ os := by rw [← hop]; exact List.getElem_mem hlt
      have HMO := hid (HM.out op hmem)
      have HFO := hid (hfit.out op hmem)
      have HPL : Hid (playL [] (os.take (j + 1)) = stepL (playL [] (os.take j)) op) := hid (by rw [playL_take _ _ _ hlt, hop])
      have HLN : Hid ((playL [] (os.take j)).length < 1000) := hid (by
        have h1 := playL_len [] (os.take j)
        have h2 := hlen.out
        rw [List.length_take] at h1
        simp at h1
        omega)
      rw [hop] at HR
      clear hop hmem hr0
      have HL := hid (len_opC op)
      have hs1 := opC_size op
      have hst := op_store op wr
      obtain ⟨cs, hcs⟩ : ∃ cs, (opC op).toList = cs := ⟨_, rfl⟩
      have HCS := hid hcs
      rw [hcs] at HR HL
      clear hcs
      go_upto_region 11 with (first
        | (with_reducible refine wpList_load_mid (op := ⟨some 32, _, _, _, _, _⟩) rfl 44 (.tmp 31) rfl b (o + j * 22) rfl cs _ HR.out Tryd.underlying44 rfl HL.out ?_; rw [← HCS.out, opC_list]))
      obtain ⟨W1, hW1⟩ : ∃ W1, (wr.alloc (.cells #[.int .i64 0, .int .i64 0, .int .u64 0, .string ⟨#[]⟩, .int .u64 0, .string ⟨#[]⟩, .int .i64 0, .int .u64 0, .int .i64 0, .int .i64 0, .int .i64 0, .int .i64 0, .string ⟨#[]⟩, .int .u64 0, .int .i64 0, .int .i64 0, .int .i64 0, .int .i64 0, .int .i64 0, .int .i64 0, .int .i64 0, .int .i64 0] 44)).setRow wr.heap.size (opC op) = W1 := ⟨_, rfl⟩
      rw [hW1]
      obtain ⟨K0, KB⟩ := op_box hW1
      have E0 := hid (HD.out.on KB.out)
      have F0 := hid (HX.out.on KB.out)
      have G0 := hid (HV.out.below KB.out)
      clear hW1 hst hs1 HR KB HX HD HV
      obtain ⟨p, hp⟩ : ∃ p, wr.heap.size = p := ⟨_, rfl⟩
      rw [hp] at K0
      rw [hp]
      clear hp
      have HA2 := hid (len_opA op)
      have HSt := hid (fun W v (h : Ix W x m (playL [] (os.take j))) (hv : DocV W v (playL [] (os.take j))) hP => step_any x m (playL [] (os.take j)) (playL [] (os.take j)) v op W h hv hP HMO.out HFO.out HLN.out HLN.out)
      go_wp2_with (first
        | (with_reducible refine wpList_load_row (o := ⟨some 36, _, _, _, _, _⟩) rfl 44 (.tmp 10) rfl p rfl 44 (opC op) (0, 0) _ K0.out.heap Tryd.underlying44 rfl HA2.out ?_))
      with_reducible refine (HSt.out _ _ F0.out G0.out E0.out.parts).mono ?_
      rintro e' w2 ⟨v2, rfl, a1, a2, a3⟩
      have F1 : Hid (Ix w2 x m (playL [] (os.take (j + 1)))) := hid (by rw [HPL.out]; exact a1)
      have G1 : Hid (DocV w2 v2 (playL [] (os.take (j + 1)))) := hid (by rw [HPL.out]; exact a2)
      have E1 := hid (E0.out.grown a3 (fun i hi => by cases hi; exact hm.out))
      clear a1 a2 a3 HSt K0 E0 F0 G0 HA2
      go_wp2
      go_roundw
      case rel => exact ⟨j + 1, by omega, by go_num, E1, F1, G1⟩
      case measure => simp only [intOf]; omega
    · have hj2 : j = os.length := by omega
      subst hj2
      rw [List.take_length] at HX HV
      have HLF : Hid (AllFair (playL [] os)) := hid (playL_fair os AllFair.nil HM.out hfit.out)
      have HLL : Hid ((playL [] os).length < 1000) := hid (by have h1 := playL_len [] os; have h2 := hlen.out; simp at h1; omega)
      clear hlt hj HM hfit
      obtain ⟨L, hL⟩ : ∃ L, playL [] os = L := ⟨_, rfl⟩
      rw [hL] at HX HV HLF HLL
      clear hL
      obtain ⟨Al, cl, rfl, hAl⟩ := own_slice_n HV.out
      clear hAl
      go_wp2_with fail
      with_reducible refine (refentries_any _ L _ HV.out HLF.out HLL.out).mono ?_
      rintro e1 w1 ⟨v1, ks, rfl, a1, a2, hb⟩
      have E1 := hid (HD.out.on hb)
      have F1 := hid (HX.out.on hb)
      have G1 := hid (HV.out.below hb)
      have R1 := hid a1
      have HEn := hid a2
      clear a1 a2 hb HD HX HV
      go_wp2_with fail
      with_reducible refine (list_any x m L _ F1.out HLL.out).mono ?_
      rintro e1 w2 ⟨b, cap, ks2, rfl, a1, a2, hb, a3, a4, a5, a6⟩
      obtain rfl : ks2 = ks := rises_ext a4 HEn.out.1 (fun y => (a5 y).trans (HEn.out.2 y).symm)
      have E2 := hid (E1.out.on hb)
      have F2 := hid (F1.out.on hb)
      have G2 := hid (G1.out.below hb)
      have R2 := hid (own_doc R1.out (by simp) rfl : DocV w1 v1 (ks2.map (mkE L)))
      have R3 := hid (R2.out.below hb)
      have LR := hid a3
      have hbl : Hid (b < w2.heap.size) := hid a2
      have SZ := hid a6
      have SZ2 : Hid (∀ n D, w2.ownsMap Tryd.prog 37 attR m n D → Maps.size D = ks2.length) := hid (fun n D h => a6 n D (by
        obtain ⟨es, clock, b1, b2⟩ := h
        exact ⟨es, clock, (hb.block m F1.out.lt.2).symm.trans b1, b2⟩))
      clear a1 a2 a3 a4 a5 a6 hb E1 F1 G1 R1 R2
      have hx0 : w2.cell? ⟨x, 0, none⟩ = some (.map (some m)) := F2.out.cell
      obtain ⟨D, hD, hD1, hD2⟩ := F2.out.2.1
      have HC := hid (ixcount_any x m _ D w2 hx0 hD)
      have hsz := SZ2.out _ D hD
      have hks : ks2.length < 1000 := by have h1 := hD.size_le; have h2 := HLL.out; omega
      rw [hsz] at HC
      obtain ⟨Bv, cb, rfl, hB0, hB1⟩ := own_slice_n R3.out
      have HB0 := hid hB0
      have HB1 := hid hB1
      clear hD hD1 hD2 hx0 hsz SZ SZ2 hB0 hB1
      have hnn : (List.map (mkE L) ks2).length = ks2.length := by simp
      rw [hnn] at R3 HB0 HB1 ⊢
      have hneq : ((ks2.length : Int) == (ks2.length : Int)) = true := by simp
      have P2 : Hid (Pd w w2 g ⟨k, u, f, q, s, m', n, t⟩ r e A os x m L (.slice Al L.length cl)) := hid ⟨E2.out, F2.out, G2.out⟩
      have hB2 : Hid (∀ b, Bv = some ⟨b, 0, none⟩ → b < w2.heap.size) := hid (fun b h => by
        obtain ⟨b', h1, _, _, h2⟩ := HB1.out _ h
        injection h1 with h1
        omega)
      clear E2 F2 G2
      go_wp2_with (go_at_call 13; (with_reducible refine HC.out.mono ?_); rintro e1 w0 ⟨rfl, rfl⟩)
      go_loopw [61] (fun iv wr => ∃ j : Nat, j ≤ ks2.length ∧ iv = .int .i64 j ∧ Hid (Below w2.heap.size w2 wr)) (fun iv _ => ks2.length - (intOf iv).toNat)
      case atStart => exact ⟨0, Nat.zero_le _, rfl, hid (Below.refl _ _)⟩
      case round =>
        obtain ⟨j, hj, rfl, HB⟩ := hrel
        by_cases hlt : j < ks2.length
        · obtain ⟨bv, rfl⟩ : ∃ bv, Bv = some ⟨bv, 0, none⟩ := by
            cases Bv with
            | none => have := HB0.out rfl; omega
            | some a => obtain ⟨b, rfl, _⟩ := HB1.out a rfl; exact ⟨b, rfl⟩
          have hj2 : j < (ks2.map (mkE L)).length := by rw [hnn]; exact hlt
          have RG : Hid (wr.rangeAt b (j * 10) (ntC (ks2.map (mkE L))[j])) := hid (fun i v hv => by
            have hi : i < 10 := by have := (List.getElem?_eq_some_iff.1 hv).1; exact this
            have h1 := LR.out (j * 10 + i) v (by rw [flatN_get hj2 hi]; exact hv)
            exact (HB.out.cell (by exact hbl.out)).trans h1)
          have RW : Hid (wr.rangeAt bv (j * 10) (ntC (ks2.map (mkE L))[j])) := hid (by
            have h1 : wr.ownsRow 0 53 10 (.slice (some ⟨bv, 0, none⟩) ks2.length cb) (ks2.map (mkE L)).length (flatN (ks2.map (mkE L))) := own_on R3.out HB.out
            rw [hnn] at h1
            exact own_at h1 hj2)
          have hbw : bv < wr.heap.size := by have := hB2.out bv rfl; have := HB.out.size; omega
          obtain ⟨n0, hn0⟩ : ∃ n, (ks2.map (mkE L))[j] = n := ⟨_, rfl⟩
          rw [hn0] at RG RW
          clear hn0 hj2
          obtain ⟨f2, u2, a2⟩ := n0
          have LN := hid (len_entry ⟨f2, u2, a2⟩)
          have hst := entry_store ⟨f2, u2, a2⟩ wr
          have hs1 : (ntC ⟨f2, u2, a2⟩).length = 10 := rfl
          obtain ⟨cs, hcs⟩ : ∃ cs, ntC ⟨f2, u2, a2⟩ = cs := ⟨_, rfl⟩
          have HCS := hid hcs
          rw [hcs] at RG LN hst hs1
          clear hcs
          go_upto_region 22 with (first
            | (with_reducible refine wpList_load_mid (op := ⟨some 65, _, _, _, _, _⟩) rfl 42 (.tmp 64) rfl b (j * 10) rfl cs _ RG.out Tryd.underlying42 rfl LN.out ?_))
          obtain ⟨W1, hW1⟩ : ∃ W1, (wr.alloc (.cells #[.string ⟨#[]⟩, .int .u64 0, .int .i64 0, .int .i64 0, .int .i64 0, .int .i64 0, .int .i64 0, .int .i64 0, .int .i64 0, .int .i64 0] 42)).setRow wr.heap.size cs.toArray = W1 := ⟨_, rfl⟩
          rw [hW1]
          rw [← HCS.out] at hW1
          obtain ⟨K0, KB⟩ := entry_box hW1
          have B1 := hid (HB.out.trans (KB.out.mono HB.out.size))
          have RW1 := hid (RW.out.below_ KB.out hbw)
          clear hW1 hst hs1 RG RW KB HB HCS
          obtain ⟨p, hp⟩ : ∃ p, wr.heap.size = p := ⟨_, rfl⟩
          rw [hp] at K0
          rw [hp]
          clear hp
          obtain ⟨c0, c1, c2, c3, c4, c5, c6, c7, c8, c9⟩ := n_cells (K0.out : Blk W1 p 42 (#[.string f2, .int .u64 u2, .int .i64 (a2 0), .int .i64 (a2 1), .int .i64 (a2 2), .int .i64 (a2 3), .int .i64 (a2 4), .int .i64 (a2 5), .int .i64 (a2 6), .int .i64 (a2 7)]))
          have d0 : W1.cell? ⟨bv, j * 10, none⟩ = some (.string f2) := RW1.out 0 _ rfl
          have d1 : W1.cell? ⟨bv, j * 10 + 1, none⟩ = some (.int .u64 u2) := RW1.out 1 _ rfl
          obtain ⟨e0, e1, e2, e3, e4, e5, e6, e7⟩ := eig_of (range_att RW1.out)
          have EK : ∀ w, (Op.equalIn 10000 37 (.agg #[.string f2, .int .u64 u2]) (.agg #[.string f2, .int .u64 u2])).run Tryd.prog w = .ok true w := fun w => key_same12 f2 u2 w
          have EKG := key_guard12
          have EA := eq_refa a2 a2 true (eqA_self a2)
          have EAG := refa_guard
          go_wp2_with fail
          go_quiet (fail)
          go_wp2
          go_roundw
          case rel => exact ⟨j + 1, by omega, by go_num, hid (below_drewN B1.out _)⟩
          case measure => simp only [intOf]; omega
        · clear LR hbl R3 HB0 HB1 hB2 HC
          have T0 := hid (P2.out.on HB.out)
          have HQ1 := hid (fun W (h : Pd w W g ⟨k, u, f, q, s, m', n, t⟩ r e A os x m L (.slice Al L.length cl)) => ixask_any x m L ⟨k, u, f, q, s, m', n, t⟩ r e W h.ix h.parts HSA.out.1 HSA.out.2)
          have HQ2 := hid (fun W (h : Pd w W g ⟨k, u, f, q, s, m', n, t⟩ r e A os x m L (.slice Al L.length cl)) => refask_any (.slice Al L.length cl) L ⟨k, u, f, q, s, m', n, t⟩ r e W h.doc HLF.out HOK.out HSA.out.1 HSA.out.2 HLL.out)
          obtain ⟨F, hF⟩ : ∃ F, askF L ⟨k, u, f, q, s, m', n, t⟩ r e = F := ⟨_, rfl⟩
          rw [hF] at HQ1 HQ2
          clear hF P2 HB
          have EQ : ∀ w, (Op.equalIn 10000 51 (.agg (rowA F)) (.agg (rowA F))).run Tryd.prog w = .ok true w := fun w => eq_refa F F true (eqA_self F) w
          have EG := refa_guard
          go_upto_region 25 with fail
          go_region_held3 (fun w' => (w'.cell? ⟨g, 0, none⟩ = some (.int .i64 k) ∧ w'.cell? ⟨g, 1, none⟩ = some (.int .u64 u) ∧ w'.cell? ⟨g, 2, none⟩ = some (.string f) ∧ w'.cell? ⟨g, 3, none⟩ = some (.int .u64 q) ∧ w'.cell? ⟨g, 4, none⟩ = some (.string s) ∧ w'.cell? ⟨g, 5, none⟩ = some (.int .i64 m') ∧ w'.cell? ⟨g, 6, none⟩ = some (.int .u64 n) ∧ w'.cell? ⟨g, 7, none⟩ = some (.int .i64 t)) ∧ w'.cell? ⟨g + 1, 0, none⟩ = some (.int .i64 r) ∧ w'.cell? ⟨g + 1, 1, none⟩ = some (.int .i64 e))
            (first | exact T0.out.open | exact T0.out.drew.open | exact T1.out.open | exact T2.out.open | exact T3.out.open)
            (first
              | (go_at_call 14; (with_reducible refine (HQ1.out _ T0.out.drew).mono ?_); rintro e1 w5 ⟨rfl, b1⟩; have T1 := hid (T0.out.drew.on b1))
              | (go_at_call 16; (with_reducible refine (of12 ⟨k, u, f, q, s, m', n, t⟩ _).mono ?_); rintro e1 w6 ⟨rfl, b2⟩; have T2 := hid (T1.out.on b2))
              | (go_at_call 15; (with_reducible refine (HQ2.out _ T2.out).mono ?_); rintro e1 w7 ⟨rfl, b3⟩; have T3 := hid (T2.out.on b3)))
          rename_i hHeld
          clear hHeld
          go_wp2
          go_ret
          exact ⟨rfl, by rw [HGK.out]; exact T3.out.1.2.2.1⟩

end Go.Proofs.YtpdfakjopeldmaaDoor.indexPlays
