/-
  The contracts of Put, Bytes, Parse (package inst).
-/
import Derived.Test.YtohffiehmmcgbaaGreatDoorWC
import Derived.Test.YtohffiehmmcgbaaGreatDoorWJTake
namespace Go.Proofs.YtohffiehmmcgbaaGreatDoor
open Go.ChangeShapes Go.WideShapes Go.ChangeAt Go.RowKit Go.Lib
set_option linter.unusedVariables false
set_option linter.unusedSimpArgs false
set_option maxRecDepth 100000 in
set_option maxHeartbeats 400000 in
theorem outtruthk_any (base g : Nat) (l : List Nat) (t : Bool) (w : World) (h : OutAt w base g l) (hlen : l.length + 1 ≤ 140737488355328) :
    Calls Tryz.prog 69 #[.pointer (some ⟨g, 0, none⟩), .bool t] w (PutsK base g (l ++ [truthN t]) w) := by
  have HO := hid (h.alloc (.cells #[.int .u8 (truthN t : Int)] 5))
  have hB := h.base_le
  clear h
  cases t with
  | true =>
    go_enter Tryz.func69, Tryz.ntmps69
    go_wp2_with fail
    refine (putk_as base g (some ⟨w.heap.size, 0, none⟩) l [truthN true] (l ++ [truthN true]) 1 1 _ rfl HO.out rfl (fun h => nomatch h) (sees_one _) hlen).mono ?_
    rintro en w1 ⟨⟨rfl, ho, hb⟩, hst⟩
    have HR : Hid (OutAt w1 base g (l ++ [truthN true]) ∧ Below base w w1 ∧ Stays g w w1) := hid ⟨ho, ((Below.refl _ _).alloc hB _).trans hb, (Stays.of_below ((Below.refl _ _).alloc (Nat.le_refl _) _)).trans hst⟩
    clear ho hb hst
    go_wp2
    go_ret
    exact ⟨⟨rfl, HR.out.1, HR.out.2.1⟩, HR.out.2.2⟩
  | false =>
    go_enter Tryz.func69, Tryz.ntmps69
    go_wp2_with fail
    refine (putk_as base g (some ⟨w.heap.size, 0, none⟩) l [truthN false] (l ++ [truthN false]) 1 1 _ rfl HO.out rfl (fun h => nomatch h) (sees_one _) hlen).mono ?_
    rintro en w1 ⟨⟨rfl, ho, hb⟩, hst⟩
    have HR : Hid (OutAt w1 base g (l ++ [truthN false]) ∧ Below base w w1 ∧ Stays g w w1) := hid ⟨ho, ((Below.refl _ _).alloc hB _).trans hb, (Stays.of_below ((Below.refl _ _).alloc (Nat.le_refl _) _)).trans hst⟩
    clear ho hb hst
    go_wp2
    go_ret
    exact ⟨⟨rfl, HR.out.1, HR.out.2.1⟩, HR.out.2.2⟩
def valJ (l : List Nat) (u : Nat) (sm : Bool) (c : K) (f : Nat → Int) : List Nat := (((l ++ shortN u) ++ [truthN sm]) ++ enc c) ++ putTo (natA f) 7
set_option maxRecDepth 100000 in
set_option maxHeartbeats 2000000 in
theorem put_some (base g : Nat) (l : List Nat) (x : J) (a b v u t : Nat) (w : World) (h : OutAt w base g l) (hr : x.r = a) (hs : x.s = b) (hbal : x.bal = v) (hvote : x.vote = u) (ht : x.st = t) (ht0 : t ≠ 0) (ht3 : t ≤ 3) (ha : a < 7) (hb : b < 1024) (hv : v < 4294967296) (hu : u < 4294967296)
    (hP : PartsIs w) (hg : 3 < base) (hK : okK x.c) (hrk : rightK x.c = true) (hokb : okB x.f = true) (hlen : l.length ≤ 100000) :
    Calls Tryz.prog 49 #[.agg (rowJ x), .pointer (some ⟨g, 0, none⟩)] w (PutsN base g (valJ (headJ l a b v t) u x.same x.c x.f) w) := by
  have HI := hid h
  have HP := hid hP
  have h1 : ((l ++ [a]) ++ shortN b).length ≤ 100011 := by
    have := shortN_len10 (v := b) (by omega)
    rw [List.length_append, List.length_append]; simp; omega
  have h2 : (((l ++ [a]) ++ shortN b) ++ shortN v).length ≤ 100021 := by
    have := shortN_len10 (v := v) (by omega)
    rw [List.length_append]; omega
  obtain ⟨L1, hL1⟩ : ∃ L, (l ++ [a]) ++ shortN b = L := ⟨_, rfl⟩
  rw [hL1] at h1 h2
  obtain ⟨L2, hL2⟩ : ∃ L, L1 ++ shortN v = L := ⟨_, rfl⟩
  rw [hL2] at h2
  obtain ⟨L3, hL3⟩ : ∃ L, L2 ++ [t] = L := ⟨_, rfl⟩
  have h3 : L3.length ≤ 100022 := by rw [← hL3, List.length_append, List.length_singleton]; omega
  obtain ⟨L4, hL4⟩ : ∃ L, L3 ++ shortN u = L := ⟨_, rfl⟩
  have h4 : L4.length ≤ 100032 := by have := shortN_len10 (v := u) (by omega); rw [← hL4, List.length_append]; omega
  obtain ⟨sm, hsm⟩ : ∃ b, x.same = b := ⟨_, rfl⟩
  obtain ⟨L5, hL5⟩ : ∃ L, L4 ++ [truthN sm] = L := ⟨_, rfl⟩
  have h5 : L5.length ≤ 100033 := by rw [← hL5, List.length_append, List.length_singleton]; omega
  obtain ⟨L6, hL6⟩ : ∃ L, L5 ++ enc x.c = L := ⟨_, rfl⟩
  have h6 : L6.length ≤ 100333 := by have := enc_len x.c hK hrk; rw [← hL6, List.length_append]; omega
  have hpf : putF x.f = x.f := by unfold putF; rw [if_pos hokb]
  obtain ⟨L7, hL7⟩ : ∃ L, L6 ++ putTo (natA (putF x.f)) 7 = L := ⟨_, rfl⟩
  have HE : Hid (valJ (headJ l a b v t) u x.same x.c x.f = L7) := hid (by unfold valJ headJ; rw [hL1, hL2, hL3, hL4, hsm, hL5, hL6, ← hL7, hpf])
  have HL1 := hid hL1
  have HL2 := hid hL2
  have HL3 := hid hL3
  have HL4 := hid hL4
  have HL5 := hid hL5
  have HL6 := hid hL6
  have HL7 := hid hL7
  have HSM := hid hsm
  have HK := hid hK
  have HRK := hid hrk
  have W8 : IntKind.u8.wrap (t : Int) = t := by rw [IntKind.wrap_u8]; omega
  have hb0 : ((t : Int) == 0) = false := by rw [beq_eq_false_iff_ne]; omega
  clear h hP hL1 hL2 hL3 hL4 hL5 hL6 hL7 hsm hK hrk hokb hpf
  go_enter Tryz.func49, Tryz.ntmps49
  go_upto_region 1 with fail
  obtain ⟨W, hW⟩ : ∃ W, w.alloc (.cells (rowJ x) 37) = W := ⟨_, rfl⟩
  rw [hW]
  have A0 := putj_new HI.out hW
  clear hW HI
  obtain ⟨k, hk⟩ : ∃ k, w.heap.size = k := ⟨_, rfl⟩
  rw [hk] at A0 ⊢
  clear hk
  have c0 := A0.out.blk.j0
  have c1 := A0.out.blk.j1
  rw [hr] at c0
  rw [hs] at c1
  go_wp2_with fail
  with_reducible refine (idput_any base g l L1 a b _ A0.out.oat ha hb (by omega) HL1.out.symm).mono ?_
  rintro en w1 ⟨rfl, ho, hb1, hs1⟩
  have A1 := hid (A0.out.put ho hb1 hs1)
  clear ho hb1 hs1 A0 c0 c1
  have c3 := A1.out.blk.j3
  rw [hbal] at c3
  go_wp2_with fail
  with_reducible refine (ballotput_any base g L1 v _ A1.out.oat hv (by omega)).mono ?_
  rw [HL2.out]
  rintro en w2 ⟨rfl, ho, hb1, hs1⟩
  have A2 := hid (A1.out.put ho hb1 hs1)
  clear ho hb1 hs1 A1 c3
  have c2 := A2.out.blk.j2
  rw [ht] at c2
  go_wp2_with fail
  with_reducible refine (outbytek_any base g L2 t _ _ A2.out.oat (by first | rfl | omega) (by omega)).mono ?_
  rw [HL3.out]
  rintro en w3 ⟨⟨rfl, ho, hb1⟩, hs1⟩
  have A3 := hid (A2.out.put ho hb1 hs1)
  clear ho hb1 hs1 A2 c2 W8
  have c2 := A3.out.blk.j2
  rw [ht] at c2
  have c4 := A3.out.blk.j4
  rw [hvote] at c4
  go_wp2_with fail
  with_reducible refine (ballotput_any base g L3 u _ A3.out.oat hu (by omega)).mono ?_
  rw [HL4.out]
  rintro en w4 ⟨rfl, ho, hb1, hs1⟩
  have A4 := hid (A3.out.put ho hb1 hs1)
  clear ho hb1 hs1 A3 c2 c4
  have c5 := A4.out.blk.j5
  rw [HSM.out] at c5
  go_wp2_with fail
  with_reducible refine (outtruthk_any base g L4 sm _ A4.out.oat (by omega)).mono ?_
  rw [HL5.out]
  rintro en w5 ⟨⟨rfl, ho, hb1⟩, hs1⟩
  have A5 := hid (A4.out.put ho hb1 hs1)
  clear ho hb1 hs1 A4 c5
  have I1 := hid (info_cmd8 x.c)
  have P5 := hid (HP.out.under hg A5.out.bel)
  go_wp2_with (with_reducible refine wpList_load_mid (op := ⟨some 29, _, _, _, _, _⟩) rfl 32 (.tmp 28) rfl k 6 rfl (lsK x.c) _ A5.out.blk.jc Tryz.underlying32 rfl I1.out ?_)
  with_reducible refine (put_right base g L5 x.c _ P5.out hg A5.out.oat (by omega) HK.out HRK.out).mono ?_
  rw [HL6.out]
  rintro en w6 ⟨rfl, ho, hb1, hs1⟩
  have A6 := hid (A5.out.put ho hb1 hs1)
  clear ho hb1 hs1 A5 P5 I1
  have I2 := hid (info_att8 x.f)
  go_wp2_with (with_reducible refine wpList_load_mid (op := ⟨some 33, _, _, _, _, _⟩) rfl 35 (.tmp 32) rfl k 14 rfl (ls8 x.f) _ A6.out.blk.ja Tryz.underlying35 rfl I2.out ?_)
  with_reducible refine (attput_any base g L6 x.f _ A6.out.oat (by omega)).mono ?_
  rw [HL7.out]
  rintro en w7 ⟨rfl, ho, hb1, hs1⟩
  have A7 := hid (A6.out.put ho hb1 hs1)
  clear ho hb1 hs1 A6 I2
  have R : Hid (OutAt w7 base g (valJ (headJ l a b v t) u x.same x.c x.f) ∧ Below base w w7 ∧ Stays g w w7) := hid ⟨by rw [HE.out]; exact A7.out.oat, A7.out.bel, A7.out.stays⟩
  clear A7
  go_wp2
  go_end0
  exact ⟨rfl, R.out⟩
theorem jput_any (base g : Nat) (l : List Nat) (x : J) (w : World) (h : OutAt w base g l) (hP : PartsIs w) (hg : 3 < base) (hok : okJ x) (hK : okK x.c) (hr : rightJ x = true) (hlen : l.length ≤ 100000) :
    Calls Tryz.prog 49 #[.agg (rowJ x), .pointer (some ⟨g, 0, none⟩)] w (PutsN base g (l ++ encJ x) w) := by
  obtain ⟨a, b, v, u, t, ha, hb, hv, hu, ht, ha7, hb10, hvv, hvb, huu, hub, ht3, hn0, h0⟩ := rightJ_in hok hr
  by_cases hz : t = 0
  · subst hz
    have hc := put_none base g l x a b v w h ha hb hv ht ha7 hb10 hvv (by omega)
    have he : headJ l a b v 0 = l ++ encJ x := by
      unfold headJ encJ
      rw [ha, hb, hv, ht]
      simp
    rw [he] at hc
    exact hc
  · obtain ⟨k1, k2⟩ := hn0 hz
    have hc := put_some base g l x a b v u t w h ha hb hv hu ht hz ht3 ha7 hb10 hvv huu hP hg hK k1 k2 hlen
    have he : valJ (headJ l a b v t) u x.same x.c x.f = l ++ encJ x := by
      unfold valJ headJ encJ
      rw [ha, hb, hv, hu, ht, if_neg (by omega)]
      simp only [Int.toNat_natCast, List.append_assoc]
    rw [he] at hc
    exact hc
theorem encJ_len (x : J) (hok : okJ x) (hK : okK x.c) (hr : rightJ x = true) : (encJ x).length ≤ 413 := by
  obtain ⟨a, b, v, u, t, ha, hb, hv, hu, ht, ha7, hb10, hvv, hvb, huu, hub, ht3, hn0, h0⟩ := rightJ_in hok hr
  unfold encJ
  rw [ha, hb, hv, hu, ht]
  simp only [Int.toNat_natCast]
  have q1 := shortN_len10 (v := b) (by omega)
  have q2 := shortN_len10 (v := v) (by omega)
  have q3 := shortN_len10 (v := u) (by omega)
  split
  · simp only [List.length_append, List.length_singleton, List.length_nil]; omega
  · obtain ⟨k1, k2⟩ := hn0 (by omega)
    obtain ⟨_, n0, n1⟩ := ok_nat k2
    have q4 := putTo_len n0 n1 7 (Nat.le_refl _)
    have q5 := enc_len x.c hK k1
    simp only [List.length_append, List.length_singleton]; omega
set_option maxRecDepth 100000 in
set_option maxHeartbeats 1000000 in
theorem jbytes_any (x : J) (w : World) (hP : PartsIs w) (hok : okJ x) (hK : okK x.c) (hr : rightJ x = true) :
    Calls Tryz.prog 17 #[.agg (rowJ x)] w (Hands (encJ x) w) := by
  have hlen := encJ_len x hok hK hr
  have HP := hid hP
  have HO := hid hok
  have HK := hid hK
  have HR := hid hr
  obtain ⟨L, hL⟩ : ∃ L, encJ x = L := ⟨_, rfl⟩
  rw [hL] at hlen ⊢
  have HL := hid hL
  have hlt := hP.lt
  clear hP hok hK hr hL
  go_enter Tryz.func17, Tryz.ntmps17
  go_upto_region 2 with fail
  obtain ⟨W, hW⟩ : ∃ W, (w.alloc (.cells (rowJ x) 37)).alloc (.cells #[.slice none 0 0] 97) = W := ⟨_, rfl⟩
  rw [hW]
  obtain ⟨K0, K1, KB⟩ := two_new hW
  clear hW
  have HOut : Hid (OutAt W w.heap.size (w.heap.size + 1) []) := hid ⟨by omega, _, K1.out, World.ownsRow_nil _ _ _ _⟩
  have PW := hid (HP.out.below KB.out)
  have L1 := hid (len_inst x)
  go_wp2_with (with_reducible refine wpList_load_row (o := ⟨some 5, _, _, _, _, _⟩) rfl 37 (.tmp 1) rfl w.heap.size rfl 37 (rowJ x) (0, 0) _ K0.out.heap Tryz.underlying37 rfl L1.out ?_)
  with_reducible refine (jput_any w.heap.size (w.heap.size + 1) [] x _ HOut.out PW.out hlt HO.out HK.out HR.out (by simp)).mono ?_
  rw [List.nil_append, HL.out]
  rintro en w1 ⟨rfl, ho, hb, hs⟩
  have HO1 := hid ho
  have HB1 := hid (KB.out.trans hb)
  clear ho hb hs K0 K1 KB HOut PW
  go_wp2_with fail
  with_reducible refine (outbytes_any w.heap.size (w.heap.size + 1) L _ HO1.out (by omega)).mono ?_
  intro e w2 hm
  obtain ⟨A, ca, rfl, h1, h2, h3, h4⟩ := hm.hands
  have H1 := hid h1
  have H3 := hid h3
  have H4 := hid (HB1.out.trans (h4.mono HB1.out.size))
  clear h1 h3 h4 hm
  go_wp2
  go_ret
  exact ⟨A, ca, rfl, H1.out, h2, H3.out, H4.out⟩
theorem results_row_num {P : Program} {fn : Func} {p q : Tmp} {ty : TypeId} (h : fn.results = #[.cell p ty, .tmp q]) (tmps : Array Value) (w : World) (g : Nat) (t : TypeId) (cs : Array Value) (fr : Nat × Nat) (d : TypeDesc) (u : Value)
    (hp : tmps.getD p undef = .pointer (some ⟨g, 0, none⟩)) (hq : tmps.getD q undef = u) (hg : w.heap[g]? = some (.cells cs t fr))
    (hu : P.underlying ty = some d) (hd : (match d with | .struct _ | .array _ _ => true | _ => false) = true) (hi : (P.info? ty).map (·.size) = some cs.size) :
    (results fn tmps).run P w = .ok (.tuple #[.agg cs, u]) w := by
  have hp' : tmps[p]?.getD undef = .pointer (some ⟨g, 0, none⟩) := by simpa using hp
  have hq' : tmps[q]?.getD undef = u := by simpa using hq
  simp [results, h, hp', hq', asAddr, run_loadVar_row w g t ty cs fr d hg hu hd hi]
set_option maxRecDepth 100000 in
set_option maxHeartbeats 2000000 in
theorem jparse_as (A : Option Addr) (L : List Nat) (n ca : Nat) (l' : List Nat) (e' : Nat) (x : J) (w : World) (hP : PartsIs w) (hn : L.length = n) (hl : n ≤ 140737488355328) (hc : A = none → ca = 0) (hA : Sees .u8 w A L) (h8 : ∀ x ∈ L, x < 256) (hs : sInst L 0 = (l', e', x)) :
    Calls Tryz.prog 12 #[.slice A n ca] w fun e w' => e = .returned (.tuple #[.agg (rowJ (if endE l' e' = 0 then x else zeroJ)), .int .i64 ((endE l' e' : Nat) : Int)]) ∧ Below w.heap.size w w' := by
  have HP := hid hP
  have hlt := hP.lt
  have HN := hid hn
  have HC := hid hc
  have HS := hid hs
  have H8 := hid h8
  have HA := hid hA
  have SL : Hid (Sound L 0) := hid ⟨fine0 _, h8, by omega⟩
  obtain ⟨q, hq⟩ : ∃ q, endE l' e' = q := ⟨_, rfl⟩
  have HQ := hid hq
  rw [hq]
  clear hP hn hc hs h8 hA hq
  go_enter Tryz.func12, Tryz.ntmps12
  go_upto_region 1 with fail
  obtain ⟨W, hW⟩ : ∃ W, w.alloc (.cells zrow 37) = W := ⟨_, rfl⟩
  rw [hW]
  obtain ⟨K0, KB⟩ := one_new hW
  rw [zrow_is] at K0
  have HAW := hid (HA.out.below KB.out)
  have PW := hid (HP.out.below KB.out)
  clear hW HA HP
  obtain ⟨k, hk⟩ : ∃ k, w.heap.size = k := ⟨_, rfl⟩
  rw [hk] at K0 KB hlt
  rw [hk]
  have HK := hid hk
  clear hk
  go_wp2_with fail
  with_reducible refine (newin_any A L n ca _ HN.out hl HC.out HAW.out).mono ?_
  rintro en w1 ⟨g, rfl, hin, hb, hg⟩
  have K1 := hid (K0.out.below hb K0.out.lt)
  have B1 := hid (below_pay KB.out (by have := K0.out.lt; omega) hb)
  have P1 := hid (PW.out.below hb)
  have I1 := hid hin
  have hkg : k < g := by have := K0.out.lt; omega
  clear hin hb hg K0 KB PW HAW
  go_wp2_with fail
  with_reducible refine (insttake_any g L 0 l' e' x _ I1.out SL.out P1.out (by omega) HS.out).mono ?_
  rintro en w2 ⟨rfl, hin, hgr⟩
  have I2 := hid hin
  have K2 := hid (K1.out.grown hgr (by intro e; injection e with e; omega))
  have B2 : Hid (Below k w w2) := hid (B1.out.trans (below_only (B := k) hgr (by omega) (by have := K1.out.lt; omega)))
  clear hin hgr I1 K1 B1 P1
  obtain ⟨m, hm⟩ : ∃ m, w2.heap.size = m := ⟨_, rfl⟩
  have E0 : Hid (Blk (w2.alloc (.cells zrow 37)) m 37 zrow) := hid (by rw [← hm]; exact Blk.new w2 37 zrow)
  have N1 := hid (len_inst x)
  have N3 := hid (rowJ_one x)
  go_upto_region 3 with (refine wpList_store_row (o := ⟨none, _, _, _, _, _⟩) rfl 37 (.tmp 5) (.tmp 10) rfl m (rowJ x) rfl rfl 37 zrow E0.out.heap N1.out rfl N3.out ?_)
  obtain ⟨W3, hW3⟩ : ∃ W3, (w2.alloc (.cells zrow 37)).setRow m (rowJ x) = W3 := ⟨_, rfl⟩
  have hkm : k < m := by have := K2.out.lt; omega
  have hgm : g < m := by have := I2.out.lt; omega
  have F0 : Hid (Blk W3 k 37 (rowJ zeroJ)) := hid (by rw [← hW3]; exact (K2.out.alloc _).rowFar (by omega) _)
  have F1 : Hid (Blk W3 m 37 (rowJ x)) := hid (by rw [← hW3]; exact E0.out.row _)
  have F2 : Hid (InAt W3 g l' e') := hid (by rw [← hW3]; exact (I2.out.keep ((Below.refl _ _).alloc (by omega) _)).setRow hgm)
  have FB : Hid (Below k w W3) := hid (by rw [← hW3]; exact below_setRow_ (B2.out.trans ((Below.refl k w2).alloc (by omega) _)) (by omega))
  rw [hW3]
  clear hW3 hm E0 I2 K2 B2
  go_wp2_with fail
  with_reducible refine (end_any g l' e' _ F2.out).mono ?_
  rw [HQ.out]
  rintro en w4 ⟨rfl, rfl⟩
  by_cases h0 : q = 0
  · subst h0
    go_wp2_with (first
      | (with_reducible refine wpList_load_row (o := ⟨some 17, _, _, _, _, _⟩) rfl 37 (.tmp 5) rfl m rfl 37 (rowJ x) (0, 0) _ F1.out.heap Tryz.underlying37 rfl N1.out ?_)
      | (refine wpList_store_row (o := ⟨none, _, _, _, _, _⟩) rfl 37 (.tmp 2) (.tmp 17) rfl k (rowJ x) rfl rfl 37 (rowJ zeroJ) F0.out.heap N1.out rfl N3.out ?_))
    exact bodyPost_ret (v := .tuple #[.agg (rowJ x), .int .i64 0]) (results_row_num (p := 2) (q := 3) (ty := 37) (by kernel_rfl) _ _ k 37 (rowJ x) (0, 0) _ _ rfl rfl (setRow_heap W3 k _ (rowJ x) _ _ F0.out.heap) Tryz.underlying37 rfl N1.out) rfl ⟨rfl, by rw [HK.out]; exact below_setRow_ FB.out (Nat.le_refl _)⟩
  · have hb : ((q : Int) != 0) = true := by rw [bne_iff_ne]; omega
    have Z1 := hid (len_inst zeroJ)
    have Z3 := hid (rowJ_one zeroJ)
    have H0 := hid h0
    clear h0
    go_wp2_with (refine wpList_store_row (o := ⟨none, _, _, _, _, _⟩) rfl 37 (.tmp 2) (.tmp 15) rfl k (rowJ zeroJ) (by rfl) ?hy 37 (rowJ zeroJ) F0.out.heap Z1.out (size_inst _ _) Z3.out ?_; (case hy => rfl))
    exact bodyPost_ret (v := .tuple #[.agg (rowJ zeroJ), .int .i64 (q : Int)]) (results_row_num (p := 2) (q := 3) (ty := 37) (by kernel_rfl) _ _ k 37 (rowJ zeroJ) (0, 0) _ _ rfl rfl (setRow_heap W3 k _ (rowJ zeroJ) _ _ F0.out.heap) Tryz.underlying37 rfl Z1.out) rfl ⟨rfl, by rw [HK.out]; exact below_setRow_ FB.out (Nat.le_refl _)⟩
end Go.Proofs.YtohffiehmmcgbaaGreatDoor
