/-
  The contract of Open (package msg): off a right message's frame, and off one whose sum is another one.
-/
import Derived.Test.YtohffiehmmcgbaaGreatDoorXYTake
namespace Go.Proofs.YtohffiehmmcgbaaGreatDoor
open Go.ChangeShapes Go.WideShapes Go.ChangeAt Go.RowKit Go.Lib
set_option linter.unusedVariables false
set_option linter.unusedSimpArgs false
set_option maxRecDepth 100000 in
set_option maxHeartbeats 4000000 in
theorem mopen_ok (b o : Nat) (m : Ms) (n c : Nat) (w : World) (hm6 : m.k = 6) (hP : PartsIs w) (hok : okM m) (hr : rightM m = true) (hn : (encM m).length = n) (hc : n + 4 ≤ c) (hA : Sees .u8 w (some ⟨b, o, none⟩) (sealed (encM m))) (hf : m.x.c.foot.size ≤ 4611686018427387903) (hp : m.x.c.path.size ≤ 4611686018427387903) :
    Calls Tryz.prog 30 #[.slice (some ⟨b, o, none⟩) (n + 4) c] w fun e w' => e = .returned (.tuple #[.agg (rowM m), .int .i64 0]) ∧ Below w.heap.size w w' := by
  have hlen := encM_len m hok hr
  have H8 := hid (encM_byte m hok hr)
  have HMT := hid (fun (g : Nat) (w : World) (h : InAt w g (encM m) 0) (hP : PartsIs w) (hg : 3 < g) => mtake_right g m w h hm6 hok hr hP hg)
  have HA : Hid (Sees .u8 w (some ⟨b, o, none⟩) (encM m ++ le4 (crcOf (encM m)))) := hid hA
  obtain ⟨M, hM⟩ : ∃ M, encM m = M := ⟨_, rfl⟩
  rw [hM] at hn hlen H8 HMT HA
  have hnl : n ≤ 440 := by omega
  have HP := hid hP
  have HO := hid hok
  have HR := hid hr
  have HN := hid hn
  have hlt := hP.lt
  clear hA hM hP hok hr hn
  go_enter Tryz.func30, Tryz.ntmps30
  go_upto_region 1 with fail
  obtain ⟨W, hW⟩ : ∃ W, w.alloc (.cells zrowM 64) = W := ⟨_, rfl⟩
  rw [hW]
  obtain ⟨K0, KB⟩ := one_new hW
  rw [zrowM_is] at K0
  have HAW := hid (HA.out.below KB.out)
  have PW := hid (HP.out.below KB.out)
  clear hW HA HP
  obtain ⟨k, hk⟩ : ∃ k, w.heap.size = k := ⟨_, rfl⟩
  rw [hk] at K0 KB hlt
  rw [hk]
  have HK := hid hk
  clear hk
  go_wp2_with fail
  with_reducible refine (open_ok b o M (le4 (crcOf M)) n c _ HN.out rfl (by omega) hc H8.out HAW.out rfl).mono ?_
  rintro en w1 ⟨A, cap, rfl, hcap, hs, hb⟩
  have K1 := hid (K0.out.below hb K0.out.lt)
  have B1 := hid (below_pay KB.out (by have := K0.out.lt; omega) hb)
  have P1 := hid (PW.out.below hb)
  have S1 := hid hs
  have C1 := hid hcap
  clear hb hs hcap K0 KB PW HAW
  go_wp2_with fail
  with_reducible refine (newin_any A M n cap _ HN.out (by omega) C1.out S1.out).mono ?_
  rintro en w2 ⟨g, rfl, hin, hb, hg⟩
  have K2 := hid (K1.out.below hb K1.out.lt)
  have B2 := hid (below_pay B1.out (by have := K1.out.lt; omega) hb)
  have P2 := hid (P1.out.below hb)
  have I2 := hid hin
  have hkg : k < g := by have := K1.out.lt; omega
  clear hin hb hg K1 B1 P1 S1
  go_wp2_with fail
  with_reducible refine (HMT.out g _ I2.out P2.out (by omega)).mono ?_
  rintro en w3 ⟨rfl, hin, hgr⟩
  have I3 := hid hin
  have K3 := hid (K2.out.grown hgr (by intro e; injection e with e; omega))
  have B3 : Hid (Below k w w3) := hid (B2.out.trans (below_only (B := k) hgr (by omega) (by have := K2.out.lt; omega)))
  have P3 : Hid (PartsIs w3) := hid (var_grown gParts P2.out P2.out.lt (by intro e; injection e with e; omega) hgr)
  clear hin hgr I2 K2 B2 P2
  obtain ⟨q, hq⟩ : ∃ q, w3.heap.size = q := ⟨_, rfl⟩
  have E0 : Hid (Blk (w3.alloc (.cells zrowM 64)) q 64 zrowM) := hid (by rw [← hq]; exact Blk.new w3 64 zrowM)
  have N1 := hid (len_msg m)
  have N3 := hid (rowM_one m)
  go_upto_region 8 with (refine wpList_store_row (o := ⟨none, _, _, _, _, _⟩) rfl 64 (.tmp 7) (.tmp 25) rfl q (rowM m) rfl rfl 64 zrowM E0.out.heap N1.out rfl N3.out ?_)
  obtain ⟨W3, hW3⟩ : ∃ W3, (w3.alloc (.cells zrowM 64)).setRow q (rowM m) = W3 := ⟨_, rfl⟩
  have hkq : k < q := by have := K3.out.lt; omega
  have hgq : g < q := by have := I3.out.lt; omega
  have F0 : Hid (Blk W3 k 64 (rowM zeroM)) := hid (by rw [← hW3]; exact (K3.out.alloc _).rowFar (by omega) _)
  have F1 : Hid (Blk W3 q 64 (rowM m)) := hid (by rw [← hW3]; exact E0.out.row _)
  have F2 : Hid (InAt W3 g [] 0) := hid (by rw [← hW3]; exact (I3.out.keep ((Below.refl _ _).alloc (by omega) _)).setRow hgq)
  have FB : Hid (Below k w W3) := hid (by rw [← hW3]; exact below_setRow_ (B3.out.trans ((Below.refl k w3).alloc (by omega) _)) (by omega))
  have FP : Hid (PartsIs W3) := hid (by rw [← hW3]; exact var_under gParts (P3.out.alloc (.cells zrowM 64)) (base := q) (by omega) (below_setRow_ (Below.refl _ _) (Nat.le_refl _)))
  rw [hW3]
  clear hW3 hq E0 I3 K3 B3 P3
  go_wp2_with fail
  with_reducible refine (end_any g [] 0 _ F2.out).mono ?_
  rintro en w4 ⟨rfl, rfl⟩
  have hee : endE [] 0 = 0 := rfl
  rw [hee]
  go_wp2_with (with_reducible refine wpList_load_row (o := ⟨some 32, _, _, _, _, _⟩) rfl 64 (.tmp 7) rfl q rfl 64 (rowM m) (0, 0) _ F1.out.heap Tryz.underlying64 rfl N1.out ?_)
  with_reducible refine (mright_any m HO.out _ FP.out hf hp).mono ?_
  rw [HR.out]
  rintro en w5 ⟨rfl, hb⟩
  have G0 := hid (F0.out.below hb F0.out.lt)
  have G1 := hid (F1.out.below hb F1.out.lt)
  have GB := hid (below_pay FB.out (by have := F0.out.lt; omega) hb)
  clear hb F0 F1 F2 FB FP hee
  go_wp2_with (first
    | (with_reducible refine wpList_load_row (o := ⟨some 36, _, _, _, _, _⟩) rfl 64 (.tmp 7) rfl q rfl 64 (rowM m) (0, 0) _ G1.out.heap Tryz.underlying64 rfl N1.out ?_)
    | (with_reducible refine wpList_store_row (o := ⟨none, _, _, _, _, _⟩) rfl 64 (.tmp 2) (.tmp 36) rfl k (rowM m) rfl rfl 64 (rowM zeroM) G0.out.heap N1.out (size_msg _ _) N3.out ?_))
  exact bodyPost_ret (v := .tuple #[.agg (rowM m), .int .i64 0]) (results_row_num (p := 2) (q := 3) (ty := 64) (by kernel_rfl) _ _ k 64 (rowM m) (0, 0) _ _ rfl rfl (setRow_heap w5 k _ (rowM m) _ _ G0.out.heap) Tryz.underlying64 rfl N1.out) rfl ⟨rfl, by rw [HK.out]; exact below_setRow_ GB.out (Nat.le_refl _)⟩
end Go.Proofs.YtohffiehmmcgbaaGreatDoor
