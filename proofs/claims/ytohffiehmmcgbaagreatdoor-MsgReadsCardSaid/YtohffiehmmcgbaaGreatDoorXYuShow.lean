/-
  A message is shown: showOK, Show (package msg).
-/
import Derived.Test.YtohffiehmmcgbaaGreatDoorXYuText
import Derived.Test.YtohffiehmmcgbaaGreatDoorXYRight
namespace Go.Proofs.YtohffiehmmcgbaaGreatDoor
open Go.ChangeShapes Go.WideShapes Go.ChangeAt Go.RowKit Go.Lib
set_option linter.unusedVariables false
set_option linter.unusedSimpArgs false
def All11 (w : World) : Prop := All10 w ∧ MsgsIs w
theorem All11.below {w w' : World} (h : All11 w) (hb : Below w.heap.size w w') : All11 w' := ⟨h.1.below hb, h.2.below hb⟩
theorem All11.ten {w : World} (h : All11 w) : All10 w := h.1
theorem All11.msgs {w : World} (h : All11 w) : MsgsIs w := h.2
theorem own_five (w : World) (base : Nat) (a b c d e : ByteArray) (hb : base ≤ w.heap.size) : (w.alloc (.cells #[.string a, .string b, .string c, .string d, .string e] 9)).ownsRow base 9 1 (.slice (some ⟨w.heap.size, 0, none⟩) 5 5) 5 (strs [a, b, c, d, e]) :=
  ⟨rfl, .inr ⟨w.heap.size, 5, _, rfl, hb, Blk.new _ _ _, by decide, by decide, rfl, rfl⟩⟩
set_option maxRecDepth 100000 in
set_option maxHeartbeats 1000000 in
theorem saysok_any (m : Ms) (w : World) :
    Calls Tryz.prog 86 #[.agg (rowM m)] w fun e w' => (∃ t : ByteArray, e = .returned (.string t) ∧ Sb t = saysL m.k m.ok ∧ t.size ≤ 4) ∧ Below w.heap.size w w' := by
  obtain ⟨b, hbb⟩ : ∃ b, replyB m.k = b := ⟨_, rfl⟩
  obtain ⟨o, ho⟩ : ∃ o, m.ok = o := ⟨_, rfl⟩
  have HB := hid hbb
  have HO := hid ho
  have HS : Hid (saysL m.k m.ok = if b then (if o then [121, 101, 115] else [110, 111]) else [97, 115, 107, 115]) := hid (by unfold saysL; rw [hbb, ho])
  clear hbb ho
  go_enter Tryz.func86, Tryz.ntmps86
  go_upto_region 1 with fail
  obtain ⟨W, hW⟩ : ∃ W, w.alloc (.cells (rowM m) 64) = W := ⟨_, rfl⟩
  rw [hW]
  obtain ⟨K0, KB⟩ := one_new hW
  clear hW
  obtain ⟨k, hk⟩ : ∃ k, w.heap.size = k := ⟨_, rfl⟩
  rw [hk] at K0 KB
  rw [hk]
  have HK := hid hk
  clear hk
  have c0 := K0.out.m0
  have c6 : W.cell? ⟨k, 6, none⟩ = some (.bool o) := by rw [← HO.out]; exact K0.out.m6
  go_wp2_with fail
  with_reducible refine (isreply_any m.k _).mono ?_
  rw [HB.out]
  rintro e w1 ⟨rfl, rfl⟩
  cases b
  · go_wp2
    exact bodyPost_ret (v := .string ⟨#[97, 115, 107, 115]⟩) (by simp [results, Tryz.results86, go_sem]) rfl ⟨⟨_, rfl, by rw [HS.out]; rfl, by decide⟩, by rw [HK.out]; exact KB.out⟩
  · cases o
    · go_wp2
      exact bodyPost_ret (v := .string ⟨#[110, 111]⟩) (by simp [results, Tryz.results86, go_sem]) rfl ⟨⟨_, rfl, by rw [HS.out]; rfl, by decide⟩, by rw [HK.out]; exact KB.out⟩
    · go_wp2
      exact bodyPost_ret (v := .string ⟨#[121, 101, 115]⟩) (by simp [results, Tryz.results86, go_sem]) rfl ⟨⟨_, rfl, by rw [HS.out]; rfl, by decide⟩, by rw [HK.out]; exact KB.out⟩
theorem textJ_len (x : J) (hok : okJ x) (hK : okK x.c) (hr : rightJ x = true) : (textJ x).length ≤ 8000 := by
  have hh : (headT x).length ≤ 700 := by
    obtain ⟨a, b, v, u, t, ha, hb, hv, hu, ht, ha7, hb10, hvv, hvb, huu, hub, ht3, hn0, _⟩ := rightJ_in hok hr
    have l1 := textOf_len (a := x.r) (b := x.s) (by omega) (by omega) (by omega) (by omega)
    have l2 := balT_len x.bal.toNat (by omega)
    have l3 := statL_len x.st.toNat (by omega)
    have l4 := balT_len x.vote.toNat (by omega)
    have l5 := whoL_len x.same
    unfold headT
    by_cases h0 : x.st = 0
    · rw [if_pos h0]
      simp only [List.length_append, List.length_cons]
      omega
    · rw [if_neg h0]
      have l6 := textA_len (hn0 (by omega)).2
      simp only [List.length_append, List.length_cons, List.length_nil]
      omega
  have h := textJ_size (t := mk (textJ x)) hok hK hr (by omega) (sb_mk _)
  rwa [sb_size (sb_mk (textJ x))] at h
def ShowM (w0 : World) (k : Nat) (w : World) (m : Ms) : Prop := Blk w k 64 (rowM m) ∧ Below k w0 w ∧ All11 w
section
variable {w0 w w' : World} {k : Nat} {m : Ms}
theorem ShowM.on (h : ShowM w0 k w m) (hb : Below w.heap.size w w') : ShowM w0 k w' m := ⟨h.1.below hb h.1.lt, below_pay h.2.1 (by have := h.1.lt; omega) hb, h.2.2.below hb⟩
theorem ShowM.blk (h : ShowM w0 k w m) : Blk w k 64 (rowM m) := h.1
theorem ShowM.bel (h : ShowM w0 k w m) : Below k w0 w := h.2.1
theorem ShowM.all (h : ShowM w0 k w m) : All11 w := h.2.2
theorem ShowM.drew (h : ShowM w0 k w m) : ShowM w0 k w.drew m := ⟨h.1.drew, below_drew h.2.1, h.2.2⟩
end
set_option maxRecDepth 100000 in
set_option maxHeartbeats 8000000 in
theorem mshow_as (kn a b r s v : Nat) (ok : Bool) (x : J) (w : World) (hL : All11 w) (hok : okM ⟨kn, a, b, r, s, v, ok, x⟩) (hr : rightM ⟨kn, a, b, r, s, v, ok, x⟩ = true) (hk0 : 0 < kn) (hk8 : kn < 8) (ha : a ≤ 6) (hb6 : b ≤ 6) (hr7 : r < 7) (hs : s < 1024) (hv : v < 4294967296) (hvb : ballotB v = true) (hx : kn ≠ 6 → rightJ x = true) (hf : x.c.foot.size ≤ 4611686018427387903) (hp : x.c.path.size ≤ 4611686018427387903) :
    Calls Tryz.prog 36 #[.agg (rowM ⟨kn, a, b, r, s, v, ok, x⟩)] w fun e w' => (∃ r' : ByteArray, e = .returned (.tuple #[.string r', .int .i64 0]) ∧ Sb r' = textM ⟨kn, a, b, r, s, v, ok, x⟩) ∧ Below w.heap.size w w' := by
  obtain ⟨i0, hi, hz0, hz1, hz2⟩ := info_parts info_str9
  have HT0 : Hid (kn = 6 → textM ⟨kn, a, b, r, s, v, ok, x⟩ = Lib.join [msgL kn, toT a b, textOf r s, balT v, saysL kn ok] [32]) := hid (fun h => by
    unfold textM partsM headsU
    simp only [Int.toNat_natCast]
    rw [if_pos (by omega)]
    rfl)
  have HT1 : Hid (kn ≠ 6 → textM ⟨kn, a, b, r, s, v, ok, x⟩ = Lib.join [msgL kn, toT a b, textOf r s, balT v, saysL kn ok, textJ x] [32]) := hid (fun h => by
    unfold textM partsM headsU
    simp only [Int.toNat_natCast]
    rw [if_neg (by omega)]
    rfl)
  have HNM : Hid (nameB (r : Int) (s : Int) = true) := hid (by unfold nameB; exact decide_eq_true ⟨by omega, by omega, by omega, by omega⟩)
  have HVB : Hid (balB (v : Int) = true) := hid (by unfold balB; rw [Int.toNat_natCast]; exact hvb)
  have HV2 := hid (show 0 ≤ (v : Int) ∧ (v : Int) < 4294967296 from ⟨by omega, by omega⟩)
  obtain ⟨TT, hTT⟩ : ∃ T, textM ⟨kn, a, b, r, s, v, ok, x⟩ = T := ⟨_, rfl⟩
  rw [hTT] at HT0 HT1 ⊢
  clear hTT
  have HL := hid hL
  have HO := hid hok
  have HOX := hid (show okJ x ∧ okK x.c from And.right hok)
  have HR := hid hr
  have HX := hid hx
  have L1 := hid (len_msg ⟨kn, a, b, r, s, v, ok, x⟩)
  clear hL hok hr hx hvb
  go_enter Tryz.func36, Tryz.ntmps36
  go_upto_region 1 with fail
  obtain ⟨W, hW⟩ : ∃ W, w.alloc (.cells (rowM ⟨kn, a, b, r, s, v, ok, x⟩) 64) = W := ⟨_, rfl⟩
  rw [hW]
  obtain ⟨K0, KB⟩ := one_new hW
  have LW := hid (HL.out.below KB.out)
  clear hW HL
  obtain ⟨k, hk⟩ : ∃ k, w.heap.size = k := ⟨_, rfl⟩
  rw [hk] at K0 KB
  rw [hk]
  have HKK := hid hk
  have A0 : Hid (ShowM w k W ⟨kn, a, b, r, s, v, ok, x⟩) := hid ⟨K0.out, KB.out, LW.out⟩
  clear hk K0 KB LW
  go_wp2_with (with_reducible refine wpList_load_row (o := ⟨some 11, _, _, _, _, _⟩) rfl 64 (.tmp 1) rfl k rfl 64 (rowM ⟨kn, a, b, r, s, v, ok, x⟩) (0, 0) _ A0.out.blk.heap Tryz.underlying64 rfl L1.out ?_)
  with_reducible refine (mright_any ⟨kn, a, b, r, s, v, ok, x⟩ HO.out _ A0.out.all.ten.parts hf hp).mono ?_
  rw [HR.out]
  rintro e w1 ⟨rfl, hb⟩
  have A1 := hid (A0.out.on hb)
  clear hb A0
  have c3 := A1.out.blk.m3
  have c4 := A1.out.blk.m4
  go_wp2_with fail
  with_reducible refine (idshow_yes (r : Int) (s : Int) _ A1.out.all.ten.laid HNM.out).mono ?_
  rintro e w2 ⟨⟨tc, rfl, htc⟩, hb⟩
  have TC := hid htc
  have A2 := hid (A1.out.on hb)
  clear hb htc c3 c4 A1
  have c5 := A2.out.blk.m5
  go_wp2_with fail
  with_reducible refine (balshow_int (v : Int) _ HV2.out A2.out.all.ten.laid HVB.out).mono ?_
  rintro e w3 ⟨⟨td, rfl, htd⟩, hb⟩
  have TD : Hid (Sb td = balT v) := hid (by rw [htd, Int.toNat_natCast])
  have A3 := hid (A2.out.on hb)
  clear hb htd c5 A2
  have hkn8 : (kn : Int) < 8 := by omega
  obtain ⟨ta, hta⟩ : ∃ s, mk (msgL kn) = s := ⟨_, rfl⟩
  have TA : Hid (Sb ta = msgL kn) := hid (by rw [← hta]; exact sb_mk _)
  have CS : Hid (∀ w' : World, All11 w' → w'.cell? ⟨2, kn, none⟩ = some (.string ta)) := hid (fun w' h => by rw [← hta]; exact msgs_cell h.msgs kn hk8)
  clear hta
  go_upto_region 5 with fail
  refine wp_region_held_drew (S := (fun w' => ShowM w k w' ⟨kn, a, b, r, s, v, ok, x⟩)) (by kernel_rfl) (by exact A3.out.drew) (fun hHeld => ?_)
  refine wpAnyH_take (i := 0) (oi := _) (v := ?_) rfl (by kernel_rfl) (by kernel_rfl) (by kernel_rfl) (fun _ _ _ h => h) (Or.inl ⟨by kernel_rfl, ?_⟩) hHeld ?_
  rotate_left 1
  focus (intro w' hSw; (try dsimp only at hSw); go_simp; try with_reducible rfl)
  try simp only [Act.put, List.getElem_toArray, List.getElem_cons_zero, List.getElem_cons_succ, List.setIfInBounds_toArray, List.set_cons_zero, List.set_cons_succ]
  refine wpAnyH_take (i := 1) (oi := _) (v := ?_) rfl (by kernel_rfl) (by kernel_rfl) (by kernel_rfl) (fun _ _ _ h => h) (Or.inl ⟨by kernel_rfl, ?_⟩) hHeld ?_
  rotate_left 1
  focus (intro w' hSw; (try dsimp only at hSw); have q0 := Blk.m0 hSw.1; go_simp; try with_reducible rfl)
  try simp only [Act.put, List.getElem_toArray, List.getElem_cons_zero, List.getElem_cons_succ, List.setIfInBounds_toArray, List.set_cons_zero, List.set_cons_succ]
  refine wpAnyH_take (i := 2) (oi := _) (v := ?_) rfl (by kernel_rfl) (by kernel_rfl) (by kernel_rfl) (fun _ _ _ h => h) (Or.inl ⟨by kernel_rfl, ?_⟩) hHeld ?_
  rotate_left 1
  focus (intro w' hSw; (try dsimp only at hSw); go_simp; try with_reducible rfl)
  try simp only [Act.put, List.getElem_toArray, List.getElem_cons_zero, List.getElem_cons_succ, List.setIfInBounds_toArray, List.set_cons_zero, List.set_cons_succ]
  refine wpAnyH_take (i := 3) (oi := _) (v := ?_) rfl (by kernel_rfl) (by kernel_rfl) (by kernel_rfl) (fun _ _ _ h => h) (Or.inl ⟨by kernel_rfl, ?_⟩) hHeld ?_
  rotate_left 1
  focus (intro w' hSw; (try dsimp only at hSw); have q0 := CS.out _ hSw.2.2; go_simp; try with_reducible rfl)
  try simp only [Act.put, List.getElem_toArray, List.getElem_cons_zero, List.getElem_cons_succ, List.setIfInBounds_toArray, List.set_cons_zero, List.set_cons_succ]
  refine wpAnyH_take (i := 4) (oi := _) (v := ?_) rfl (by kernel_rfl) (by kernel_rfl) (by kernel_rfl) (fun _ _ _ h => h) (Or.inl ⟨by kernel_rfl, ?_⟩) hHeld ?_
  rotate_left 1
  focus (intro w' hSw; (try dsimp only at hSw); go_simp; try with_reducible rfl)
  try simp only [Act.put, List.getElem_toArray, List.getElem_cons_zero, List.getElem_cons_succ, List.setIfInBounds_toArray, List.set_cons_zero, List.set_cons_succ]
  refine wpAnyH_take (i := 5) (oi := _) (v := ?_) rfl (by kernel_rfl) (by kernel_rfl) (by kernel_rfl) (fun _ _ _ h => h) (Or.inl ⟨by kernel_rfl, ?_⟩) hHeld ?_
  rotate_left 1
  focus (intro w' hSw; (try dsimp only at hSw); have q0 := Blk.m1 hSw.1; go_simp; try with_reducible rfl)
  try simp only [Act.put, List.getElem_toArray, List.getElem_cons_zero, List.getElem_cons_succ, List.setIfInBounds_toArray, List.set_cons_zero, List.set_cons_succ]
  refine wpAnyH_take (i := 8) (oi := _) (v := ?_) rfl (by kernel_rfl) (by kernel_rfl) (by kernel_rfl) (fun _ _ _ h => h) (Or.inl ⟨by kernel_rfl, ?_⟩) hHeld ?_
  rotate_left 1
  focus (intro w' hSw; (try dsimp only at hSw); go_simp; try with_reducible rfl)
  try simp only [Act.put, List.getElem_toArray, List.getElem_cons_zero, List.getElem_cons_succ, List.setIfInBounds_toArray, List.set_cons_zero, List.set_cons_succ]
  refine wpAnyH_take (i := 9) (oi := _) (v := ?_) rfl (by kernel_rfl) (by kernel_rfl) (by kernel_rfl) (fun _ _ _ h => h) (Or.inl ⟨by kernel_rfl, ?_⟩) hHeld ?_
  rotate_left 1
  focus (intro w' hSw; (try dsimp only at hSw); have q0 := Blk.m2 hSw.1; go_simp; try with_reducible rfl)
  try simp only [Act.put, List.getElem_toArray, List.getElem_cons_zero, List.getElem_cons_succ, List.setIfInBounds_toArray, List.set_cons_zero, List.set_cons_succ]
  refine wpAnyH_take (i := 12) (oi := _) (v := ?_) rfl (by kernel_rfl) (by kernel_rfl) (by kernel_rfl) (fun _ _ _ h => h) (Or.inl ⟨by kernel_rfl, ?_⟩) hHeld ?_
  rotate_left 1
  focus (intro w' hSw; (try dsimp only at hSw); go_simp; try with_reducible rfl)
  try simp only [Act.put, List.getElem_toArray, List.getElem_cons_zero, List.getElem_cons_succ, List.setIfInBounds_toArray, List.set_cons_zero, List.set_cons_succ]
  refine wpAnyH_take (i := 13) (oi := _) (v := ?_) rfl (by kernel_rfl) (by kernel_rfl) (by kernel_rfl) (fun _ _ _ h => h) (Or.inl ⟨by kernel_rfl, ?_⟩) hHeld ?_
  rotate_left 1
  focus (intro w' hSw; (try dsimp only at hSw); go_simp; try with_reducible rfl)
  try simp only [Act.put, List.getElem_toArray, List.getElem_cons_zero, List.getElem_cons_succ, List.setIfInBounds_toArray, List.set_cons_zero, List.set_cons_succ]
  refine wpAnyH_take (i := 14) (oi := _) (v := .agg (rowM ⟨kn, a, b, r, s, v, ok, x⟩)) rfl (by kernel_rfl) (by kernel_rfl) (by kernel_rfl) (fun _ _ _ h => h) (yields_row (by kernel_rfl) 64 (.tmp 1) rfl k rfl 64 (rowM ⟨kn, a, b, r, s, v, ok, x⟩) (0, 0) _ (fun _ h => Blk.heap (And.left h)) Tryz.underlying64 rfl L1.out) hHeld ?_
  try simp only [Act.put, List.getElem_toArray, List.getElem_cons_zero, List.getElem_cons_succ, List.setIfInBounds_toArray, List.set_cons_zero, List.set_cons_succ]
  refine wpAnyH_ready (rs := [6]) (by kernel_rfl) (by simp) ?_
  refine AllReadyH.cons (o := _) rfl (fun K hK => ?_) AllReadyH.nil
  go_simp
  go_at_call 85
  with_reducible refine (itoa_any (a : Int) _ (by omega) (by omega) A3.out.drew.all.ten.laid).mono ?_
  rintro e w4 ⟨u1, rfl, hu, hb⟩
  have hu1 : u1.size ≤ 21 := says_size hu (itoa_len21 (a : Int) (by omega) (by omega))
  have U1 := hid hu
  have A4 := hid (A3.out.drew.on hb)
  clear hu hb A3
  refine hK.out _ _ (by exact A4.out) (fun hHeld => ?_)
  clear hK K
  try simp only [Act.put, List.getElem_toArray, List.getElem_cons_zero, List.getElem_cons_succ, List.setIfInBounds_toArray, List.set_cons_zero, List.set_cons_succ]
  refine wpAnyH_take (i := 7) (oi := _) (v := ?_) rfl (by kernel_rfl) (by kernel_rfl) (by kernel_rfl) (fun _ _ _ h => h) (Or.inl ⟨by kernel_rfl, ?_⟩) hHeld ?_
  rotate_left 1
  focus (intro w' hSw; (try dsimp only at hSw); have q0 := (show ¬ (9223372036854775807 < u1.size + 1) by omega); go_simp; try with_reducible rfl)
  try simp only [Act.put, List.getElem_toArray, List.getElem_cons_zero, List.getElem_cons_succ, List.setIfInBounds_toArray, List.set_cons_zero, List.set_cons_succ]
  refine wpAnyH_ready (rs := [10]) (by kernel_rfl) (by simp) ?_
  refine AllReadyH.cons (o := _) rfl (fun K hK => ?_) AllReadyH.nil
  go_simp
  go_at_call 85
  with_reducible refine (itoa_any (b : Int) _ (by omega) (by omega) A4.out.all.ten.laid).mono ?_
  rintro e w5 ⟨u2, rfl, hu, hb⟩
  have hu2 : u2.size ≤ 21 := says_size hu (itoa_len21 (b : Int) (by omega) (by omega))
  have U2 := hid hu
  have A5 := hid (A4.out.on hb)
  clear hu hb A4
  refine hK.out _ _ (by exact A5.out) (fun hHeld => ?_)
  clear hK K
  try simp only [Act.put, List.getElem_toArray, List.getElem_cons_zero, List.getElem_cons_succ, List.setIfInBounds_toArray, List.set_cons_zero, List.set_cons_succ]
  refine wpAnyH_take (i := 11) (oi := _) (v := ?_) rfl (by kernel_rfl) (by kernel_rfl) (by kernel_rfl) (fun _ _ _ h => h) (Or.inl ⟨by kernel_rfl, ?_⟩) hHeld ?_
  rotate_left 1
  focus (intro w' hSw; (try dsimp only at hSw); have q0 := (show ¬ (9223372036854775807 < u1.size + 1 + u2.size) by omega); go_simp; try with_reducible rfl)
  try simp only [Act.put, List.getElem_toArray, List.getElem_cons_zero, List.getElem_cons_succ, List.setIfInBounds_toArray, List.set_cons_zero, List.set_cons_succ]
  refine wpAnyH_ready (rs := [15]) (by kernel_rfl) (by simp) ?_
  refine AllReadyH.cons (o := _) rfl (fun K hK => ?_) AllReadyH.nil
  go_simp
  go_at_call 86
  with_reducible refine (saysok_any ⟨kn, a, b, r, s, v, ok, x⟩ _).mono ?_
  rintro e w6 ⟨⟨te, rfl, hte, hze⟩, hb⟩
  have TE := hid hte
  have A6 := hid (A5.out.on hb)
  clear hte hb A5
  refine hK.out _ _ (by exact A6.out) (fun hHeld => ?_)
  clear hK K
  try simp only [Act.put, List.getElem_toArray, List.getElem_cons_zero, List.getElem_cons_succ, List.setIfInBounds_toArray, List.set_cons_zero, List.set_cons_succ]
  refine wpAnyH_ready (rs := [16]) (by kernel_rfl) (by simp) ?_
  refine AllReadyH.cons (o := _) rfl (fun K hK => ?_) AllReadyH.nil
  go_simp
  have A7 := hid (A6.out.on ((Below.refl _ w6).alloc (Nat.le_refl _) (.cells #[.string ta, .string (u1 ++ ⟨#[62]⟩ ++ u2), .string tc, .string td, .string te] 9)))
  refine hK.out _ _ (by exact A7.out) (fun hHeld => ?_)
  clear hK K
  try simp only [Act.put, List.getElem_toArray, List.getElem_cons_zero, List.getElem_cons_succ, List.setIfInBounds_toArray, List.set_cons_zero, List.set_cons_succ]
  refine wpAnyH_take (i := 17) (oi := _) (v := ?_) rfl (by kernel_rfl) (by kernel_rfl) (by kernel_rfl) (fun _ _ _ h => h) (Or.inl ⟨by kernel_rfl, ?_⟩) hHeld ?_
  rotate_left 1
  focus (intro w' hSw; (try dsimp only at hSw); go_simp; try with_reducible rfl)
  try simp only [Act.put, List.getElem_toArray, List.getElem_cons_zero, List.getElem_cons_succ, List.setIfInBounds_toArray, List.set_cons_zero, List.set_cons_succ]
  refine wpAnyH_done (by kernel_rfl) ?_ _
  clear hHeld
  obtain ⟨tb, htb⟩ : ∃ s, u1 ++ ⟨#[62]⟩ ++ u2 = s := ⟨_, rfl⟩
  have TB : Hid (Sb tb = toT a b) := hid (by rw [← htb, Sb_append, Sb_append, U1.out, U2.out, show Sb ⟨#[62]⟩ = [62] from rfl]; unfold toT; simp)
  rw [htb] at A7
  try rw [htb]
  clear htb hu1 hu2 U1 U2
  obtain ⟨n, hn⟩ : ∃ n, w6.heap.size = n := ⟨_, rfl⟩
  obtain ⟨W7, hW7⟩ : ∃ W7, w6.alloc (.cells #[.string ta, .string tb, .string tc, .string td, .string te] 9) = W7 := ⟨_, rfl⟩
  have OW : Hid (W7.ownsRow (k + 1) 9 1 (.slice (some ⟨n, 0, none⟩) 5 5) 5 (strs [ta, tb, tc, td, te])) := hid (by rw [← hW7, ← hn]; exact own_five w6 (k + 1) ta tb tc td te (by have := A6.out.blk.lt; omega))
  have hkn : k < n := by have := A6.out.blk.lt; omega
  rw [hW7] at A7
  rw [hn, hW7]
  clear hW7 hn A6 CS
  have ZA := hid (show ta.size ≤ 10000 by rw [sb_size TA.out]; have := msgL_len kn hk8; omega)
  have ZB := hid (show tb.size ≤ 10000 by rw [sb_size TB.out]; have h1 := itoa_len21 (a : Int) (by omega) (by omega); have h2 := itoa_len21 (b : Int) (by omega) (by omega); unfold toT; simp only [List.length_append, List.length_cons]; omega)
  have ZC := hid (show tc.size ≤ 10000 by rw [sb_size TC.out]; have := textOf_len (a := (r : Int)) (b := (s : Int)) (by omega) (by omega) (by omega) (by omega); omega)
  have ZD := hid (show td.size ≤ 10000 by rw [sb_size TD.out]; have := balT_len v hv; omega)
  have ZE := hid (show te.size ≤ 10000 by omega)
  have c0 := A7.out.blk.m0
  by_cases h6 : kn = 6
  · have ht0 : ((kn : Int) != 6) = false := by rw [h6]; rfl
    have ht0' : (kn : Int) = 6 := by omega
    have TT0 := hid (HT0.out h6)
    clear h6
    go_wp2_with fail
    with_reducible refine (joinb_any (some ⟨n, 0, none⟩) 5 5 [ta, tb, tc, td, te] _ rfl (by decide) (by decide) (by decide) (by intro x hx; simp at hx; rcases hx with rfl | rfl | rfl | rfl | rfl; exact ZA.out; exact ZB.out; exact ZC.out; exact ZD.out; exact ZE.out) (Vals.of_own OW.out)).mono ?_
    rintro e w8 ⟨r8, rfl, hr, hb⟩
    have HRR : Hid (Sb r8 = TT) := hid (by rw [hr, TT0.out, ← TA.out, ← TB.out, ← TC.out, ← TD.out, show saysL (kn : Int) ok = Sb te from TE.out.symm]; rfl)
    have A8 := hid (A7.out.on hb)
    clear hr hb A7 OW c0
    go_wp2
    exact bodyPost_ret (v := .tuple #[.string r8, .int .i64 0]) (by simp [results, Tryz.results36, go_sem]) rfl ⟨⟨r8, rfl, HRR.out⟩, by rw [HKK.out]; exact A8.out.bel⟩
  · have ht0 : ((kn : Int) != 6) = true := by rw [bne_iff_ne]; omega
    have ht0' : ¬ (kn : Int) = 6 := by omega
    have TT1 := hid (HT1.out h6)
    have HXR := hid (HX.out h6)
    clear h6
    go_wp2_with (with_reducible refine wpList_load_known (op := ⟨some 48, _, _, _, _, _⟩) rfl 37 (.tmp 47) rfl k rfl A7.out.blk _ Tryz.underlying37 rfl info_inst ?_)
    with_reducible refine (jshow_yes x _ A7.out.all.ten HOX.out.1 HOX.out.2 HXR.out hf hp).mono ?_
    rintro e w8 ⟨⟨tf, rfl, htf⟩, hb⟩
    have TF := hid htf
    have A8 := hid (A7.out.on hb)
    have OW8 := hid (own_below OW.out hb)
    have ZF := hid (show tf.size ≤ 10000 by have := textJ_len x HOX.out.1 HOX.out.2 HXR.out; rw [sb_size htf]; omega)
    have hk8' : k + 1 ≤ w8.heap.size := by have := A8.out.blk.lt; omega
    clear htf hb A7 OW c0
    go_wp2_with (at_builtin; refine wpList_append_vals rfl (.tmp 52) (.tmp 54) 100 rfl (k + 1) 9 i0 _ 16 Tryz.underlying100 hi hz0 hz1 hz2 rfl _ 5 (strs [ta, tb, tc, td, te]) rfl (OW8.out.alloc _) _ 1 [.string tf] 1 rfl rfl (fun h => nomatch h) (one_str9 _) (by intro u hu; simp at hu; subst hu; rfl) (by decide) (by decide) (by simp; omega) ?_; intro v3 w9 hown3 hg3; have hb3 : Below (k + 1) w8 w9 := ((Below.refl (k + 1) w8).alloc (by omega) _).grown hg3 (by simp; omega) (fun j hj => (OW8.out.lt j hj).1); have O9 := hid hown3; have H9 := hid hb3; clear hb3 hg3 hown3)
    obtain ⟨Ad, cd, rfl, hl7, hn7, hc7, hm7, hv7⟩ := own_vals O9.out
    have V9 := hid hv7
    have B9 : Hid (Below k w w9) := hid (A8.out.bel.trans (H9.out.mono (by omega)))
    clear hv7 hl7 hn7 O9
    have ZS : Hid (∀ x ∈ [ta, tb, tc, td, te, tf], x.size ≤ 10000) := hid (by
      intro x hx
      simp at hx
      rcases hx with rfl | rfl | rfl | rfl | rfl | rfl
      · exact ZA.out
      · exact ZB.out
      · exact ZC.out
      · exact ZD.out
      · exact ZE.out
      · exact ZF.out)
    go_wp2_with fail
    with_reducible refine (joinb_any Ad 6 cd [ta, tb, tc, td, te, tf] _ rfl (by decide) hc7 (by decide) ZS.out V9.out).mono ?_
    rintro e w10 ⟨r8, rfl, hr, hb⟩
    have HRR : Hid (Sb r8 = TT) := hid (by rw [hr, TT1.out, ← TA.out, ← TB.out, ← TC.out, ← TD.out, ← TF.out, show saysL (kn : Int) ok = Sb te from TE.out.symm]; rfl)
    have B10 := hid (below_pay B9.out (by have := H9.out.size; omega) hb)
    clear hr hb V9 B9 H9 A8
    go_wp2
    exact bodyPost_ret (v := .tuple #[.string r8, .int .i64 0]) (by simp [results, Tryz.results36, go_sem]) rfl ⟨⟨r8, rfl, HRR.out⟩, by rw [HKK.out]; exact B10.out⟩
theorem mshow_yes (m : Ms) (w : World) (hL : All11 w) (hok : okM m) (hr : rightM m = true) (hf : m.x.c.foot.size ≤ 4611686018427387903) (hp : m.x.c.path.size ≤ 4611686018427387903) :
    Calls Tryz.prog 36 #[.agg (rowM m)] w fun e w' => (∃ r : ByteArray, e = .returned (.tuple #[.string r, .int .i64 0]) ∧ Sb r = textM m) ∧ Below w.heap.size w w' := by
  obtain ⟨k, a, b, r, s, v, hk, ha, hb, hrr, hs, hv, hk0, hk8, ha6, hb6, hr7, hs10, hv32, hvb, h6, hn6⟩ := rightM_in hok hr
  obtain ⟨mk, ma, mb, mr, ms, mv, mok, mx⟩ := m
  simp only at hk ha hb hrr hs hv hn6 hf hp
  subst hk ha hb hrr hs hv
  exact mshow_as k a b r s v mok mx w hL hok hr hk0 hk8 ha6 hb6 hr7 hs10 hv32 hvb hn6 hf hp
set_option maxRecDepth 100000 in
set_option maxHeartbeats 1000000 in
theorem mshow_no (m : Ms) (w : World) (hL : All11 w) (hok : okM m) (hr : rightM m = false) (hf : m.x.c.foot.size ≤ 4611686018427387903) (hp : m.x.c.path.size ≤ 4611686018427387903) :
    Calls Tryz.prog 36 #[.agg (rowM m)] w fun e w' => e = .returned (.tuple #[.string ⟨#[]⟩, .int .i64 10]) ∧ Below w.heap.size w w' := by
  have HL := hid hL
  have HO := hid hok
  have HR := hid hr
  have L1 := hid (len_msg m)
  clear hL hok hr
  go_enter Tryz.func36, Tryz.ntmps36
  go_upto_region 1 with fail
  obtain ⟨W, hW⟩ : ∃ W, w.alloc (.cells (rowM m) 64) = W := ⟨_, rfl⟩
  rw [hW]
  obtain ⟨K0, KB⟩ := one_new hW
  have LW := hid (HL.out.below KB.out)
  clear hW HL
  obtain ⟨k, hk⟩ : ∃ k, w.heap.size = k := ⟨_, rfl⟩
  rw [hk] at K0 KB
  rw [hk]
  have HKK := hid hk
  have A0 : Hid (ShowM w k W m) := hid ⟨K0.out, KB.out, LW.out⟩
  clear hk K0 KB LW
  go_wp2_with (with_reducible refine wpList_load_row (o := ⟨some 11, _, _, _, _, _⟩) rfl 64 (.tmp 1) rfl k rfl 64 (rowM m) (0, 0) _ A0.out.blk.heap Tryz.underlying64 rfl L1.out ?_)
  with_reducible refine (mright_any m HO.out _ A0.out.all.ten.parts hf hp).mono ?_
  rw [HR.out]
  rintro e w1 ⟨rfl, hb⟩
  have A1 := hid (A0.out.on hb)
  clear hb A0
  go_wp2
  exact bodyPost_ret (v := .tuple #[.string ⟨#[]⟩, .int .i64 10]) (by simp [results, Tryz.results36, go_sem]) rfl ⟨rfl, by rw [HKK.out]; exact A1.out.bel⟩
end Go.Proofs.YtohffiehmmcgbaaGreatDoor
