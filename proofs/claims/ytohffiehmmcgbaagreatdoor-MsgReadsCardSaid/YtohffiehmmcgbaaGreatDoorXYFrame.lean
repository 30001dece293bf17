/-
  The contract of a message's Frame (package msg).
-/
import Derived.Test.YtohffiehmmcgbaaGreatDoorXYRight
import Derived.Test.YtohffiehmmcgbaaGreatDoorXJPut
import Derived.Test.YtohffiehmmcgbaaGreatDoorXSOpen
namespace Go.Proofs.YtohffiehmmcgbaaGreatDoor
open Go.ChangeShapes Go.WideShapes Go.ChangeAt Go.RowKit Go.Lib
set_option linter.unusedVariables false
set_option linter.unusedSimpArgs false
theorem seal_owns (A : Option Addr) (l : List Nat) (n c : Nat) (w : World) (hn : l.length = n) (hl : n ≤ 140737488351232) (hA0 : A = none → c = 0) (h8 : ∀ x ∈ l, x < 256) (hA : Sees .u8 w A l) :
    Calls Tryz.prog 70 #[.slice A n c] w fun e w' => ∃ g cap, e = .returned (.slice (some ⟨g, 0, none⟩) (n + 4) cap) ∧ w.heap.size ≤ g ∧ n + 4 ≤ cap ∧ w'.ownsRow w.heap.size 5 1 (.slice (some ⟨g, 0, none⟩) (n + 4) cap) (n + 4) ((sealed l).map bv) ∧ Below w.heap.size w w' := by
  refine (seal_any A l n c w hn hl hA0 h8 hA).mono ?_
  rintro e w' ⟨s, rfl, hown, hb⟩
  have hlen := sealed_len l
  rw [hn] at hlen
  rw [hlen] at hown
  rcases hown.2 with ⟨rfl, h0⟩ | ⟨g, cap, cur, rfl, hg, _, hc, _⟩
  · omega
  · exact ⟨g, cap, rfl, hg, hc, hown, hb⟩
def Framed (l : List Nat) (n : Nat) (w : World) (e : Ending) (w' : World) : Prop :=
  ∃ g cap, e = .returned (.slice (some ⟨g, 0, none⟩) (n + 4) cap) ∧ w.heap.size ≤ g ∧ n + 4 ≤ cap ∧ w'.ownsRow w.heap.size 5 1 (.slice (some ⟨g, 0, none⟩) (n + 4) cap) (n + 4) ((sealed l).map bv) ∧ Below w.heap.size w w'
def PutM (w0 w : World) (base g b : Nat) (m : Ms) (l : List Nat) : Prop := OutAt w base g l ∧ Blk w b 64 (rowM m) ∧ b ≠ g ∧ Below base w0 w
section
variable {w0 w w' : World} {base g b : Nat} {m : Ms} {l l' : List Nat}
theorem PutM.put (h : PutM w0 w base g b m l) (ho : OutAt w' base g l') (hb : Below base w w') (hs : Stays g w w') : PutM w0 w' base g b m l' :=
  ⟨ho, hs.2 b _ _ h.2.2.1 (by decide) h.2.1, h.2.2.1, h.2.2.2.trans hb⟩
theorem PutM.oat (h : PutM w0 w base g b m l) : OutAt w base g l := h.1
theorem PutM.blk (h : PutM w0 w base g b m l) : Blk w b 64 (rowM m) := h.2.1
theorem PutM.bel (h : PutM w0 w base g b m l) : Below base w0 w := h.2.2.2
theorem PutM.drew (h : PutM w0 w base g b m l) : PutM w0 w.drew base g b m l := ⟨h.1.drew, h.2.1.drew, h.2.2.1, below_drew h.2.2.2⟩
end
theorem Blk.mhead {w : World} {g : Nat} {T : TypeId} {m : Ms} (h : Blk w g T (rowM m)) : w.cell? ⟨g, 0, none⟩ = some (.int .i64 m.k) ∧ w.cell? ⟨g, 1, none⟩ = some (.int .i64 m.a) ∧ w.cell? ⟨g, 2, none⟩ = some (.int .i64 m.b) := ⟨h.m0, h.m1, h.m2⟩
theorem encM_len (m : Ms) (hok : okM m) (hr : rightM m = true) : (encM m).length ≤ 440 := by
  obtain ⟨k, a, b, r, s, v, hk, ha, hb, hr', hs, hv, _, _, _, _, _, hs10, hvv, _, _, h6⟩ := rightM_in hok hr
  unfold encM headM tailM
  rw [hk, ha, hb, hr', hs, hv]
  simp only [Int.toNat_natCast]
  have q1 := shortN_len10 (v := s) (by omega)
  have q2 := shortN_len10 (v := v) (by omega)
  split
  · simp only [List.length_append, List.length_singleton, List.length_nil]; omega
  · have := encJ_len m.x hok.2.1 hok.2.2 (h6 (by omega))
    simp only [List.length_append, List.length_singleton, List.length_nil]; omega
theorem encM_byte (m : Ms) (hok : okM m) (hr : rightM m = true) : ∀ y ∈ encM m, y < 256 := by
  obtain ⟨k, a, b, r, s, v, hk, ha, hb, hr', hs, hv, _, _, _, _, _, hs10, hvv, _, _, h6⟩ := rightM_in hok hr
  unfold encM headM tailM
  rw [hk, ha, hb, hr', hs, hv]
  simp only [Int.toNat_natCast]
  intro y hy
  simp only [List.mem_append, List.mem_singleton, List.not_mem_nil, false_or] at hy
  rcases hy with ((((((rfl | rfl) | rfl) | rfl) | hy) | hy) | rfl) | hy
  · omega
  · omega
  · omega
  · omega
  · exact shortN_byte _ y hy
  · exact shortN_byte _ y hy
  · unfold truthN; split <;> omega
  · split at hy
    · cases hy
    · exact encJ_byte m.x hok.2.1 hok.2.2 (h6 (by omega)) y hy
set_option maxRecDepth 100000 in
set_option maxHeartbeats 8000000 in
theorem frame_as (k a b r s v : Nat) (ok : Bool) (x : J) (w : World) (hP : PartsIs w) (hok : okM ⟨k, a, b, r, s, v, ok, x⟩) (hr : rightM ⟨k, a, b, r, s, v, ok, x⟩ = true) (h8 : k < 8) (ha : a ≤ 6) (hb : b ≤ 6) (hr7 : r < 7) (hs10 : s < 1024) (hv : v < 4294967296) (hx : k ≠ 6 → rightJ x = true)
    (n : Nat) (h66 : k = 6) (hn : (encM ⟨k, a, b, r, s, v, ok, x⟩).length = n) (hf : x.c.foot.size ≤ 4611686018427387903) (hp : x.c.path.size ≤ 4611686018427387903) :
    Calls Tryz.prog 28 #[.agg (rowM ⟨k, a, b, r, s, v, ok, x⟩)] w (Framed (encM ⟨k, a, b, r, s, v, ok, x⟩) n w) := by
  have H66 := hid h66
  clear h66
  have hlen := encM_len _ hok hr
  have H8 := hid (encM_byte _ hok hr)
  obtain ⟨M, hM⟩ : ∃ M, encM ⟨k, a, b, r, s, v, ok, x⟩ = M := ⟨_, rfl⟩
  rw [hM] at hlen H8 hn ⊢
  have hnl : n ≤ 440 := by omega
  have HJX := hid (show okJ x ∧ okK x.c from hok.2)
  obtain ⟨L, hL⟩ : ∃ L, (((([] ++ [k]) ++ [a]) ++ [b]) : List Nat) = L := ⟨_, rfl⟩
  have hLl : L.length = 3 := by rw [← hL]; rfl
  obtain ⟨L1, hL1⟩ : ∃ L1, (L ++ [r]) ++ shortN s = L1 := ⟨_, rfl⟩
  obtain ⟨L2, hL2⟩ : ∃ L2, L1 ++ shortN v = L2 := ⟨_, rfl⟩
  obtain ⟨L3, hL3⟩ : ∃ L3, L2 ++ [truthN ok] = L3 := ⟨_, rfl⟩
  have q1 := shortN_len10 (v := s) (by omega)
  have q2 := shortN_len10 (v := v) (by omega)
  have hl1 : L1.length ≤ 14 := by rw [← hL1]; simp only [List.length_append, List.length_singleton]; omega
  have hl2 : L2.length ≤ 24 := by rw [← hL2]; simp only [List.length_append]; omega
  have hl3 : L3.length ≤ 25 := by rw [← hL3]; simp only [List.length_append, List.length_singleton]; omega
  have hM3 : L3 ++ (if k = 6 then [] else encJ x) = M := by
    rw [← hM, ← hL3, ← hL2, ← hL1, ← hL]
    unfold encM headM tailM
    simp only [Int.toNat_natCast]
    by_cases h : k = 6
    · subst h; rfl
    · rw [if_neg h, if_neg (by omega)]
  have HM3 := hid hM3
  have HLL := hid hL
  have HL1 := hid hL1
  have HL2 := hid hL2
  have HL3 := hid hL3
  have HN := hid hn
  have HO := hid hok
  have HR := hid hr
  have HX := hid hx
  have HP := hid hP
  have HW1 := hid (show IntKind.u8.wrap (k : Int) = (k : Int) by rw [IntKind.wrap_u8]; omega)
  have HW2 := hid (show IntKind.u8.wrap (a : Int) = (a : Int) by rw [IntKind.wrap_u8]; omega)
  have HW3 := hid (show IntKind.u8.wrap (b : Int) = (b : Int) by rw [IntKind.wrap_u8]; omega)
  have hlt := hP.lt
  clear hM hM3 hL hL1 hL2 hL3 hn hok hr hx hP
  go_enter Tryz.func28, Tryz.ntmps28
  go_upto_region 1 with fail
  obtain ⟨W, hW⟩ : ∃ W, w.alloc (.cells (rowM ⟨k, a, b, r, s, v, ok, x⟩) 64) = W := ⟨_, rfl⟩
  rw [hW]
  obtain ⟨K0, KB⟩ := one_new hW
  clear hW
  have LM := hid (len_msg ⟨k, a, b, r, s, v, ok, x⟩)
  have LX := hid info_inst
  have PW := hid (HP.out.below KB.out)
  obtain ⟨base, hk⟩ : ∃ k, w.heap.size = k := ⟨_, rfl⟩
  rw [hk] at K0 KB hlt
  rw [hk]
  have HK := hid hk
  clear hk
  go_wp2_with (with_reducible refine wpList_load_row (o := ⟨some 4, _, _, _, _, _⟩) rfl 64 (.tmp 1) rfl base rfl 64 (rowM ⟨k, a, b, r, s, v, ok, x⟩) (0, 0) _ K0.out.heap Tryz.underlying64 rfl LM.out ?_)
  with_reducible refine (mright_any ⟨k, a, b, r, s, v, ok, x⟩ HO.out _ PW.out hf hp).mono ?_
  rw [HR.out]
  rintro e w1 ⟨rfl, hb'⟩
  obtain ⟨g, hg⟩ : ∃ g, w1.heap.size = g := ⟨_, rfl⟩
  have hbg : base < g := by have := (K0.out.below hb' K0.out.lt).lt; omega
  have A0 : Hid (PutM w (w1.alloc (.cells #[.slice none 0 0] 97)) base g base ⟨k, a, b, r, s, v, ok, x⟩ []) := hid
    ⟨⟨by omega, _, by rw [← hg]; exact Blk.new _ _ _, World.ownsRow_nil _ _ _ _⟩, (K0.out.below hb' K0.out.lt).alloc _, by omega, (below_pay KB.out (by have := K0.out.lt; omega) hb').alloc (by omega) _⟩
  clear hb' K0 KB PW
  go_upto_region 4 with fail
  obtain ⟨W2, hW2⟩ : ∃ W2, w1.alloc (.cells #[.slice none 0 0] 97) = W2 := ⟨_, rfl⟩
  rw [hW2] at A0
  rw [hW2]
  clear hW2 hg
  go_region_held3 (fun w' => w'.cell? ⟨base, 0, none⟩ = some (.int .i64 (k : Int)) ∧ w'.cell? ⟨base, 1, none⟩ = some (.int .i64 (a : Int)) ∧ w'.cell? ⟨base, 2, none⟩ = some (.int .i64 (b : Int)))
    (first | exact A0.out.blk.mhead | exact A0.out.blk.drew.mhead | exact A1.out.blk.mhead | exact A2.out.blk.mhead | exact A3.out.blk.mhead)
    (first
      | (go_at_call 66; (with_reducible refine (outbytek_any base g [] k _ _ A0.out.drew.oat HW1.out (by simp)).mono ?_); rintro en w4 ⟨⟨rfl, ho4, hb4⟩, hs4⟩; have A1 := hid (A0.out.drew.put ho4 hb4 hs4); clear ho4 hb4 hs4)
      | (go_at_call 66; (with_reducible refine (outbytek_any base g ([] ++ [k]) a _ _ A1.out.oat HW2.out (by simp)).mono ?_); rintro en w5 ⟨⟨rfl, ho5, hb5⟩, hs5⟩; have A2 := hid (A1.out.put ho5 hb5 hs5); clear ho5 hb5 hs5)
      | (go_at_call 66; (with_reducible refine (outbytek_any base g (([] ++ [k]) ++ [a]) b _ _ A2.out.oat HW3.out (by simp)).mono ?_); rintro en w6 ⟨⟨rfl, ho6, hb6⟩, hs6⟩; have A3 := hid (A2.out.put ho6 hb6 hs6); clear ho6 hb6 hs6))
  rw [HLL.out] at A3
  clear A0 A1 A2
  have c3 := A3.out.blk.m3
  have c4 := A3.out.blk.m4
  go_wp2_with fail
  with_reducible refine (idput_any base g L L1 r s _ A3.out.oat hr7 hs10 (by omega) HL1.out.symm).mono ?_
  rintro en w7 ⟨rfl, ho, hb1, hs1⟩
  have A4 := hid (A3.out.put ho hb1 hs1)
  clear ho hb1 hs1 c3 c4 A3
  have c5 := A4.out.blk.m5
  go_wp2_with fail
  with_reducible refine (ballotput_any base g L1 v _ A4.out.oat hv (by omega)).mono ?_
  rw [HL2.out]
  rintro en w8 ⟨rfl, ho, hb1, hs1⟩
  have A5 := hid (A4.out.put ho hb1 hs1)
  clear ho hb1 hs1 c5 A4
  have c6 := A5.out.blk.m6
  go_wp2_with fail
  with_reducible refine (outtruthk_any base g L2 ok _ A5.out.oat (by omega)).mono ?_
  rw [HL3.out]
  rintro en w9 ⟨⟨rfl, ho, hb1⟩, hs1⟩
  have A6 := hid (A5.out.put ho hb1 hs1)
  clear ho hb1 hs1 c6 A5
  have c0 := A6.out.blk.m0
  have key : ∀ w10, Hid (PutM w w10 base g base ⟨k, a, b, r, s, v, ok, x⟩ M) → Hid (PutM w w10 base g base ⟨k, a, b, r, s, v, ok, x⟩ M) := fun _ h => h
  rcases Decidable.em (k = 6) with h6 | h6
  · have hM6 := HM3.out
    rw [if_pos h6, List.append_nil] at hM6
    subst hM6
    subst h6
    go_wp2_with fail
    with_reducible refine (outbytes_any base g L3 _ A6.out.oat (by omega)).mono ?_
    intro e w10 hm
    obtain ⟨A, ca, rfl, h1, h2, h3, h4⟩ := hm.hands
    have H1 := hid h1
    have H3 := hid h3
    have H4 := hid (A6.out.bel.trans (h4.mono (by have := A6.out.oat.base_le; omega)))
    have HZ := hid (show base ≤ w10.heap.size by have := h4.size; have := A6.out.oat.base_le; omega)
    clear h1 h2 h3 h4 hm c0 A6
    rw [HN.out]
    go_wp2_with fail
    with_reducible refine (seal_owns A L3 n ca _ HN.out (by omega) H1.out H8.out H3.out).mono ?_
    rintro e w11 ⟨g2, cap, rfl, hg2, hcap, hown, hb2⟩
    have HR2 : Hid (Framed L3 n w (.returned (.slice (some ⟨g2, 0, none⟩) (n + 4) cap)) w11) := hid
      ⟨g2, cap, rfl, by rw [HK.out]; have := HZ.out; omega, hcap, by rw [HK.out]; exact own_low hown HZ.out, by rw [HK.out]; exact H4.out.trans (hb2.mono HZ.out)⟩
    clear hown hb2 hg2 hcap
    go_wp2
    go_ret
    exact HR2.out
  · exact absurd H66.out h6
theorem frame_any (m : Ms) (w : World) (hP : PartsIs w) (hok : okM m) (hr : rightM m = true) (hk6 : m.k = 6) (n : Nat) (hn : (encM m).length = n) (hf : m.x.c.foot.size ≤ 4611686018427387903) (hp : m.x.c.path.size ≤ 4611686018427387903) :
    Calls Tryz.prog 28 #[.agg (rowM m)] w (Framed (encM m) n w) := by
  obtain ⟨k, a, b, r, s, v, hk, ha, hb, hr', hs, hv, h0, h8, ha6, hb6, hr7, hs10, hvv, _, _, hx⟩ := rightM_in hok hr
  obtain ⟨k', a', b', r', s', v', ok, x⟩ := m
  simp only at hk ha hb hr' hs hv hx hf hp
  subst hk ha hb hr' hs hv
  exact frame_as k a b r s v ok x w hP hok hr h8 ha6 hb6 hr7 hs10 hvv hx n (by have h : ((k : Nat) : Int) = 6 := hk6; omega) hn hf hp
end Go.Proofs.YtohffiehmmcgbaaGreatDoor
