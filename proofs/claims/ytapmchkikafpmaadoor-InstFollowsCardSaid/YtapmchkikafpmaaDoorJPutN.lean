/-
  The contracts of Put and Bytes (package inst) of a state with nothing known; the laws' anchor and small.
-/
import Derived.Test.YtapmchkikafpmaaDoorJFollows
import Derived.Test.YtapmchkikafpmaaDoorMPut
import Derived.Test.YtapmchkikafpmaaDoorKEnc
namespace Go.Proofs.YtapmchkikafpmaaDoor
open Go.ChangeShapes Go.WideShapes Go.ChangeAt Go.RowKit Go.Lib
set_option linter.unusedVariables false
set_option linter.unusedSimpArgs false

/-- While a state in a box of the call's own is put. -/
def PutJ (w0 w : World) (base g b : Nat) (x : J) (l : List Nat) : Prop := OutAt w base g l ∧ Blk w b 35 (rowJ x) ∧ g < b ∧ Below base w0 w ∧ Stays g w0 w
theorem PutJ.put {w0 w w' : World} {base g b : Nat} {x : J} {l l' : List Nat} (h : PutJ w0 w base g b x l) (ho : OutAt w' base g l') (hb : Below base w w') (hs : Stays g w w') : PutJ w0 w' base g b x l' :=
  ⟨ho, hs.2 b _ _ (Nat.ne_of_gt h.2.2.1) (by decide) h.2.1, h.2.2.1, h.2.2.2.1.trans hb, h.2.2.2.2.trans hs⟩
theorem PutJ.oat {w0 w : World} {base g b : Nat} {x : J} {l : List Nat} (h : PutJ w0 w base g b x l) : OutAt w base g l := h.1
theorem PutJ.blk {w0 w : World} {base g b : Nat} {x : J} {l : List Nat} (h : PutJ w0 w base g b x l) : Blk w b 35 (rowJ x) := h.2.1
theorem PutJ.bel {w0 w : World} {base g b : Nat} {x : J} {l : List Nat} (h : PutJ w0 w base g b x l) : Below base w0 w := h.2.2.2.1
theorem PutJ.stays {w0 w : World} {base g b : Nat} {x : J} {l : List Nat} (h : PutJ w0 w base g b x l) : Stays g w0 w := h.2.2.2.2
theorem OutAt.glt' {w : World} {base g : Nat} {l : List Nat} (h : OutAt w base g l) : g < w.heap.size := by
  obtain ⟨_, v, h1, _⟩ := h
  exact h1.lt
theorem putj_new {w W : World} {base g : Nat} {l : List Nat} {x : J} (h : OutAt w base g l) (hW : w.alloc (.cells (rowJ x) 35) = W) : Hid (PutJ w W base g w.heap.size x l) := by
  subst hW
  exact hid ⟨h.alloc _, Blk.new _ _ _, h.glt', (Below.refl _ _).alloc h.base_le _, Stays.of_below ((Below.refl _ _).alloc (Nat.le_refl _) _)⟩

/-- A state's bytes ahead of its value. -/
def headJ (l : List Nat) (a b v t : Nat) : List Nat := (((l ++ [a]) ++ shortN b) ++ shortN v) ++ [t]

set_option maxRecDepth 100000 in
set_option maxHeartbeats 1000000 in
theorem put_none (base g : Nat) (l : List Nat) (x : J) (a b v : Nat) (w : World) (h : OutAt w base g l) (hr : x.r = a) (hs : x.s = b) (hbal : x.bal = v) (ht : x.st = 0) (ha : a < 7) (hb : b < 1024) (hv : v < 4294967296) (hlen : l.length ≤ 1000000) :
    Calls Tryd.prog 22 #[.agg (rowJ x), .pointer (some ⟨g, 0, none⟩)] w (PutsN base g (headJ l a b v 0) w) := by
  have HI := hid h
  have h1 : ((l ++ [a]) ++ shortN b).length ≤ 1000011 := by
    have := shortN_len10 (v := b) (by omega)
    rw [List.length_append, List.length_append]; simp; omega
  have h2 : (((l ++ [a]) ++ shortN b) ++ shortN v).length ≤ 1000021 := by
    have := shortN_len10 (v := v) (by omega)
    rw [List.length_append]; omega
  have HE : Hid (headJ l a b v 0 = (((l ++ [a]) ++ shortN b) ++ shortN v) ++ [0]) := hid rfl
  obtain ⟨L1, hL1⟩ : ∃ L, (l ++ [a]) ++ shortN b = L := ⟨_, rfl⟩
  rw [hL1] at h1 h2 HE
  obtain ⟨L2, hL2⟩ : ∃ L, L1 ++ shortN v = L := ⟨_, rfl⟩
  rw [hL2] at h2 HE
  have HL1 := hid hL1
  have HL2 := hid hL2
  clear h hL1 hL2
  go_enter Tryd.func22, Tryd.ntmps22
  go_upto_region 1 with fail
  obtain ⟨W, hW⟩ : ∃ W, w.alloc (.cells (rowJ x) 35) = W := ⟨_, rfl⟩
  rw [hW]
  have A0 := putj_new HI.out hW
  clear hW HI
  obtain ⟨k, hk⟩ : ∃ k, w.heap.size = k := ⟨_, rfl⟩
  rw [hk] at A0 ⊢
  clear hk
  have c0 := A0.out.blk.j0
  have c1 := A0.out.blk.j1
  rw [hr] at c0
  rw [hs] at c1
  go_wp2_with fail
  with_reducible refine (idput_any base g l L1 a b _ A0.out.oat ha hb (by omega) HL1.out.symm).mono ?_
  rintro en w1 ⟨rfl, ho, hb1, hs1⟩
  have A1 := hid (A0.out.put ho hb1 hs1)
  clear ho hb1 hs1 A0 c0 c1
  have c3 := A1.out.blk.j3
  rw [hbal] at c3
  go_wp2_with fail
  with_reducible refine (ballotput_any base g L1 v _ A1.out.oat hv (by omega)).mono ?_
  rw [HL2.out]
  rintro en w2 ⟨rfl, ho, hb1, hs1⟩
  have A2 := hid (A1.out.put ho hb1 hs1)
  clear ho hb1 hs1 A1 c3
  have c2 := A2.out.blk.j2
  rw [ht] at c2
  go_wp2_with fail
  with_reducible refine (outbytek_any base g L2 0 _ _ A2.out.oat (by omega) (by omega)).mono ?_
  rintro en w3 ⟨⟨rfl, ho, hb1⟩, hs1⟩
  have A3 := hid (A2.out.put ho hb1 hs1)
  clear ho hb1 hs1 A2 c2
  have c2 := A3.out.blk.j2
  rw [ht] at c2
  have R : Hid (OutAt w3 base g (headJ l a b v 0) ∧ Below base w w3 ∧ Stays g w w3) := hid ⟨by rw [HE.out]; exact A3.out.oat, A3.out.bel, A3.out.stays⟩
  clear A3
  go_wp2
  go_end0
  exact ⟨rfl, R.out⟩

def one2 : List Nat := [1, 2, 0, 0]
theorem one2_is : headJ [] 1 2 0 0 = one2 := by unfold headJ; rw [shortN_lo (by decide), shortN_lo (by decide)]; rfl

set_option maxRecDepth 100000 in
set_option maxHeartbeats 1000000 in
theorem bytes12 (w : World) :
    Calls Tryd.prog 11 #[.agg (rowJ (newJ 1 2))] w (Hands one2 w) := by
  go_enter Tryd.func11, Tryd.ntmps11
  go_upto_region 2 with fail
  obtain ⟨W, hW⟩ : ∃ W, (w.alloc (.cells (rowJ (newJ 1 2)) 35)).alloc (.cells #[.slice none 0 0] 60) = W := ⟨_, rfl⟩
  rw [hW]
  obtain ⟨K0, K1, KB⟩ := two_new hW
  clear hW
  have KL : Hid (w.heap.size + 1 < W.heap.size) := hid K1.out.lt
  have HO : Hid (OutAt W w.heap.size (w.heap.size + 1) []) := hid ⟨by omega, _, K1.out, World.ownsRow_nil _ _ _ _⟩
  have L1 := hid (len_inst (newJ 1 2))
  go_wp2_with (with_reducible refine wpList_load_row (o := ⟨some 5, _, _, _, _, _⟩) rfl 35 (.tmp 1) rfl w.heap.size rfl 35 (rowJ (newJ 1 2)) (0, 0) _ K0.out.heap Tryd.underlying35 rfl L1.out ?_)
  refine (put_none w.heap.size (w.heap.size + 1) [] (newJ 1 2) 1 2 0 _ HO.out rfl rfl rfl rfl (by decide) (by decide) (by decide) (by decide)).mono ?_
  rw [one2_is]
  rintro en w1 ⟨rfl, ho, hb, hs⟩
  have HO1 := hid ho
  have HB1 := hid (KB.out.trans hb)
  clear ho hb hs K0 K1 KB HO
  go_wp2_with fail
  with_reducible refine (outbytes_any w.heap.size (w.heap.size + 1) one2 _ HO1.out (by decide)).mono ?_
  intro e w2 hm
  obtain ⟨A, ca, rfl, h1, h2, h3, h4⟩ := hm.hands
  have H1 := hid h1
  have H3 := hid h3
  have H4 := hid (HB1.out.trans (h4.mono HB1.out.size))
  clear h1 h3 h4 hm
  go_wp2
  go_ret
  exact ⟨A, ca, rfl, H1.out, h2, H3.out, H4.out⟩

set_option maxRecDepth 100000 in
set_option maxHeartbeats 1000000 in
theorem anchor10 (w : World) :
    Calls Tryd.prog 5 #[] w fun e w' => e = .returned (.bool true) ∧ Below w.heap.size w w' := by
  go_enter Tryd.func5, Tryd.ntmps5
  go_wp2_with fail
  with_reducible refine (new_any 1 2 _).mono ?_
  rintro en w1 ⟨rfl, hb⟩
  have HB1 := hid hb
  clear hb
  go_wp2_with fail
  with_reducible refine (bytes12 _).mono ?_
  rintro en w2 ⟨A, ca, rfl, h1, h2, hs, h4⟩
  obtain ⟨b, o, rfl, _, q0⟩ := hs 0 1 rfl
  obtain ⟨b1, o1, h1', _, q1⟩ := hs 1 2 rfl
  obtain ⟨b2, o2, h2', _, q2⟩ := hs 2 0 rfl
  obtain ⟨b3, o3, h3', _, q3⟩ := hs 3 0 rfl
  injection h1' with h1'
  injection h1' with h11 h12
  subst h11; subst h12
  injection h2' with h2'
  injection h2' with h21 h22
  subst h21; subst h22
  injection h3' with h3'
  injection h3' with h31 h32
  subst h31; subst h32
  rw [show one2.length = 4 from rfl]
  have HB3 : Hid (Below w.heap.size w w2) := hid (HB1.out.trans (h4.mono HB1.out.size))
  have q0' : w2.cell? ⟨b, o, none⟩ = some (.int .u8 1) := q0
  have q1' : w2.cell? ⟨b, o + 1, none⟩ = some (.int .u8 2) := q1
  have q2' : w2.cell? ⟨b, o + 2, none⟩ = some (.int .u8 0) := q2
  have q3' : w2.cell? ⟨b, o + 3, none⟩ = some (.int .u8 0) := q3
  clear hs h1 h2 h4 q0 q1 q2 q3 HB1
  go_wp2
  go_ret
  exact ⟨rfl, HB3.out⟩

/-- Are texts short enough to be gone through? -/
def smallJ (x : J) : Bool := decide (x.c.path.size < 200) && decide (x.c.foot.size < 200)
theorem smallJ_in {x : J} (h : smallJ x = true) : x.c.foot.size < 200 ∧ x.c.path.size < 200 := by
  unfold smallJ at h
  simp only [Bool.and_eq_true, decide_eq_true_eq] at h
  exact ⟨h.2, h.1⟩
theorem Blk.j8 {w : World} {g : Nat} {T : TypeId} {x : J} (h : Blk w g T (rowJ x)) : w.cell? ⟨g, 8, none⟩ = some (.string x.c.foot) := (h.cell 8).trans rfl
theorem Blk.j10 {w : World} {g : Nat} {T : TypeId} {x : J} (h : Blk w g T (rowJ x)) : w.cell? ⟨g, 10, none⟩ = some (.string x.c.path) := (h.cell 10).trans rfl

set_option maxRecDepth 100000 in
set_option maxHeartbeats 400000 in
theorem small10 (x : J) (w : World) :
    Calls Tryd.prog 6 #[.agg (rowJ x)] w fun e w' => e = .returned (.bool (smallJ x)) ∧ Below w.heap.size w w' := by
  have HV : Hid (smallJ x = (decide (x.c.path.size < 200) && decide (x.c.foot.size < 200))) := hid rfl
  go_enter Tryd.func6, Tryd.ntmps6
  go_upto_region 1 with fail
  obtain ⟨W, hW⟩ : ∃ W, w.alloc (.cells (rowJ x) 35) = W := ⟨_, rfl⟩
  rw [hW]
  obtain ⟨K0, KB⟩ := one_new hW
  clear hW
  obtain ⟨k, hk⟩ : ∃ k, w.heap.size = k := ⟨_, rfl⟩
  rw [hk] at K0 KB
  rw [hk]
  have HK := hid hk
  clear hk
  have c8 := K0.out.j8
  have c10 := K0.out.j10
  rcases Nat.lt_or_ge x.c.path.size 200 with h | h
  · go_wp2
    go_ret
    exact ⟨ret_bool (by rw [HV.out, Bool.eq_iff_iff]; simp; omega), by rw [HK.out]; exact KB.out⟩
  · go_wp2
    go_ret
    exact ⟨ret_bool (by rw [HV.out, Bool.eq_iff_iff]; simp; omega), by rw [HK.out]; exact KB.out⟩

end Go.Proofs.YtapmchkikafpmaaDoor
