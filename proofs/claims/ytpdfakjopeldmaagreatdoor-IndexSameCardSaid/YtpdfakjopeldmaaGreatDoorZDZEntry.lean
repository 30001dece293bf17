/-
  An entry's bytes: Put, and Take off them.
-/
import Derived.Test.YtpdfakjopeldmaaGreatDoorMgI
import Derived.Test.YtpdfakjopeldmaaGreatDoorMgE
import Derived.Test.YtpdfakjopeldmaaGreatDoorZDEntM
import Derived.Deep.RegionHeld3
namespace Go.Proofs.YtpdfakjopeldmaaGreatDoor
open Go.ChangeShapes Go.WideShapes Go.ChangeAt Go.RowKit Go.Maps Go.WideMaps
set_option linter.unusedVariables false
set_option linter.unusedSimpArgs false

/-- The bytes of an entry. -/
def encN (n : Nt) : List Nat := textN n.foot ++ (bytesN n.num.toNat 8 ++ putTo (natA n.att) 7)
theorem putTo_byteE (F : Nat → Nat) : ∀ j, ∀ x ∈ putTo F j, x < 256
  | 0, x, hx => shortN_byte _ x hx
  | j + 1, x, hx => by
    unfold putTo at hx
    rcases List.mem_append.1 hx with h | h
    · exact putTo_byteE F j x h
    · exact shortN_byte _ x h
theorem encN_byte (n : Nt) : ∀ x ∈ encN n, x < 256 := by
  intro x hx
  unfold encN at hx
  rcases List.mem_append.1 hx with h | h
  · exact textN_byte _ x h
  · rcases List.mem_append.1 h with h | h
    · exact bytesN_byte _ _ x h
    · exact putTo_byteE _ _ x h
theorem encN_len {n : Nt} (hf : Fair n) : (encN n).length ≤ 300 := by
  obtain ⟨ho, _, _, _, hs⟩ := hf
  obtain ⟨_, h0, h1⟩ := ok_nat ho
  have h2 := putTo_len h0 h1 7 (Nat.le_refl _)
  have h3 := shortN_len10 (show n.foot.size < 18446744073709551616 by omega)
  unfold encN textN
  simp only [List.length_append, bytesN_len, bytesOfS_len]
  omega

theorem stA_putE {F : Nat → Nat} (h0 : F 0 ≤ 1073741824) (h : ∀ j, j < 7 → F (1 + j) ≤ 1024) : ∀ (j : Nat) (r : List Nat), j ≤ 7 → ∃ V, stA (putTo F j ++ r) 0 j = (r, 0, V) ∧ ∀ i, i ≤ j → V i = (F i : Nat)
  | 0, r, _ => by
    refine ⟨upd (fun _ => 0) 0 (F 0 : Nat), ?_, fun i hi => ?_⟩
    · unfold stA putTo
      rw [sShort_put (F 0) 1073741824 r (by omega) h0]
    · obtain rfl : i = 0 := by omega
      simp [upd]
  | j + 1, r, hj => by
    obtain ⟨V, ih, hV⟩ := stA_putE h0 h j (shortN (F (1 + j)) ++ r) (by omega)
    have h1 := h j (by omega)
    refine ⟨upd V (1 + j) (F (1 + j) : Nat), ?_, fun i hi => ?_⟩
    · unfold stA putTo
      rw [List.append_assoc, ih]
      simp only
      rw [sShort_put (F (1 + j)) 1024 r (by omega) h1]
    · unfold upd
      by_cases h : i = 1 + j
      · rw [if_pos h, h]
      · rw [if_neg h]; exact hV i (by omega)
theorem sAttr_putE (f : Nat → Int) (r : List Nat) (h : okB f = true) : ∃ V, sAttr (putTo (natA f) 7 ++ r) 0 = (r, 0, V) ∧ rowA V = rowA f := by
  obtain ⟨hn, h0, h1⟩ := ok_nat h
  obtain ⟨V, hs, hV⟩ := stA_putE h0 h1 7 r (Nat.le_refl _)
  refine ⟨V, ?_, rowA_congr fun i hi => ?_⟩
  · unfold sAttr
    rw [hs]
    rfl
  · rw [hV i (by omega), ← hn i hi]

set_option maxRecDepth 100000 in
set_option maxHeartbeats 4000000 in
theorem eput_any (base g : Nat) (l : List Nat) (f : ByteArray) (u : Int) (a : Nat → Int) (w : World) (h : OutAt w base g l) (hf : Fair ⟨f, u, a⟩) (hlen : l.length + 500 ≤ 140737488355328) :
    Calls Tryz.prog 10 #[.agg #[.string f, .int .u64 u, .int .i64 (a 0), .int .i64 (a 1), .int .i64 (a 2), .int .i64 (a 3), .int .i64 (a 4), .int .i64 (a 5), .int .i64 (a 6), .int .i64 (a 7)], .pointer (some ⟨g, 0, none⟩)] w (PutsA base g (l ++ encN ⟨f, u, a⟩) w) := by
  obtain ⟨ho, _, hu0, hu1, hfs⟩ := hf
  simp only at ho hu0 hu1 hfs
  have hPF : putF a = a := by unfold putF; rw [if_pos ho]
  have HE : Hid (((l ++ shortN f.size ++ bytesOfS f) ++ bytesN u.toNat 8) ++ putTo (natA (putF a)) 7 = l ++ encN ⟨f, u, a⟩) := hid (by rw [hPF]; unfold encN textN; simp only [List.append_assoc])
  have HL1 : Hid ((l ++ shortN f.size ++ bytesOfS f).length ≤ l.length + 210) := hid (by
    have h3 := shortN_len10 (show f.size < 18446744073709551616 by omega)
    simp only [List.length_append, bytesOfS_len]
    omega)
  have HL2 := hid (bytesN_len 8 u.toNat)
  have hB := h.base_le
  have hgl := h.glt
  have HI := hid h
  have HU : Hid (u = (u.toNat : Int)) := hid (by omega)
  have HUlt : u.toNat < 18446744073709551616 := by omega
  clear h ho hPF
  go_enter Tryz.func10, Tryz.ntmps10
  go_upto_region 1 with fail
  obtain ⟨W, hW⟩ : ∃ W, w.alloc (.cells (#[.string f, .int .u64 u, .int .i64 (a 0), .int .i64 (a 1), .int .i64 (a 2), .int .i64 (a 3), .int .i64 (a 4), .int .i64 (a 5), .int .i64 (a 6), .int .i64 (a 7)]) 41) = W := ⟨_, rfl⟩
  rw [hW]
  obtain ⟨K0, KB⟩ := one_new hW
  have O0 : Hid (OutAt W base g l) := hid (HI.out.later KB.out)
  have T0 : Hid (Below base w W) := hid (KB.out.mono hB)
  have S0 : Hid (Stays g w W) := hid (Stays.of_below KB.out)
  obtain ⟨k, hk⟩ : ∃ k, w.heap.size = k := ⟨_, rfl⟩
  rw [hk] at K0 hgl
  rw [hk]
  have hkg : k ≠ g := by omega
  clear hW hk HI KB hgl
  obtain ⟨L1, hL1⟩ : ∃ L1, l ++ shortN f.size ++ bytesOfS f = L1 := ⟨_, rfl⟩
  have HX1 : Hid (L1 = (l ++ shortN f.size) ++ bytesOfS f) := hid hL1.symm
  rw [hL1] at HE HL1
  clear hL1
  have hl1 := HL1.out
  go_region_held3 (fun w' => w'.cell? ⟨k, 0, none⟩ = some (.string f) ∧ w'.cell? ⟨k, 1, none⟩ = some (.int .u64 u))
    (first | exact ⟨(K0.out.cell 0).trans rfl, (K0.out.cell 1).trans rfl⟩ | exact ⟨(K0.out.drew.cell 0).trans rfl, (K0.out.drew.cell 1).trans rfl⟩ | exact ⟨(K1.out.cell 0).trans rfl, (K1.out.cell 1).trans rfl⟩ | exact ⟨(K2.out.cell 0).trans rfl, (K2.out.cell 1).trans rfl⟩)
    (first
      | (go_at_call 26; (with_reducible refine (outtextk_as base g l L1 f _ HX1.out O0.out.drew_ (by omega) (by omega)).mono ?_); rintro e1 w1 ⟨⟨rfl, o1, b1⟩, s1⟩; have K1 := hid (s1.2 k _ _ hkg (by decide) K0.out.drew))
      | (go_at_call 27; (with_reducible refine (outfixedk_any base g L1 u.toNat u _ o1 HU.out HUlt (by omega)).mono ?_); rintro e2 w2 ⟨⟨rfl, o2, b2⟩, s2⟩; have K2 := hid (s2.2 k _ _ hkg (by decide) K1.out)))
  have O2 := hid o2
  have T2 : Hid (Below base w w2) := hid ((below_drew T0.out).trans (b1.trans b2))
  have S2 : Hid (Stays g w w2) := hid (S0.out.trans (Stays.trans (Stays.drew s1) s2))
  rename_i hHeld
  clear hHeld b1 b2 s1 s2 o1 o2 K0 K1 O0 T0 S0
  obtain ⟨c0, c1, c2, c3, c4, c5, c6, c7, c8, c9⟩ := n_cells K2.out
  have hl2 := HL2.out
  go_wp2_with fail
  with_reducible refine (attput_any base g (L1 ++ bytesN u.toNat 8) a _ O2.out (by rw [List.length_append]; omega)).mono ?_
  rw [HE.out]
  rintro e3 w3 ⟨rfl, o3, b3, s3⟩
  have R : Hid (OutAt w3 base g (l ++ encN ⟨f, u, a⟩) ∧ Below base w w3 ∧ Stays g w w3) := hid ⟨o3, T2.out.trans b3, S2.out.trans s3⟩
  clear o3 b3 s3 O2 T2 S2 K2 c0 c1 c2 c3 c4 c5 c6 c7 c8 c9
  go_wp2
  go_end0
  exact ⟨rfl, R.out.1, R.out.2.1, R.out.2.2⟩

/-- While an entry is taken: its In, the result's box, its own. -/
def TkE (w0 w : World) (g p : Nat) (f : ByteArray) (u : Int) (a : Nat → Int) (l : List Nat) : Prop :=
  InAt w g l 0 ∧ Blk w p 41 (#[.string (⟨#[]⟩ : ByteArray), .int .u64 (0 : Int), .int .i64 ((fun _ => (0 : Int)) 0), .int .i64 ((fun _ => (0 : Int)) 1), .int .i64 ((fun _ => (0 : Int)) 2), .int .i64 ((fun _ => (0 : Int)) 3), .int .i64 ((fun _ => (0 : Int)) 4), .int .i64 ((fun _ => (0 : Int)) 5), .int .i64 ((fun _ => (0 : Int)) 6), .int .i64 ((fun _ => (0 : Int)) 7)]) ∧ Blk w (p + 1) 41 (#[.string f, .int .u64 u, .int .i64 (a 0), .int .i64 (a 1), .int .i64 (a 2), .int .i64 (a 3), .int .i64 (a 4), .int .i64 (a 5), .int .i64 (a 6), .int .i64 (a 7)]) ∧ w0.grownBy w (some g) ∧ g < p ∧ p = w0.heap.size
theorem TkE.turn {w0 w w' : World} {g p : Nat} {f : ByteArray} {u : Int} {a : Nat → Int} {l l' : List Nat} (h : TkE w0 w g p f u a l) (hi : InAt w' g l' 0) (hb : w.grownBy w' (some g)) : TkE w0 w' g p f u a l' := by
  obtain ⟨h1, h2, h3, h4, h5, h6⟩ := h
  exact ⟨hi, h2.grown hb (by simp; omega), h3.grown hb (by simp; omega), h4.trans hb, h5, h6⟩
theorem TkE.on {w0 w w' : World} {g p : Nat} {f : ByteArray} {u : Int} {a : Nat → Int} {l : List Nat} (h : TkE w0 w g p f u a l) (hb : Below w.heap.size w w') : TkE w0 w' g p f u a l := by
  obtain ⟨h1, h2, h3, h4, h5, h6⟩ := h
  exact ⟨h1.keep (hb.mono h1.lt), h2.below hb h2.lt, h3.below hb h3.lt, h4.trans (only_of_below hb _), h5, h6⟩
theorem TkE.foot {w0 w : World} {g p : Nat} {f : ByteArray} {u : Int} {a : Nat → Int} {l : List Nat} (h : TkE w0 w g p f u a l) (f2 : ByteArray) : TkE w0 (w.setCell ⟨p + 1, 0, none⟩ (.string f2)) g p f2 u a l := by
  obtain ⟨h1, h2, h3, h4, h5, h6⟩ := h
  exact ⟨h1.setCell (by omega), h2.far (by simp <;> omega) _, (h3.set_ 0 (.string f2)).as rfl, only_setCell (p := ⟨p + 1, 0, none⟩) h4 (.inr (by simp; omega)) _, h5, h6⟩
theorem TkE.num {w0 w : World} {g p : Nat} {f : ByteArray} {u : Int} {a : Nat → Int} {l : List Nat} (h : TkE w0 w g p f u a l) (u2 : Int) : TkE w0 (w.setCell ⟨p + 1, 1, none⟩ (.int .u64 u2)) g p f u2 a l := by
  obtain ⟨h1, h2, h3, h4, h5, h6⟩ := h
  exact ⟨h1.setCell (by omega), h2.far (by simp <;> omega) _, (h3.set_ 1 (.int .u64 u2)).as rfl, only_setCell (p := ⟨p + 1, 1, none⟩) h4 (.inr (by simp; omega)) _, h5, h6⟩
theorem TkE.att1 {w0 w : World} {g p : Nat} {cs : Array Value} {l : List Nat} (h : InAt w g l 0 ∧ Blk w p 41 (#[.string (⟨#[]⟩ : ByteArray), .int .u64 (0 : Int), .int .i64 ((fun _ => (0 : Int)) 0), .int .i64 ((fun _ => (0 : Int)) 1), .int .i64 ((fun _ => (0 : Int)) 2), .int .i64 ((fun _ => (0 : Int)) 3), .int .i64 ((fun _ => (0 : Int)) 4), .int .i64 ((fun _ => (0 : Int)) 5), .int .i64 ((fun _ => (0 : Int)) 6), .int .i64 ((fun _ => (0 : Int)) 7)]) ∧ Blk w (p + 1) 41 cs ∧ w0.grownBy w (some g) ∧ g < p ∧ p = w0.heap.size) (i : Nat) (x : Value) :
    InAt (w.setCell ⟨p + 1, i, none⟩ x) g l 0 ∧ Blk (w.setCell ⟨p + 1, i, none⟩ x) p 41 (#[.string (⟨#[]⟩ : ByteArray), .int .u64 (0 : Int), .int .i64 ((fun _ => (0 : Int)) 0), .int .i64 ((fun _ => (0 : Int)) 1), .int .i64 ((fun _ => (0 : Int)) 2), .int .i64 ((fun _ => (0 : Int)) 3), .int .i64 ((fun _ => (0 : Int)) 4), .int .i64 ((fun _ => (0 : Int)) 5), .int .i64 ((fun _ => (0 : Int)) 6), .int .i64 ((fun _ => (0 : Int)) 7)]) ∧ Blk (w.setCell ⟨p + 1, i, none⟩ x) (p + 1) 41 (cs.setIfInBounds i x) ∧ w0.grownBy (w.setCell ⟨p + 1, i, none⟩ x) (some g) ∧ g < p ∧ p = w0.heap.size := by
  obtain ⟨h1, h2, h3, h4, h5, h6⟩ := h
  exact ⟨h1.setCell (by omega), h2.far (by simp <;> omega) _, h3.set_ i x, only_setCell (p := ⟨p + 1, i, none⟩) h4 (.inr (by simp; omega)) _, h5, h6⟩
theorem TkE.inat {w0 w : World} {g p : Nat} {f : ByteArray} {u : Int} {a : Nat → Int} {l : List Nat} (h : TkE w0 w g p f u a l) : InAt w g l 0 := h.1
theorem rowA_list (b : Nat → Int) : (rowA b).toList = [.int .i64 (b 0), .int .i64 (b 1), .int .i64 (b 2), .int .i64 (b 3), .int .i64 (b 4), .int .i64 (b 5), .int .i64 (b 6), .int .i64 (b 7)] := rfl
set_option maxHeartbeats 1000000 in
theorem TkE.att {w0 w : World} {g p : Nat} {f : ByteArray} {u : Int} {a : Nat → Int} {l : List Nat} (h : TkE w0 w g p f u a l) (b : Nat → Int) : TkE w0 (w.setCells (p + 1) 2 (rowA b).toList) g p f u b l := by
  rw [rowA_list]
  simp only [World.setCells]
  obtain ⟨k1, k2, k3, k4, k5, k6⟩ := TkE.att1 (TkE.att1 (TkE.att1 (TkE.att1 (TkE.att1 (TkE.att1 (TkE.att1 (TkE.att1 h 2 (.int .i64 (b 0))) (2 + 1) (.int .i64 (b 1))) (2 + 1 + 1) (.int .i64 (b 2))) (2 + 1 + 1 + 1) (.int .i64 (b 3))) (2 + 1 + 1 + 1 + 1) (.int .i64 (b 4))) (2 + 1 + 1 + 1 + 1 + 1) (.int .i64 (b 5))) (2 + 1 + 1 + 1 + 1 + 1 + 1) (.int .i64 (b 6))) (2 + 1 + 1 + 1 + 1 + 1 + 1 + 1) (.int .i64 (b 7))
  exact ⟨k1, k2, k3.as (by simp), k4, k5, k6⟩

theorem ntC_all12 (n : Nt) : (#[.string n.foot, .int .u64 n.num, .int .i64 (n.att 0), .int .i64 (n.att 1), .int .i64 (n.att 2), .int .i64 (n.att 3), .int .i64 (n.att 4), .int .i64 (n.att 5), .int .i64 (n.att 6), .int .i64 (n.att 7)] : Array Value).all (·.oneCell') = true := by simp [Value.oneCell']
theorem len_entryA (n : Nt) : (Tryz.prog.info? 41).map (·.size) = some ((#[.string n.foot, .int .u64 n.num, .int .i64 (n.att 0), .int .i64 (n.att 1), .int .i64 (n.att 2), .int .i64 (n.att 3), .int .i64 (n.att 4), .int .i64 (n.att 5), .int .i64 (n.att 6), .int .i64 (n.att 7)] : Array Value)).size := by
  show _ = some 10
  kernel_rfl
theorem len_attrL (f : Nat → Int) : (Tryz.prog.info? 39).map (·.size) = some (rowA f).size := by rw [rowA_size]; kernel_rfl

set_option maxRecDepth 100000 in
set_option maxHeartbeats 4000000 in
theorem etake_any (g : Nat) (r : List Nat) (f : ByteArray) (u : Int) (a : Nat → Int) (w : World) (h : InAt w g (encN ⟨f, u, a⟩ ++ r) 0) (hf : Fair ⟨f, u, a⟩) (hr : right (L f) = true) (h8 : ∀ x ∈ r, x < 256) (hl : (encN ⟨f, u, a⟩ ++ r).length ≤ 140737488355328) :
    Calls Tryz.prog 14 #[.pointer (some ⟨g, 0, none⟩)] w (Turns (fun en => en = .returned (.agg #[.string f, .int .u64 u, .int .i64 (a 0), .int .i64 (a 1), .int .i64 (a 2), .int .i64 (a 3), .int .i64 (a 4), .int .i64 (a 5), .int .i64 (a 6), .int .i64 (a 7)])) g r 0 w) := by
  obtain ⟨ho, _, hu0, hu1, _⟩ := hf
  simp only at ho hu0 hu1
  have h64 : f.size ≤ 64 := by have h := (right_iff.1 hr).1; simpa [L] using h
  have HR := hid hr
  obtain ⟨V, hV1, hV2⟩ := sAttr_putE a r ho
  have HU : Hid ((u.toNat : Int) = u) := hid (by omega)
  have e1 : encN ⟨f, u, a⟩ ++ r = textN f ++ (bytesN u.toNat 8 ++ (putTo (natA a) 7 ++ r)) := by unfold encN; simp only [List.append_assoc]
  have s1 := sText_put f (bytesN u.toNat 8 ++ (putTo (natA a) 7 ++ r)) 64 h64 (by omega)
  have s2 := sFixed_put u.toNat (putTo (natA a) 7 ++ r) (by omega)
  have b3 : ∀ x ∈ putTo (natA a) 7 ++ r, x < 256 := fun x hx => by
    rcases List.mem_append.1 hx with h | h
    · exact putTo_byteE _ _ x h
    · exact h8 x h
  have b2 : ∀ x ∈ bytesN u.toNat 8 ++ (putTo (natA a) 7 ++ r), x < 256 := fun x hx => by
    rcases List.mem_append.1 hx with h | h
    · exact bytesN_byte _ _ x h
    · exact b3 x h
  have b1 : ∀ x ∈ textN f ++ (bytesN u.toNat 8 ++ (putTo (natA a) 7 ++ r)), x < 256 := fun x hx => by
    rcases List.mem_append.1 hx with h | h
    · exact textN_byte _ x h
    · exact b2 x h
  rw [e1] at h hl
  have l1 := hl
  simp only [List.length_append] at l1
  have HT1 := hid (fun w h => intext_any g _ 0 64 64 _ 0 (bytesOfS f) w h (fine0 _) b1 (by omega) rfl (by omega) s1)
  have HT2 := hid (fun w h => infixed_any g _ 0 _ 0 u.toNat w h (fine0 _) b2 s2)
  have HT3 := hid (fun w h => attake_any g _ 0 _ 0 V w h (fine0 _) b3 (by rw [List.length_append]; omega) hV1)
  rw [strN_bytesOfS] at HT1
  rw [hV2] at HT3
  rw [HU.out] at HT2
  obtain ⟨l3, hl3⟩ : ∃ l3, putTo (natA a) 7 ++ r = l3 := ⟨_, rfl⟩
  rw [hl3] at HT1 HT2 HT3 h
  obtain ⟨l2, hl2⟩ : ∃ l2, bytesN u.toNat 8 ++ l3 = l2 := ⟨_, rfl⟩
  rw [hl2] at HT1 HT2 h
  obtain ⟨l1', hl1⟩ : ∃ l1, textN f ++ l2 = l1 := ⟨_, rfl⟩
  rw [hl1] at HT1 h
  have HI := hid h
  have hgl := h.lt
  clear h hl e1 s1 s2 b1 b2 b3 l1 hl3 hl2 hl1 hV1 hV2 ho h8 hr
  have HPR := hid (fun w => right_any f w (by omega))
  rw [HR.out] at HPR
  go_enter Tryz.func14, Tryz.ntmps14
  go_upto_region 2 with fail
  obtain ⟨W, hW⟩ : ∃ W, (w.alloc (.cells (#[.string (⟨#[]⟩ : ByteArray), .int .u64 (0 : Int), .int .i64 ((fun _ => (0 : Int)) 0), .int .i64 ((fun _ => (0 : Int)) 1), .int .i64 ((fun _ => (0 : Int)) 2), .int .i64 ((fun _ => (0 : Int)) 3), .int .i64 ((fun _ => (0 : Int)) 4), .int .i64 ((fun _ => (0 : Int)) 5), .int .i64 ((fun _ => (0 : Int)) 6), .int .i64 ((fun _ => (0 : Int)) 7)]) 41)).alloc (.cells (#[.string (⟨#[]⟩ : ByteArray), .int .u64 (0 : Int), .int .i64 ((fun _ => (0 : Int)) 0), .int .i64 ((fun _ => (0 : Int)) 1), .int .i64 ((fun _ => (0 : Int)) 2), .int .i64 ((fun _ => (0 : Int)) 3), .int .i64 ((fun _ => (0 : Int)) 4), .int .i64 ((fun _ => (0 : Int)) 5), .int .i64 ((fun _ => (0 : Int)) 6), .int .i64 ((fun _ => (0 : Int)) 7)]) 41) = W := ⟨_, rfl⟩
  rw [hW]
  obtain ⟨K0, K1, KB⟩ := two_new hW
  have T0 : Hid (TkE w W g w.heap.size ⟨#[]⟩ 0 (fun _ => 0) l1') := hid ⟨HI.out.keep (KB.out.mono hgl), K0.out, K1.out, only_of_below KB.out _, hgl, rfl⟩
  clear hW K0 K1 KB HI
  obtain ⟨p, hp⟩ : ∃ p, w.heap.size = p := ⟨_, rfl⟩
  rw [hp] at T0 hgl
  rw [hp]
  clear hp
  go_wp2_with fail
  with_reducible refine (HT1.out _ T0.out.inat).mono ?_
  rintro e1 w1 ⟨rfl, i1, g1⟩
  have T1 := hid (T0.out.turn i1 g1)
  clear i1 g1 T0 HT1
  have c0 : w1.cell? ⟨p + 1, 0, none⟩ = some (.string ⟨#[]⟩) := (T1.out.2.2.1.cell 0).trans rfl
  have f0 := T1.out.2.2.1.frozen 0
  go_upto_region 3 with fail
  have T2 := hid (T1.out.foot f)
  obtain ⟨W2, hW2⟩ : ∃ W2, w1.setCell ⟨p + 1, 0, none⟩ (.string f) = W2 := ⟨_, rfl⟩
  rw [hW2] at T2
  rw [hW2]
  clear hW2 c0 f0 T1
  go_wp2_with fail
  with_reducible refine (HT2.out _ T2.out.inat).mono ?_
  rintro e1 w3 ⟨rfl, i1, g1⟩
  have T3 := hid (T2.out.turn i1 g1)
  clear i1 g1 T2 HT2
  have c0 : w3.cell? ⟨p + 1, 1, none⟩ = some (.int .u64 0) := (T3.out.2.2.1.cell 1).trans rfl
  have f0 := T3.out.2.2.1.frozen 1
  go_upto_region 4 with fail
  have T4 := hid (T3.out.num u)
  obtain ⟨W4, hW4⟩ : ∃ W4, w3.setCell ⟨p + 1, 1, none⟩ (.int .u64 u) = W4 := ⟨_, rfl⟩
  rw [hW4] at T4
  rw [hW4]
  clear hW4 c0 f0 T3
  go_wp2_with fail
  with_reducible refine (HT3.out _ T4.out.inat).mono ?_
  rintro e1 w5 ⟨rfl, i1, g1⟩
  have T5 := hid (T4.out.turn i1 g1)
  clear i1 g1 T4 HT3
  have TH : Hid (w5.there (p + 1) 2 (rowA a).size) := hid (fun j hj => by
    rw [rowA_size] at hj
    exact ⟨by rw [T5.out.2.2.1.cell (2 + j)]; simp; omega, T5.out.2.2.1.frozen _⟩)
  have LA := hid (len_attrL a)
  have LO := hid (rowA_one a)
  go_upto_region 5 with (first
    | (with_reducible refine wpList_store_mid (op := ⟨none, _, _, _, _, _⟩) rfl 39 (.tmp 14) (.tmp 13) rfl (p + 1) 2 (rowA a) rfl rfl TH.out LA.out LO.out ?_))
  have T6 := hid (T5.out.att a)
  obtain ⟨W6, hW6⟩ : ∃ W6, w5.setCells (p + 1) 2 (rowA a).toList = W6 := ⟨_, rfl⟩
  rw [hW6] at T6
  rw [hW6]
  clear hW6 TH LA LO T5
  have c0 : W6.cell? ⟨p + 1, 0, none⟩ = some (.string f) := (T6.out.2.2.1.cell 0).trans rfl
  go_wp2_with fail
  with_reducible refine (HPR.out _).mono ?_
  rintro e1 w7 ⟨rfl, b1⟩
  have T7 := hid (T6.out.on b1)
  clear c0 b1 T6 HPR
  go_wp2_with fail
  with_reducible refine (failed_no g r _ T7.out.inat).mono ?_
  rintro e1 w8 ⟨rfl, rfl⟩
  have L1 := hid (len_entryA ⟨f, u, a⟩)
  have J2 := hid T7.out.2.2.1
  have J1 := hid T7.out.2.1
  have L3 : Hid ((#[.string f, .int .u64 u, .int .i64 (a 0), .int .i64 (a 1), .int .i64 (a 2), .int .i64 (a 3), .int .i64 (a 4), .int .i64 (a 5), .int .i64 (a 6), .int .i64 (a 7)] : Array Value).all (·.oneCell') = true) := hid (ntC_all12 ⟨f, u, a⟩)
  have hpg : Hid (g < p ∧ p = w.heap.size) := hid T7.out.2.2.2.2
  go_wp2_with (first
    | (with_reducible refine wpList_load_row (o := ⟨some 25, _, _, _, _, _⟩) rfl 41 (.tmp 3) rfl (p + 1) rfl 41 (#[.string f, .int .u64 u, .int .i64 (a 0), .int .i64 (a 1), .int .i64 (a 2), .int .i64 (a 3), .int .i64 (a 4), .int .i64 (a 5), .int .i64 (a 6), .int .i64 (a 7)]) (0, 0) _ J2.out.heap Tryz.underlying41 rfl L1.out ?_)
    | (with_reducible refine wpList_store_row (o := ⟨none, _, _, _, _, _⟩) rfl 41 (.tmp 2) (.tmp 25) rfl p (#[.string f, .int .u64 u, .int .i64 (a 0), .int .i64 (a 1), .int .i64 (a 2), .int .i64 (a 3), .int .i64 (a 4), .int .i64 (a 5), .int .i64 (a 6), .int .i64 (a 7)]) rfl rfl 41 _ J1.out.heap L1.out rfl L3.out ?_))
  exact bodyPost_ret (v := .agg (#[.string f, .int .u64 u, .int .i64 (a 0), .int .i64 (a 1), .int .i64 (a 2), .int .i64 (a 3), .int .i64 (a 4), .int .i64 (a 5), .int .i64 (a 6), .int .i64 (a 7)])) (results_cell_row (p := 2) (ty := 41) (by kernel_rfl) _ _ p 41 (#[.string f, .int .u64 u, .int .i64 (a 0), .int .i64 (a 1), .int .i64 (a 2), .int .i64 (a 3), .int .i64 (a 4), .int .i64 (a 5), .int .i64 (a 6), .int .i64 (a 7)]) (0, 0) _ rfl (setRow_heap w7 p _ (#[.string f, .int .u64 u, .int .i64 (a 0), .int .i64 (a 1), .int .i64 (a 2), .int .i64 (a 3), .int .i64 (a 4), .int .i64 (a 5), .int .i64 (a 6), .int .i64 (a 7)]) _ _ J1.out.heap) Tryz.underlying41 rfl L1.out) rfl ⟨rfl, T7.out.1.setRow hpg.out.1, only_setRow T7.out.2.2.2.1 (Nat.le_of_eq hpg.out.2.symm)⟩

end Go.Proofs.YtpdfakjopeldmaaGreatDoor
