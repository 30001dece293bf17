/-
  A state's text: the contracts of showValue and Show (package inst).
-/
import Derived.Test.YtohffiehmmcgbaaGreatDoorXJuText
import Derived.Test.YtohffiehmmcgbaaGreatDoorXC
namespace Go.Proofs.YtohffiehmmcgbaaGreatDoor
open Go.ChangeShapes Go.WideShapes Go.ChangeAt Go.RowKit Go.Lib
set_option linter.unusedVariables false
set_option linter.unusedSimpArgs false
def MaxIs (w : World) : Prop := ∃ m : Int, w.cell? ⟨4, 0, none⟩ = some (.int .i64 m)
theorem MaxIs.below {w w' : World} (h : MaxIs w) (hb : Below w.heap.size w w') : MaxIs w' := by obtain ⟨m, h⟩ := h; exact ⟨m, cell_later hb h⟩
theorem StatsIs.below {w w' : World} (h : StatsIs w) (hb : Below w.heap.size w w') : StatsIs w' := var_below h hb
def All10 (w : World) : Prop := Laid7 w ∧ StatsIs w ∧ MaxIs w
theorem All10.below {w w' : World} (h : All10 w) (hb : Below w.heap.size w w') : All10 w' := ⟨h.1.below hb, h.2.1.below hb, h.2.2.below hb⟩
theorem All10.seven {w : World} (h : All10 w) : Laid7 w := h.1
theorem All10.stats {w : World} (h : All10 w) : StatsIs w := h.2.1
theorem All10.max {w : World} (h : All10 w) : MaxIs w := h.2.2
theorem All10.parts {w : World} (h : All10 w) : PartsIs w := h.1.1
theorem All10.laid {w : World} (h : All10 w) : Laid w := by
  obtain ⟨⟨_, _, h1, h2, h3⟩, _⟩ := h
  exact ⟨h1, h2, h3⟩
theorem All10.drew {w : World} (h : All10 w) : All10 w.drew := h
theorem joinb_len (xs : List (List UInt8)) (m : Nat) (h : ∀ x ∈ xs, x.length ≤ m) : (Lib.join xs [32]).length ≤ xs.length * (m + 1) := by
  induction xs with
  | nil => simp [Lib.join]
  | cons p t ih =>
    cases t with
    | nil =>
      rw [Lib.join_one]
      have := h p (by simp)
      simp only [List.length_cons, List.length_nil]
      omega
    | cons q t =>
      rw [join_more, List.length_append, List.length_cons]
      have h1 := h p (by simp)
      have h2 := ih (fun x hx => h x (by simp [hx]))
      simp only [List.length_cons] at h2 ⊢
      have e : (t.length + 1 + 1) * (m + 1) = (t.length + 1) * (m + 1) + (m + 1) := Nat.succ_mul _ _
      omega
theorem joinb_any (A : Option Addr) (n c : Nat) (xs : List ByteArray) (w : World) (hn : xs.length = n) (h0 : 0 < n) (hc : n ≤ c) (hl : n ≤ 1000) (hz : ∀ x ∈ xs, x.size ≤ 10000) (hv : Vals w A (strs xs)) :
    Calls Tryz.prog 54 #[.slice A n c, .string ⟨#[32]⟩] w (Says (Lib.join (xs.map Sb) [32]) w) := by
  subst hn
  obtain ⟨b, o, rfl, hb, _⟩ := strs_at hv h0
  have hle := joinb_len (xs.map Sb) 10000 (by intro x hx; obtain ⟨y, hy, rfl⟩ := List.mem_map.1 hx; rw [Sb_length]; exact hz y hy)
  rw [List.length_map] at hle
  have hm : xs.length * 10001 ≤ 1000 * 10001 := Nat.mul_le_mul_right _ hl
  refine (Tryz.strings_Join b o c xs ⟨#[32]⟩ w ?_ hb (by omega) hc ?_).mono ?_
  · intro j x hj
    obtain ⟨b', o', he, _, hcell⟩ := hv j (.string x) (by simp [strs, hj])
    injection he with he
    injection he with h1 h2
    subst h1; subst h2
    exact hcell
  · show (Lib.join (xs.map Sb) [32]).length ≤ _
    omega
  · rintro e w' ⟨rfl, hb⟩
    exact ⟨_, rfl, Sb_mk _, hb⟩
theorem own_three (w : World) (base : Nat) (a b c : ByteArray) (hb : base ≤ w.heap.size) : (w.alloc (.cells #[.string a, .string b, .string c] 9)).ownsRow base 9 1 (.slice (some ⟨w.heap.size, 0, none⟩) 3 3) 3 (strs [a, b, c]) :=
  ⟨rfl, .inr ⟨w.heap.size, 3, _, rfl, hb, Blk.new _ _ _, by decide, by decide, rfl, rfl⟩⟩
theorem own_four (w : World) (base g : Nat) (a b c d : ByteArray) (hb : base ≤ g) (h : Blk w g 9 #[.string a, .string b, .string c, .string d]) : w.ownsRow base 9 1 (.slice (some ⟨g, 0, none⟩) 4 4) 4 (strs [a, b, c, d]) :=
  ⟨rfl, .inr ⟨g, 4, _, rfl, hb, h, by decide, by decide, rfl, rfl⟩⟩
theorem ashow8 (f : Nat → Int) (w : World) (hL : Laid w) (h : okB f = true) :
    Calls Tryz.prog 107 #[.agg (ls8 f).toArray] w fun e w' => (∃ t : ByteArray, e = .returned (.tuple #[.string t, .int .i64 0]) ∧ Sb t = textA f) ∧ Below w.heap.size w w' := ashow_yes f w hL h
theorem cshow8 (c : K) (w : World) (hL : Laid7 w) (ho : okK c) (hr : rightK c = true) :
    Calls Tryz.prog 22 #[.agg (lsK c).toArray] w fun e w' => (∃ t : ByteArray, e = .returned (.tuple #[.string t, .int .i64 0]) ∧ Sb t = txt c) ∧ Below w.heap.size w w' := show_right c w hL ho hr
theorem balshow_int (b : Int) (w : World) (hb : 0 ≤ b ∧ b < 4294967296) (hL : Laid w) (h : balB b = true) :
    Calls Tryz.prog 52 #[.int .u32 b] w fun e w' => (∃ t : ByteArray, e = .returned (.tuple #[.string t, .int .i64 0]) ∧ Sb t = balT b.toNat) ∧ Below w.heap.size w w' := by
  obtain ⟨n, rfl⟩ : ∃ n : Nat, b = (n : Int) := ⟨b.toNat, by omega⟩
  rw [Int.toNat_natCast]
  unfold balB at h
  rw [Int.toNat_natCast] at h
  exact ballotshow_yes n w (by omega) hL h
def ShowJ (w0 : World) (k : Nat) (w : World) (x : J) : Prop := Blk w k 37 (rowJ x) ∧ Below k w0 w ∧ All10 w
theorem ShowJ.on {w0 w w' : World} {k : Nat} {x : J} (h : ShowJ w0 k w x) (hb : Below w.heap.size w w') : ShowJ w0 k w' x :=
  ⟨h.1.below hb h.1.lt, below_pay h.2.1 (by have := h.1.lt; omega) hb, h.2.2.below hb⟩
theorem ShowJ.blk {w0 w : World} {k : Nat} {x : J} (h : ShowJ w0 k w x) : Blk w k 37 (rowJ x) := h.1
theorem ShowJ.bel {w0 w : World} {k : Nat} {x : J} (h : ShowJ w0 k w x) : Below k w0 w := h.2.1
theorem ShowJ.all {w0 w : World} {k : Nat} {x : J} (h : ShowJ w0 k w x) : All10 w := h.2.2
theorem sb_size {t : ByteArray} {l : List UInt8} (h : Sb t = l) : t.size = l.length := by rw [← h, Sb_length]
set_option maxRecDepth 100000 in
set_option maxHeartbeats 4000000 in
theorem showvalue_any (x : J) (hok : okJ x) (hK : okK x.c) (hv : balB x.vote = true) (hc : rightK x.c = true) (hf : okB x.f = true) (w : World) (hL : All10 w) :
    Calls Tryz.prog 53 #[.agg (rowJ x)] w fun e w' => ∃ g a b c d, e = .returned (.slice (some ⟨g, 0, none⟩) 4 4) ∧ w.heap.size ≤ g ∧ Blk w' g 9 #[.string a, .string b, .string c, .string d] ∧ (Sb a = balT x.vote.toNat ∧ Sb b = whoL x.same ∧ Sb c = textA x.f ∧ Sb d = txt x.c) ∧ Below w.heap.size w w' := by
  have HV := hid hv
  have HC := hid hc
  have HF := hid hf
  have HO := hid hok
  have HK := hid hK
  have HL := hid hL
  obtain ⟨sm, hsm⟩ : ∃ a, x.same = a := ⟨_, rfl⟩
  have SM := hid hsm
  have I1 := hid (info_cmd8 x.c)
  have I2 := hid (info_att8 x.f)
  clear hv hc hf hok hK hL hsm
  go_enter Tryz.func53, Tryz.ntmps53
  go_upto_region 1 with fail
  obtain ⟨W, hW⟩ : ∃ W, w.alloc (.cells (rowJ x) 37) = W := ⟨_, rfl⟩
  rw [hW]
  obtain ⟨K0, KB⟩ := one_new hW
  have LW := hid (HL.out.below KB.out)
  clear hW HL
  obtain ⟨k, hk⟩ : ∃ k, w.heap.size = k := ⟨_, rfl⟩
  rw [hk] at K0 KB
  rw [hk]
  have HKK := hid hk
  have A0 : Hid (ShowJ w k W x) := hid ⟨K0.out, KB.out, LW.out⟩
  clear hk K0 KB LW
  have c4 := A0.out.blk.j4
  go_wp2_with fail
  with_reducible refine (balshow_int x.vote _ HO.out.vote A0.out.all.laid HV.out).mono ?_
  rintro e w1 ⟨⟨ta, rfl, ha⟩, hb⟩
  have TA := hid ha
  have A1 := hid (A0.out.on hb)
  clear hb ha c4 A0
  have c5 := A1.out.blk.j5
  rw [SM.out] at c5
  cases sm
  all_goals
    go_wp2_with (with_reducible refine wpList_load_mid (op := ⟨some 20, _, _, _, _, _⟩) rfl 35 (.tmp 19) rfl k 14 rfl (ls8 x.f) _ A1.out.blk.ja Tryz.underlying35 rfl I2.out ?_)
    with_reducible refine (ashow8 x.f _ A1.out.all.laid HF.out).mono ?_
    rintro e w2 ⟨⟨tc, rfl, hc⟩, hb⟩
    have TC := hid hc
    have A2 := hid (A1.out.on hb)
    clear hb hc c5 A1
    go_wp2_with (with_reducible refine wpList_load_mid (op := ⟨some 26, _, _, _, _, _⟩) rfl 32 (.tmp 25) rfl k 6 rfl (lsK x.c) _ A2.out.blk.jc Tryz.underlying32 rfl I1.out ?_)
    with_reducible refine (cshow8 x.c _ A2.out.all.seven HK.out HC.out).mono ?_
    rintro e w3 ⟨⟨td, rfl, hd⟩, hb⟩
    have TD := hid hd
    have A3 := hid (A2.out.on hb)
    clear hb hd A2
    have hk3 : k ≤ w3.heap.size := by have := A3.out.blk.lt; omega
    go_wp2
    go_ret
    exact ⟨w3.heap.size, ta, _, tc, td, rfl, by rw [HKK.out]; exact hk3, Blk.new w3 9 _, ⟨TA.out, by rw [SM.out]; rfl, TC.out, TD.out⟩, by rw [HKK.out]; exact A3.out.bel.trans ((Below.refl _ w3).alloc hk3 _)⟩
end Go.Proofs.YtohffiehmmcgbaaGreatDoor
