/-
  Attributes off an In: what a taking does, number by number; package attr's Take.
-/
import Derived.Test.YtfpmmajgnijboaaARight
import Derived.Test.YtfpmmajgnijboaaInOps
import Derived.Test.YtfpmmajgnijboaaNew
import Derived.Deep.Cut
namespace Go.Proofs.Ytfpmmajgnijboaa
open Go.ChangeShapes Go.WideShapes Go.ChangeAt Go.RowKit
set_option linter.unusedVariables false
set_option linter.unusedSimpArgs false

theorem only_setRow {a w : World} {g r : Nat} {cs : Array Value} (h : a.grownBy w (some g)) (hr : a.heap.size ≤ r) : a.grownBy (w.setRow r cs) (some g) :=
  ⟨h.os, h.tape, h.output, by simpa using h.size, fun i hi hne => (setRow_other w r i cs (by omega)).trans (h.block i hi hne)⟩
theorem InAt.setRow {w : World} {g r : Nat} {l : List Nat} {e : Nat} {cs : Array Value} (h : InAt w g l e) (hr : g < r) : InAt (w.setRow r cs) g l e := h.keep (below_setRow_ (Below.refl _ _) hr)
theorem InAt.setCell {w : World} {g r i : Nat} {l : List Nat} {e : Nat} {x : Value} (h : InAt w g l e) (hr : g < r) : InAt (w.setCell ⟨r, i, none⟩ x) g l e := h.keep (Below.setCell (p := ⟨r, i, none⟩) (Below.refl _ _) hr _)

/-- Behind the first number and j others: what is left, the error, the numbers. -/
def stA (l : List Nat) (e : Nat) : Nat → List Nat × Nat × (Nat → Int)
  | 0 => ((sShort l e 1073741824).1, (sShort l e 1073741824).2.1, upd (fun _ => 0) 0 ((sShort l e 1073741824).2.2 : Nat))
  | j + 1 => ((sShort (stA l e j).1 (stA l e j).2.1 1024).1, (sShort (stA l e j).1 (stA l e j).2.1 1024).2.1, upd (stA l e j).2.2 (1 + j) ((sShort (stA l e j).1 (stA l e j).2.1 1024).2.2 : Nat))
/-- What a taking does: what is left, the error, the numbers. -/
def endA (s : List Nat × Nat × (Nat → Int)) : List Nat × Nat × (Nat → Int) := (s.1, s.2.1, if s.2.1 = 0 then s.2.2 else fun _ => 0)
def sAttr (l : List Nat) (e : Nat) : List Nat × Nat × (Nat → Int) := endA (stA l e 7)
theorem sAttr_all (l : List Nat) (e : Nat) : (sAttr l e).1 = (stA l e 7).1 ∧ (sAttr l e).2.1 = (stA l e 7).2.1 ∧ (sAttr l e).2.2 = if (stA l e 7).2.1 = 0 then (stA l e 7).2.2 else fun _ => 0 := by
  unfold sAttr
  generalize stA l e 7 = s
  exact ⟨rfl, rfl, rfl⟩

theorem short_fine {l : List Nat} {e most : Nat} (hf : Fine l e) (h8 : ∀ x ∈ l, x < 256) : Fine (sShort l e most).1 (sShort l e most).2.1 ∧ (∀ x ∈ (sShort l e most).1, x < 256) ∧ (sShort l e most).1.length ≤ l.length :=
  ⟨fun h => (sShort_bad h hf).1, fun x hx => h8 x (sShort_in x hx), sShort_len⟩
theorem stA_fine {l : List Nat} {e : Nat} (hf : Fine l e) (h8 : ∀ x ∈ l, x < 256) : ∀ j, Fine (stA l e j).1 (stA l e j).2.1 ∧ (∀ x ∈ (stA l e j).1, x < 256) ∧ (stA l e j).1.length ≤ l.length
  | 0 => short_fine hf h8
  | j + 1 => by
    obtain ⟨h1, h2, h3⟩ := stA_fine hf h8 j
    obtain ⟨k1, k2, k3⟩ := short_fine (most := 1024) h1 h2
    exact ⟨k1, k2, Nat.le_trans k3 h3⟩
theorem sAttr_fine {l : List Nat} {e : Nat} (hf : Fine l e) (h8 : ∀ x ∈ l, x < 256) : Fine (sAttr l e).1 (sAttr l e).2.1 ∧ (∀ x ∈ (sAttr l e).1, x < 256) ∧ (sAttr l e).1.length ≤ l.length := by
  have h := stA_fine hf h8 7
  have h2 := sAttr_all l e
  generalize stA l e 7 = s at h h2
  rw [h2.1, h2.2.1]
  exact h

theorem first_row_a (v : Int) : (#[.int .i64 v, .int .i64 0, .int .i64 0, .int .i64 0, .int .i64 0, .int .i64 0, .int .i64 0, .int .i64 0] : Array Value) = rowA (upd (fun _ => 0) 0 v) := rfl

set_option maxRecDepth 100000 in
set_option maxHeartbeats 2000000 in
theorem attake_as (S : Nat → List Nat × Nat × (Nat → Int)) (g : Nat) (l : List Nat) (e : Nat) (l' : List Nat) (e' : Nat) (V : Nat → Int) (w : World) (h : InAt w g l e) (hf : Fine l e) (h8 : ∀ x ∈ l, x < 256) (hl : l.length ≤ 9223372036854775807)
    (hz : (S 0).1 = (sShort l e 1073741824).1 ∧ (S 0).2.1 = (sShort l e 1073741824).2.1 ∧ (S 0).2.2 = upd (fun _ => 0) 0 ((sShort l e 1073741824).2.2 : Nat))
    (hn : ∀ j, (S (j + 1)).1 = (sShort (S j).1 (S j).2.1 1024).1 ∧ (S (j + 1)).2.1 = (sShort (S j).1 (S j).2.1 1024).2.1 ∧ (S (j + 1)).2.2 = upd (S j).2.2 (1 + j) ((sShort (S j).1 (S j).2.1 1024).2.2 : Nat))
    (hfn : ∀ j, Fine (S j).1 (S j).2.1 ∧ (∀ x ∈ (S j).1, x < 256) ∧ (S j).1.length ≤ l.length) (hE : l' = (S 7).1 ∧ e' = (S 7).2.1 ∧ V = if (S 7).2.1 = 0 then (S 7).2.2 else fun _ => 0) :
    Calls Try.prog 22 #[.pointer (some ⟨g, 0, none⟩)] w (Turns (fun en => en = .returned (.agg (rowA V))) g l' e' w) := by
  obtain ⟨l1, e1, v1, hs1⟩ : ∃ l1 e1 v1, sShort l e 1073741824 = (l1, e1, v1) := ⟨_, _, _, rfl⟩
  have hm1 : v1 ≤ 1073741824 := by have := sShort_most (l := l) (e := e) (most := 1073741824); rw [hs1] at this; exact this
  rw [hs1] at hz
  have HS0 := hid hz
  have HNX := hid hn
  have HFN := hid hfn
  have HEN := hid hE
  have hgl := h.lt
  have HI0 := hid (h.keep ((Below.refl _ _).alloc (by omega) (.cells #[.int .i64 0, .int .i64 0, .int .i64 0, .int .i64 0, .int .i64 0, .int .i64 0, .int .i64 0, .int .i64 0] 24)))
  have HF := hid hf
  have H8 := hid h8
  have HS1 := hid hs1
  obtain ⟨k, hk⟩ : ∃ k, w.heap.size = k := ⟨_, rfl⟩
  have HK := hid hk
  have hgk : g < k := by omega
  clear h hf h8 hs1 hgl hz hn hfn hE
  go_enter Try.func22, Try.ntmps22
  go_wp2_with fail
  with_reducible refine (inshort_any g l e 1073741824 1073741824 l1 e1 v1 _ HI0.out HF.out H8.out hl rfl HS1.out).mono ?_
  rintro en w1 ⟨rfl, hi1, hg1⟩
  have HG1 := hid ((only_of_below ((Below.refl w.heap.size w).alloc (Nat.le_refl _) (.cells #[.int .i64 0, .int .i64 0, .int .i64 0, .int .i64 0, .int .i64 0, .int .i64 0, .int .i64 0, .int .i64 0] 24)) (some g)).trans hg1)
  have K1 := (Blk.new w 24 #[.int .i64 0, .int .i64 0, .int .i64 0, .int .i64 0, .int .i64 0, .int .i64 0, .int .i64 0, .int .i64 0]).grown hg1 (by simp; omega)
  rw [zeros_row] at K1
  rw [hk] at K1
  have K1 := hid K1
  have HI1 := hid hi1
  clear hi1 hg1 HI0 hk
  go_upto_region 2 with fail
  obtain ⟨W2, hW2⟩ : ∃ W2, w1.alloc (.cells #[.int .i64 (v1 : Int), .int .i64 0, .int .i64 0, .int .i64 0, .int .i64 0, .int .i64 0, .int .i64 0, .int .i64 0] 24) = W2 := ⟨_, rfl⟩
  rw [hW2]
  obtain ⟨M2, hb2⟩ := one_new hW2
  have hkm : k < w1.heap.size := K1.out.lt
  have K2 := hid (K1.out.below hb2.out K1.out.lt)
  have HI2 := hid (HI1.out.keep (hb2.out.mono HI1.out.lt))
  have HG2 := hid (only_below HG1.out hb2.out)
  obtain ⟨m, hm⟩ : ∃ m, w1.heap.size = m := ⟨_, rfl⟩
  rw [hm] at M2 hkm ⊢
  rw [first_row_a] at M2
  clear hW2 hb2 hm K1 HI1 HG1
  go_wp2_with fail
  go_loopw [9] (fun iv wr => ∃ j : Nat, j ≤ 7 ∧ iv = .int .i64 j ∧ Hid (Blk wr k 24 (rowA fun _ => 0)) ∧ Hid (Blk wr m 24 (rowA (S j).2.2)) ∧ Hid (InAt wr g (S j).1 (S j).2.1) ∧ Hid (w.grownBy wr (some g))) (fun iv _ => 7 - (intOf iv).toNat)
  case atStart => exact ⟨0, by omega, rfl, K2, hid (by rw [HS0.out.2.2]; exact M2.out), hid (by rw [HS0.out.1, HS0.out.2.1]; exact HI2.out), HG2⟩
  case round =>
    obtain ⟨j, hj, rfl, K, M, I, G⟩ := hrel
    have hfn := HFN.out j
    by_cases hlt : j < 7
    · have HR := hid (HNX.out j)
      obtain ⟨lj, hlj⟩ : ∃ x, (S j).1 = x := ⟨_, rfl⟩
      obtain ⟨ej, hej⟩ : ∃ x, (S j).2.1 = x := ⟨_, rfl⟩
      obtain ⟨F, hF⟩ : ∃ x, (S j).2.2 = x := ⟨_, rfl⟩
      rw [hlj, hej] at I hfn
      rw [hF] at M
      rw [hlj, hej, hF] at HR
      obtain ⟨l2, e2, v2, hs2⟩ : ∃ l2 e2 v2, sShort lj ej 1024 = (l2, e2, v2) := ⟨_, _, _, rfl⟩
      have hm2 : v2 ≤ 1024 := by have := sShort_most (l := lj) (e := ej) (most := 1024); rw [hs2] at this; exact this
      rw [hs2] at HR
      have HS := hid hs2
      have F1 := hid hfn.1
      have F2 := hid hfn.2.1
      have hl2 : lj.length ≤ 9223372036854775807 := Nat.le_trans hfn.2.2 hl
      clear hlj hej hF hs2 hfn
      go_wp2_with fail
      with_reducible refine (inshort_any g lj ej 1024 1024 l2 e2 v2 _ I.out F1.out F2.out hl2 rfl HS.out).mono ?_
      rintro en w3 ⟨rfl, hi, hg⟩
      have N0 := hid (K.out.grown hg (by simp; omega))
      have N1 := hid (M.out.grown hg (by simp; omega))
      have N2 := hid hi
      have N3 := hid (G.out.trans hg)
      clear hi hg
      have q0 := N1.out.att (i := 1 + j) (by omega)
      have q1 := N1.out.frozen (1 + j)
      have L0 := hid (N0.out.far (p := ⟨m, 1 + j, none⟩) (by simp <;> omega) (.int .i64 (v2 : Int)))
      have L1 := hid (N1.out.attSet (1 + j) (v2 : Int))
      have L2 := hid (N2.out.setCell (r := m) (i := 1 + j) (x := .int .i64 (v2 : Int)) (by omega))
      have L3 := hid (only_setCell (p := ⟨m, 1 + j, none⟩) N3.out (.inr (show w.heap.size ≤ m by have := HK.out; omega)) (.int .i64 (v2 : Int)))
      go_wp2
      go_roundw
      case rel => exact ⟨j + 1, by omega, by go_num, L0, hid (by rw [HR.out.2.2]; exact L1.out), hid (by rw [HR.out.1, HR.out.2.1]; exact L2.out), L3⟩
      case measure => simp only [intOf]; omega
    · have hj7 : j = 7 := by omega
      subst hj7
      have HR := HEN
      obtain ⟨lj, hlj⟩ : ∃ x, (S 7).1 = x := ⟨_, rfl⟩
      obtain ⟨ej, hej⟩ : ∃ x, (S 7).2.1 = x := ⟨_, rfl⟩
      obtain ⟨F, hF⟩ : ∃ x, (S 7).2.2 = x := ⟨_, rfl⟩
      rw [hlj, hej] at I
      rw [hF] at M
      rw [hlj, hej, hF] at HR
      clear hlj hej hF hfn
      by_cases h0 : ej = 0
      · subst h0
        have HV : Hid (V = F) := hid (by rw [HR.out.2.2]; simp)
        have Z1 := hid (len_attr F)
        have Z2 := hid (size_zero F)
        have Z3 := hid (rowA_one F)
        go_wp2_with fail
        with_reducible refine (failed_no g lj _ I.out).mono ?_
        rintro en w4 ⟨rfl, rfl⟩
        go_wp2_with (first
          | (with_reducible refine wpList_load_row (o := ⟨some 22, _, _, _, _, _⟩) rfl 24 (.tmp 3) rfl m rfl 24 (rowA F) (0, 0) _ M.out.heap Try.underlying24 rfl Z1.out ?_)
          | (with_reducible refine wpList_store_row (o := ⟨none, _, _, _, _, _⟩) rfl 24 (.tmp 2) (.tmp 22) rfl k (rowA F) rfl rfl 24 _ K.out.heap Z1.out Z2.out Z3.out ?_))
        exact bodyPost_ret (v := .agg (rowA F)) (results_cell_row (p := 2) (ty := 24) (by kernel_rfl) _ _ k 24 (rowA F) (0, 0) _ rfl (setRow_heap wr k _ (rowA F) _ _ K.out.heap) Try.underlying24 rfl Z1.out) rfl ⟨by rw [HV.out], by rw [HR.out.1, HR.out.2.1]; exact I.out.setRow hgk, only_setRow G.out (by have := HK.out; omega)⟩
      · have HV : Hid (V = fun _ => 0) := hid (by rw [HR.out.2.2]; simp [h0])
        have Z1 : Hid ((Try.prog.info? 24).map (·.size) = some (#[.int .i64 0, .int .i64 0, .int .i64 0, .int .i64 0, .int .i64 0, .int .i64 0, .int .i64 0, .int .i64 0] : Array Value).size) := hid info_attr
        have Z3 : Hid ((#[.int .i64 0, .int .i64 0, .int .i64 0, .int .i64 0, .int .i64 0, .int .i64 0, .int .i64 0, .int .i64 0] : Array Value).all (·.oneCell') = true) := hid (rowA_one fun _ => 0)
        go_wp2_with fail
        with_reducible refine (failed_yes g lj ej _ I.out (by omega)).mono ?_
        rintro en w4 ⟨rfl, rfl⟩
        clear h0
        go_wp2_with (first
          | (with_reducible refine wpList_store_row (o := ⟨none, _, _, _, _, _⟩) rfl 24 (.tmp 2) (.tmp 21) rfl k #[.int .i64 0, .int .i64 0, .int .i64 0, .int .i64 0, .int .i64 0, .int .i64 0, .int .i64 0, .int .i64 0] rfl rfl 24 _ K.out.heap Z1.out rfl Z3.out ?_))
        exact bodyPost_ret (v := .agg #[.int .i64 0, .int .i64 0, .int .i64 0, .int .i64 0, .int .i64 0, .int .i64 0, .int .i64 0, .int .i64 0]) (results_cell_row (p := 2) (ty := 24) (by kernel_rfl) _ _ k 24 #[.int .i64 0, .int .i64 0, .int .i64 0, .int .i64 0, .int .i64 0, .int .i64 0, .int .i64 0, .int .i64 0] (0, 0) _ rfl (setRow_heap wr k _ #[.int .i64 0, .int .i64 0, .int .i64 0, .int .i64 0, .int .i64 0, .int .i64 0, .int .i64 0, .int .i64 0] _ _ K.out.heap) Try.underlying24 rfl Z1.out) rfl ⟨by rw [HV.out]; rfl, by rw [HR.out.1, HR.out.2.1]; exact I.out.setRow hgk, only_setRow G.out (by have := HK.out; omega)⟩

theorem attake_any (g : Nat) (l : List Nat) (e : Nat) (l' : List Nat) (e' : Nat) (V : Nat → Int) (w : World) (h : InAt w g l e) (hf : Fine l e) (h8 : ∀ x ∈ l, x < 256) (hl : l.length ≤ 9223372036854775807) (hs : sAttr l e = (l', e', V)) :
    Calls Try.prog 22 #[.pointer (some ⟨g, 0, none⟩)] w (Turns (fun en => en = .returned (.agg (rowA V))) g l' e' w) := by
  obtain ⟨h1, h2, h3⟩ := sAttr_all l e
  rw [hs] at h1 h2 h3
  exact attake_as (stA l e) g l e l' e' V w h hf h8 hl ⟨rfl, rfl, rfl⟩ (fun j => ⟨rfl, rfl, rfl⟩) (stA_fine hf h8) ⟨h1, h2, h3⟩

end Go.Proofs.Ytfpmmajgnijboaa
