/-
  A step of the law's: what it does to a book.
-/
import Derived.Test.YtgjbhlianlbflaaGreatBLkRefD
import Derived.Test.YtgjbhlianlbflaaGreatBLkOpen
import Derived.Test.YtgjbhlianlbflaaGreatBLkThose
import Derived.Test.YtgjbhlianlbflaaGreatBLkMove
namespace Go.Proofs.YtgjbhlianlbflaaGreat
open Go.ChangeShapes Go.WideShapes Go.ChangeAt Go.RowKit Go.Maps Go.WideMaps
set_option linter.unusedVariables false
set_option linter.unusedSimpArgs false
set_option maxRecDepth 100000 in
theorem eqk_entD (a b : EnL) (w : World) : (Op.equalIn 10000 47 (entV a) (entV b)).run Tryz.prog w = .ok (eqE a b) w := by
  obtain ⟨p, u, f, m, n, s⟩ := a
  obtain ⟨p', u', f', m', n', s'⟩ := b
  have ht : Tryz.prog.underlying 47 = some (.struct (Tryz.prog.fieldsOf 47)) := by kernel_rfl
  have hp : Tryz.prog.stoodInHeld 47 = false := by kernel_rfl
  rw [run_equalIn_struct w 9999 _ _ _ ht hp]
  have a0 := run_part_plain (P := Tryz.prog) (w := w) (e := 9) (by kernel_rfl) (xs := #[.string p, .int .u64 u, .string f, .int .i64 m, .int .u64 n, .int .i64 s]) (off := 0) rfl
  have b0 := run_part_plain (P := Tryz.prog) (w := w) (e := 9) (by kernel_rfl) (xs := #[.string p', .int .u64 u', .string f', .int .i64 m', .int .u64 n', .int .i64 s']) (off := 0) rfl
  have a4 := run_part_plain (P := Tryz.prog) (w := w) (e := 22) (by kernel_rfl) (xs := #[.string p, .int .u64 u, .string f, .int .i64 m, .int .u64 n, .int .i64 s]) (off := 1) rfl
  have b4 := run_part_plain (P := Tryz.prog) (w := w) (e := 22) (by kernel_rfl) (xs := #[.string p', .int .u64 u', .string f', .int .i64 m', .int .u64 n', .int .i64 s']) (off := 1) rfl
  have a5 := run_part_plain (P := Tryz.prog) (w := w) (e := 9) (by kernel_rfl) (xs := #[.string p, .int .u64 u, .string f, .int .i64 m, .int .u64 n, .int .i64 s]) (off := 2) rfl
  have b5 := run_part_plain (P := Tryz.prog) (w := w) (e := 9) (by kernel_rfl) (xs := #[.string p', .int .u64 u', .string f', .int .i64 m', .int .u64 n', .int .i64 s']) (off := 2) rfl
  have a1 := run_part_plain (P := Tryz.prog) (w := w) (e := 3) (by kernel_rfl) (xs := #[.string p, .int .u64 u, .string f, .int .i64 m, .int .u64 n, .int .i64 s]) (off := 3) rfl
  have b1 := run_part_plain (P := Tryz.prog) (w := w) (e := 3) (by kernel_rfl) (xs := #[.string p', .int .u64 u', .string f', .int .i64 m', .int .u64 n', .int .i64 s']) (off := 3) rfl
  have a2 := run_part_plain (P := Tryz.prog) (w := w) (e := 22) (by kernel_rfl) (xs := #[.string p, .int .u64 u, .string f, .int .i64 m, .int .u64 n, .int .i64 s]) (off := 4) rfl
  have b2 := run_part_plain (P := Tryz.prog) (w := w) (e := 22) (by kernel_rfl) (xs := #[.string p', .int .u64 u', .string f', .int .i64 m', .int .u64 n', .int .i64 s']) (off := 4) rfl
  have a3 := run_part_plain (P := Tryz.prog) (w := w) (e := 3) (by kernel_rfl) (xs := #[.string p, .int .u64 u, .string f, .int .i64 m, .int .u64 n, .int .i64 s]) (off := 5) rfl
  have b3 := run_part_plain (P := Tryz.prog) (w := w) (e := 3) (by kernel_rfl) (xs := #[.string p', .int .u64 u', .string f', .int .i64 m', .int .u64 n', .int .i64 s']) (off := 5) rfl
  have e0 := run_equalIn_string (P := Tryz.prog) w 9998 9 p p' Tryz.underlying9
  have e5 := run_equalIn_string (P := Tryz.prog) w 9998 9 f f' Tryz.underlying9
  rw [lkeq_text] at e0 e5
  have e4 := run_equalIn_int (P := Tryz.prog) w 9998 22 .u64 .u64 u u' Tryz.underlying22
  have e1 := run_equalIn_int (P := Tryz.prog) w 9998 3 .i64 .i64 m m' Tryz.underlying3
  have e2 := run_equalIn_int (P := Tryz.prog) w 9998 22 .u64 .u64 n n' Tryz.underlying22
  have e3 := run_equalIn_int (P := Tryz.prog) w 9998 3 .i64 .i64 s s' Tryz.underlying3
  have hE : eqE (⟨p, u, f, m, n, s⟩ : EnL) ⟨p', u', f', m', n', s'⟩ = (decide (p = p') && ((u == u') && (decide (f = f') && ((m == m') && ((n == n') && ((s == s') && true)))))) := by
    unfold eqE
    simp [Bool.and_assoc]
  rw [hE]
  simp only [Program.fieldsOf, Tryz.underlying47]
  exact eqk_cons (by decide) a0 b0 e0 (eqk_cons (by decide) a4 b4 e4 (eqk_cons (by decide) a5 b5 e5 (eqk_cons (by decide) a1 b1 e1 (eqk_cons (by decide) a2 b2 e2 (eqk_cons (by decide) a3 b3 e3 eqk_nil)))))
def addOutE (first : Int) (l : List EnL) (cs : CnL) (p : ByteArray) (u : Int) (f : ByteArray) (mode : Int) : EnL := if mayE first l cs p u f mode = 0 then addE first l cs p u f mode else zeroE
def addOutL (first : Int) (l : List EnL) (cs : CnL) (p : ByteArray) (u : Int) (f : ByteArray) (mode : Int) : List EnL := if mayE first l cs p u f mode = 0 then l ++ [addE first l cs p u f mode] else l
def addOutC (first : Int) (l : List EnL) (cs : CnL) (p : ByteArray) (u : Int) (f : ByteArray) (mode : Int) : CnL := if mayE first l cs p u f mode = 0 then setC cs p (cntE first cs p + 1) else cs
theorem lkadd_to (base b de dc n : Nat) (first : Int) (l : List EnL) (cs : CnL) (p : ByteArray) (u : Int) (f : ByteArray) (mode : Int) (w : World) (h : BkK w base b de dc n first l cs) (hn : n < 1000000) (hp : OkK p) (hu : IsUk u) (hf : OkK f) :
    Calls Tryz.prog 30 #[.pointer (some ⟨b, 0, none⟩), .string p, .agg #[.int .u64 u, .string f], .int .i64 mode] w fun r w' => r = .returned (.tuple #[entV (addOutE first l cs p u f mode), .int .i64 (mayE first l cs p u f mode)]) ∧ BkK w' base b de dc (n + 1) first (addOutL first l cs p u f mode) (addOutC first l cs p u f mode) ∧ TurnsD (OwnK de dc) w w' := by
  unfold addOutE addOutL addOutC
  by_cases hm : mayE first l cs p u f mode = 0
  · simp only [if_pos hm]
    refine (lkadd_ok base b de dc n first l cs p u f mode w h hn hp hu hf hm).mono ?_
    rintro r w' ⟨rfl, h1, h2⟩
    exact ⟨by rw [hm], h1, h2⟩
  · simp only [if_neg hm]
    refine (lkadd_no base b de dc n first l cs p u f mode w h (by omega) hp hu hf hm).mono ?_
    rintro r w' ⟨rfl, h1⟩
    exact ⟨rfl, (h.on h1).mono (by omega), TurnsD.of_below h1⟩
def stpL (first : Int) (l : List EnL) (cs : CnL) (o : OpK) : List EnL := if o.kd = 1 then addOutL first l cs o.path o.u o.foot o.mo else if o.kd = 2 then rmE l o.path o.u o.foot else if o.kd = 3 then dropE l o.u o.foot else l
def stpC (first : Int) (l : List EnL) (cs : CnL) (o : OpK) : CnL := if o.kd = 1 then addOutC first l cs o.path o.u o.foot o.mo else cs
def GoodD (n : Nat) (first : Int) (l : List EnL) (cs : CnL) : Prop := GoodK first l cs ∧ l.length ≤ n ∧ (∀ e ∈ l, e.stamp ≤ n) ∧ cs.length ≤ n
theorem len_setC (p : ByteArray) (n : Int) : ∀ cs : CnL, (setC cs p n).length ≤ cs.length + 1
  | [] => by simp [setC]
  | c :: cs => by
    have := len_setC p n cs
    unfold setC
    split <;> simp <;> omega
theorem GoodD.le {n : Nat} {first : Int} {l : List EnL} {cs : CnL} (h : GoodD n first l cs) (q : EnL → Bool) : GoodD (n + 1) first (l.filter q) cs :=
  ⟨h.1.filter q, by have := List.length_filter_le q l; have := h.2.1; omega, fun e he => by have := h.2.2.1 e (List.mem_filter.1 he).1; omega, by have := h.2.2.2; omega⟩
theorem GoodD.up {n : Nat} {first : Int} {l : List EnL} {cs : CnL} (h : GoodD n first l cs) : GoodD (n + 1) first l cs :=
  ⟨h.1, by have := h.2.1; omega, fun e he => by have := h.2.2.1 e he; omega, by have := h.2.2.2; omega⟩
theorem GoodD.step {n : Nat} {first : Int} {l : List EnL} {cs : CnL} (h : GoodD n first l cs) {o : OpK} (ho : MadeK o) : GoodD (n + 1) first (stpL first l cs o) (stpC first l cs o) := by
  unfold stpL stpC
  by_cases h1 : o.kd = 1
  · rw [if_pos h1, if_pos h1]
    unfold addOutL addOutC
    by_cases hm : mayE first l cs o.path o.u o.foot o.mo = 0
    · rw [if_pos hm, if_pos hm]
      refine ⟨h.1.add hm ho.1 ho.2, ?_, ?_, ?_⟩
      · rw [List.length_append]; have := h.2.1; simp; omega
      · intro e he
        rcases List.mem_append.1 he with he | he
        · have := h.2.2.1 e he; omega
        · rw [List.mem_singleton.1 he]
          have := top_le (l := l) o.path (k := (n : Int)) (by omega) h.2.2.1
          show topE l o.path + 1 ≤ ((n + 1 : Nat) : Int)
          omega
      · have := len_setC o.path (cntE first cs o.path + 1) cs; have := h.2.2.2; omega
    · rw [if_neg hm, if_neg hm]
      exact h.up
  · rw [if_neg h1, if_neg h1]
    by_cases h2 : o.kd = 2
    · rw [if_pos h2]; exact h.le _
    · rw [if_neg h2]
      by_cases h3 : o.kd = 3
      · rw [if_pos h3]; exact h.le _
      · rw [if_neg h3]; exact h.up
theorem rm_none {l : List EnL} {p : ByteArray} {u : Int} {f : ByteArray} (h : findE l p u f = none) : rmE l p u f = l := by
  unfold rmE
  rw [List.filter_eq_self]
  intro e he
  have := findE_none h e he
  simp [isE, this]
theorem kept_rm (l : List EnL) (p : ByteArray) (u : Int) (f : ByteArray) : l.filter (keptE false p u f) = rmE l p u f := by
  unfold rmE keptE
  simp
theorem kept_drop (l : List EnL) (p : ByteArray) (u : Int) (f : ByteArray) : l.filter (keptE true p u f) = dropE l u f := by
  unfold dropE keptE
  simp
theorem drop_len (l : List EnL) (u : Int) (f : ByteArray) : (l.length : Int) - (dropE l u f).length = (heldE l u f : Nat) := by
  unfold dropE heldE
  have := List.length_eq_countP_add_countP (ofE u f) (l := l)
  rw [List.countP_eq_length_filter (p := ofE u f)] at *
  have h2 : (l.filter fun e => !ofE u f e).length = List.countP (fun a => decide ¬ ofE u f a = true) l := by
    rw [List.countP_eq_length_filter]
    congr 2
    funext e
    cases ofE u f e <;> rfl
  rw [h2]
  omega
theorem idx_neg {l : List EnL} {p : ByteArray} {u : Int} {f : ByteArray} : (idxE l p u f < 0 ↔ findE l p u f = none) ∧ (0 ≤ idxE l p u f ↔ (findE l p u f).isSome = true) := by
  unfold idxE
  cases h : findE l p u f <;> simp <;> omega
end Go.Proofs.YtgjbhlianlbflaaGreat
