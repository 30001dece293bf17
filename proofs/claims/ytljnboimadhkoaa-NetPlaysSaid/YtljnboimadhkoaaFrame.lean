/-
  What every law's row owes beside its walk, over any program: arguments read as they did, nothing old has changed, the answer is true. And a slice of numbers that reads as a list, at whatever address.
-/
import Derived.WalkKit
import Derived.ProofKit
import Derived.OpenShut
import Derived.SizedLaws
import Derived.Deep.QuietTactic
import Derived.BigQuiet
import Derived.Laws.AppendOwnNone
namespace Go.Proofs.Ytljnboimadhkoaa
open Go.ChangeShapes Go.WideShapes Go.ChangeAt Go.RowKit

/-- A fact that the walk's rewriting doesn't see. -/
theorem hid {p : Prop} (h : p) : Hid p := h

theorem ret_num {k : IntKind} {a b : Int} (h : a = b) : Ending.returned (.int k a) = .returned (.int k b) := by rw [h]
theorem ret_bool {a b : Bool} (h : a = b) : Ending.returned (.bool a) = .returned (.bool b) := by rw [h]

/-- May each type of a list be read anew? -/
def plainTypes (P : Program) (ts : List TypeId) : Bool := ts.all fun t => P.readableRec t && decide (t < P.types.size)

theorem stays_all {H : Type} {enc : TypeId × Value → H} {P : Program} (hl : laidOutB P = true) {W W' : World} (hb : Below W.heap.size W W') :
    ∀ (ts : List TypeId) (vs : List Value) (ds : List (DataW H)) (ps : List MemPlace), plainTypes P ts = true →
      DataW.TrodAll enc P W 0 (fun _ => true) true ts vs ds ps → (∀ x ∈ ps, x.block < W.heap.size) →
      DataW.TrodAll enc P W' 0 (fun b => decide (b < W.heap.size)) true ts vs ds ps := by
  intro ts
  induction ts with
  | nil =>
    intro vs ds ps _ h _
    obtain ⟨rfl, rfl, rfl⟩ := trodAll_nil h
    rfl
  | cons t ts ih =>
    intro vs ds ps hr h hlt
    obtain ⟨v, vs', d, ds', p, q, rfl, rfl, rfl, h1, h2⟩ := trodAll_cons h
    simp only [plainTypes, List.all_cons, Bool.and_eq_true, decide_eq_true_eq] at hr
    exact trodAll_cons_mk (Below.trod hl hr.1.1 hr.1.2 h1 hb (fun x hx => hlt x (List.mem_append_left _ hx)))
      (ih vs' ds' q hr.2 h2 (fun x hx => hlt x (List.mem_append_right _ hx)))

theorem law_post {H : Type} {enc : TypeId × Value → H} {P : Program} (hl : laidOutB P = true) {f : Func} {s : ChangeSpec} {W W' : World} {args : Array Value} {ds gs : List (DataW H)} {before : List MemPlace} {tb : TypeId}
    (hW : DataW.Whole enc P f.params.toList s.vars false W args.toList ds gs before) (hr : plainTypes P f.params.toList = true) (hv : s.vars = []) (hrt : f.resultTypes = #[tb]) (htb : P.underlying tb = some .bool)
    (hspec : s.fn H (ds ++ gs) = { results := [.lit (.bool true)], args := ds }) (hb : Below W.heap.size W W') :
    s.post enc P f false true false false W args (.bool true) W' := by
  have hW' := hW
  obtain ⟨p, q, hA, hV, rfl, _, _⟩ := hW
  have hlt : ∀ x ∈ p ++ q, x.block < W.heap.size := fun x hx => by simpa using hW'.lt x hx
  rw [hv] at hV
  obtain ⟨rfl, rfl⟩ := trodVars_none hV
  refine ⟨ds, [], p ++ [], [] ++ [], p, [], hW', ?_, ?_, ?_, hb.frame _, fun h => by cases h⟩
  · rw [hspec, hrt]
    exact trodAll_mk1 (shut_bool htb _)
  · rw [hspec]
    exact stays_all hl hb _ _ _ _ hr hA (fun x hx => hlt x (List.mem_append_left _ hx))
  · rw [hspec, hv]
    rfl

theorem below_drewN {B : Nat} {a w : World} (h : Below B a w) (n : Nat) : Below B a (w.drewN n) := ⟨h.os, h.tape, h.output, h.size, h.block⟩

theorem below_on {a b c : World} (h1 : Below a.heap.size a b) (h2 : Below b.heap.size b c) : Below a.heap.size a c := h1.trans (h2.mono h1.size)
theorem below_drew {B : Nat} {a w : World} (h : Below B a w) : Below B a w.drew := ⟨h.os, h.tape, h.output, h.size, h.block⟩

/-- A slice of numbers that reads as a list, at whatever address. -/
def Sees (k : IntKind) (w : World) (A : Option Addr) (l : List Nat) : Prop :=
  ∀ (j x : Nat), l[j]? = some x → ∃ b o, A = some ⟨b, o, none⟩ ∧ b < w.heap.size ∧ w.cell? ⟨b, o + j, none⟩ = some (.int k (x : Int))

theorem Sees.below {k : IntKind} {w w' : World} {A : Option Addr} {l : List Nat} (h : Sees k w A l) (hb : Below w.heap.size w w') : Sees k w' A l := by
  intro j x hj
  obtain ⟨b, o, hA, hlt, hc⟩ := h j x hj
  exact ⟨b, o, hA, Nat.lt_of_lt_of_le hlt hb.size, (hb.cell (by exact hlt)).trans hc⟩
theorem Sees.drewN {k : IntKind} {w : World} {A : Option Addr} {l : List Nat} (h : Sees k w A l) (n : Nat) : Sees k (w.drewN n) A l := h
theorem Sees.alloc_ {k : IntKind} {w : World} {A : Option Addr} {l : List Nat} (h : Sees k w A l) (o : Obj) : Sees k (w.alloc o) A l := h.below ((Below.refl _ _).alloc (Nat.le_refl _) o)
theorem Sees.drew_ {k : IntKind} {w : World} {A : Option Addr} {l : List Nat} (h : Sees k w A l) : Sees k w.drew A l := h
theorem Sees.nil (k : IntKind) (w : World) (A : Option Addr) : Sees k w A [] := fun j x h => by simp at h
theorem Sees.of_own {k : IntKind} {w : World} {base n cap : Nat} {A : Option Addr} {l : List Nat} {E : TypeId} (h : w.ownsRow base E 1 (.slice A n cap) n (l.map fun x : Nat => Value.int k (x : Int))) : Sees k w A l := by
  intro j x hj
  have hl : l.length = n := by have := h.1; simpa using this
  have hjn : j < l.length := (List.getElem?_eq_some_iff.1 hj).1
  rcases h.2 with ⟨_, h0⟩ | ⟨g, cap', cur, hv, _, hg, _⟩
  · omega
  · injection hv with h1 h2 h3
    subst h1; subst h3
    refine ⟨g, 0, rfl, (Array.getElem?_eq_some_iff.1 hg).1, ?_⟩
    rw [Nat.zero_add, h.cellAt j (by omega)]
    simp [hj]
/-- The rest of it from place i on. -/
theorem Sees.rest {k : IntKind} {w : World} {A : Option Addr} {l : List Nat} (h : Sees k w A l) {b o i : Nat} (hA : A = some ⟨b, o, none⟩) : Sees k w (some ⟨b, o + i, none⟩) (l.drop i) := by
  intro j x hj
  rw [List.getElem?_drop] at hj
  obtain ⟨b', o', hA', hlt, hc⟩ := h _ x hj
  rw [hA] at hA'
  injection hA' with h1
  injection h1 with h2 h3
  subst h2; subst h3
  exact ⟨b, o + i, rfl, hlt, by rw [Nat.add_assoc]; exact hc⟩
theorem Sees.take {k : IntKind} {w : World} {A : Option Addr} {l : List Nat} (h : Sees k w A l) (i : Nat) : Sees k w A (l.take i) := by
  intro j x hj
  refine h j x ?_
  rw [List.getElem?_take] at hj
  split at hj
  · exact hj
  · cases hj

/-- A slice of unsigned numbers among the arguments. -/
theorem open_nums {H : Type} {enc : TypeId × Value → H} {P : Program} {W : World} {base : Nat} {t e : TypeId} {k : IntKind} {v : Value} {d : DataW H} {p : List MemPlace} (ht : P.underlying t = some (.slice e)) (he : P.underlying e = some (.int k)) (hc : P.cellsOf e = 1)
    (hk : ∀ n : Int, (Lit.int k n).wf = true → 0 ≤ n) (hval : Value.okWide P W .any base t v) (hd : DataW.Trod enc P W 0 (fun _ => true) true t v d p) (hlt : ∀ x ∈ p, x.block < W.heap.size) :
    ∃ A cap, ∃ l : List Nat, v = .slice A l.length cap ∧ (A = none → cap = 0) ∧ l.length ≤ cap ∧ cap ≤ maxLen ∧ Sees k W A l ∧ (∀ x ∈ l, (Lit.int k (x : Int)).wf = true) ∧ (l = [] ∨ ∃ es sp, d = .slice es sp ∧ es.length + sp.length = cap) := by
  obtain ⟨a0, len, cap, rfl⟩ := okWide_slice ht hval
  obtain ⟨fuel, hf⟩ := hd
  rcases open_ints ht he hc hf with ⟨hcs, _⟩ | ⟨a, len', cap', zs, hcs, _, hl, hm, hz, hx, hcell, hwz⟩
  · simp [Value.cells] at hcs
    obtain ⟨rfl, rfl, rfl⟩ := hcs
    exact ⟨none, 0, [], rfl, fun _ => rfl, Nat.le_refl _, by simp [maxLen], Sees.nil _ _ _, by simp, .inl rfl⟩
  · simp [Value.cells] at hcs
    obtain ⟨rfl, rfl, rfl⟩ := hcs
    simp only [Prod.mk.injEq] at hx
    obtain ⟨rfl, rfl⟩ := hx
    simp only [if_true] at hz
    have hpos : ∀ n ∈ zs, 0 ≤ n := fun n hn => hk n (hwz n hn)
    have hll : ((zs.take len).map Int.toNat).length = len := by simp; omega
    refine ⟨some a, cap, (zs.take len).map Int.toNat, by rw [hll], fun h => (by cases h), by omega, hm, ?_, ?_, .inr ⟨_, _, rfl, by simp [lits]; omega⟩⟩
    · intro j x hj
      have hjl : j < len := by have := (List.getElem?_eq_some_iff.1 hj).1; omega
      have hjz : j < zs.length := by omega
      have hx : x = (zs[j]).toNat := by
        rw [List.getElem?_map, List.getElem?_take, if_pos hjl, List.getElem?_eq_getElem hjz] at hj
        simp at hj
        exact hj.symm
      obtain ⟨b, off, spot⟩ := a
      have hspot : spot = none := by simpa [Addr.add] using World.cell?_spot (hcell 0 (by omega))
      subst hspot
      have hbW : b < W.heap.size := hlt (.cell b off) (MemPlace.mem_row.2 ⟨0, by omega, by simp⟩)
      refine ⟨b, off, rfl, hbW, ?_⟩
      rw [← add_plain, hcell j hjz, hx]
      have h0 := hpos _ (List.getElem_mem hjz)
      rw [List.getD_eq_getElem?_getD, List.getElem?_eq_getElem hjz]
      simp only [Option.getD_some]
      rw [Int.toNat_of_nonneg h0]
    · intro x hx
      obtain ⟨n, hn, rfl⟩ := List.mem_map.1 hx
      have hn' := List.mem_of_mem_take hn
      rw [Int.toNat_of_nonneg (hpos n hn')]
      exact hwz n hn'

/-- An empty slice that is made on the spot: a row of the call's own, of no cells. -/
theorem run_build_none {P : Program} (w : World) (t e : TypeId) (ht : P.underlying t = some (.slice e)) (i : TypeInfo) (hi : P.info? e = some i) :
    (Instr.buildSlice t 0 #[]).run P w = .ok (.slice (some ⟨w.heap.size, 0, none⟩) 0 0) (w.alloc (.cells #[] e)) := by
  have e0 : (Array.map (fun _ : Nat => (default : Value)) (Array.range 0)) = #[] := by simp
  simp [Instr.buildSlice, run_underlying ht, sizeOf, typeInfo, hi, Instr.fill]
  rw [e0]
  rfl

theorem wpList_build_none {P : Program} {w : World} {ops : Array Oper} {rest : List Oper} {o : Oper} {a : Act} {Q : Exit → Act → World → Prop} (hgd : o.guard = none) (t e : TypeId)
    (ho : o.op = .buildSlice t 0 #[]) (ht : P.underlying t = some (.slice e)) (i : TypeInfo) (hi : P.info? e = some i) (base : Nat) (hb : base ≤ w.heap.size)
    (h : ∀ s w', w'.ownsRow base e 1 s 0 [] → Below w.heap.size w w' → wpList P ops Q rest (a.put o.dst s) w') : wpList P ops Q (o :: rest) a w := by
  refine wpList_plain hgd fun K hK => ?_
  have hr := run_build_none w t e ht i hi
  unfold Oper.wp
  simp [execOp, ho, hr, Result.andThen]
  exact hK _ _ (h _ _ (World.ownsRow_lit w #[] 0 hb (by decide) rfl) ((Below.refl _ _).alloc (Nat.le_refl _) _))

/-- Behind an append a row of the call's own: what was there, and what the source reads as, whatever its address. -/
theorem wpList_append_sees {P : Program} {w : World} {ops : Array Oper} {rest : List Oper} {o : Oper} {a : Act} {Q : Exit → Act → World → Prop} (hgd : o.guard = none) (s x : Operand) (t : TypeId)
    (ho : o.op = .call { callee := .builtin .append, args := #[s, x], argTypes := #[t, t] })
    (base : Nat) (e : TypeId) (i : TypeInfo) (z : Value) (bytes : Nat) (ht : P.underlying t = some (.slice e)) (hi : P.info? e = some i) (hz : i.zero = some z) (hsize : i.size = 1) (hby : i.bytes = bytes) (hzs : z.cells.size = 1)
    (v : Value) (n : Nat) (xs : List Value) (hs : a.eval s = v) (hown : w.ownsRow base e 1 v n xs) (k : IntKind) (A : Option Addr) (c : Nat) (l : List Nat) (hx : a.eval x = .slice A l.length c) (hnone : A = none → c = 0) (hS : Sees k w A l)
    (h63 : n + l.length ≤ maxLen) (hbytes : (n + l.length) * bytes ≤ 140737488355328) (hbase : base ≤ w.heap.size)
    (h : ∀ v' w', w'.ownsRow base e 1 v' (n + l.length) (xs ++ l.map fun y : Nat => Value.int k (y : Int)) → w.grownBy w' v.ownBlock → wpList P ops Q rest (a.put o.dst v') w') : wpList P ops Q (o :: rest) a w := by
  cases A with
  | none =>
    have hl : l = [] := by
      cases l with
      | nil => rfl
      | cons y l => obtain ⟨b, o, he, _⟩ := hS 0 y rfl; cases he
    subst hl
    rw [hnone rfl] at hx
    exact wpList_append_own_none hgd s x t ho base e i 1 ht hi v n xs hs hown hx (h v w (by simpa using hown) (World.grownBy.refl w _))
  | some ad =>
    refine wpList_append_own w hgd s x t ho base e i z 1 bytes ht hi hz hsize hby hzs (by decide) v n xs hs hown ad l.length c (l.map fun y : Nat => Value.int k (y : Int)) hx (by simp) ?_ ?_ h63 hbytes hbase (fun v' w' h1 h2 _ => h v' w' h1 h2)
    · intro j u hu
      rw [List.getElem?_map] at hu
      cases hj : l[j]? with
      | none => rw [hj] at hu; cases hu
      | some y =>
        rw [hj] at hu
        obtain ⟨b, off, he, _, hc⟩ := hS j y hj
        injection he with he
        subst he
        rw [add_plain, hc]
        exact hu
    · intro u hu
      obtain ⟨y, _, rfl⟩ := List.mem_map.1 hu
      rfl

/-- A row of the call's own as the slice that it is. -/
theorem own_slice {w : World} {base n : Nat} {e : TypeId} {k : IntKind} {v : Value} {l : List Nat} (h : w.ownsRow base e 1 v n (l.map fun y : Nat => Value.int k (y : Int))) :
    ∃ A c, v = .slice A l.length c ∧ (A = none → c = 0) ∧ l.length ≤ c ∧ Sees k w A l := by
  have hn : l.length = n := by have := h.1; simpa using this
  rcases h.2 with ⟨rfl, h0⟩ | ⟨g, cap, cur, rfl, _, _, hc, _⟩
  · have : l = [] := List.eq_nil_of_length_eq_zero (by omega)
    subst this
    exact ⟨none, 0, rfl, fun _ => rfl, Nat.le_refl _, Sees.nil _ _ _⟩
  · exact ⟨_, cap, by rw [hn], fun h => (by cases h), by omega, Sees.of_own h⟩

/-- The same, of two lists one behind the other. -/
theorem own_slice2 {w : World} {base : Nat} {e : TypeId} {k : IntKind} {v : Value} {a b L : List Nat} (hL : L = a ++ b)
    (h : w.ownsRow base e 1 v (a.length + b.length) ((a.map fun y : Nat => Value.int k (y : Int)) ++ b.map fun y : Nat => Value.int k (y : Int))) :
    ∃ A c, v = .slice A L.length c ∧ (A = none → c = 0) ∧ L.length ≤ c ∧ Sees k w A L := by
  subst hL
  rw [← List.map_append] at h
  exact own_slice h

/-- The source's length by another name. -/
theorem wpList_append_named {P : Program} {w : World} {ops : Array Oper} {rest : List Oper} {o : Oper} {a : Act} {Q : Exit → Act → World → Prop} (hgd : o.guard = none) (s x : Operand) (t : TypeId)
    (ho : o.op = .call { callee := .builtin .append, args := #[s, x], argTypes := #[t, t] })
    (base : Nat) (e : TypeId) (i : TypeInfo) (z : Value) (bytes : Nat) (ht : P.underlying t = some (.slice e)) (hi : P.info? e = some i) (hz : i.zero = some z) (hsize : i.size = 1) (hby : i.bytes = bytes) (hzs : z.cells.size = 1)
    (v : Value) (n : Nat) (xs : List Value) (hs : a.eval s = v) (hown : w.ownsRow base e 1 v n xs) (k : IntKind) (A : Option Addr) (c : Nat) (l : List Nat) (m : Nat) (hm : l.length = m) (hx : a.eval x = .slice A m c) (hnone : A = none → c = 0) (hS : Sees k w A l)
    (h63 : n + m ≤ maxLen) (hbytes : (n + m) * bytes ≤ 140737488355328) (hbase : base ≤ w.heap.size)
    (h : ∀ v' w', w'.ownsRow base e 1 v' (n + m) (xs ++ l.map fun y : Nat => Value.int k (y : Int)) → w.grownBy w' v.ownBlock → wpList P ops Q rest (a.put o.dst v') w') : wpList P ops Q (o :: rest) a w := by
  subst hm
  exact wpList_append_sees hgd s x t ho base e i z bytes ht hi hz hsize hby hzs v n xs hs hown k A c l hx hnone hS h63 hbytes hbase h

/-- Two lists one behind the other, of which the first isn't empty. -/
theorem own_slice3 {w : World} {base n : Nat} {e : TypeId} {k : IntKind} {v : Value} {a b L : List Nat} (hL : L = a ++ b) (hn : a.length = n) (hp : 0 < n)
    (h : w.ownsRow base e 1 v (n + b.length) ((a.map fun y : Nat => Value.int k (y : Int)) ++ b.map fun y : Nat => Value.int k (y : Int))) :
    ∃ g o c, v = .slice (some ⟨g, o, none⟩) L.length c ∧ L.length ≤ c ∧ Sees k w (some ⟨g, o, none⟩) L := by
  subst hn
  obtain ⟨A, c, rfl, _, hc, hs⟩ := own_slice2 hL h
  have hlt : 0 < L.length := by rw [hL, List.length_append]; omega
  obtain ⟨g, o, rfl, _, _⟩ := hs 0 L[0] (List.getElem?_eq_getElem hlt)
  exact ⟨g, o, c, rfl, hc, hs⟩

theorem u8_pos (n : Int) (h : (Lit.int .u8 n).wf = true) : 0 ≤ n := by
  have h1 : IntKind.u8.min = 0 := rfl
  simp only [Lit.wf, Bool.and_eq_true, decide_eq_true_eq] at h
  omega
theorem u64_pos (n : Int) (h : (Lit.int .u64 n).wf = true) : 0 ≤ n := by
  have h1 : IntKind.u64.min = 0 := rfl
  simp only [Lit.wf, Bool.and_eq_true, decide_eq_true_eq] at h
  omega
theorem u8_lt (n : Int) (h : (Lit.int .u8 n).wf = true) : n ≤ 255 := by
  have h1 : IntKind.u8.max = 255 := rfl
  simp only [Lit.wf, Bool.and_eq_true, decide_eq_true_eq] at h
  omega
theorem u64_lt (n : Int) (h : (Lit.int .u64 n).wf = true) : n ≤ 18446744073709551615 := by
  have h1 : IntKind.u64.max = 18446744073709551615 := rfl
  simp only [Lit.wf, Bool.and_eq_true, decide_eq_true_eq] at h
  omega
theorem i64_ge (n : Int) (h : (Lit.int .i64 n).wf = true) : -9223372036854775808 ≤ n := by
  have h1 : IntKind.i64.min = -9223372036854775808 := rfl
  simp only [Lit.wf, Bool.and_eq_true, decide_eq_true_eq] at h
  omega
theorem i64_le (n : Int) (h : (Lit.int .i64 n).wf = true) : n ≤ 9223372036854775807 := by
  have h1 : IntKind.i64.max = 9223372036854775807 := rfl
  simp only [Lit.wf, Bool.and_eq_true, decide_eq_true_eq] at h
  omega

end Go.Proofs.Ytljnboimadhkoaa
