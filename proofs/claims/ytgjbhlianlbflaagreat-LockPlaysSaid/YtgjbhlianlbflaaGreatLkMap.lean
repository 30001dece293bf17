/-
  The maps of a book of locks: paths with sessions to entries, paths to counters; look-ups, stores, deletes.
-/
import Derived.Test.YtgjbhlianlbflaaGreatLkMath
import Derived.Test.YtgjbhlianlbflaaGreatEMath
import Derived.Test.YtgjbhlianlbflaaGreatBase
import Derived.Test.YtgjbhlianlbflaaGreatLsMini
import Derived.Maps.OwnSet
import Derived.Maps.RangeWalk
import Derived.Maps.Views
import Derived.Maps.Ext
import Derived.DeepKeys4
import Derived.WalkKit
import Derived.WalkArith
namespace Go.Proofs.YtgjbhlianlbflaaGreat
open Go.ChangeShapes Go.WideShapes Go.ChangeAt Go.RowKit Go.Maps Go.WideMaps
set_option linter.unusedVariables false

theorem lklaid_out : laidOutB Tryz.prog = true := by kernel_rfl
theorem row_lkey : (84 : TypeId) < Tryz.prog.types.size := of_decide_eq_true (by kernel_rfl)
theorem wide_lkey : (match Tryz.prog.underlying 84 with | some (.array _ _) | some (.struct _) => true | _ => false) = true := by kernel_rfl
set_option maxRecDepth 100000 in
theorem law_lkey : Keyed Tryz.prog 84 := Keyed.of_law (deep_law_laid lklaid_out (m := 3) (by omega) row_lkey (by kernel_rfl) wide_lkey)
theorem law_lpath : Keyed Tryz.prog 9 := string_keyed Tryz.underlying9

abbrev lkeyV (p : ByteArray) (u : Int) (f : ByteArray) : Value := .agg #[.string p, .int .u64 u, .string f]
/-- What a key reads as. -/
def lklit (p : ByteArray) (u : Int) (f : ByteArray) : Lit := .string (keyBytes [.string p.data.toList, .int .u64 u, .string f.data.toList])
theorem cells_lkey : Tryz.prog.cellsOf 84 = 3 := by kernel_rfl
theorem cells_lses : Tryz.prog.cellsOf 33 = 2 := by kernel_rfl
theorem type_lkey : Tryz.prog.keyType 84 = true := by kernel_rfl
theorem many_lkey : 3 ≤ Tryz.prog.types.size := of_decide_eq_true (by kernel_rfl)
theorem depth_lkey : ∃ n, Tryz.prog.types.size + 1 = n + 3 := ⟨Tryz.prog.types.size - 2, by have := many_lkey; omega⟩
theorem cells_ltext : Tryz.prog.cellsOf 9 = 1 := by kernel_rfl
theorem cells_lnum : Tryz.prog.cellsOf 22 = 1 := by kernel_rfl
theorem lits_lses (n : Nat) (v0 v1 : Value) : Tryz.prog.keyLits (n + 2) 33 [v0, v1] =
    (match v0 with | .int q u => if q = .u64 ∧ (Lit.int .u64 u).wf = true then (match v1 with | .string s => if s.size ≤ maxLen then some [.int .u64 u, .string s.data.toList] else none | _ => none) else none | _ => none) := by
  unfold Program.keyLits
  rw [Tryz.underlying33]
  simp only [cells_lses, List.length_cons, List.length_nil]
  rw [if_pos ⟨by decide, by simp⟩]
  simp [List.mapM_cons, cells_ltext, cells_lnum, Program.keyLits, Tryz.underlying9, Tryz.underlying22]
  cases v0 <;> simp
  split
  · cases v1 <;> simp
    split <;> simp
  · simp
theorem lits_lkey (n : Nat) (v v0 v1 : Value) : Tryz.prog.keyLits (n + 3) 84 [v, v0, v1] =
    (match v with | .string p => if p.size ≤ maxLen then (match v0 with | .int q u => if q = .u64 ∧ (Lit.int .u64 u).wf = true then (match v1 with | .string s => if s.size ≤ maxLen then some [.string p.data.toList, .int .u64 u, .string s.data.toList] else none | _ => none) else none | _ => none) else none | _ => none) := by
  unfold Program.keyLits
  rw [Tryz.underlying84]
  simp only [cells_lkey, List.length_cons, List.length_nil]
  rw [if_pos ⟨by decide, by simp⟩]
  simp [List.mapM_cons, cells_ltext, cells_lses, lits_lses]
  unfold Program.keyLits
  rw [Tryz.underlying9]
  cases v <;> simp
  split
  · cases v0 <;> simp
    split
    · cases v1 <;> simp
      split <;> simp
    · simp
  · simp
theorem keyof_lkey {p f : ByteArray} {u : Int} (hp : p.size ≤ maxLen) (hf : f.size ≤ maxLen) (hu : IsUk u) : keyOf Tryz.prog 84 (lkeyV p u f) = some (lklit p u f) := by
  obtain ⟨n, hn⟩ := depth_lkey
  unfold keyOf
  rw [Tryz.underlying84]
  simp only
  rw [if_pos (by rw [type_lkey]; simp [Value.formed, Tryz.underlying84, cells_lkey]), hn]
  show (Tryz.prog.keyLits (n + 3) 84 [.string p, .int .u64 u, .string f]).map _ = _
  rw [lits_lkey]
  show (if p.size ≤ maxLen then (if IntKind.u64 = .u64 ∧ (Lit.int .u64 u).wf = true then (if f.size ≤ maxLen then some [Lit.string p.data.toList, Lit.int .u64 u, Lit.string f.data.toList] else none) else none) else none).map (fun ls => Lit.string (keyBytes ls)) = some (lklit p u f)
  rw [if_pos hp, if_pos ⟨rfl, WalkArith.wf_u64 (by unfold IsUk at hu; omega)⟩, if_pos hf]
  rfl
set_option maxRecDepth 100000 in
theorem keyof_lkey_inv {v : Value} {kl : Lit} (h : keyOf Tryz.prog 84 v = some kl) : ∃ p u f, v = lkeyV p u f ∧ p.size ≤ maxLen ∧ f.size ≤ maxLen ∧ IsUk u ∧ kl = lklit p u f := by
  obtain ⟨n, hn⟩ := depth_lkey
  unfold keyOf at h
  rw [Tryz.underlying84] at h
  simp only at h
  split at h
  · next hc =>
    simp only [Bool.and_eq_true] at hc
    have h2 := hc.2
    cases v <;> simp [Value.formed, Tryz.underlying84, cells_lkey] at h2
    rename_i cs
    obtain ⟨l⟩ := cs
    match l, h2 with
    | [v, v0, v1], _ =>
      rw [hn] at h
      change (Tryz.prog.keyLits (n + 3) 84 [v, v0, v1]).map _ = _ at h
      rw [lits_lkey] at h
      cases v with
      | string p =>
        cases v0 with
        | int q u =>
          cases v1 with
          | string s =>
            simp at h
            obtain ⟨ls, ⟨h0, ⟨rfl, h3⟩, h1, rfl⟩, rfl⟩ := h
            refine ⟨p, u, s, rfl, h0, h1, ?_, rfl⟩
            simp [Lit.wf, IntKind.min, IntKind.max, IntKind.bits, IntKind.signed] at h3
            unfold IsUk
            omega
          | _ => simp at h
        | _ => simp at h
      | _ => simp at h
  · cases h
theorem lklit_inj {p q f g : ByteArray} {u v : Int} (hp : p.size ≤ maxLen) (hf : f.size ≤ maxLen) (hu : IsUk u) (hq : q.size ≤ maxLen) (hg : g.size ≤ maxLen) (hv : IsUk v) (h : lklit p u f = lklit q v g) : p = q ∧ u = v ∧ f = g := by
  have h1 := keyof_lkey hp hf hu
  have h2 := keyof_lkey hq hg hv
  rw [h] at h1
  have h3 := law_lkey.inj h1 h2
  simp at h3
  exact h3
theorem key_lpath {p : ByteArray} (hp : p.size ≤ maxLen) : keyOf Tryz.prog 9 (.string p) = some (.string p.data.toList) := keyOf_string_mk Tryz.underlying9 hp

/-- A value as it is. -/
def idK (v : Value) : Option (DataW Value × List MemPlace) := some (.held v, [])
theorem inv_idK : ∀ v y, idK v = some y → ∃ c : Value, v = c := fun v _ _ => ⟨v, rfl⟩
/-- An entry's cells. -/
abbrev entC (e : EnL) : Array Value := #[.string e.path, .int .u64 e.num, .string e.foot, .int .i64 e.mode, .int .u64 e.n, .int .i64 e.stamp]
abbrev entV (e : EnL) : Value := .agg (entC e)
/-- .. as they are kept. -/
def entR (e : EnL) : Array Value := entC e
theorem entR_eq (e : EnL) : entR e = entC e := rfl
abbrev EnD (l : List EnL) (D : DataW Value) : Prop :=
  (∀ p u f, OkK p → IsUk u → OkK f → Maps.has D (lklit p u f) = (findE l p u f).isSome ∧ ∀ x, findE l p u f = some x → ∀ z, D.atKey (lklit p u f) z = .held (.agg (entR x))) ∧
    ∀ kl, Maps.has D kl = true → ∃ x ∈ l, kl = lklit x.path x.num x.foot
/-- Block d is the map that tells the entries. -/
def EsM (w : World) (d n : Nat) (l : List EnL) : Prop := ∃ D : DataW Value, w.ownsMap Tryz.prog 84 idK d n D ∧ EnD l D
/-- Block d is the map that tells the counters. -/
def CsM (w : World) (d n : Nat) (cs : CnL) : Prop := ∃ D : DataW Value, w.ownsMap Tryz.prog 9 idK d n D ∧
    (∀ p, OkK p → Maps.has D (.string p.data.toList) = (cs.find? fun c => decide (c.1 = p)).isSome ∧ ∀ c, cs.find? (fun c => decide (c.1 = p)) = some c → ∀ z, D.atKey (.string p.data.toList) z = .held (.int .u64 c.2)) ∧
    ∀ kl, Maps.has D kl = true → ∃ c ∈ cs, kl = .string c.1.data.toList
theorem EsM.made (w : World) : EsM (w.alloc (.map #[] 0)) w.heap.size 0 [] := ⟨.map [], World.ownsMap_made _ _ _ _, fun _ _ _ _ _ _ => ⟨rfl, fun _ h => by cases h⟩, fun _ h => by simp [Maps.has] at h⟩
theorem CsM.made (w : World) : CsM (w.alloc (.map #[] 0)) w.heap.size 0 [] := ⟨.map [], World.ownsMap_made _ _ _ _, fun _ _ => ⟨rfl, fun _ h => by cases h⟩, fun _ h => by simp [Maps.has] at h⟩
theorem EsM.lt {w : World} {b n : Nat} {l : List EnL} (h : EsM w b n l) : b < w.heap.size := by obtain ⟨D, h1, _⟩ := h; exact h1.lt
theorem CsM.lt {w : World} {b n : Nat} {cs : CnL} (h : CsM w b n cs) : b < w.heap.size := by obtain ⟨D, h1, _⟩ := h; exact h1.lt
theorem EsM.same {w w' : World} {b n : Nat} {l : List EnL} (h : EsM w b n l) (he : w'.heap[b]? = w.heap[b]?) : EsM w' b n l := by
  obtain ⟨D, ⟨es, clock, hb, hr⟩, h2⟩ := h
  exact ⟨D, ⟨es, clock, he.trans hb, hr⟩, h2⟩
theorem CsM.same {w w' : World} {b n : Nat} {cs : CnL} (h : CsM w b n cs) (he : w'.heap[b]? = w.heap[b]?) : CsM w' b n cs := by
  obtain ⟨D, ⟨es, clock, hb, hr⟩, h2⟩ := h
  exact ⟨D, ⟨es, clock, he.trans hb, hr⟩, h2⟩
theorem EsM.mono {w : World} {b n n' : Nat} {l : List EnL} (h : EsM w b n l) (hn : n ≤ n') : EsM w b n' l := by obtain ⟨D, h1, h2⟩ := h; exact ⟨D, h1.mono hn, h2⟩
theorem CsM.mono {w : World} {b n n' : Nat} {cs : CnL} (h : CsM w b n cs) (hn : n ≤ n') : CsM w b n' cs := by obtain ⟨D, h1, h2⟩ := h; exact ⟨D, h1.mono hn, h2⟩
theorem zero_ent (w : World) : (zeroValue 44).run Tryz.prog w = .ok (.agg (entR zeroE)) w := by
  show (zeroValue 44).run Tryz.prog w = .ok (.agg #[.string ⟨#[]⟩, .int .u64 0, .string ⟨#[]⟩, .int .i64 0, .int .u64 0, .int .i64 0]) w
  kernel_rfl
theorem zero_cnt (w : World) : (zeroValue 22).run Tryz.prog w = .ok (.int .u64 0) w := by kernel_rfl
set_option maxRecDepth 100000 in
/-- A look-up. -/
theorem EsM.look {w : World} {b n : Nat} {l : List EnL} (h : EsM w b n l) {p : ByteArray} {u : Int} {f : ByteArray} (hp : OkK p) (hu : IsUk u) (hf : OkK f) :
    (Instr.lookup 75 (.map (some b)) (lkeyV p u f) true).run Tryz.prog w = .ok (.tuple #[.agg (entR (getE l p u f)), .bool (findE l p u f).isSome]) w := by
  obtain ⟨D, h1, h2, _⟩ := h
  obtain ⟨h3, h4⟩ := h2 p u f hp hu hf
  obtain ⟨v, ps, hrun, hv⟩ := h1.look_ok law_lkey Tryz.underlying75 (zero_ent w) (zd := .held (.agg (entR zeroE))) (zp := []) rfl (keyof_lkey hp.max hf.max hu)
  rw [h3] at hrun
  have e : v = .agg (entR (getE l p u f)) := by
    unfold getE
    cases hl : findE l p u f with
    | some x =>
      rw [h4 x hl] at hv
      unfold idK at hv
      injection hv with hv
      injection hv with hv _
      injection hv
    | none =>
      have hh : Maps.has D (lklit p u f) = false := by rw [h3, hl]; rfl
      rw [atKey_of_not_has hh] at hv
      unfold idK at hv
      injection hv with hv
      injection hv with hv _
      injection hv
  rw [← e]
  exact hrun
set_option maxRecDepth 100000 in
/-- A counter, looked up. -/
theorem CsM.look {w : World} {b n : Nat} {cs : CnL} (h : CsM w b n cs) {p : ByteArray} (hp : OkK p) :
    (Instr.lookup 76 (.map (some b)) (.string p) true).run Tryz.prog w = .ok (.tuple #[.int .u64 (((cs.find? fun c => decide (c.1 = p)).map (·.2)).getD 0), .bool (cs.find? fun c => decide (c.1 = p)).isSome]) w := by
  obtain ⟨D, h1, h2, _⟩ := h
  obtain ⟨h3, h4⟩ := h2 p hp
  obtain ⟨v, ps, hrun, hv⟩ := h1.look_ok law_lpath Tryz.underlying76 (zero_cnt w) (zd := .held (.int .u64 0)) (zp := []) rfl (key_lpath hp.max)
  rw [h3] at hrun
  have e : v = .int .u64 (((cs.find? fun c => decide (c.1 = p)).map (·.2)).getD 0) := by
    cases hl : cs.find? (fun c => decide (c.1 = p)) with
    | some x =>
      rw [h4 x hl] at hv
      unfold idK at hv
      injection hv with hv
      injection hv with hv _
      injection hv
    | none =>
      have hh : Maps.has D (.string p.data.toList) = false := by rw [h3, hl]; rfl
      rw [atKey_of_not_has hh] at hv
      unfold idK at hv
      injection hv with hv
      injection hv with hv _
      injection hv
  rw [← e]
  exact hrun
set_option maxRecDepth 100000 in
/-- A store of an entry that wasn't there. -/
theorem EsM.put {w : World} {b n : Nat} {l : List EnL} (h : EsM w b n l) (hn : n < maxLen) (e : EnL) (hno : findE l e.path e.num e.foot = none) (hl : ∀ x ∈ l, OkK x.path ∧ IsUk x.num ∧ OkK x.foot) (hp : OkK e.path) (hu : IsUk e.num) (hf : OkK e.foot) :
    ∃ w', (Instr.mapUpdate 75 (.map (some b)) (lkeyV e.path e.num e.foot) (.agg (entR e))).run Tryz.prog w = .ok () w' ∧ EsM w' b (n + 1) (l ++ [e]) ∧ w.grownBy w' (some b) := by
  obtain ⟨D, h1, h2, h5⟩ := h
  obtain ⟨w', hrun, h3, h4⟩ := h1.update law_lkey Tryz.underlying75 hn (keyof_lkey hp.max hf.max hu) (val := .agg (entR e)) (d := .held (.agg (entR e))) (ps := []) rfl
  have hk : WideAt.IsKeyLit (lklit e.path e.num e.foot) := law_lkey.key (keyof_lkey hp.max hf.max hu)
  refine ⟨w', hrun, ⟨_, h3, fun p u f hp' hu' hf' => ?_, fun kl hkl => ?_⟩, h4⟩
  · rw [find_app hno]
    by_cases c : lklit p u f = lklit e.path e.num e.foot
    · obtain ⟨rfl, rfl, rfl⟩ := lklit_inj hp'.max hf'.max hu' hp.max hf.max hu c
      rw [if_pos ⟨rfl, rfl, rfl⟩]
      refine ⟨by rw [has_put_same h1.isMap hk]; rfl, fun y hy z => ?_⟩
      injection hy with hy
      subst hy
      rw [atKey_put_same h1.isMap hk]
    · have hne : ¬ (e.path = p ∧ e.num = u ∧ e.foot = f) := fun ⟨a, d, g⟩ => c (by rw [a, d, g])
      obtain ⟨k1, k2⟩ := h2 p u f hp' hu' hf'
      rw [if_neg hne]
      refine ⟨by rw [has_put_other c, k1], fun y hy z => ?_⟩
      rw [atKey_put_other c]
      exact k2 y hy z
  · by_cases c : kl = lklit e.path e.num e.foot
    · exact ⟨e, by simp, c⟩
    · rw [has_put_other c] at hkl
      obtain ⟨x, hx, hk2⟩ := h5 kl hkl
      exact ⟨x, by simp [hx], hk2⟩
theorem find_setC : ∀ (cs : CnL) (p q : ByteArray) (m : Int), (setC cs p m).find? (fun c => decide (c.1 = q)) = if p = q then some (p, m) else cs.find? (fun c => decide (c.1 = q))
  | [], p, q, m => by
    unfold setC
    by_cases h : p = q <;> simp [h]
  | c :: cs, p, q, m => by
    have ih := find_setC cs p q m
    unfold setC
    by_cases h : c.1 = p
    · rw [if_pos h]
      by_cases h2 : p = q
      · simp [h2]
      · simp [h2, h]
    · rw [if_neg h]
      by_cases h2 : c.1 = q
      · have : ¬ p = q := fun e => h (by rw [h2, e])
        simp [h2, this]
      · rw [List.find?_cons_of_neg (by simpa using h2), ih]
        by_cases h3 : p = q
        · simp [h3]
        · rw [if_neg h3, if_neg h3, List.find?_cons_of_neg (by simpa using h2)]
theorem setC_self (cs : CnL) (p : ByteArray) (m : Int) : (p, m) ∈ setC cs p m := by
  have := find_setC cs p p m
  rw [if_pos rfl] at this
  exact List.mem_of_find?_eq_some this
theorem mem_setC_other {p : ByteArray} {m : Int} : ∀ {cs : CnL} {c : ByteArray × Int}, c ∈ cs → ¬ c.1 = p → c ∈ setC cs p m
  | d :: cs, c, h, hne => by
    unfold setC
    rcases List.mem_cons.1 h with rfl | h
    · rw [if_neg hne]; simp
    · split
      · simp [h]
      · exact List.mem_cons_of_mem _ (mem_setC_other h hne)
theorem lpath_inj {p q : ByteArray} (h : (Lit.string p.data.toList) = .string q.data.toList) : p = q := by
  injection h with h
  cases p; cases q
  simp at h
  rw [h]
set_option maxRecDepth 100000 in
/-- A counter, stored. -/
theorem CsM.put {w : World} {b n : Nat} {cs : CnL} (h : CsM w b n cs) (hn : n < maxLen) (p : ByteArray) (m : Int) (hp : OkK p) :
    ∃ w', (Instr.mapUpdate 76 (.map (some b)) (.string p) (.int .u64 m)).run Tryz.prog w = .ok () w' ∧ CsM w' b (n + 1) (setC cs p m) ∧ w.grownBy w' (some b) := by
  obtain ⟨D, h1, h2, h5⟩ := h
  obtain ⟨w', hrun, h3, h4⟩ := h1.update law_lpath Tryz.underlying76 hn (key_lpath hp.max) (val := .int .u64 m) (d := .held (.int .u64 m)) (ps := []) rfl
  have hk : WideAt.IsKeyLit (.string p.data.toList) := law_lpath.key (key_lpath hp.max)
  refine ⟨w', hrun, ⟨_, h3, fun q hq => ?_, fun kl hkl => ?_⟩, h4⟩
  · rw [find_setC]
    by_cases c : (Lit.string q.data.toList) = .string p.data.toList
    · have := lpath_inj c
      subst this
      rw [if_pos rfl]
      refine ⟨by rw [has_put_same h1.isMap hk]; rfl, fun y hy z => ?_⟩
      injection hy with hy
      subst hy
      rw [atKey_put_same h1.isMap hk]
    · have hne : ¬ p = q := fun e => c (by rw [e])
      obtain ⟨k1, k2⟩ := h2 q hq
      rw [if_neg hne]
      refine ⟨by rw [has_put_other c, k1], fun y hy z => ?_⟩
      rw [atKey_put_other c]
      exact k2 y hy z
  · by_cases c : kl = .string p.data.toList
    · exact ⟨(p, m), setC_self _ _ _, c⟩
    · rw [has_put_other c] at hkl
      obtain ⟨x, hx, hk2⟩ := h5 kl hkl
      exact ⟨x, mem_setC_other hx (fun e => c (by rw [hk2, e])), hk2⟩
end Go.Proofs.YtgjbhlianlbflaaGreat
