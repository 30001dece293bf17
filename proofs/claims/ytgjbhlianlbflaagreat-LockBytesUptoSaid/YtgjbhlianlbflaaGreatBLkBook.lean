/-
  A book of locks in memory; the contracts of lock's New, clone, right, Counter, behind.
-/
import Derived.Test.YtgjbhlianlbflaaGreatBLkMath
import Derived.Test.YtgjbhlianlbflaaGreatBEMath
import Derived.Test.YtgjbhlianlbflaaGreatBBase
import Derived.Test.YtgjbhlianlbflaaGreatBLsMini
import Derived.Maps.OwnSet
import Derived.Maps.RangeWalk
import Derived.Maps.Views
import Derived.Maps.Ext
import Derived.DeepKeys4
import Derived.WalkKit
import Derived.WalkArith
import Derived.Test.YtgjbhlianlbflaaGreatShelf
namespace Go.Proofs.YtgjbhlianlbflaaGreat
open Go.ChangeShapes Go.WideShapes Go.ChangeAt Go.RowKit Go.Maps Go.WideMaps
set_option linter.unusedVariables false
theorem lklaid_out : laidOutB Tryz.prog = true := by kernel_rfl
theorem row_lkey : (84 : TypeId) < Tryz.prog.types.size := of_decide_eq_true (by kernel_rfl)
theorem wide_lkey : (match Tryz.prog.underlying 84 with | some (.array _ _) | some (.struct _) => true | _ => false) = true := by kernel_rfl
set_option maxRecDepth 100000 in
theorem law_lkey : Keyed Tryz.prog 84 := Keyed.of_law (deep_law_laid lklaid_out (m := 3) (by omega) row_lkey (by kernel_rfl) wide_lkey)
theorem law_lpath : Keyed Tryz.prog 9 := string_keyed Tryz.underlying9
abbrev lkeyV (p : ByteArray) (u : Int) (f : ByteArray) : Value := .agg #[.string p, .int .u64 u, .string f]
def lklit (p : ByteArray) (u : Int) (f : ByteArray) : Lit := .string (keyBytes [.string p.data.toList, .int .u64 u, .string f.data.toList])
theorem cells_lkey : Tryz.prog.cellsOf 84 = 3 := by kernel_rfl
theorem cells_lses : Tryz.prog.cellsOf 33 = 2 := by kernel_rfl
theorem type_lkey : Tryz.prog.keyType 84 = true := by kernel_rfl
theorem many_lkey : 3 ≤ Tryz.prog.types.size := of_decide_eq_true (by kernel_rfl)
theorem depth_lkey : ∃ n, Tryz.prog.types.size + 1 = n + 3 := ⟨Tryz.prog.types.size - 2, by have := many_lkey; omega⟩
theorem cells_ltext : Tryz.prog.cellsOf 9 = 1 := by kernel_rfl
theorem cells_lnum : Tryz.prog.cellsOf 22 = 1 := by kernel_rfl
theorem lits_lses (n : Nat) (v0 v1 : Value) : Tryz.prog.keyLits (n + 2) 33 [v0, v1] =
    (match v0 with | .int q u => if q = .u64 ∧ (Lit.int .u64 u).wf = true then (match v1 with | .string s => if s.size ≤ maxLen then some [.int .u64 u, .string s.data.toList] else none | _ => none) else none | _ => none) := by
  unfold Program.keyLits
  rw [Tryz.underlying33]
  simp only [cells_lses, List.length_cons, List.length_nil]
  rw [if_pos ⟨by decide, by simp⟩]
  simp [List.mapM_cons, cells_ltext, cells_lnum, Program.keyLits, Tryz.underlying9, Tryz.underlying22]
  cases v0 <;> simp
  split
  · cases v1 <;> simp
    split <;> simp
  · simp
theorem lits_lkey (n : Nat) (v v0 v1 : Value) : Tryz.prog.keyLits (n + 3) 84 [v, v0, v1] =
    (match v with | .string p => if p.size ≤ maxLen then (match v0 with | .int q u => if q = .u64 ∧ (Lit.int .u64 u).wf = true then (match v1 with | .string s => if s.size ≤ maxLen then some [.string p.data.toList, .int .u64 u, .string s.data.toList] else none | _ => none) else none | _ => none) else none | _ => none) := by
  unfold Program.keyLits
  rw [Tryz.underlying84]
  simp only [cells_lkey, List.length_cons, List.length_nil]
  rw [if_pos ⟨by decide, by simp⟩]
  simp [List.mapM_cons, cells_ltext, cells_lses, lits_lses]
  unfold Program.keyLits
  rw [Tryz.underlying9]
  cases v <;> simp
  split
  · cases v0 <;> simp
    split
    · cases v1 <;> simp
      split <;> simp
    · simp
  · simp
theorem keyof_lkey {p f : ByteArray} {u : Int} (hp : p.size ≤ maxLen) (hf : f.size ≤ maxLen) (hu : IsUk u) : keyOf Tryz.prog 84 (lkeyV p u f) = some (lklit p u f) := by
  obtain ⟨n, hn⟩ := depth_lkey
  unfold keyOf
  rw [Tryz.underlying84]
  simp only
  rw [if_pos (by rw [type_lkey]; simp [Value.formed, Tryz.underlying84, cells_lkey]), hn]
  show (Tryz.prog.keyLits (n + 3) 84 [.string p, .int .u64 u, .string f]).map _ = _
  rw [lits_lkey]
  show (if p.size ≤ maxLen then (if IntKind.u64 = .u64 ∧ (Lit.int .u64 u).wf = true then (if f.size ≤ maxLen then some [Lit.string p.data.toList, Lit.int .u64 u, Lit.string f.data.toList] else none) else none) else none).map (fun ls => Lit.string (keyBytes ls)) = some (lklit p u f)
  rw [if_pos hp, if_pos ⟨rfl, WalkArith.wf_u64 (by unfold IsUk at hu; omega)⟩, if_pos hf]
  rfl
set_option maxRecDepth 100000 in
theorem keyof_lkey_inv {v : Value} {kl : Lit} (h : keyOf Tryz.prog 84 v = some kl) : ∃ p u f, v = lkeyV p u f ∧ p.size ≤ maxLen ∧ f.size ≤ maxLen ∧ IsUk u ∧ kl = lklit p u f := by
  obtain ⟨n, hn⟩ := depth_lkey
  unfold keyOf at h
  rw [Tryz.underlying84] at h
  simp only at h
  split at h
  · next hc =>
    simp only [Bool.and_eq_true] at hc
    have h2 := hc.2
    cases v <;> simp [Value.formed, Tryz.underlying84, cells_lkey] at h2
    rename_i cs
    obtain ⟨l⟩ := cs
    match l, h2 with
    | [v, v0, v1], _ =>
      rw [hn] at h
      change (Tryz.prog.keyLits (n + 3) 84 [v, v0, v1]).map _ = _ at h
      rw [lits_lkey] at h
      cases v with
      | string p =>
        cases v0 with
        | int q u =>
          cases v1 with
          | string s =>
            simp at h
            obtain ⟨ls, ⟨h0, ⟨rfl, h3⟩, h1, rfl⟩, rfl⟩ := h
            refine ⟨p, u, s, rfl, h0, h1, ?_, rfl⟩
            simp [Lit.wf, IntKind.min, IntKind.max, IntKind.bits, IntKind.signed] at h3
            unfold IsUk
            omega
          | _ => simp at h
        | _ => simp at h
      | _ => simp at h
  · cases h
theorem lklit_inj {p q f g : ByteArray} {u v : Int} (hp : p.size ≤ maxLen) (hf : f.size ≤ maxLen) (hu : IsUk u) (hq : q.size ≤ maxLen) (hg : g.size ≤ maxLen) (hv : IsUk v) (h : lklit p u f = lklit q v g) : p = q ∧ u = v ∧ f = g := by
  have h1 := keyof_lkey hp hf hu
  have h2 := keyof_lkey hq hg hv
  rw [h] at h1
  have h3 := law_lkey.inj h1 h2
  simp at h3
  exact h3
theorem key_lpath {p : ByteArray} (hp : p.size ≤ maxLen) : keyOf Tryz.prog 9 (.string p) = some (.string p.data.toList) := keyOf_string_mk Tryz.underlying9 hp
def idK (v : Value) : Option (DataW Value × List MemPlace) := some (.held v, [])
theorem inv_idK : ∀ v y, idK v = some y → ∃ c : Value, v = c := fun v _ _ => ⟨v, rfl⟩
abbrev entC (e : EnL) : Array Value := #[.string e.path, .int .u64 e.num, .string e.foot, .int .i64 e.mode, .int .u64 e.n, .int .i64 e.stamp]
abbrev entV (e : EnL) : Value := .agg (entC e)
def entR (e : EnL) : Array Value := entC e
abbrev EnD (l : List EnL) (D : DataW Value) : Prop :=
  (∀ p u f, OkK p → IsUk u → OkK f → Maps.has D (lklit p u f) = (findE l p u f).isSome ∧ ∀ x, findE l p u f = some x → ∀ z, D.atKey (lklit p u f) z = .held (.agg (entR x))) ∧
    ∀ kl, Maps.has D kl = true → ∃ x ∈ l, kl = lklit x.path x.num x.foot
def EsM (w : World) (d n : Nat) (l : List EnL) : Prop := ∃ D : DataW Value, w.ownsMap Tryz.prog 84 idK d n D ∧ EnD l D
def CsM (w : World) (d n : Nat) (cs : CnL) : Prop := ∃ D : DataW Value, w.ownsMap Tryz.prog 9 idK d n D ∧
    (∀ p, OkK p → Maps.has D (.string p.data.toList) = (cs.find? fun c => decide (c.1 = p)).isSome ∧ ∀ c, cs.find? (fun c => decide (c.1 = p)) = some c → ∀ z, D.atKey (.string p.data.toList) z = .held (.int .u64 c.2)) ∧
    ∀ kl, Maps.has D kl = true → ∃ c ∈ cs, kl = .string c.1.data.toList
theorem EsM.made (w : World) : EsM (w.alloc (.map #[] 0)) w.heap.size 0 [] := ⟨.map [], World.ownsMap_made _ _ _ _, fun _ _ _ _ _ _ => ⟨rfl, fun _ h => by cases h⟩, fun _ h => by simp [Maps.has] at h⟩
theorem CsM.made (w : World) : CsM (w.alloc (.map #[] 0)) w.heap.size 0 [] := ⟨.map [], World.ownsMap_made _ _ _ _, fun _ _ => ⟨rfl, fun _ h => by cases h⟩, fun _ h => by simp [Maps.has] at h⟩
theorem EsM.lt {w : World} {b n : Nat} {l : List EnL} (h : EsM w b n l) : b < w.heap.size := by obtain ⟨D, h1, _⟩ := h; exact h1.lt
theorem CsM.lt {w : World} {b n : Nat} {cs : CnL} (h : CsM w b n cs) : b < w.heap.size := by obtain ⟨D, h1, _⟩ := h; exact h1.lt
theorem EsM.same {w w' : World} {b n : Nat} {l : List EnL} (h : EsM w b n l) (he : w'.heap[b]? = w.heap[b]?) : EsM w' b n l := by
  obtain ⟨D, ⟨es, clock, hb, hr⟩, h2⟩ := h
  exact ⟨D, ⟨es, clock, he.trans hb, hr⟩, h2⟩
theorem CsM.same {w w' : World} {b n : Nat} {cs : CnL} (h : CsM w b n cs) (he : w'.heap[b]? = w.heap[b]?) : CsM w' b n cs := by
  obtain ⟨D, ⟨es, clock, hb, hr⟩, h2⟩ := h
  exact ⟨D, ⟨es, clock, he.trans hb, hr⟩, h2⟩
theorem EsM.mono {w : World} {b n n' : Nat} {l : List EnL} (h : EsM w b n l) (hn : n ≤ n') : EsM w b n' l := by obtain ⟨D, h1, h2⟩ := h; exact ⟨D, h1.mono hn, h2⟩
theorem CsM.mono {w : World} {b n n' : Nat} {cs : CnL} (h : CsM w b n cs) (hn : n ≤ n') : CsM w b n' cs := by obtain ⟨D, h1, h2⟩ := h; exact ⟨D, h1.mono hn, h2⟩
theorem zero_ent (w : World) : (zeroValue 44).run Tryz.prog w = .ok (.agg (entR zeroE)) w := by
  show (zeroValue 44).run Tryz.prog w = .ok (.agg #[.string ⟨#[]⟩, .int .u64 0, .string ⟨#[]⟩, .int .i64 0, .int .u64 0, .int .i64 0]) w
  kernel_rfl
theorem zero_cnt (w : World) : (zeroValue 22).run Tryz.prog w = .ok (.int .u64 0) w := by kernel_rfl
set_option maxRecDepth 100000 in
theorem EsM.look {w : World} {b n : Nat} {l : List EnL} (h : EsM w b n l) {p : ByteArray} {u : Int} {f : ByteArray} (hp : OkK p) (hu : IsUk u) (hf : OkK f) :
    (Instr.lookup 75 (.map (some b)) (lkeyV p u f) true).run Tryz.prog w = .ok (.tuple #[.agg (entR (getE l p u f)), .bool (findE l p u f).isSome]) w := by
  obtain ⟨D, h1, h2, _⟩ := h
  obtain ⟨h3, h4⟩ := h2 p u f hp hu hf
  obtain ⟨v, ps, hrun, hv⟩ := h1.look_ok law_lkey Tryz.underlying75 (zero_ent w) (zd := .held (.agg (entR zeroE))) (zp := []) rfl (keyof_lkey hp.max hf.max hu)
  rw [h3] at hrun
  have e : v = .agg (entR (getE l p u f)) := by
    unfold getE
    cases hl : findE l p u f with
    | some x =>
      rw [h4 x hl] at hv
      unfold idK at hv
      injection hv with hv
      injection hv with hv _
      injection hv
    | none =>
      have hh : Maps.has D (lklit p u f) = false := by rw [h3, hl]; rfl
      rw [atKey_of_not_has hh] at hv
      unfold idK at hv
      injection hv with hv
      injection hv with hv _
      injection hv
  rw [← e]
  exact hrun
set_option maxRecDepth 100000 in
theorem CsM.look {w : World} {b n : Nat} {cs : CnL} (h : CsM w b n cs) {p : ByteArray} (hp : OkK p) :
    (Instr.lookup 76 (.map (some b)) (.string p) true).run Tryz.prog w = .ok (.tuple #[.int .u64 (((cs.find? fun c => decide (c.1 = p)).map (·.2)).getD 0), .bool (cs.find? fun c => decide (c.1 = p)).isSome]) w := by
  obtain ⟨D, h1, h2, _⟩ := h
  obtain ⟨h3, h4⟩ := h2 p hp
  obtain ⟨v, ps, hrun, hv⟩ := h1.look_ok law_lpath Tryz.underlying76 (zero_cnt w) (zd := .held (.int .u64 0)) (zp := []) rfl (key_lpath hp.max)
  rw [h3] at hrun
  have e : v = .int .u64 (((cs.find? fun c => decide (c.1 = p)).map (·.2)).getD 0) := by
    cases hl : cs.find? (fun c => decide (c.1 = p)) with
    | some x =>
      rw [h4 x hl] at hv
      unfold idK at hv
      injection hv with hv
      injection hv with hv _
      injection hv
    | none =>
      have hh : Maps.has D (.string p.data.toList) = false := by rw [h3, hl]; rfl
      rw [atKey_of_not_has hh] at hv
      unfold idK at hv
      injection hv with hv
      injection hv with hv _
      injection hv
  rw [← e]
  exact hrun
set_option maxRecDepth 100000 in
theorem EsM.put {w : World} {b n : Nat} {l : List EnL} (h : EsM w b n l) (hn : n < maxLen) (e : EnL) (hno : findE l e.path e.num e.foot = none) (hl : ∀ x ∈ l, OkK x.path ∧ IsUk x.num ∧ OkK x.foot) (hp : OkK e.path) (hu : IsUk e.num) (hf : OkK e.foot) :
    ∃ w', (Instr.mapUpdate 75 (.map (some b)) (lkeyV e.path e.num e.foot) (.agg (entR e))).run Tryz.prog w = .ok () w' ∧ EsM w' b (n + 1) (l ++ [e]) ∧ w.grownBy w' (some b) := by
  obtain ⟨D, h1, h2, h5⟩ := h
  obtain ⟨w', hrun, h3, h4⟩ := h1.update law_lkey Tryz.underlying75 hn (keyof_lkey hp.max hf.max hu) (val := .agg (entR e)) (d := .held (.agg (entR e))) (ps := []) rfl
  have hk : WideAt.IsKeyLit (lklit e.path e.num e.foot) := law_lkey.key (keyof_lkey hp.max hf.max hu)
  refine ⟨w', hrun, ⟨_, h3, fun p u f hp' hu' hf' => ?_, fun kl hkl => ?_⟩, h4⟩
  · rw [find_app hno]
    by_cases c : lklit p u f = lklit e.path e.num e.foot
    · obtain ⟨rfl, rfl, rfl⟩ := lklit_inj hp'.max hf'.max hu' hp.max hf.max hu c
      rw [if_pos ⟨rfl, rfl, rfl⟩]
      refine ⟨by rw [has_put_same h1.isMap hk]; rfl, fun y hy z => ?_⟩
      injection hy with hy
      subst hy
      rw [atKey_put_same h1.isMap hk]
    · have hne : ¬ (e.path = p ∧ e.num = u ∧ e.foot = f) := fun ⟨a, d, g⟩ => c (by rw [a, d, g])
      obtain ⟨k1, k2⟩ := h2 p u f hp' hu' hf'
      rw [if_neg hne]
      refine ⟨by rw [has_put_other c, k1], fun y hy z => ?_⟩
      rw [atKey_put_other c]
      exact k2 y hy z
  · by_cases c : kl = lklit e.path e.num e.foot
    · exact ⟨e, by simp, c⟩
    · rw [has_put_other c] at hkl
      obtain ⟨x, hx, hk2⟩ := h5 kl hkl
      exact ⟨x, by simp [hx], hk2⟩
theorem find_setC : ∀ (cs : CnL) (p q : ByteArray) (m : Int), (setC cs p m).find? (fun c => decide (c.1 = q)) = if p = q then some (p, m) else cs.find? (fun c => decide (c.1 = q))
  | [], p, q, m => by
    unfold setC
    by_cases h : p = q <;> simp [h]
  | c :: cs, p, q, m => by
    have ih := find_setC cs p q m
    unfold setC
    by_cases h : c.1 = p
    · rw [if_pos h]
      by_cases h2 : p = q
      · simp [h2]
      · simp [h2, h]
    · rw [if_neg h]
      by_cases h2 : c.1 = q
      · have : ¬ p = q := fun e => h (by rw [h2, e])
        simp [h2, this]
      · rw [List.find?_cons_of_neg (by simpa using h2), ih]
        by_cases h3 : p = q
        · simp [h3]
        · rw [if_neg h3, if_neg h3, List.find?_cons_of_neg (by simpa using h2)]
theorem setC_self (cs : CnL) (p : ByteArray) (m : Int) : (p, m) ∈ setC cs p m := by
  have := find_setC cs p p m
  rw [if_pos rfl] at this
  exact List.mem_of_find?_eq_some this
theorem mem_setC_other {p : ByteArray} {m : Int} : ∀ {cs : CnL} {c : ByteArray × Int}, c ∈ cs → ¬ c.1 = p → c ∈ setC cs p m
  | d :: cs, c, h, hne => by
    unfold setC
    rcases List.mem_cons.1 h with rfl | h
    · rw [if_neg hne]; simp
    · split
      · simp [h]
      · exact List.mem_cons_of_mem _ (mem_setC_other h hne)
theorem lpath_inj {p q : ByteArray} (h : (Lit.string p.data.toList) = .string q.data.toList) : p = q := by
  injection h with h
  cases p; cases q
  simp at h
  rw [h]
set_option maxRecDepth 100000 in
theorem CsM.put {w : World} {b n : Nat} {cs : CnL} (h : CsM w b n cs) (hn : n < maxLen) (p : ByteArray) (m : Int) (hp : OkK p) :
    ∃ w', (Instr.mapUpdate 76 (.map (some b)) (.string p) (.int .u64 m)).run Tryz.prog w = .ok () w' ∧ CsM w' b (n + 1) (setC cs p m) ∧ w.grownBy w' (some b) := by
  obtain ⟨D, h1, h2, h5⟩ := h
  obtain ⟨w', hrun, h3, h4⟩ := h1.update law_lpath Tryz.underlying76 hn (key_lpath hp.max) (val := .int .u64 m) (d := .held (.int .u64 m)) (ps := []) rfl
  have hk : WideAt.IsKeyLit (.string p.data.toList) := law_lpath.key (key_lpath hp.max)
  refine ⟨w', hrun, ⟨_, h3, fun q hq => ?_, fun kl hkl => ?_⟩, h4⟩
  · rw [find_setC]
    by_cases c : (Lit.string q.data.toList) = .string p.data.toList
    · have := lpath_inj c
      subst this
      rw [if_pos rfl]
      refine ⟨by rw [has_put_same h1.isMap hk]; rfl, fun y hy z => ?_⟩
      injection hy with hy
      subst hy
      rw [atKey_put_same h1.isMap hk]
    · have hne : ¬ p = q := fun e => c (by rw [e])
      obtain ⟨k1, k2⟩ := h2 q hq
      rw [if_neg hne]
      refine ⟨by rw [has_put_other c, k1], fun y hy z => ?_⟩
      rw [atKey_put_other c]
      exact k2 y hy z
  · by_cases c : kl = .string p.data.toList
    · exact ⟨(p, m), setC_self _ _ _, c⟩
    · rw [has_put_other c] at hkl
      obtain ⟨x, hx, hk2⟩ := h5 kl hkl
      exact ⟨x, mem_setC_other hx (fun e => c (by rw [hk2, e])), hk2⟩
end Go.Proofs.YtgjbhlianlbflaaGreat
namespace Go.Proofs.YtgjbhlianlbflaaGreat
open Go.ChangeShapes Go.WideShapes Go.ChangeAt Go.RowKit Go.Maps Go.WideMaps
set_option linter.unusedVariables false
set_option linter.unusedSimpArgs false
structure BkK (w : World) (base b de dc n : Nat) (first : Int) (l : List EnL) (cs : CnL) : Prop where
  blk : Blk w b 78 #[.int .u64 first, .map (some de), .map (some dc)]
  es : EsM w de n l
  ct : CsM w dc n cs
  good : GoodK first l cs
  many : l.length ≤ n ∧ ∀ e ∈ l, e.stamp ≤ n
  ne : b ≠ de ∧ b ≠ dc ∧ de ≠ dc
  low : base ≤ b ∧ base ≤ de ∧ base ≤ dc
def OwnK (de dc : Nat) (i : Nat) : Prop := i = de ∨ i = dc
theorem BkK.lt {w : World} {base b de dc n : Nat} {first : Int} {l : List EnL} {cs : CnL} (h : BkK w base b de dc n first l cs) : b < w.heap.size ∧ de < w.heap.size ∧ dc < w.heap.size := ⟨h.blk.lt, h.es.lt, h.ct.lt⟩
theorem BkK.on {w w' : World} {base b de dc n : Nat} {first : Int} {l : List EnL} {cs : CnL} (h : BkK w base b de dc n first l cs) (k : Below w.heap.size w w') : BkK w' base b de dc n first l cs :=
  ⟨(k.block b h.lt.1).trans h.blk, h.es.same (k.block de h.lt.2.1), h.ct.same (k.block dc h.lt.2.2), h.good, h.many, h.ne, h.low⟩
theorem BkK.turns {w w' : World} {base b de dc n : Nat} {first : Int} {l : List EnL} {cs : CnL} {S : Nat → Prop} (h : BkK w base b de dc n first l cs) (t : TurnsD S w w') (hb : ¬ S b) (h1 : ¬ S de) (h2 : ¬ S dc) : BkK w' base b de dc n first l cs :=
  ⟨(t.block b h.lt.1 hb).trans h.blk, h.es.same (t.block de h.lt.2.1 h1), h.ct.same (t.block dc h.lt.2.2 h2), h.good, h.many, h.ne, h.low⟩
theorem BkK.mono {w : World} {base b de dc n n' : Nat} {first : Int} {l : List EnL} {cs : CnL} (h : BkK w base b de dc n first l cs) (hn : n ≤ n') : BkK w base b de dc n' first l cs :=
  ⟨h.blk, h.es.mono hn, h.ct.mono hn, h.good, ⟨by have := h.many.1; omega, fun e he => by have := h.many.2 e he; omega⟩, h.ne, h.low⟩
theorem lknew_any (first : Int) (w : World) (hf : IsUk first) : Calls Tryz.prog 8 #[.int .u64 first] w fun e w' => e = .returned (.pointer (some ⟨w.heap.size + 2, 0, none⟩)) ∧ Below w.heap.size w w' ∧
    BkK w' w.heap.size (w.heap.size + 2) w.heap.size (w.heap.size + 1) 0 first [] [] := by
  have hmm := @run_makeMap Tryz.prog
  have H1 := hid (EsM.made w)
  have H2 : Hid (CsM ((w.alloc (.map #[] 0)).alloc (.map #[] 0)) (w.heap.size + 1) 0 []) := hid (by have := CsM.made (w.alloc (.map #[] 0)); simpa using this)
  have HB : Hid (Blk (((w.alloc (.map #[] 0)).alloc (.map #[] 0)).alloc (.cells #[.int .u64 first, .map (some w.heap.size), .map (some (w.heap.size + 1))] 78)) (w.heap.size + 2) 78 #[.int .u64 first, .map (some w.heap.size), .map (some (w.heap.size + 1))]) := hid (by have h := Blk.new ((w.alloc (.map #[] 0)).alloc (.map #[] 0)) 78 #[.int .u64 first, .map (some w.heap.size), .map (some (w.heap.size + 1))]; simpa using h)
  have HL : Hid (Below w.heap.size w (((w.alloc (.map #[] 0)).alloc (.map #[] 0)).alloc (.cells #[.int .u64 first, .map (some w.heap.size), .map (some (w.heap.size + 1))] 78))) := hid ((((Below.refl _ w).alloc (Nat.le_refl _) _).alloc (by simp) _).alloc (by simp; omega) _)
  go_enter Tryz.func8, Tryz.ntmps8
  go_wp2
  go_ret
  refine ⟨rfl, HL.out, HB.out, H1.out.same ((Below.heap_alloc _ _ _ (by simp; omega)).trans (Below.heap_alloc _ _ _ H1.out.lt)), H2.out.same (Below.heap_alloc _ _ _ H2.out.lt), GoodK.nil hf, ⟨Nat.le_refl _, fun e he => (by cases he)⟩, by omega, by omega⟩
theorem lkfrozen6 {w : World} {g : Nat} {t : TypeId} {cs : Array Value} (h : Blk w g t cs) : w.frozen? ⟨g, 0, none⟩ = false ∧ w.frozen? ⟨g, 1, none⟩ = false ∧ w.frozen? ⟨g, 2, none⟩ = false ∧ w.frozen? ⟨g, 3, none⟩ = false ∧ w.frozen? ⟨g, 4, none⟩ = false ∧ w.frozen? ⟨g, 5, none⟩ = false :=
  ⟨h.frozen 0, h.frozen 1, h.frozen 2, h.frozen 3, h.frozen 4, h.frozen 5⟩
def put6 (w : World) (g : Nat) (a b c d e x : Value) : World := (((((w.setCell ⟨g, 0, none⟩ a).setCell ⟨g, 1, none⟩ b).setCell ⟨g, 2, none⟩ c).setCell ⟨g, 3, none⟩ d).setCell ⟨g, 4, none⟩ e).setCell ⟨g, 5, none⟩ x
theorem put6_blk {w : World} {g : Nat} {T : TypeId} {a b c d e x : Value} (h : Blk w g T #[a, b, c, d, e, x]) (a' b' c' d' e' x' : Value) : Blk (put6 w g a' b' c' d' e' x') g T #[a', b', c', d', e', x'] := by
  have h7 := (((((h.set_ 0 a').set_ 1 b').set_ 2 c').set_ 3 d').set_ 4 e').set_ 5 x'
  simp only [List.setIfInBounds_toArray, List.set_cons_succ, List.set_cons_zero] at h7
  exact h7
theorem put6_below {w w0 : World} {g k : Nat} (hk : Below k w0 w) (hg : k ≤ g) (a b c d e x : Value) : Below k w0 (put6 w g a b c d e x) :=
  (((((hk.setCell (p := ⟨g, 0, none⟩) hg _).setCell (p := ⟨g, 1, none⟩) hg _).setCell (p := ⟨g, 2, none⟩) hg _).setCell (p := ⟨g, 3, none⟩) hg _).setCell (p := ⟨g, 4, none⟩) hg _).setCell (p := ⟨g, 5, none⟩) hg _
theorem lksclone_any (s : ByteArray) (w : World) (hs : s.size ≤ 281474976710656) : Calls Tryz.prog 69 #[.string s] w fun e w' => e = .returned (.string s) ∧ Below w.heap.size w w' := by
  go_enter Tryz.func69, Tryz.ntmps69
  go_wp2_with fail
  refine (Tryz.stringslite_Clone s _ hs).mono ?_
  rintro e w1 ⟨rfl, hb⟩
  have HB := hid hb
  clear hb
  go_wp2
  go_ret
  exact ⟨rfl, HB.out⟩
theorem OkK.le {f : ByteArray} (h : OkK f) : f.size ≤ 281474976710656 := by unfold OkK at h; omega
abbrev zeroEC : Array Value := #[.string ⟨#[]⟩, .int .u64 0, .string ⟨#[]⟩, .int .i64 0, .int .u64 0, .int .i64 0]
set_option maxRecDepth 100000 in
set_option maxHeartbeats 1000000 in
theorem lkclone_any (e : EnL) (w : World) (hp : OkK e.path) (hf : OkK e.foot) : Calls Tryz.prog 42 #[entV e] w fun r w' => r = .returned (entV e) ∧ Below w.heap.size w w' := by
  obtain ⟨p, u, f, mo, n, st⟩ := e
  have C1 := hid (fun w => lksclone_any p w hp.le)
  have C2 := hid (fun w => lksclone_any f w hf.le)
  clear hp hf
  go_enter Tryz.func42, Tryz.ntmps42
  go_upto_region 1 with fail
  obtain ⟨W, hW⟩ : ∃ W, (w.alloc (.cells #[.string p, .int .u64 u, .string f, .int .i64 mo, .int .u64 n, .int .i64 st] 44)).alloc (.cells zeroEC 44) = W := ⟨_, rfl⟩
  rw [hW]
  obtain ⟨K0, K1, KB⟩ := ltwo_new hW
  clear hW
  obtain ⟨k, hk⟩ : ∃ k, w.heap.size = k := ⟨_, rfl⟩
  rw [hk] at K0 K1 KB ⊢
  have HK := hid hk
  clear hk
  have y0 : W.cell? ⟨k, 0, none⟩ = some (.string p) := (K0.out.cell 0).trans rfl
  go_wp2_with (first
    | (go_at_call 69; (with_reducible refine (C1.out _).mono ?_); rintro r w1 ⟨rfl, b1⟩; have K01 := hid (K0.out.below b1 K0.out.lt); have K11 := hid (K1.out.below b1 K1.out.lt); have B1 := hid (KB.out.trans (b1.mono (by have := K0.out.lt; omega))); clear b1 K0 K1 KB y0; have z1 := K01.out.frozen 0; have z0 : w1.cell? ⟨k, 0, none⟩ = some (.string p) := (K01.out.cell 0).trans rfl; have z2 : w1.cell? ⟨k, 2, none⟩ = some (.string f) := (K01.out.cell 2).trans rfl)
    | (go_at_call 69; (with_reducible refine (C2.out _).mono ?_); rintro r w2 ⟨rfl, b2⟩
       have K02 := hid ((K01.out.set_ 0 (.string p)).below b2 (by have := K01.out.lt; simpa using this))
       have K12 := hid ((K11.out.far (p := ⟨k, 0, none⟩) (by simp) (.string p)).below b2 (by have := K11.out.lt; simpa using this))
       have B2 := hid ((B1.out.setCell (p := ⟨k, 0, none⟩) (Nat.le_refl _) (.string p)).trans (b2.mono (by have := K01.out.lt; simp; omega)))
       clear b2 z0 z1 z2 K01 K11 B1
       simp only [List.setIfInBounds_toArray, List.set_cons_succ, List.set_cons_zero] at K02
       obtain ⟨y0, y1, y2, y3, y4, y5⟩ := lcells6 K02.out
       have f2 := K02.out.frozen 2
       obtain ⟨x0, x1, x2, x3, x4, x5⟩ := lcells6 K12.out
       obtain ⟨g0, g1, g2, g3, g4, g5⟩ := lkfrozen6 K12.out))
  have Q := put6_blk (K12.out.far (p := ⟨k, 2, none⟩) (by simp) (.string f)) (.string p) (.int .u64 u) (.string f) (.int .i64 mo) (.int .u64 n) (.int .i64 st)
  have QB := put6_below (B2.out.setCell (p := ⟨k, 2, none⟩) (Nat.le_refl _) (.string f)) (Nat.le_succ k) (.string p) (.int .u64 u) (.string f) (.int .i64 mo) (.int .u64 n) (.int .i64 st)
  unfold put6 at Q QB
  obtain ⟨w9, hw9⟩ : ∃ w9, (((((((w2.setCell ⟨k, 2, none⟩ (.string f)).setCell ⟨k + 1, 0, none⟩ (.string p)).setCell ⟨k + 1, 1, none⟩ (.int .u64 u)).setCell ⟨k + 1, 2, none⟩ (.string f)).setCell ⟨k + 1, 3, none⟩ (.int .i64 mo)).setCell ⟨k + 1, 4, none⟩ (.int .u64 n)).setCell ⟨k + 1, 5, none⟩ (.int .i64 st)) = w9 := ⟨_, rfl⟩
  rw [hw9] at Q QB ⊢
  obtain ⟨c0, c1, c2, c3, c4, c5⟩ := lcells6 Q
  refine bodyPost_ret (v := entV ⟨p, u, f, mo, n, st⟩) (by simp [results, Tryz.results42, go_sem, c0, c1, c2, c3, c4, c5]) rfl ⟨rfl, by rw [HK.out]; exact QB⟩
theorem lkright_any (p : ByteArray) (mode : Int) (w : World) (hs : p.size ≤ 4611686018427387903) : Calls Tryz.prog 36 #[.string p, .int .i64 mode] w (Asks (.bool (rightE p mode)) w) := by
  have HC := hid (fun w => right_any p w hs)
  obtain ⟨r, hr⟩ : ∃ r, right (L p) = r := ⟨_, rfl⟩
  unfold rightE
  rw [hr] at HC ⊢
  clear hr
  cases r with
  | false =>
    go_enter Tryz.func36, Tryz.ntmps36
    go_wp2_with (go_at_call 43; (with_reducible refine (HC.out _).mono ?_); rintro e w1 ⟨rfl, b1⟩; have B1 := hid b1; clear b1)
    go_ret
    exact ⟨rfl, B1.out⟩
  | true =>
    by_cases h1 : mode = 1
    · subst h1
      go_enter Tryz.func36, Tryz.ntmps36
      go_wp2_with (go_at_call 43; (with_reducible refine (HC.out _).mono ?_); rintro e w1 ⟨rfl, b1⟩; have B1 := hid b1; clear b1)
      go_ret
      exact ⟨rfl, B1.out⟩
    · by_cases h2 : mode = 2
      · subst h2
        go_enter Tryz.func36, Tryz.ntmps36
        go_wp2_with (go_at_call 43; (with_reducible refine (HC.out _).mono ?_); rintro e w1 ⟨rfl, b1⟩; have B1 := hid b1; clear b1)
        go_ret
        exact ⟨rfl, B1.out⟩
      · have hm : Hid ((decide (mode = 1) || decide (mode = 2)) = false) := hid (by simp [h1, h2])
        have e1 : (mode == 1) = false := by simpa using h1
        have e2 : (mode == 2) = false := by simpa using h2
        go_enter Tryz.func36, Tryz.ntmps36
        go_wp2_with (go_at_call 43; (with_reducible refine (HC.out _).mono ?_); rintro e w1 ⟨rfl, b1⟩; have B1 := hid b1; clear b1)
        go_ret
        exact ⟨by rw [hm.out]; rfl, B1.out⟩
set_option maxRecDepth 100000 in
theorem lkcounter_any (base b de dc n : Nat) (first : Int) (l : List EnL) (cs : CnL) (p : ByteArray) (w : World) (h : BkK w base b de dc n first l cs) (hp : OkK p) :
    Calls Tryz.prog 14 #[.pointer (some ⟨b, 0, none⟩), .string p] w fun e w' => e = .returned (.int .u64 (cntE first cs p)) ∧ w = w' := by
  have lk := h.ct.look hp
  have HB := hid h.blk
  have c0 : w.cell? ⟨b, 0, none⟩ = some (.int .u64 first) := (HB.out.cell 0).trans rfl
  have c2 : w.cell? ⟨b, 2, none⟩ = some (.map (some dc)) := (HB.out.cell 2).trans rfl
  unfold cntE
  obtain ⟨o, ho⟩ : ∃ o, cs.find? (fun c => decide (c.1 = p)) = o := ⟨_, rfl⟩
  rw [ho] at lk ⊢
  clear ho h
  cases o with
  | none =>
    simp only [Option.isSome] at lk
    obtain ⟨z, hz⟩ : ∃ z : Int, ((none : Option (ByteArray × Int)).map (·.2)).getD 0 = z := ⟨_, rfl⟩
    rw [hz] at lk
    clear hz
    go_enter Tryz.func14, Tryz.ntmps14
    go_wp2
    go_ret
    exact ⟨rfl, rfl⟩
  | some c =>
    obtain ⟨q, m⟩ := c
    simp only [Option.isSome] at lk
    obtain ⟨z, hz⟩ : ∃ z : Int, ((some (q, m)).map (·.2)).getD 0 = z := ⟨_, rfl⟩
    rw [hz] at lk
    have HZ : Hid (z = m) := hid hz.symm
    clear hz
    go_enter Tryz.func14, Tryz.ntmps14
    go_wp2
    go_ret
    exact ⟨ret_num HZ.out, rfl⟩
end Go.Proofs.YtgjbhlianlbflaaGreat
