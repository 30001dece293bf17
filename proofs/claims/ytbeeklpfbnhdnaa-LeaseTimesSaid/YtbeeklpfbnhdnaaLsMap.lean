/-
  The maps of a book: sessions to what is known of them, requests to answers.
-/
import Derived.Test.YtbeeklpfbnhdnaaLsMath
import Derived.Test.YtbeeklpfbnhdnaaBase
import Derived.Test.YtbeeklpfbnhdnaaLsMini
import Derived.Maps.OwnSet
import Derived.Maps.RangeWalk
import Derived.Maps.Views
import Derived.Maps.Ext
import Derived.DeepKeys4
import Derived.WalkKit
import Derived.WalkArith
namespace Go.Proofs.Ytbeeklpfbnhdnaa
open Go.ChangeShapes Go.WideShapes Go.ChangeAt Go.RowKit Go.Maps Go.WideMaps
set_option linter.unusedVariables false

theorem lslaid_out : laidOutB Try.prog = true := by kernel_rfl
theorem row_ses : (25 : TypeId) < Try.prog.types.size := of_decide_eq_true (by kernel_rfl)
theorem wide_ses : (match Try.prog.underlying 25 with | some (.array _ _) | some (.struct _) => true | _ => false) = true := by kernel_rfl
set_option maxRecDepth 100000 in
theorem law_ses : Keyed Try.prog 25 := Keyed.of_law (deep_law_laid lslaid_out (m := 3) (by omega) row_ses (by kernel_rfl) wide_ses)
theorem law_req : Keyed Try.prog 23 := int_keyed Try.underlying23

abbrev sesV (u : Int) (f : ByteArray) : Value := .agg #[.int .u64 u, .string f]
/-- What a session reads as. -/
def slit (u : Int) (f : ByteArray) : Lit := .string (keyBytes [.int .u64 u, .string f.data.toList])
def IsU (u : Int) : Prop := 0 ≤ u ∧ u < 18446744073709551616
def OkF (f : ByteArray) : Prop := f.size ≤ 140737488355328
theorem OkF.max {f : ByteArray} (h : OkF f) : f.size ≤ maxLen := by unfold OkF at h; unfold maxLen; omega
theorem cells_ses : Try.prog.cellsOf 25 = 2 := by kernel_rfl
theorem type_ses : Try.prog.keyType 25 = true := by kernel_rfl
theorem depth_ses : ∃ n, Try.prog.types.size + 1 = n + 2 := by
  obtain ⟨s, hs⟩ : ∃ s : Nat, Try.prog.types.size = s := ⟨_, rfl⟩
  have h : (25 : Nat) < s := hs ▸ row_ses
  rw [hs]
  exact ⟨s - 1, by omega⟩
theorem cells_text : Try.prog.cellsOf 9 = 1 := by kernel_rfl
theorem cells_num : Try.prog.cellsOf 23 = 1 := by kernel_rfl
theorem lits_ses (n : Nat) (v0 v1 : Value) : Try.prog.keyLits (n + 2) 25 [v0, v1] =
    (match v0 with | .int q u => if q = .u64 ∧ (Lit.int .u64 u).wf = true then (match v1 with | .string s => if s.size ≤ maxLen then some [.int .u64 u, .string s.data.toList] else none | _ => none) else none | _ => none) := by
  unfold Program.keyLits
  rw [Try.underlying25]
  simp only [cells_ses, List.length_cons, List.length_nil]
  rw [if_pos ⟨by decide, by simp⟩]
  simp [List.mapM_cons, cells_text, cells_num, Program.keyLits, Try.underlying9, Try.underlying23]
  cases v0 <;> simp
  split
  · cases v1 <;> simp
    split <;> simp
  · simp
theorem keyof_ses {f : ByteArray} {u : Int} (hf : f.size ≤ maxLen) (hu : IsU u) : keyOf Try.prog 25 (sesV u f) = some (slit u f) := by
  obtain ⟨n, hn⟩ := depth_ses
  unfold keyOf
  rw [Try.underlying25]
  simp only
  rw [if_pos (by rw [type_ses]; simp [Value.formed, Try.underlying25, cells_ses]), hn]
  show (Try.prog.keyLits (n + 2) 25 [.int .u64 u, .string f]).map _ = _
  rw [lits_ses]
  show (if IntKind.u64 = .u64 ∧ (Lit.int .u64 u).wf = true then (if f.size ≤ maxLen then some [Lit.int .u64 u, Lit.string f.data.toList] else none) else none).map (fun ls => Lit.string (keyBytes ls)) = some (slit u f)
  rw [if_pos ⟨rfl, WalkArith.wf_u64 (by unfold IsU at hu; omega)⟩, if_pos hf]
  rfl
set_option maxRecDepth 100000 in
theorem keyof_ses_inv {v : Value} {kl : Lit} (h : keyOf Try.prog 25 v = some kl) : ∃ u f, v = sesV u f ∧ f.size ≤ maxLen ∧ IsU u ∧ kl = slit u f := by
  obtain ⟨n, hn⟩ := depth_ses
  unfold keyOf at h
  rw [Try.underlying25] at h
  simp only at h
  split at h
  · next hc =>
    simp only [Bool.and_eq_true] at hc
    have h2 := hc.2
    cases v <;> simp [Value.formed, Try.underlying25, cells_ses] at h2
    rename_i cs
    obtain ⟨l⟩ := cs
    match l, h2 with
    | [v0, v1], _ =>
      rw [hn] at h
      change (Try.prog.keyLits (n + 2) 25 [v0, v1]).map _ = _ at h
      rw [lits_ses] at h
      cases v0 with
      | int q u =>
        cases v1 with
        | string s =>
          simp at h
          obtain ⟨ls, ⟨⟨rfl, h3⟩, h1, rfl⟩, rfl⟩ := h
          refine ⟨u, s, rfl, h1, ?_, rfl⟩
          simp [Lit.wf, IntKind.min, IntKind.max, IntKind.bits, IntKind.signed] at h3
          unfold IsU
          omega
        | _ => simp at h
      | _ => simp at h
  · cases h
theorem slit_inj {f g : ByteArray} {u v : Int} (hf : f.size ≤ maxLen) (hu : IsU u) (hg : g.size ≤ maxLen) (hv : IsU v) (h : slit u f = slit v g) : u = v ∧ f = g := by
  have h1 := keyof_ses hf hu
  have h2 := keyof_ses hg hv
  rw [h] at h1
  have h3 := law_ses.inj h1 h2
  simp at h3
  exact h3

/-- A value as it is. -/
def idR (v : Value) : Option (DataW Value × List MemPlace) := some (.held v, [])
theorem inv_any : ∀ v y, idR v = some y → ∃ c : Value, v = c := fun v _ _ => ⟨v, rfl⟩

/-- A session's cells. -/
abbrev cellsL (s : SeL) : Array Value := #[.bool s.opn, .bool s.dead, .int .i64 s.dl, .int .i64 s.ttl, .int .i64 (s.told.length : Int), .map s.m]
/-- .. as they are kept. -/
def rowL (s : SeL) : Array Value := cellsL s
theorem rowL_eq (s : SeL) : rowL s = cellsL s := rfl
abbrev ansV (a : AnL) : Value := .agg #[.int .i64 a.e, .int .u64 a.n, .bool a.g]
def zeroA : AnL := ⟨0, 0, false⟩

/-- Block d is the map that the sessions tell. -/
def SsM (w : World) (d n : Nat) (l : List SeL) : Prop :=
  ∃ D : DataW Value, w.ownsMap Try.prog 25 idR d n D ∧ (∀ u f, IsU u → OkF f → Maps.has D (slit u f) = (findL l u f).isSome ∧ ∀ x, findL l u f = some x → ∀ z, D.atKey (slit u f) z = .held (.agg (rowL x))) ∧
    ∀ kl, Maps.has D kl = true → ∃ x ∈ l, kl = slit x.num x.foot
theorem SsM.made (w : World) : SsM (w.alloc (.map #[] 0)) w.heap.size 0 [] :=
  ⟨.map [], World.ownsMap_made _ _ _ _, fun _ _ _ _ => ⟨rfl, fun _ h => by cases h⟩, fun _ h => by simp [Maps.has] at h⟩
theorem SsM.lt {w : World} {b n : Nat} {l : List SeL} (h : SsM w b n l) : b < w.heap.size := by
  obtain ⟨D, h1, _⟩ := h; exact h1.lt
theorem SsM.same {w w' : World} {b n : Nat} {l : List SeL} (h : SsM w b n l) (he : w'.heap[b]? = w.heap[b]?) : SsM w' b n l := by
  obtain ⟨D, ⟨es, clock, hb, hr⟩, h2⟩ := h
  exact ⟨D, ⟨es, clock, he.trans hb, hr⟩, h2⟩
theorem SsM.mono {w : World} {b n n' : Nat} {l : List SeL} (h : SsM w b n l) (hn : n ≤ n') : SsM w b n' l := by
  obtain ⟨D, h1, h2⟩ := h; exact ⟨D, h1.mono hn, h2⟩
theorem zero_ses (w : World) (u : Int) (f : ByteArray) : (zeroValue 89).run Try.prog w = .ok (.agg (rowL (zeroL u f))) w := by
  show (zeroValue 89).run Try.prog w = .ok (.agg #[.bool false, .bool false, .int .i64 0, .int .i64 0, .int .i64 0, .map none]) w
  kernel_rfl
set_option maxRecDepth 100000 in
/-- A look-up. -/
theorem SsM.look {w : World} {b n : Nat} {l : List SeL} (h : SsM w b n l) {u : Int} {f : ByteArray} (hu : IsU u) (hf : OkF f) :
    (Instr.lookup 75 (.map (some b)) (sesV u f) false).run Try.prog w = .ok (.agg (rowL (getL l u f))) w := by
  obtain ⟨D, h1, h2, _⟩ := h
  obtain ⟨h3, h4⟩ := h2 u f hu hf
  obtain ⟨v, ps, hrun, hv⟩ := h1.lookup law_ses Try.underlying75 (zero_ses w u f) (zd := .held (.agg (rowL (zeroL u f)))) (zp := []) rfl (keyof_ses hf.max hu)
  have e : v = .agg (rowL (getL l u f)) := by
    unfold getL
    cases hl : findL l u f with
    | some x =>
      rw [h4 x hl] at hv
      unfold idR at hv
      injection hv with hv
      injection hv with hv _
      injection hv
    | none =>
      have hh : Maps.has D (slit u f) = false := by rw [h3, hl]; rfl
      rw [atKey_of_not_has hh] at hv
      unfold idR at hv
      injection hv with hv
      injection hv with hv _
      injection hv
  rw [← e]
  exact hrun
def KeysL (l : List SeL) : Prop := ∀ x ∈ l, IsU x.num ∧ OkF x.foot
theorem KeysL.put {l : List SeL} (h : KeysL l) {s : SeL} (hs : IsU s.num ∧ OkF s.foot) : KeysL (putL s l) := fun x hx => by
  rcases mem_putL hx with rfl | hx
  · exact hs
  · exact h x hx
theorem mem_putL_self (s : SeL) (l : List SeL) : s ∈ putL s l := findL_mem (by rw [findL_put, if_pos ⟨rfl, rfl⟩] : findL (putL s l) s.num s.foot = some s)
theorem mem_putL_other {s x : SeL} {l : List SeL} (hx : x ∈ l) (hl : RiseL l) (hne : ¬ (s.num = x.num ∧ s.foot = x.foot)) : x ∈ putL s l :=
  findL_mem (by rw [findL_put, if_neg hne]; exact hl.find hx : findL (putL s l) x.num x.foot = some x)
set_option maxRecDepth 100000 in
/-- A store. -/
theorem SsM.put {w : World} {b n : Nat} {l : List SeL} (h : SsM w b n l) (hn : n < maxLen) (s : SeL) (hl : KeysL l) (hr : RiseL l) (hu : IsU s.num) (hf : OkF s.foot) :
    ∃ w', (Instr.mapUpdate 75 (.map (some b)) (sesV s.num s.foot) (.agg (rowL s))).run Try.prog w = .ok () w' ∧ SsM w' b (n + 1) (putL s l) ∧ w.grownBy w' (some b) := by
  obtain ⟨D, h1, h2, h5⟩ := h
  obtain ⟨w', hrun, h3, h4⟩ := h1.update law_ses Try.underlying75 hn (keyof_ses hf.max hu) (val := .agg (rowL s)) (d := .held (.agg (rowL s))) (ps := []) rfl
  have hk : WideAt.IsKeyLit (slit s.num s.foot) := law_ses.key (keyof_ses hf.max hu)
  refine ⟨w', hrun, ⟨_, h3, fun u f hu' hf' => ?_, fun kl hkl => ?_⟩, h4⟩
  · by_cases e : slit u f = slit s.num s.foot
    · obtain ⟨rfl, rfl⟩ := slit_inj hf'.max hu' hf.max hu e
      rw [findL_put, if_pos ⟨rfl, rfl⟩]
      refine ⟨by rw [has_put_same h1.isMap hk]; rfl, fun y hy z => ?_⟩
      injection hy with hy
      subst hy
      rw [atKey_put_same h1.isMap hk]
    · have hne : ¬ (s.num = u ∧ s.foot = f) := fun ⟨a, c⟩ => e (by rw [a, c])
      obtain ⟨k1, k2⟩ := h2 u f hu' hf'
      rw [findL_put, if_neg hne]
      refine ⟨by rw [has_put_other e, k1], fun y hy z => ?_⟩
      rw [atKey_put_other e]
      exact k2 y hy z
  · by_cases e : kl = slit s.num s.foot
    · exact ⟨s, mem_putL_self s l, e⟩
    · rw [has_put_other e] at hkl
      obtain ⟨x, hx, hk2⟩ := h5 kl hkl
      exact ⟨x, mem_putL_other hx hr (fun ⟨a, c⟩ => e (by rw [hk2, a, c])), hk2⟩

/-- The map of answers tells these; none: nothing was told. -/
def AnM (w : World) (m : Option Nat) (n : Nat) (t : ToldL) : Prop :=
  match m with
  | none => t = []
  | some b => ∃ D : DataW Value, w.ownsMap Try.prog 23 idR b n D ∧ (∀ r, IsU r → Maps.has D (.int .u64 r) = (saidL t r).isSome ∧ ∀ a, saidL t r = some a → ∀ z, D.atKey (.int .u64 r) z = .held (ansV a)) ∧
    ∀ kl, Maps.has D kl = true → ∃ p ∈ t, kl = .int .u64 p.1
theorem AnM.nil {w : World} {n : Nat} : AnM w none n [] := rfl
theorem AnM.made (w : World) : AnM (w.alloc (.map #[] 0)) (some w.heap.size) 0 [] :=
  ⟨.map [], World.ownsMap_made _ _ _ _, fun _ _ => ⟨rfl, fun _ h => by cases h⟩, fun _ h => by simp [Maps.has] at h⟩
theorem AnM.lt {w : World} {b n : Nat} {t : ToldL} (h : AnM w (some b) n t) : b < w.heap.size := by
  obtain ⟨D, h1, _⟩ := h; exact h1.lt
theorem AnM.same {w w' : World} {m : Option Nat} {n : Nat} {t : ToldL} (h : AnM w m n t) (he : ∀ b, m = some b → w'.heap[b]? = w.heap[b]?) : AnM w' m n t := by
  cases m with
  | none => exact h
  | some b =>
    obtain ⟨D, ⟨es, clock, hb, hr⟩, h2⟩ := h
    exact ⟨D, ⟨es, clock, (he b rfl).trans hb, hr⟩, h2⟩
theorem AnM.mono {w : World} {m : Option Nat} {n n' : Nat} {t : ToldL} (h : AnM w m n t) (hn : n ≤ n') : AnM w m n' t := by
  cases m with
  | none => exact h
  | some b => obtain ⟨D, h1, h2⟩ := h; exact ⟨D, h1.mono hn, h2⟩
theorem zero_ans (w : World) : (zeroValue 34).run Try.prog w = .ok (ansV zeroA) w := by kernel_rfl
theorem key_req {r : Int} (hr : IsU r) : keyOf Try.prog 23 (.int .u64 r) = some (.int .u64 r) := keyOf_int_mk Try.underlying23 (WalkArith.wf_u64 (by unfold IsU at hr; omega))
set_option maxRecDepth 100000 in
/-- A look-up. -/
theorem AnM.look {w : World} {m : Option Nat} {n : Nat} {t : ToldL} (h : AnM w m n t) {r : Int} (hr : IsU r) :
    (Instr.lookup 87 (.map m) (.int .u64 r) true).run Try.prog w = .ok (.tuple #[ansV ((saidL t r).getD zeroA), .bool (saidL t r).isSome]) w := by
  cases m with
  | none =>
    have ht : t = [] := h
    subst ht
    exact Maps.look_nil true law_req Try.underlying87 (zero_ans w) (key_req hr)
  | some b =>
    obtain ⟨D, h1, h2, _⟩ := h
    obtain ⟨h3, h4⟩ := h2 r hr
    obtain ⟨v, ps, hrun, hv⟩ := h1.look_ok law_req Try.underlying87 (zero_ans w) (zd := .held (ansV zeroA)) (zp := []) rfl (key_req hr)
    rw [h3] at hrun
    have e : v = ansV ((saidL t r).getD zeroA) := by
      cases hl : saidL t r with
      | some x =>
        rw [h4 x hl] at hv
        unfold idR at hv
        injection hv with hv
        injection hv with hv _
        injection hv
      | none =>
        have hh : Maps.has D (.int .u64 r) = false := by rw [h3, hl]; rfl
        rw [atKey_of_not_has hh] at hv
        unfold idR at hv
        injection hv with hv
        injection hv with hv _
        injection hv
    rw [← e]
    exact hrun
set_option maxRecDepth 100000 in
/-- A store of one that wasn't told. -/
theorem AnM.put {w : World} {b n : Nat} {t : ToldL} (h : AnM w (some b) n t) (hn : n < maxLen) {r : Int} (a : AnL) (ht : RiseT t) (hr : IsU r) (hno : saidL t r = none) (htu : ∀ p ∈ t, IsU p.1) :
    ∃ w', (Instr.mapUpdate 87 (.map (some b)) (.int .u64 r) (ansV a)).run Try.prog w = .ok () w' ∧ AnM w' (some b) (n + 1) (tellT t r a) ∧ w.grownBy w' (some b) := by
  obtain ⟨D, h1, h2, h5⟩ := h
  obtain ⟨w', hrun, h3, h4⟩ := h1.update law_req Try.underlying87 hn (key_req hr) (val := ansV a) (d := .held (ansV a)) (ps := []) rfl
  have hk : WideAt.IsKeyLit (.int .u64 r) := law_req.key (key_req hr)
  refine ⟨w', hrun, ⟨_, h3, fun q hq => ?_, fun kl hkl => ?_⟩, h4⟩
  · by_cases e : (Lit.int .u64 q) = .int .u64 r
    · injection e with _ e
      subst e
      rw [saidL_tell ht a hno, if_pos rfl]
      refine ⟨by rw [has_put_same h1.isMap hk]; rfl, fun y hy z => ?_⟩
      injection hy with hy
      subst hy
      rw [atKey_put_same h1.isMap hk]
    · have hne : ¬ q = r := fun c => e (by rw [c])
      obtain ⟨k1, k2⟩ := h2 q hq
      rw [saidL_tell ht a hno, if_neg hne]
      refine ⟨by rw [has_put_other e, k1], fun y hy z => ?_⟩
      rw [atKey_put_other e]
      exact k2 y hy z
  · by_cases e : kl = .int .u64 r
    · exact ⟨(r, a), mem_tellT.2 (.inl rfl), e⟩
    · rw [has_put_other e] at hkl
      obtain ⟨p, hp, hk2⟩ := h5 kl hkl
      exact ⟨p, mem_tellT.2 (.inr hp), hk2⟩

end Go.Proofs.Ytbeeklpfbnhdnaa
