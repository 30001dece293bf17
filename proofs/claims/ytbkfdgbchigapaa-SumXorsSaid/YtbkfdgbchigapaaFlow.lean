/-
  A region that draws its order, of operations of which each tells a fact of its own value, whatever came between: in whatever order they come, all facts hold at the end. No program in it.
-/
import Derived.WalkKit
import Derived.RegionTactic
namespace Go.Proofs.Ytbkfdgbchigapaa
open Go.RowKit

def putAll : List Oper → (Nat → Value) → Nat → Act → Act
  | [], _, _, a => a
  | o :: r, f, k, a => putAll r f (k + 1) (a.put o.dst (f k))

def upd (f : Nat → Value) (i : Nat) (v : Value) (j : Nat) : Value := if j = i then v else f j

theorem put_same (a : Act) (d : Option Tmp) (u v : Value) : (a.put d u).put d v = a.put d v := by
  cases d with
  | none => rfl
  | some d => simp [Act.put, Array.setIfInBounds_setIfInBounds]
theorem put_own (a : Act) (d : Option Tmp) : a.put d (match d with | some t => a.tmps.getD t undef | none => undef) = a := by
  cases d with
  | none => rfl
  | some d =>
    obtain ⟨tmps, defers⟩ := a
    simp only [Act.put, Act.mk.injEq, and_true]
    apply Array.ext_getElem?
    intro i
    rw [Array.getElem?_setIfInBounds]
    by_cases h : d = i
    · subst h
      by_cases hl : d < tmps.size
      · simp [hl]
      · simp [hl]
    · simp [h]

theorem putAll_own : ∀ (r : List Oper) (k : Nat) (a : Act) (f : Nat → Value), (∀ j o, r[j]? = some o → f (k + j) = match o.dst with | some t => a.tmps.getD t undef | none => undef) → putAll r f k a = a := by
  intro r
  induction r with
  | nil => intro k a f _; rfl
  | cons o r ih =>
    intro k a f h
    have h0 := h 0 o rfl
    rw [Nat.add_zero] at h0
    rw [putAll, h0, put_own]
    exact ih (k + 1) a f (fun j o' hj => by rw [show k + 1 + j = k + (j + 1) by omega]; exact h (j + 1) o' (by simpa using hj))

theorem putAll_put_far : ∀ (r : List Oper) (k : Nat) (f : Nat → Value) (a : Act) (d : Option Tmp) (v : Value), (∀ o ∈ r, ∀ t, d = some t → o.dst ≠ some t) → (putAll r f k a).put d v = putAll r f k (a.put d v) := by
  intro r
  induction r with
  | nil => intro k f a d v _; rfl
  | cons o r ih =>
    intro k f a d v h
    rw [putAll, putAll, ih (k + 1) f _ d v (fun o' ho => h o' (by simp [ho]))]
    congr 1
    exact (Act.put_comm a v (f k) (fun t ht => h o (by simp) t ht)).symm

theorem putAll_upd_far : ∀ (r : List Oper) (k i : Nat) (f : Nat → Value) (a : Act) (v : Value), i < k → putAll r (upd f i v) k a = putAll r f k a := by
  intro r
  induction r with
  | nil => intro k i f a v _; rfl
  | cons o r ih =>
    intro k i f a v h
    rw [putAll, putAll, ih (k + 1) i f _ v (by omega)]
    unfold upd
    rw [if_neg (by omega)]

/-- No two operations write one slot. -/
def lone' : List Oper → Bool
  | [] => true
  | o :: r => (match o.dst with | some t => r.all fun p => p.dst != some t | none => true) && lone' r

theorem putAll_put : ∀ (r : List Oper) (k j : Nat) (f : Nat → Value) (a : Act) (o : Oper) (v : Value), lone' r = true → r[j]? = some o → (putAll r f k a).put o.dst v = putAll r (upd f (k + j) v) k a := by
  intro r
  induction r with
  | nil => intro k j f a o v _ h; simp at h
  | cons p r ih =>
    intro k j f a o v hl h
    simp only [lone', Bool.and_eq_true] at hl
    cases j with
    | zero =>
      simp at h
      subst h
      rw [putAll, putAll, Nat.add_zero, putAll_upd_far _ _ _ _ _ _ (by omega), putAll_put_far _ _ _ _ _ _ (fun o' ho t ht => by
        have h1 := hl.1
        rw [ht] at h1
        have h2 := List.all_eq_true.1 h1 o' ho
        simpa using h2), put_same]
      unfold upd
      rw [if_pos (by omega)]
    | succ j =>
      rw [putAll, putAll, ih (k + 1) j f _ o v hl.2 (by simpa using h), show k + 1 + j = k + (j + 1) by omega]
      congr 1
      unfold upd
      rw [if_neg (by omega)]

section
variable {P : Program} {ops : Array Oper} {Q : Exit → Act → World → Prop} {md : Region.Mode} {V : Nat → Value → World → Prop} {a0 : Act} {w0 : World}

/-- What is so at any moment. -/
def Flow (ops : Array Oper) (V : Nat → Value → World → Prop) (a0 : Act) (w0 : World) (listed : Array Bool) (a : Act) (w : World) : Prop :=
  listed.size = ops.size ∧ ∃ f, a = putAll ops.toList f 0 a0 ∧ Below w0.heap.size w0 w ∧ ∀ i, listed[i]? = some true → V i (f i) w

/-- Each edge leads back, no operation is guarded. -/
def flowB (ops : Array Oper) : Bool := lone' ops.toList && (List.range ops.size).all fun i => match ops[i]? with
  | some o => o.guard.isNone && o.after.all fun e => decide (e.on < i)
  | none => true

theorem flowB_spec (h : flowB ops = true) {i : Nat} {o : Oper} (ho : ops[i]? = some o) : o.guard = none ∧ ∀ e ∈ o.after, e.on < i := by
  simp only [flowB, Bool.and_eq_true, List.all_eq_true, List.mem_range] at h
  have := h.2 i (Array.getElem?_eq_some_iff.1 ho).1
  rw [ho] at this
  simp only [Bool.and_eq_true, Array.all_eq_true_iff_forall_mem, decide_eq_true_eq] at this
  exact ⟨by simpa using this.1, this.2⟩

theorem all_listed (h : flowB ops = true) {listed : Array Bool} (hs : listed.size = ops.size) (hr : Region.ready md ops listed = []) : ∀ i, i < ops.size → listed[i]? = some true := by
  intro i
  induction i using Nat.strongRecOn with
  | _ i ih =>
    intro hi
    have hget : listed[i]? = some listed[i] := Array.getElem?_eq_getElem (by omega)
    cases hb : listed[i] with
    | true => rw [hget, hb]
    | false =>
      exfalso
      have hmem : i ∈ Region.ready md ops listed := by
        unfold Region.ready
        rw [List.mem_filter]
        refine ⟨List.mem_range.2 hi, ?_⟩
        have ho : ops[i]? = some ops[i] := Array.getElem?_eq_getElem hi
        have hsp := flowB_spec h ho
        rw [ho]
        simp only [Option.map_some, Option.getD_some, Bool.and_eq_true]
        refine ⟨by rw [Array.getD_eq_getD_getElem?, hget, hb]; rfl, ?_⟩
        rw [Array.all_eq_true_iff_forall_mem]
        intro e he
        have hlt := hsp.2 e he
        have := ih e.on hlt (by omega)
        rw [Array.getD_eq_getD_getElem?, this]
        simp
      rw [hr] at hmem
      cases hmem

theorem count_down {listed : Array Bool} {i n : Nat} (hb : listed[i]? = some false) (hn : listed.toList.count false ≤ n + 1) : (listed.setIfInBounds i true).toList.count false ≤ n := by
  have hi : i < listed.toList.length := by simpa using (Array.getElem?_eq_some_iff.1 hb).1
  have hv : listed.toList[i] = false := by simpa using (Array.getElem?_eq_some_iff.1 hb).2
  have e1 : (if (false == false) = true then 1 else 0) = 1 := rfl
  have e2 : (if (true == false) = true then 1 else 0) = 0 := rfl
  rw [Array.toList_setIfInBounds, List.count_set hi, hv, e1, e2]
  omega

theorem wpAny_flow (hf : flowB ops = true) (hV : ∀ i v w w', V i v w → Below w.heap.size w w' → V i v w')
    (hstep : ∀ i o, ops[i]? = some o → ∀ (f : Nat → Value) (w : World), Below w0.heap.size w0 w → (∀ e ∈ o.after, Region.binds md e = true → V e.on (f e.on) w) → ∀ K : Act → World → Prop,
      (∀ v w', Below w.heap.size w w' → V i v w' → K ((putAll ops.toList f 0 a0).put o.dst v) w') → o.wp P (putAll ops.toList f 0 a0) w K Q)
    (hend : ∀ (f : Nat → Value) (w : World), Below w0.heap.size w0 w → (∀ i, i < ops.size → V i (f i) w) → Q .normal (putAll ops.toList f 0 a0) w) :
    ∀ (fuel : Nat) (listed : Array Bool) (a : Act) (w : World), listed.toList.count false ≤ fuel → Flow ops V a0 w0 listed a w → wpAny P md ops Q fuel listed a w := by
  have hdone : ∀ (listed : Array Bool) (a : Act) (w : World), Flow ops V a0 w0 listed a w → Region.ready md ops listed = [] → Q .normal a w := by
    rintro listed a w ⟨hs, f, rfl, hb, hv⟩ hr
    exact hend f w hb (fun i hi => hv i (all_listed hf hs hr i hi))
  intro fuel
  induction fuel with
  | zero =>
    intro listed a w hc hF
    have hr : Region.ready md ops listed = [] := by
      unfold Region.ready
      rw [List.filter_eq_nil_iff]
      intro i hi hh
      have hi' := List.mem_range.1 hi
      have hsz : i < listed.size := by have := hF.1; omega
      have hget : listed[i]? = some listed[i] := Array.getElem?_eq_getElem hsz
      simp only [Bool.and_eq_true] at hh
      have h1 := hh.1
      rw [Array.getD_eq_getD_getElem?, hget] at h1
      have h2 : listed[i] = false := by simpa using h1
      have : false ∈ listed.toList := by rw [← h2]; simp
      have := List.count_pos_iff.2 this
      omega
    exact ⟨hr, hdone listed a w hF hr⟩
  | succ fuel ih =>
    intro listed a w hc hF
    refine ⟨hdone listed a w hF, fun i hi => ?_⟩
    unfold Region.ready at hi
    rw [List.mem_filter] at hi
    obtain ⟨hi1, hi2⟩ := hi
    have hilt := List.mem_range.1 hi1
    obtain ⟨hs, f, rfl, hb, hv⟩ := hF
    have ho : ops[i]? = some ops[i] := Array.getElem?_eq_getElem hilt
    have hsz : i < listed.size := by omega
    have hget : listed[i]? = some listed[i] := Array.getElem?_eq_getElem hsz
    rw [ho] at hi2
    simp only [Option.map_some, Option.getD_some, Bool.and_eq_true, Array.all_eq_true_iff_forall_mem] at hi2
    have hfalse : listed[i]? = some false := by
      have h1 := hi2.1
      rw [Array.getD_eq_getD_getElem?, hget] at h1
      rw [hget]
      simpa using h1
    unfold wpOp
    rw [ho]
    have hsp := flowB_spec hf ho
    have hw : Region.wanted ops[i] (yielded ops (putAll ops.toList f 0 a0).tmps) = true := by simp [Region.wanted, hsp.1]
    simp only [hw, if_true]
    left
    refine hstep i _ ho f w hb (fun e he hbi => ?_) _ (fun v w' hb' hvv => ?_)
    · have h1 := hi2.2 e he
      rw [hbi] at h1
      have h2 : listed.getD e.on false = true := by simpa using h1
      refine hv e.on ?_
      rw [Array.getD_eq_getD_getElem?] at h2
      cases h3 : listed[e.on]? with
      | none => rw [h3] at h2; cases h2
      | some b => rw [h3] at h2; simpa using h2
    · refine ih _ _ _ (count_down hfalse hc) ⟨by simp [hs], upd f i v, ?_, hb.trans (hb'.mono hb.size), fun j hj => ?_⟩
      · have h1 : lone' ops.toList = true := by
          simp only [flowB, Bool.and_eq_true] at hf
          exact hf.1
        have h2 := putAll_put ops.toList 0 i f a0 ops[i] v h1 (by simp [hilt])
        rwa [Nat.zero_add] at h2
      · unfold upd
        by_cases hji : j = i
        · subst hji
          rw [if_pos rfl]
          exact hvv
        · rw [if_neg hji]
          rw [Array.getElem?_setIfInBounds_ne (fun e => hji e.symm)] at hj
          exact hV _ _ _ _ (hv j hj) hb'
theorem put_size (a : Act) (d : Option Tmp) (v : Value) : (a.put d v).tmps.size = a.tmps.size := by
  cases d <;> simp [Act.put]
theorem putAll_far : ∀ (r : List Oper) (k : Nat) (f : Nat → Value) (a : Act) (t : Tmp), (∀ o ∈ r, o.dst ≠ some t) → (putAll r f k a).eval (.tmp t) = a.eval (.tmp t) := by
  intro r
  induction r with
  | nil => intro k f a t _; rfl
  | cons o r ih =>
    intro k f a t h
    rw [putAll, ih (k + 1) f _ t (fun o' ho => h o' (by simp [ho]))]
    refine Act.eval_put fun d hd hx => ?_
    injection hx with hx
    subst hx
    exact h o (by simp) hd
theorem putAll_at : ∀ (r : List Oper) (k j : Nat) (f : Nat → Value) (a : Act) (o : Oper) (t : Tmp), lone' r = true → r[j]? = some o → o.dst = some t → t < a.tmps.size → (putAll r f k a).eval (.tmp t) = f (k + j) := by
  intro r
  induction r with
  | nil => intro k j f a o t _ h; simp at h
  | cons p r ih =>
    intro k j f a o t hl h hd ht
    simp only [lone', Bool.and_eq_true] at hl
    cases j with
    | zero =>
      simp at h
      subst h
      rw [putAll, putAll_far _ _ _ _ _ (fun o' ho => by
        have h1 := hl.1
        rw [hd] at h1
        have h2 := List.all_eq_true.1 h1 o' ho
        simpa using h2), hd]
      simp [Act.eval, Act.put, ht]
    | succ j =>
      rw [putAll, ih (k + 1) j f _ o t hl.2 (by simpa using h) hd (by rw [put_size]; exact ht), show k + 1 + j = k + (j + 1) by omega]

theorem slot_of {a : Act} {t : Tmp} {v : Value} (h : a.eval (.tmp t) = v) : a.tmps[t]?.getD undef = v := by
  simpa [Act.eval] using h

/-- A region that draws its order. -/
theorem wp_region_flow {id : Nat} (V : Nat → Value → World → Prop) (hm : P.follows .mixedOrders = true) (hf : flowB ops = true) (hV : ∀ i v w w', V i v w → Below w.heap.size w w' → V i v w')
    (hstep : ∀ i o, ops[i]? = some o → ∀ (f : Nat → Value) (a : Act) (w : World), (∀ j t, (ops[j]?).bind (·.dst) = some t → t < a0.tmps.size → a.eval (.tmp t) = f j) → (∀ t, (ops.all fun o => o.dst != some t) = true → a.eval (.tmp t) = a0.eval (.tmp t)) → Below w0.heap.size w0 w → (∀ n, (o.after.any fun e => Region.binds .any e && e.on == n) = true → V n (f n) w) → ∀ K : Act → World → Prop,
      (∀ v w', Below w.heap.size w w' → V i v w' → K (a.put o.dst v) w') → o.wp P a w K Q)
    (hend : ∀ (f : Nat → Value) (a : Act) (w : World), (∀ j t, (ops[j]?).bind (·.dst) = some t → t < a0.tmps.size → a.eval (.tmp t) = f j) → (∀ t, (ops.all fun o => o.dst != some t) = true → a.eval (.tmp t) = a0.eval (.tmp t)) → a.defers = a0.defers → Below w0.heap.size w0 w → (∀ i, i < ops.size → V i (f i) w) → Q .normal a w) : (Code.region id ops true).wp P Q a0 w0 := by
  have h1 : lone' ops.toList = true := by
    simp only [flowB, Bool.and_eq_true] at hf
    exact hf.1
  have hat : ∀ (f : Nat → Value) j t, (ops[j]?).bind (·.dst) = some t → t < a0.tmps.size → (putAll ops.toList f 0 a0).eval (.tmp t) = f j := by
    intro f j t hj ht
    cases ho : ops[j]? with
    | none => rw [ho] at hj; cases hj
    | some o =>
      rw [ho] at hj
      have := putAll_at ops.toList 0 j f a0 o t h1 (by simpa using ho) hj ht
      rwa [Nat.zero_add] at this
  have hold : ∀ (f : Nat → Value) t, (ops.all fun o => o.dst != some t) = true → (putAll ops.toList f 0 a0).eval (.tmp t) = a0.eval (.tmp t) := by
    intro f t h
    refine putAll_far _ _ _ _ _ (fun o ho => ?_)
    have h2 := Array.all_eq_true_iff_forall_mem.1 h o (by simpa using ho)
    simpa using h2
  have hdf : ∀ (r : List Oper) (k : Nat) (f : Nat → Value) (a : Act), (putAll r f k a).defers = a.defers := by
    intro r
    induction r with
    | nil => intro k f a; rfl
    | cons o r ih =>
      intro k f a
      rw [putAll, ih]
      cases o.dst <;> rfl
  refine wp_region_any hm ?_
  refine wpAny_flow hf hV (fun i o ho f w hb hd K hK => hstep i o ho f _ w (hat f) (hold f) hb (fun n hn => ?_) K hK) (fun f w hb h => hend f _ w (hat f) (hold f) (hdf _ _ _ _) hb h) ops.size _ a0 _ ?_ ?_
  · obtain ⟨e, he, hh⟩ := Array.any_eq_true'.1 hn
    simp only [Bool.and_eq_true, beq_iff_eq] at hh
    have h1 := hd e he hh.1
    rw [hh.2] at h1
    exact h1
  · rw [Array.toList_replicate, List.count_replicate_self]
    exact Nat.le_refl _
  · refine ⟨by simp, fun j => match (ops.toList[j]?).bind (·.dst) with | some t => a0.tmps.getD t undef | none => undef, ?_, ⟨rfl, rfl, rfl, Nat.le_refl _, fun _ _ => rfl⟩, fun i hi => ?_⟩
    · refine (putAll_own _ _ _ _ (fun j o hj => ?_)).symm
      simp only [Nat.zero_add, hj, Option.bind_some]
    · rw [Array.getElem?_replicate] at hi
      split at hi
      · cases hi
      · cases hi
end

end Go.Proofs.Ytbkfdgbchigapaa
