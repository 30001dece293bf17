/-
  Locks as lists: entries in the order of their coming, counters; what each call does to them (no memory).
-/
import Derived.Test.YtgjbhlianlbflaaGreatBPAbove
namespace Go.Proofs.YtgjbhlianlbflaaGreat
open Go.ChangeShapes Go.WideShapes Go.ChangeAt Go.RowKit
set_option linter.unusedVariables false
set_option linter.unusedSimpArgs false
structure EnL where
  path : ByteArray
  num : Int
  foot : ByteArray
  mode : Int
  n : Int
  stamp : Int
abbrev CnL := List (ByteArray × Int)
def IsUk (u : Int) : Prop := 0 ≤ u ∧ u < 18446744073709551616
def OkK (f : ByteArray) : Prop := f.size ≤ 140737488355328
theorem OkK.max {f : ByteArray} (h : OkK f) : f.size ≤ maxLen := by unfold OkK at h; unfold maxLen; omega
def isE (p : ByteArray) (u : Int) (f : ByteArray) (e : EnL) : Bool := decide (e.path = p ∧ e.num = u ∧ e.foot = f)
theorem isE_iff {p : ByteArray} {u : Int} {f : ByteArray} {e : EnL} : isE p u f e = true ↔ e.path = p ∧ e.num = u ∧ e.foot = f := by simp [isE]
def ofE (u : Int) (f : ByteArray) (e : EnL) : Bool := decide (e.num = u ∧ e.foot = f)
def ovE (p : ByteArray) (e : EnL) : Bool := overlap (L e.path) (L p)
def wayE (a b : EnL) : Bool := (decide (a.mode = 2) || decide (b.mode = 2)) && overlap (L a.path) (L b.path)
def behE (e o : EnL) : Bool := decide (o.stamp < e.stamp) && wayE e o
def findE (l : List EnL) (p : ByteArray) (u : Int) (f : ByteArray) : Option EnL := l.find? (isE p u f)
def zeroE : EnL := ⟨⟨#[]⟩, 0, ⟨#[]⟩, 0, 0, 0⟩
def getE (l : List EnL) (p : ByteArray) (u : Int) (f : ByteArray) : EnL := (findE l p u f).getD zeroE
def freeE (l : List EnL) (e : EnL) : Bool := l.all fun o => !behE e o
def stepT (p : ByteArray) (m : Int) (e : EnL) : Int := if m < e.stamp ∧ ovE p e = true then e.stamp else m
def topE (l : List EnL) (p : ByteArray) : Int := l.foldl (stepT p) 0
def stampE (l : List EnL) (p : ByteArray) : Int := topE l p + 1
def heldE (l : List EnL) (u : Int) (f : ByteArray) : Nat := l.countP (ofE u f)
def cntE (first : Int) (cs : CnL) (p : ByteArray) : Int := ((cs.find? fun c => decide (c.1 = p)).map (·.2)).getD first
def setC : CnL → ByteArray → Int → CnL
  | [], p, n => [(p, n)]
  | c :: cs, p, n => if c.1 = p then (p, n) :: cs else c :: setC cs p n
def rightE (p : ByteArray) (mode : Int) : Bool := right (L p) && (decide (mode = 1) || decide (mode = 2))
def mayE (first : Int) (l : List EnL) (cs : CnL) (p : ByteArray) (u : Int) (f : ByteArray) (mode : Int) : Int :=
  if rightE p mode = true then if (findE l p u f).isSome = true then 15 else if 64 ≤ heldE l u f then 14 else if 9223372036854775807 ≤ cntE first cs p then 53 else 0 else 10
def addE (first : Int) (l : List EnL) (cs : CnL) (p : ByteArray) (u : Int) (f : ByteArray) (mode : Int) : EnL := ⟨p, u, f, mode, cntE first cs p + 1, stampE l p⟩
def rmE (l : List EnL) (p : ByteArray) (u : Int) (f : ByteArray) : List EnL := l.filter fun e => !isE p u f e
def dropE (l : List EnL) (u : Int) (f : ByteArray) : List EnL := l.filter fun e => !ofE u f e
theorem ov_comm (p q : List UInt8) : overlap p q = overlap q p := by unfold overlap; exact Bool.or_comm _ _
theorem ov_self {p : List UInt8} (h : right p = true) : overlap p p = true := by
  unfold overlap
  rw [(above_iff (p := p) (q := p)).2 ⟨h, .inl rfl⟩]
  rfl
structure GoodK (first : Int) (l : List EnL) (cs : CnL) : Prop where
  keys : ∀ e ∈ l, IsUk e.num ∧ OkK e.path ∧ OkK e.foot
  dist : l.Pairwise fun a b => ¬ (a.path = b.path ∧ a.num = b.num ∧ a.foot = b.foot)
  ok : ∀ e ∈ l, right (L e.path) = true ∧ (e.mode = 1 ∨ e.mode = 2) ∧ 1 ≤ e.stamp ∧ first < e.n ∧ e.n ≤ 9223372036854775807
  ord : l.Pairwise fun a b => overlap (L a.path) (L b.path) = true → a.stamp < b.stamp
  seq : l.Pairwise fun a b => a.path = b.path → a.n < b.n
  top : ∀ e ∈ l, e.n ≤ cntE first cs e.path
  cdist : cs.Pairwise fun a b => ¬ a.1 = b.1
  cok : ∀ c ∈ cs, right (L c.1) = true ∧ first < c.2 ∧ c.2 ≤ 9223372036854775807
  hf : IsUk first
theorem GoodK.nil {first : Int} (h : IsUk first) : GoodK first [] [] :=
  ⟨fun _ h => (by cases h), List.Pairwise.nil, fun _ h => (by cases h), List.Pairwise.nil, List.Pairwise.nil, fun _ h => (by cases h), List.Pairwise.nil, fun _ h => (by cases h), h⟩
theorem GoodK.filter {first : Int} {l : List EnL} {cs : CnL} (h : GoodK first l cs) (q : EnL → Bool) : GoodK first (l.filter q) cs :=
  ⟨fun e he => h.keys e (List.mem_filter.1 he).1, h.dist.filter q, fun e he => h.ok e (List.mem_filter.1 he).1, h.ord.filter q, h.seq.filter q, fun e he => h.top e (List.mem_filter.1 he).1, h.cdist, h.cok, h.hf⟩
theorem GoodK.one {first : Int} {l : List EnL} {cs : CnL} (h : GoodK first l cs) {a b : EnL} (ha : a ∈ l) (hb : b ∈ l) (he : a.path = b.path ∧ a.num = b.num ∧ a.foot = b.foot) : a = b := by
  obtain ⟨i, hi, rfl⟩ := List.getElem_of_mem ha
  obtain ⟨j, hj, rfl⟩ := List.getElem_of_mem hb
  have hd := List.pairwise_iff_getElem.1 h.dist
  rcases Nat.lt_trichotomy i j with hij | hij | hij
  · exact absurd he (hd i j hi hj hij)
  · subst hij; rfl
  · exact absurd ⟨he.1.symm, he.2.1.symm, he.2.2.symm⟩ (hd j i hj hi hij)
theorem GoodK.nodup {first : Int} {l : List EnL} {cs : CnL} (h : GoodK first l cs) : l.Nodup := h.dist.imp (fun {a b} hab e => by subst e; exact hab ⟨rfl, rfl, rfl⟩)
theorem GoodK.find {first : Int} {l : List EnL} {cs : CnL} (h : GoodK first l cs) {e : EnL} (he : e ∈ l) : findE l e.path e.num e.foot = some e := by
  unfold findE
  cases hf : l.find? (isE e.path e.num e.foot) with
  | none =>
    rw [List.find?_eq_none] at hf
    exact absurd (isE_iff.2 ⟨rfl, rfl, rfl⟩) (hf e he)
  | some x =>
    have h1 := isE_iff.1 (List.find?_some hf)
    rw [h.one (List.mem_of_find?_eq_some hf) he h1]
theorem findE_mem {l : List EnL} {p : ByteArray} {u : Int} {f : ByteArray} {e : EnL} (h : findE l p u f = some e) : e ∈ l ∧ e.path = p ∧ e.num = u ∧ e.foot = f := ⟨List.mem_of_find?_eq_some h, isE_iff.1 (List.find?_some h)⟩
theorem findE_none {l : List EnL} {p : ByteArray} {u : Int} {f : ByteArray} (h : findE l p u f = none) : ∀ e ∈ l, ¬ (e.path = p ∧ e.num = u ∧ e.foot = f) := fun e he hc => by
  unfold findE at h
  rw [List.find?_eq_none] at h
  exact h e he (isE_iff.2 hc)
theorem find_filter {first : Int} {l : List EnL} {cs : CnL} (h : GoodK first l cs) (q : EnL → Bool) (p : ByteArray) (u : Int) (f : ByteArray) :
    findE (l.filter q) p u f = (findE l p u f).filter q := by
  cases hf : findE l p u f with
  | none =>
    have h1 := findE_none hf
    cases hg : findE (l.filter q) p u f with
    | none => rfl
    | some x => exact absurd (findE_mem hg).2 (h1 x (List.mem_filter.1 (findE_mem hg).1).1)
  | some e =>
    obtain ⟨h1, rfl, rfl, rfl⟩ := findE_mem hf
    cases hq : q e with
    | true =>
      rw [(h.filter q).find (List.mem_filter.2 ⟨h1, hq⟩)]
      simp [Option.filter, hq]
    | false =>
      cases hg : findE (l.filter q) e.path e.num e.foot with
      | none => simp [Option.filter, hq]
      | some x =>
        obtain ⟨h2, h3⟩ := findE_mem hg
        have := h.one (List.mem_filter.1 h2).1 h1 h3
        subst this
        rw [(List.mem_filter.1 h2).2] at hq
        cases hq
theorem find_app {l : List EnL} {e : EnL} {p : ByteArray} {u : Int} {f : ByteArray} (hn : findE l e.path e.num e.foot = none) :
    findE (l ++ [e]) p u f = if e.path = p ∧ e.num = u ∧ e.foot = f then some e else findE l p u f := by
  by_cases hc : e.path = p ∧ e.num = u ∧ e.foot = f
  · rw [if_pos hc]
    obtain ⟨rfl, rfl, rfl⟩ := hc
    unfold findE at *
    rw [List.find?_append, hn]
    simp [isE]
  · rw [if_neg hc]
    unfold findE
    rw [List.find?_append]
    have : isE p u f e = false := by
      cases h : isE p u f e
      · rfl
      · exact absurd (isE_iff.1 h) hc
    simp [this]
theorem top_snoc (l : List EnL) (e : EnL) (p : ByteArray) : topE (l ++ [e]) p = stepT p (topE l p) e := by unfold topE; rw [List.foldl_append]; rfl
theorem stepT_comm (p : ByteArray) (m : Int) (a b : EnL) : stepT p (stepT p m a) b = stepT p (stepT p m b) a := by
  unfold stepT
  repeat' split
  all_goals first | rfl | omega | (simp_all; omega) | simp_all
theorem top_perm {l k : List EnL} (h : l.Perm k) (p : ByteArray) : topE l p = topE k p := by
  unfold topE
  exact h.foldl_eq' (fun a _ b _ z => stepT_comm p z a b) 0
theorem fold_ge (p : ByteArray) : ∀ (l : List EnL) (m : Int), m ≤ l.foldl (stepT p) m ∧ ∀ e ∈ l, ovE p e = true → e.stamp ≤ l.foldl (stepT p) m
  | [], m => ⟨Int.le_refl _, fun e h => by cases h⟩
  | a :: l, m => by
    obtain ⟨h1, h2⟩ := fold_ge p l (stepT p m a)
    have hm : m ≤ stepT p m a := by unfold stepT; split <;> omega
    refine ⟨Int.le_trans hm h1, fun e he ho => ?_⟩
    rcases List.mem_cons.1 he with rfl | he
    · refine Int.le_trans ?_ h1
      unfold stepT
      split
      · omega
      · next hc => simp [ho] at hc; exact hc
    · exact h2 e he ho
theorem fold_le (p : ByteArray) (k : Int) : ∀ (l : List EnL) (m : Int), m ≤ k → (∀ e ∈ l, e.stamp ≤ k) → l.foldl (stepT p) m ≤ k
  | [], m, h, _ => h
  | a :: l, m, h, ha => fold_le p k l (stepT p m a) (by unfold stepT; split; exact ha a (by simp); exact h) (fun e he => ha e (by simp [he]))
theorem top_ge (l : List EnL) (p : ByteArray) : 0 ≤ topE l p ∧ ∀ e ∈ l, ovE p e = true → e.stamp ≤ topE l p := fold_ge p l 0
theorem top_le {l : List EnL} (p : ByteArray) {k : Int} (h0 : 0 ≤ k) (h : ∀ e ∈ l, e.stamp ≤ k) : topE l p ≤ k := fold_le p k l 0 h0 h
theorem cnt_set (first : Int) : ∀ (cs : CnL) (p q : ByteArray) (n : Int), cntE first (setC cs p n) q = if p = q then n else cntE first cs q
  | [], p, q, n => by
    unfold setC cntE
    by_cases h : p = q <;> simp [h]
  | c :: cs, p, q, n => by
    have ih := cnt_set first cs p q n
    unfold cntE at ih ⊢
    unfold setC
    by_cases h : c.1 = p
    · rw [if_pos h]
      by_cases h2 : p = q
      · simp [h2]
      · simp [h2, h]
    · rw [if_neg h]
      by_cases h2 : c.1 = q
      · have : ¬ p = q := fun e => h (by rw [h2, e])
        simp [h2, this]
      · rw [List.find?_cons_of_neg (by simpa using h2), ih]
        by_cases h3 : p = q
        · simp [h3]
        · rw [if_neg h3, if_neg h3, List.find?_cons_of_neg (by simpa using h2)]
theorem mem_setC {p : ByteArray} {n : Int} : ∀ {cs : CnL} {c : ByteArray × Int}, c ∈ setC cs p n → c = (p, n) ∨ c ∈ cs
  | [], c, h => by unfold setC at h; simp at h; exact .inl h
  | d :: cs, c, h => by
    unfold setC at h
    split at h
    · rcases List.mem_cons.1 h with rfl | h
      · exact .inl rfl
      · exact .inr (by simp [h])
    · rcases List.mem_cons.1 h with rfl | h
      · exact .inr (by simp)
      · rcases mem_setC h with h | h
        · exact .inl h
        · exact .inr (by simp [h])
theorem setC_dist {p : ByteArray} {n : Int} : ∀ {cs : CnL}, (cs.Pairwise fun a b => ¬ a.1 = b.1) → (setC cs p n).Pairwise fun a b => ¬ a.1 = b.1
  | [], _ => by unfold setC; exact List.pairwise_singleton _ _
  | c :: cs, h => by
    rw [List.pairwise_cons] at h
    unfold setC
    split
    · next hc => rw [List.pairwise_cons]; exact ⟨fun b hb => by rw [← hc]; exact h.1 b hb, h.2⟩
    · next hc =>
      rw [List.pairwise_cons]
      refine ⟨fun b hb => ?_, setC_dist h.2⟩
      rcases mem_setC hb with rfl | hb
      · exact hc
      · exact h.1 b hb
theorem cnt_first (first : Int) {cs : CnL} (h : ∀ c ∈ cs, first < c.2) (p : ByteArray) : first ≤ cntE first cs p := by
  unfold cntE
  cases hf : cs.find? (fun c => decide (c.1 = p)) with
  | none => exact Int.le_refl _
  | some c => have := h c (List.mem_of_find?_eq_some hf); simp; omega
theorem GoodK.cnt {first : Int} {l : List EnL} {cs : CnL} (h : GoodK first l cs) (p : ByteArray) : first ≤ cntE first cs p := cnt_first first (fun c hc => (h.cok c hc).2.1) p
theorem GoodK.cnt_u {first : Int} {l : List EnL} {cs : CnL} (h : GoodK first l cs) (p : ByteArray) : IsUk (cntE first cs p) := by
  have h1 := h.cnt p
  have h0 := h.hf
  unfold IsUk at *
  refine ⟨by omega, ?_⟩
  unfold cntE
  cases hf : cs.find? (fun c => decide (c.1 = p)) with
  | none => exact h0.2
  | some c => have := (h.cok c (List.mem_of_find?_eq_some hf)).2.2; simp; omega
theorem may_ok {first : Int} {l : List EnL} {cs : CnL} {p : ByteArray} {u : Int} {f : ByteArray} {mode : Int} (h : mayE first l cs p u f mode = 0) :
    right (L p) = true ∧ (mode = 1 ∨ mode = 2) ∧ findE l p u f = none ∧ heldE l u f < 64 ∧ cntE first cs p < 9223372036854775807 := by
  unfold mayE at h
  split at h
  · next hr =>
    unfold rightE at hr
    simp at hr
    split at h
    · omega
    · next hs =>
      split at h
      · omega
      · split at h
        · omega
        · exact ⟨hr.1, hr.2, by simpa using hs, by omega, by omega⟩
  · omega
theorem size_right {p : ByteArray} (h : right (L p) = true) : p.size ≤ 64 := by rw [← L_length]; exact (right_iff.1 h).1
theorem GoodK.add {first : Int} {l : List EnL} {cs : CnL} (h : GoodK first l cs) {p : ByteArray} {u : Int} {f : ByteArray} {mode : Int} (hm : mayE first l cs p u f mode = 0) (hu : IsUk u) (hf : OkK f) :
    GoodK first (l ++ [addE first l cs p u f mode]) (setC cs p (cntE first cs p + 1)) := by
  obtain ⟨h1, h2, h3, h4, h5⟩ := may_ok hm
  have hno := findE_none h3
  have hc := h.cnt p
  have hsz := size_right h1
  have hmem : ∀ e ∈ l ++ [addE first l cs p u f mode], e ∈ l ∨ e = addE first l cs p u f mode := fun e he => by
    rcases List.mem_append.1 he with he | he
    · exact .inl he
    · simp at he; exact .inr he
  have hge := top_ge l p
  refine ⟨?_, ?_, ?_, ?_, ?_, ?_, setC_dist h.cdist, ?_, h.hf⟩
  · intro e he
    rcases hmem e he with he | rfl
    · exact h.keys e he
    · exact ⟨hu, by unfold OkK; show p.size ≤ _; omega, hf⟩
  · rw [List.pairwise_append]
    refine ⟨h.dist, List.pairwise_singleton _ _, fun a ha b hb => ?_⟩
    simp at hb
    subst hb
    exact hno a ha
  · intro e he
    rcases hmem e he with he | rfl
    · exact h.ok e he
    · refine ⟨h1, h2, ?_, ?_, ?_⟩
      · show 1 ≤ topE l p + 1; omega
      · show first < cntE first cs p + 1; omega
      · show cntE first cs p + 1 ≤ _; omega
  · rw [List.pairwise_append]
    refine ⟨h.ord, List.pairwise_singleton _ _, fun a ha b hb hov => ?_⟩
    simp at hb
    subst hb
    have := hge.2 a ha hov
    show a.stamp < topE l p + 1
    omega
  · rw [List.pairwise_append]
    refine ⟨h.seq, List.pairwise_singleton _ _, fun a ha b hb hp => ?_⟩
    simp at hb
    subst hb
    have := h.top a ha
    have e : a.path = p := hp
    rw [e] at this
    show a.n < cntE first cs p + 1
    omega
  · intro e he
    rw [cnt_set]
    rcases hmem e he with he | rfl
    · split
      · next hp => have := h.top e he; rw [← hp] at this; omega
      · exact h.top e he
    · show cntE first cs p + 1 ≤ if p = p then cntE first cs p + 1 else _
      rw [if_pos rfl]; exact Int.le_refl _
  · intro c hc'
    rcases mem_setC hc' with rfl | hc'
    · exact ⟨h1, by show first < cntE first cs p + 1; omega, by show cntE first cs p + 1 ≤ _; omega⟩
    · exact h.cok c hc'
end Go.Proofs.YtgjbhlianlbflaaGreat
