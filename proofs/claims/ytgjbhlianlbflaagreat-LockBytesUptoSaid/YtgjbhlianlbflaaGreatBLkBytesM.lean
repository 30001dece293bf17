/-
  A book's bytes tell it: its entries, its counters; Same of any bytes.
-/
import Derived.Test.YtgjbhlianlbflaaGreatBLkPut
import Derived.Test.YtgjbhlianlbflaaGreatBRSame
namespace Go.Proofs.YtgjbhlianlbflaaGreat
open Go.ChangeShapes Go.WideShapes Go.ChangeAt Go.RowKit Go.Maps Go.WideMaps
set_option linter.unusedVariables false
set_option linter.unusedSimpArgs false
theorem lkshort_inj {a b : Nat} {x y : List Nat} (ha : a < 18446744073709551616) (hb : b < 18446744073709551616) (h : shortN a ++ x = shortN b ++ y) : a = b ∧ x = y := by
  have h1 := readN_short a x ha
  rw [h, readN_short b y hb] at h1
  simp only [Prod.mk.injEq] at h1
  have e : b = a := h1.1
  subst e
  exact ⟨rfl, List.append_cancel_left h⟩
theorem lkfixed_inj {a b : Nat} {x y : List Nat} (ha : a < 18446744073709551616) (hb : b < 18446744073709551616) (h : bytesN a 8 ++ x = bytesN b 8 ++ y) : a = b ∧ x = y := by
  obtain ⟨h1, h2⟩ := List.append_inj h (by rw [bytesN_len, bytesN_len])
  refine ⟨?_, h2⟩
  have := congrArg numN h1
  rw [numN_bytesN, numN_bytesN] at this
  have e : (256 : Nat) ^ 8 = 18446744073709551616 := by decide
  rw [e, Nat.mod_eq_of_lt ha, Nat.mod_eq_of_lt hb] at this
  exact this
theorem lktext_inj {a b : ByteArray} {x y : List Nat} (ha : a.size < 18446744073709551616) (hb : b.size < 18446744073709551616) (h : shortN a.size ++ (bytesOfS a ++ x) = shortN b.size ++ (bytesOfS b ++ y)) : a = b ∧ x = y := by
  obtain ⟨h1, h2⟩ := lkshort_inj ha hb h
  obtain ⟨h3, h4⟩ := List.append_inj h2 (by rw [bytesOfS_len, bytesOfS_len, h1])
  exact ⟨by rw [← strN_bytesOfS a, ← strN_bytesOfS b, h3], h4⟩
def InE (e : EnL) : Prop := OkK e.path ∧ OkK e.foot ∧ IsUk e.num ∧ 0 ≤ e.mode ∧ (0 ≤ e.n ∧ e.n ≤ 9223372036854775807) ∧ 0 ≤ e.stamp ∧ e.stamp ≤ 9223372036854775807
theorem encE_inj {a b : EnL} (ha : InE a) (hb : InE b) {x y : List Nat} (h : encE a ++ x = encE b ++ y) : a = b ∧ x = y := by
  obtain ⟨a1, a2, a3, a4, a5, a6, a7⟩ := ha
  obtain ⟨b1, b2, b3, b4, b5, b6, b7⟩ := hb
  unfold encE at h
  simp only [List.append_assoc] at h
  unfold OkK at a1 a2 b1 b2
  unfold IsUk at a3 b3
  obtain ⟨c1, h⟩ := lktext_inj (by omega) (by omega) h
  obtain ⟨c2, h⟩ := lkfixed_inj (by omega) (by omega) h
  obtain ⟨c3, h⟩ := lktext_inj (by omega) (by omega) h
  simp only [List.cons_append, List.nil_append, List.cons.injEq] at h
  obtain ⟨c4, h⟩ := h
  obtain ⟨c5, h⟩ := lkfixed_inj (by omega) (by omega) h
  obtain ⟨c6, h⟩ := lkshort_inj (by omega) (by omega) h
  refine ⟨?_, h⟩
  obtain ⟨p, u, f, m, n, s⟩ := a
  obtain ⟨p', u', f', m', n', s'⟩ := b
  dsimp only at *
  subst c1 c3
  have e2 : u = u' := by omega
  have e4 : m = m' := by omega
  have e5 : n = n' := by omega
  have e6 : s = s' := by omega
  subst e2 e4 e5 e6
  rfl
theorem lkflat_inj {α : Type} {f g : α → List Nat} {R : α → Prop} {Q : α → Prop} (hin : ∀ a b x y, R a → R b → f a ++ x = g b ++ y → a = b ∧ x = y ∧ Q a) : ∀ {l m : List α} {x y : List Nat}, (∀ a ∈ l, R a) → (∀ a ∈ m, R a) → l.length = m.length → l.flatMap f ++ x = m.flatMap g ++ y → l = m ∧ x = y ∧ ∀ a ∈ l, Q a
  | [], [], x, y, _, _, _, h => ⟨rfl, by simpa using h, fun a ha => by cases ha⟩
  | [], b :: m, x, y, _, _, hl, _ => by simp at hl
  | a :: l, [], x, y, _, _, hl, _ => by simp at hl
  | a :: l, b :: m, x, y, hR, hR2, hl, h => by
    rw [List.flatMap_cons, List.flatMap_cons, List.append_assoc, List.append_assoc] at h
    obtain ⟨e, h2, hq⟩ := hin a b _ _ (hR a (by simp)) (hR2 b (by simp)) h
    obtain ⟨e2, h3, hq2⟩ := lkflat_inj hin (fun z hz => hR z (by simp [hz])) (fun z hz => hR2 z (by simp [hz])) (by simpa using hl) h2
    subst e e2
    exact ⟨rfl, h3, fun z hz => by rcases List.mem_cons.1 hz with rfl | hz; exact hq; exact hq2 z hz⟩
theorem encC_inj {cs cs' : CnL} (hv : ∀ p, 0 ≤ valC cs p ∧ valC cs p ≤ 9223372036854775807) (hv' : ∀ p, 0 ≤ valC cs' p ∧ valC cs' p ≤ 9223372036854775807) {p q : ByteArray} (hp : OkK p) (hq : OkK q) {x y : List Nat} (h : encC cs p ++ x = encC cs' q ++ y) : p = q ∧ x = y ∧ valC cs p = valC cs' p := by
  unfold encC at h
  simp only [List.append_assoc] at h
  unfold OkK at hp hq
  obtain ⟨c1, h⟩ := lktext_inj (by omega) (by omega) h
  subst c1
  have h1 := hv p
  have h2 := hv' p
  obtain ⟨c2, h⟩ := lkfixed_inj (by omega) (by omega) h
  exact ⟨rfl, h, by omega⟩
theorem valC_in {first : Int} {l : List EnL} {cs : CnL} (h : GoodK first l cs) (p : ByteArray) : 0 ≤ valC cs p ∧ valC cs p ≤ 9223372036854775807 := by
  unfold valC
  cases hf : cs.find? (fun c => decide (c.1 = p)) with
  | none => simp
  | some c =>
    have h1 := h.cok c (List.mem_of_find?_eq_some hf)
    have h2 := h.hf
    unfold IsUk at h2
    simp
    omega
theorem GoodK.inE {first : Int} {l : List EnL} {cs : CnL} (h : GoodK first l cs) (hs : ∀ e ∈ l, e.stamp ≤ 1000000) {e : EnL} (he : e ∈ l) : InE e := by
  have h1 := h.keys e he
  have h2 := h.ok e he
  have h3 := h.hf
  have h4 := hs e he
  unfold IsUk at h3
  exact ⟨h1.2.1, h1.2.2, h1.1, by omega, by omega, by omega, by omega⟩
theorem encB_inj {first : Int} {l l' : List EnL} {cs cs' : CnL} (h : GoodK first l cs) (h' : GoodK first l' cs') (hs : ∀ e ∈ l, e.stamp ≤ 1000000) (hs' : ∀ e ∈ l', e.stamp ≤ 1000000) {ds ds' : List EnL} {ps ps' : List ByteArray} (hd : ds.Perm l) (hd' : ds'.Perm l') (hp : ps.Perm (cs.map (·.1))) (hp' : ps'.Perm (cs'.map (·.1)))
    (hl : ds.length < 18446744073709551616) (hl' : ds'.length < 18446744073709551616) (hm : ps.length < 18446744073709551616) (hm' : ps'.length < 18446744073709551616) (he : encB cs ds ps = encB cs' ds' ps') : ds = ds' ∧ ps = ps' ∧ ∀ p ∈ ps, valC cs p = valC cs' p := by
  have okp : ∀ {cs : CnL} {ps : List ByteArray}, (∀ c ∈ cs, right (L c.1) = true) → ps.Perm (cs.map (·.1)) → ∀ p ∈ ps, OkK p := fun hr hp p hpm => by
    obtain ⟨c, hc, rfl⟩ := List.mem_map.1 (hp.mem_iff.1 hpm)
    have := size_right (hr c hc)
    unfold OkK
    omega
  unfold encB at he
  simp only [List.append_assoc] at he
  obtain ⟨e1, he⟩ := lkshort_inj hl hl' he
  obtain ⟨e2, he, _⟩ := lkflat_inj (Q := fun _ => True) (R := InE) (fun a b x y ra rb hh => ⟨(encE_inj ra rb hh).1, (encE_inj ra rb hh).2, trivial⟩) (fun a ha => h.inE hs (hd.mem_iff.1 ha)) (fun a ha => h'.inE hs' (hd'.mem_iff.1 ha)) e1 he
  obtain ⟨e3, he⟩ := lkshort_inj hm hm' he
  have he2 : ps.flatMap (encC cs) ++ [] = ps'.flatMap (encC cs') ++ [] := by rw [he]
  obtain ⟨e4, _, e5⟩ := lkflat_inj (R := OkK) (Q := fun p => valC cs p = valC cs' p) (fun a b x y ra rb hh => encC_inj (valC_in h) (valC_in h') ra rb hh) (okp (fun c hc => (h.cok c hc).1) hp) (okp (fun c hc => (h'.cok c hc).1) hp') e3 he2
  exact ⟨e2, e4, e5⟩
theorem risesP_ext : ∀ {a b : List ByteArray}, (∀ e ∈ a, right (L e) = true) → RisesP a → RisesP b → (∀ x, x ∈ a ↔ x ∈ b) → a = b
  | [], [], _, _, _, _ => rfl
  | [], y :: b, _, _, _, h => absurd ((h y).2 (by simp)) (by simp)
  | x :: a, [], _, _, _, h => absurd ((h x).1 (by simp)) (by simp)
  | x :: a, y :: b, hr, ha, hb, h => by
    have hrb : ∀ e ∈ y :: b, right (L e) = true := fun e he => hr e ((h e).2 he)
    unfold RisesP at ha hb
    rw [List.pairwise_cons] at ha hb
    have e : x = y := by
      rcases List.mem_cons.1 ((h x).1 (by simp)) with h1 | h1
      · exact h1
      · rcases List.mem_cons.1 ((h y).2 (by simp)) with h2 | h2
        · exact h2.symm
        · have h3 := ltp_trans (hr x (by simp)) (hrb y (by simp)) (hr x (by simp)) (ha.1 y h2) (hb.1 x h1)
          exact absurd h3 (cmpOf_irr _)
    subst e
    congr 1
    refine risesP_ext (fun e he => hr e (by simp [he])) ha.2 hb.2 fun z => ?_
    constructor
    · intro hz
      rcases List.mem_cons.1 ((h z).1 (by simp [hz])) with h1 | h1
      · subst h1; exact absurd (ha.1 z hz) (cmpOf_irr _)
      · exact h1
    · intro hz
      rcases List.mem_cons.1 ((h z).2 (by simp [hz])) with h1 | h1
      · subst h1; exact absurd (hb.1 z hz) (cmpOf_irr _)
      · exact h1
def sameE (l' : List EnL) (e : EnL) : Bool := (findE l' e.path e.num e.foot).isSome && eqE (getE l' e.path e.num e.foot) e
def sameC (cs' : CnL) (c : ByteArray × Int) : Bool := cs'.any fun m => decide (m.1 = c.1) && decide (m.2 = c.2)
def alikeB (l l' : List EnL) (cs cs' : CnL) : Bool := ((decide (l.length = l'.length) && decide (cs.length = cs'.length)) && l.all (sameE l')) && cs.all (sameC cs')
theorem sub_perm {α : Type} : ∀ {a b : List α}, a.Nodup → a.length = b.length → (∀ x ∈ a, x ∈ b) → a.Perm b
  | [], b, _, hl, _ => by
    have : b = [] := List.eq_nil_of_length_eq_zero (by simpa using hl.symm)
    rw [this]
  | x :: a, b, hn, hl, hs => by
    obtain ⟨s, t, e⟩ := List.append_of_mem (hs x (by simp))
    subst e
    rw [List.nodup_cons] at hn
    refine List.Perm.trans ?_ List.perm_middle.symm
    refine List.Perm.cons x (sub_perm hn.2 ?_ fun y hy => ?_)
    · simp only [List.length_cons, List.length_append] at hl ⊢
      omega
    · have hne : y ≠ x := fun e => by subst e; exact hn.1 hy
      have := hs y (by simp [hy])
      rcases List.mem_append.1 this with h | h
      · exact List.mem_append_left _ h
      · rcases List.mem_cons.1 h with h | h
        · exact absurd h hne
        · exact List.mem_append_right _ h
theorem lkflat_congr {α β : Type} {f g : α → List β} : ∀ {l : List α}, (∀ x ∈ l, f x = g x) → l.flatMap f = l.flatMap g
  | [], _ => rfl
  | x :: l, h => by rw [List.flatMap_cons, List.flatMap_cons, h x (by simp), lkflat_congr (fun y hy => h y (by simp [hy]))]
theorem bytes_alike {first : Int} {l l' : List EnL} {cs cs' : CnL} (h : GoodK first l cs) (h' : GoodK first l' cs') (hs : ∀ e ∈ l, e.stamp ≤ 1000000) (hs' : ∀ e ∈ l', e.stamp ≤ 1000000) (hz : l.length ≤ 1000000 ∧ l'.length ≤ 1000000 ∧ cs.length ≤ 1000000 ∧ cs'.length ≤ 1000000)
    {ds ds' : List EnL} {ps ps' : List ByteArray} (hr : RisesE ds) (hr' : RisesE ds') (hq : RisesP ps) (hq' : RisesP ps') (hd : ds.Perm l) (hd' : ds'.Perm l') (hp : ps.Perm (cs.map (·.1))) (hp' : ps'.Perm (cs'.map (·.1))) :
    encB cs ds ps = encB cs' ds' ps' ↔ alikeB l l' cs cs' = true := by
  have nd : ∀ {cs : CnL}, cs.Pairwise (fun a b => ¬ a.1 = b.1) → cs.Nodup := fun h => h.imp (fun {a b} hab e => hab (by rw [e]))
  have e1 := hd.length_eq
  have e2 := hd'.length_eq
  have e3 := hp.length_eq
  have e4 := hp'.length_eq
  rw [List.length_map] at e3 e4
  unfold alikeB
  simp only [Bool.and_eq_true, decide_eq_true_eq, List.all_eq_true]
  constructor
  · intro he
    obtain ⟨f1, f2, f3⟩ := encB_inj h h' hs hs' hd hd' hp hp' (by omega) (by omega) (by omega) (by omega) he
    subst f1 f2
    have hpm : l.Perm l' := hd.symm.trans hd'
    refine ⟨⟨⟨by omega, by omega⟩, fun e hel => ?_⟩, fun c hc => ?_⟩
    · have := h'.find (hpm.mem_iff.1 hel)
      unfold sameE getE
      rw [this]
      simp [show eqE _ _ = true from eqE_iff.2 rfl]
    · have hcp : c.1 ∈ ps := hp.mem_iff.2 (List.mem_map.2 ⟨c, hc, rfl⟩)
      obtain ⟨d, hd1, hd2, hd3⟩ := valC_of (hp.mem_iff.1 hcp)
      obtain ⟨d', hd1', hd2', hd3'⟩ := valC_of (hp'.mem_iff.1 hcp)
      have hcd : c = d := by
        obtain ⟨i, hi, rfl⟩ := List.getElem_of_mem hc
        obtain ⟨j, hj, rfl⟩ := List.getElem_of_mem hd1
        have hpw := List.pairwise_iff_getElem.1 h.cdist
        rcases Nat.lt_trichotomy i j with hij | hij | hij
        · exact absurd hd2.symm (hpw i j hi hj hij)
        · subst hij; rfl
        · exact absurd hd2 (hpw j i hj hi hij)
      have hf3 := f3 c.1 hcp
      unfold sameC
      rw [List.any_eq_true]
      refine ⟨d', hd1', ?_⟩
      rw [hd3, hd3', ← hcd] at hf3
      simp [hd2', ← hf3]
  · rintro ⟨⟨⟨g1, g2⟩, g3⟩, g4⟩
    have hsub : ∀ e ∈ l, e ∈ l' := fun e hel => by
      have := g3 e hel
      unfold sameE at this
      simp only [Bool.and_eq_true] at this
      obtain ⟨x, hx⟩ := Option.isSome_iff_exists.1 this.1
      have h2 := this.2
      unfold getE at h2
      rw [hx] at h2
      have := eqE_iff.1 h2
      simp at this
      subst this
      exact (findE_mem hx).1
    have hsubc : ∀ c ∈ cs, c ∈ cs' := fun c hc => by
      have := g4 c hc
      unfold sameC at this
      obtain ⟨d, hd1, hd2⟩ := List.any_eq_true.1 this
      simp only [Bool.and_eq_true, decide_eq_true_eq] at hd2
      have : d = c := Prod.ext hd2.1 hd2.2
      subst this
      exact hd1
    have hpl : l.Perm l' := sub_perm h.nodup g1 hsub
    have hpc : cs.Perm cs' := sub_perm (nd h.cdist) g2 hsubc
    have d1 : ds = ds' := risesE_ext (fun e he => (h.ok e (hd.mem_iff.1 he)).1) hr hr' (fun x => by rw [hd.mem_iff, hd'.mem_iff, hpl.mem_iff])
    have d2 : ps = ps' := risesP_ext (fun e he => by obtain ⟨c, hc, rfl⟩ := List.mem_map.1 (hp.mem_iff.1 he); exact (h.cok c hc).1) hq hq' (fun x => by rw [hp.mem_iff, hp'.mem_iff, (hpc.map _).mem_iff])
    subst d1 d2
    have d3 : ps.flatMap (encC cs) = ps.flatMap (encC cs') := by
      have : ∀ p ∈ ps, encC cs p = encC cs' p := fun p hpp => by
        obtain ⟨c, hc1, hc2, hc3⟩ := valC_of (hp.mem_iff.1 hpp)
        obtain ⟨d, hd1, hd2, hd3⟩ := valC_of (hp'.mem_iff.1 hpp)
        have hcd : c = d := by
          have hc1' := hsubc c hc1
          obtain ⟨i, hi, rfl⟩ := List.getElem_of_mem hc1'
          obtain ⟨j, hj, rfl⟩ := List.getElem_of_mem hd1
          have hpw := List.pairwise_iff_getElem.1 h'.cdist
          rcases Nat.lt_trichotomy i j with hij | hij | hij
          · exact absurd (hc2.trans hd2.symm) (hpw i j hi hj hij)
          · subst hij; rfl
          · exact absurd (hd2.trans hc2.symm) (hpw j i hj hi hij)
        unfold encC
        rw [hc3, hd3, hcd]
      exact lkflat_congr this
    unfold encB
    rw [d3]
set_option maxRecDepth 100000 in
set_option maxHeartbeats 400000 in
theorem lksame_false (A B : Option Addr) (a b : List Nat) (n m ca cb : Nat) (w : World) (hl : n ≤ 9223372036854775807) (hl2 : m ≤ 9223372036854775807) (ha : a.length = n) (hb : b.length = m) (hne : a ≠ b) (hA : Sees .u8 w A a) (hB : Sees .u8 w B b) :
    Calls Tryz.prog 24 #[.slice A n ca, .slice B m cb] w fun e w' => e = .returned (.bool false) ∧ Below w.heap.size w w' := by
  have HA := hid hA
  have HB := hid hB
  have Ha := hid ha
  have Hb := hid hb
  have HNE := hid hne
  clear hA hB ha hb hne
  by_cases hnm : n = m
  · subst hnm
    go_enter Tryz.func24, Tryz.ntmps24
    go_wp2
    go_loopw [5] (fun i wr => ∃ k : Nat, k ≤ n ∧ i = .int .i64 k ∧ a.take k = b.take k ∧ Below w.heap.size w wr) (fun i _ => n - (intOf i).toNat)
    case atStart => exact ⟨0, Nat.zero_le _, rfl, rfl, Below.refl _ _⟩
    case round =>
      obtain ⟨k, hk, rfl, htk, hb⟩ := hrel
      have HTK := hid htk
      clear htk
      by_cases hlt : k < n
      · have hka : k < a.length := by rw [Ha.out]; exact hlt
        have hkb : k < b.length := by rw [Hb.out]; exact hlt
        obtain ⟨g, o, rfl, _, hc⟩ := (HA.out.below hb) k a[k] (List.getElem?_eq_getElem hka)
        obtain ⟨g', o', rfl, _, hc'⟩ := (HB.out.below hb) k b[k] (List.getElem?_eq_getElem hkb)
        have HT : Hid (a[k] = b[k] → a.take (k + 1) = b.take (k + 1)) := hid (fun h => by rw [List.take_succ_eq_append_getElem hka, List.take_succ_eq_append_getElem hkb, HTK.out, h])
        generalize a[k] = x at *
        generalize b[k] = y at *
        by_cases hxy : x = y
        · have HX := hid (HT.out hxy)
          obtain rfl := hxy
          clear HT
          go_wp2
          go_quiet (fail)
          go_wp2
          go_roundw
          case rel => exact ⟨k + 1, by omega, by go_num, HX.out, below_drewN hb _⟩
          case measure => simp [intOf]; omega
        · have hxy2 : ¬ (x : Int) = (y : Int) := by omega
          clear HT hxy
          go_wp2
          go_quiet (fail)
          go_wp2
          go_ret
          exact ⟨rfl, below_drewN hb _⟩
      · refine absurd ?_ HNE.out
        have := HTK.out
        rwa [List.take_of_length_le (by rw [Ha.out]; omega), List.take_of_length_le (by rw [Hb.out]; omega)] at this
  · have hnm2 : ¬ (n : Int) = (m : Int) := by omega
    go_enter Tryz.func24, Tryz.ntmps24
    go_wp2
    go_ret
    exact ⟨rfl, Below.refl _ _⟩
theorem lksame_any (A B : Option Addr) (a b : List Nat) (n m ca cb : Nat) (w : World) (hl : n ≤ 9223372036854775807) (hl2 : m ≤ 9223372036854775807) (ha : a.length = n) (hb : b.length = m) (hA : Sees .u8 w A a) (hB : Sees .u8 w B b) (t : Bool) (ht : a = b ↔ t = true) :
    Calls Tryz.prog 24 #[.slice A n ca, .slice B m cb] w (Asks (.bool t) w) := by
  cases t with
  | true =>
    have e := ht.2 rfl
    subst e
    have hnm : n = m := ha.symm.trans hb
    subst hnm
    exact same_as A B a n ca cb w hl ha hA hB
  | false => exact lksame_false A B a b n m ca cb w hl hl2 ha hb (fun e => by have := ht.1 e; cases this) hA hB
end Go.Proofs.YtgjbhlianlbflaaGreat
