/-
  The document's count: a path's counter, kept.
-/
import Derived.Test.YtgjbhlianlbflaaGreatBLkThose
import Derived.Test.YtgjbhlianlbflaaGreatBPRefA
import Derived.Laws.AppendOwnNone
namespace Go.Proofs.YtgjbhlianlbflaaGreat
open Go.ChangeShapes Go.WideShapes Go.ChangeAt Go.RowKit Go.Maps Go.WideMaps
set_option linter.unusedVariables false
set_option linter.unusedSimpArgs false
def cntL (c : ByteArray × Int) : List Value := [.string c.1, .int .u64 c.2]
def SeesC (w : World) (A : Option Addr) (l : CnL) : Prop := ∀ (j : Nat) (y : ByteArray × Int), l[j]? = some y → ∃ b o, A = some ⟨b, o, none⟩ ∧ b < w.heap.size ∧ w.rangeAt b (o + j * 2) (cntL y)
theorem SeesC.nil (w : World) (A : Option Addr) : SeesC w A [] := fun j x h => by simp at h
theorem SeesC.below {w w' : World} {A : Option Addr} {l : CnL} (h : SeesC w A l) (hb : Below w.heap.size w w') : SeesC w' A l := fun j x hj => by
  obtain ⟨b, o, h1, h2, h3⟩ := h j x hj
  exact ⟨b, o, h1, Nat.lt_of_lt_of_le h2 hb.size, fun i v hv => (hb.cell (p := ⟨b, o + j * 2 + i, none⟩) h2).trans (h3 i v hv)⟩
def BareK (S : Nat → Prop) (w : World) : Prop := ∀ i o, S i → w.cell? ⟨i, o, none⟩ = none
theorem turn_cell {S : Nat → Prop} {w w' : World} (t : TurnsD S w w') (hS : BareK S w) {b o : Nat} {v : Value} (hb : b < w.heap.size) (h : w.cell? ⟨b, o, none⟩ = some v) : w'.cell? ⟨b, o, none⟩ = some v := by
  by_cases hs : S b
  · rw [hS b o hs] at h; cases h
  · have := t.block b hb hs
    unfold World.cell? at h ⊢
    rw [this]
    exact h
theorem SeesE.turns {S : Nat → Prop} {w w' : World} {A : Option Addr} {l : List EnL} (h : SeesE w A l) (t : TurnsD S w w') (hS : BareK S w) : SeesE w' A l := fun j x hj => by
  obtain ⟨b, o, h1, h2, h3⟩ := h j x hj
  exact ⟨b, o, h1, Nat.lt_of_lt_of_le h2 t.size, fun i v hv => turn_cell t hS h2 (h3 i v hv)⟩
theorem SeesC.turns {S : Nat → Prop} {w w' : World} {A : Option Addr} {l : CnL} (h : SeesC w A l) (t : TurnsD S w w') (hS : BareK S w) : SeesC w' A l := fun j x hj => by
  obtain ⟨b, o, h1, h2, h3⟩ := h j x hj
  exact ⟨b, o, h1, Nat.lt_of_lt_of_le h2 t.size, fun i v hv => turn_cell t hS h2 (h3 i v hv)⟩
theorem EsM.bare {w : World} {d n : Nat} {l : List EnL} (h : EsM w d n l) (o : Nat) : w.cell? ⟨d, o, none⟩ = none := by
  obtain ⟨D, ⟨es, clock, hb, _⟩, _⟩ := h
  unfold World.cell?
  rw [hb]
theorem CsM.bare {w : World} {d n : Nat} {cs : CnL} (h : CsM w d n cs) (o : Nat) : w.cell? ⟨d, o, none⟩ = none := by
  obtain ⟨D, ⟨es, clock, hb, _⟩, _⟩ := h
  unfold World.cell?
  rw [hb]
theorem BkK.bare {w : World} {base b de dc n : Nat} {first : Int} {l : List EnL} {cs : CnL} (h : BkK w base b de dc n first l cs) : BareK (OwnK de dc) w := fun i o hi => by
  rcases hi with rfl | rfl
  · exact h.es.bare o
  · exact h.ct.bare o
def DocK (w : World) (v : Value) (first : Int) (l : List EnL) (cs : CnL) : Prop :=
  ∃ A c A' c', v = .agg #[.int .u64 first, .slice A (l.length : Nat) c, .slice A' (cs.length : Nat) c'] ∧ ((A = none → c = 0) ∧ l.length ≤ c) ∧ ((A' = none → c' = 0) ∧ cs.length ≤ c') ∧ SeesE w A l ∧ SeesC w A' cs
theorem DocK.below {w w' : World} {v : Value} {first : Int} {l : List EnL} {cs : CnL} (h : DocK w v first l cs) (hb : Below w.heap.size w w') : DocK w' v first l cs := by
  obtain ⟨A, c, A', c', h1, h2, h3, h4, h5⟩ := h
  exact ⟨A, c, A', c', h1, h2, h3, h4.below hb, h5.below hb⟩
theorem DocK.turns {S : Nat → Prop} {w w' : World} {v : Value} {first : Int} {l : List EnL} {cs : CnL} (h : DocK w v first l cs) (t : TurnsD S w w') (hS : BareK S w) : DocK w' v first l cs := by
  obtain ⟨A, c, A', c', h1, h2, h3, h4, h5⟩ := h
  exact ⟨A, c, A', c', h1, h2, h3, h4.turns t hS, h5.turns t hS⟩
theorem DocK.nil (w : World) (first : Int) : DocK w (.agg #[.int .u64 first, .slice none 0 0, .slice none 0 0]) first [] [] :=
  ⟨none, 0, none, 0, rfl, ⟨fun _ => rfl, Nat.le_refl _⟩, ⟨fun _ => rfl, Nat.le_refl _⟩, SeesE.nil _ _, SeesC.nil _ _⟩
def idxE (l : List EnL) (p : ByteArray) (u : Int) (f : ByteArray) : Int := if (findE l p u f).isSome = true then ((l.findIdx (isE p u f) : Nat) : Int) else -1
theorem idx_at {l : List EnL} {p : ByteArray} {u : Int} {f : ByteArray} {j : Nat} {e : EnL} (hj : l[j]? = some e) (hno : ∀ i, i < j → ∀ q, l[i]? = some q → isE p u f q = false) (hp : isE p u f e = true) : idxE l p u f = (j : Int) ∧ findE l p u f = some e := by
  have hjl := (List.getElem?_eq_some_iff.1 hj).1
  have hje := (List.getElem?_eq_some_iff.1 hj).2
  have hf : findE l p u f = some e := by
    unfold findE
    rw [List.find?_eq_some_iff_getElem]
    refine ⟨hp, j, hjl, hje, fun i hi => ?_⟩
    have hil : i < l.length := by omega
    have := hno i hi l[i] (List.getElem?_eq_getElem hil)
    simp [this]
  refine ⟨?_, hf⟩
  unfold idxE
  rw [hf, if_pos (show (some e).isSome = true from rfl)]
  have : l.findIdx (isE p u f) = j := by
    rw [List.findIdx_eq hjl]
    refine ⟨by rw [hje]; exact hp, fun i hi => ?_⟩
    have hil : i < l.length := by omega
    have := hno i hi l[i] (List.getElem?_eq_getElem hil)
    simpa using this
  rw [this]
theorem idx_none {l : List EnL} {p : ByteArray} {u : Int} {f : ByteArray} (hno : ∀ (i : Nat) (q : EnL), l[i]? = some q → isE p u f q = false) : idxE l p u f = -1 ∧ findE l p u f = none := by
  have hf : findE l p u f = none := by
    unfold findE
    rw [List.find?_eq_none]
    intro q hq
    obtain ⟨i, hi, rfl⟩ := List.getElem_of_mem hq
    simp [hno i l[i] (List.getElem?_eq_getElem hi)]
  refine ⟨?_, hf⟩
  unfold idxE
  rw [hf]
  rfl
theorem no_step {l : List EnL} {q : EnL → Bool} {j : Nat} {e : EnL} (h : ∀ i, i < j → ∀ x, l[i]? = some x → q x = false) (hj : l[j]? = some e) (he : q e = false) : ∀ i, i < j + 1 → ∀ x, l[i]? = some x → q x = false := fun i hi x hx => by
  rcases (show i < j ∨ i = j by omega) with h1 | h1
  · exact h i h1 x hx
  · subst h1
    rw [hj] at hx
    injection hx with hx
    rw [← hx]
    exact he
set_option maxRecDepth 100000 in
set_option maxHeartbeats 1000000 in
theorem dlfind_any (v : Value) (first : Int) (l : List EnL) (cs : CnL) (p : ByteArray) (u : Int) (f : ByteArray) (w : World) (h : DocK w v first l cs) (hl : l.length ≤ 1000000) :
    Calls Tryz.prog 17 #[v, .string p, .int .u64 u, .string f] w (Asks (.int .i64 (idxE l p u f)) w) := by
  obtain ⟨A, c, A', c', rfl, hc, hc', hS, hS'⟩ := h
  have HS := hid hS
  obtain ⟨n, hn⟩ : ∃ n, l.length = n := ⟨_, rfl⟩
  have HN := hid hn
  rw [hn] at hl ⊢
  clear hS hS' hn
  go_enter Tryz.func17, Tryz.ntmps17
  go_upto_region 1 with fail
  obtain ⟨W, hW⟩ : ∃ W, w.alloc (.cells #[.int .u64 first, .slice A n c, .slice A' cs.length c'] 31) = W := ⟨_, rfl⟩
  rw [hW]
  obtain ⟨K0, KB⟩ := lone_new hW
  clear hW
  have HS1 := hid (HS.out.below KB.out)
  obtain ⟨k, hk⟩ : ∃ k, w.heap.size = k := ⟨_, rfl⟩
  rw [hk] at K0 KB ⊢
  have HK := hid hk
  have c1 : W.cell? ⟨k, 1, none⟩ = some (.slice A n c) := (K0.out.cell 1).trans rfl
  clear hk HS
  go_wp2_with fail
  go_loopw [9] (fun iv wr => ∃ j : Nat, iv = .int .i64 (j : Int) ∧ j ≤ n ∧ wr = W ∧ Hid (∀ i, i < j → ∀ q, l[i]? = some q → isE p u f q = false)) (fun iv _ => n - (intOf iv).toNat)
  case atStart => exact ⟨0, rfl, by omega, rfl, hid (fun i hi => absurd hi (Nat.not_lt_zero i))⟩
  case round =>
    obtain ⟨j, rfl, hj, rfl, HJ⟩ := hrel
    by_cases hlt : j < n
    · have hlt' : (j : Int) < (n : Int) := by omega
      obtain ⟨e, he⟩ : ∃ e, l[j]? = some e := ⟨_, List.getElem?_eq_getElem (by rw [HN.out]; exact hlt)⟩
      obtain ⟨b, o, hA, hb, hr⟩ := HS1.out j e he
      subst hA
      have HE := hid he
      have y0 : wr.cell? ⟨b, o + j * 6, none⟩ = some (.string e.path) := hr 0 _ rfl
      have y1 : wr.cell? ⟨b, o + j * 6 + 1, none⟩ = some (.int .u64 e.num) := hr 1 _ rfl
      have y2 : wr.cell? ⟨b, o + j * 6 + 2, none⟩ = some (.string e.foot) := hr 2 _ rfl
      clear hr he
      have qi : IntKind.i64.wrap ((j : Int) + 1) = ((j + 1 : Nat) : Int) := by rw [IntWalk.i64_in _ (by omega)]; omega
      by_cases hp : e.path = p
      · by_cases hu : e.num = u
        · by_cases hf : e.foot = f
          · have HF := hid (idx_at HE.out HJ.out (isE_iff.2 ⟨hp, hu, hf⟩)).1
            rw [hp] at y0
            rw [hu] at y1
            rw [hf] at y2
            clear hp hu hf
            go_wp2
            go_ret
            exact ⟨ret_num HF.out.symm, by rw [HK.out]; exact KB.out⟩
          · have HK2 := hid (no_step HJ.out HE.out (show isE p u f e = false by simp [isE, hf]))
            have hq := lkeq_text e.foot f
            rw [decide_eq_false hf] at hq
            rw [hp] at y0
            rw [hu] at y1
            clear hp hu
            go_wp2
            go_roundw
            case rel => exact ⟨j + 1, by push_cast; rfl, by omega, trivial, HK2⟩
            case measure => simp only [intOf]; omega
        · have HK2 := hid (no_step HJ.out HE.out (show isE p u f e = false by simp [isE, hu]))
          have hq : (e.num == u) = false := by simpa using hu
          rw [hp] at y0
          clear hp
          go_wp2
          go_roundw
          case rel => exact ⟨j + 1, by push_cast; rfl, by omega, trivial, HK2⟩
          case measure => simp only [intOf]; omega
      · have HK2 := hid (no_step HJ.out HE.out (show isE p u f e = false by simp [isE, hp]))
        have hq := lkeq_text e.path p
        rw [decide_eq_false hp] at hq
        go_wp2
        go_roundw
        case rel => exact ⟨j + 1, by push_cast; rfl, by omega, trivial, HK2⟩
        case measure => simp only [intOf]; omega
    · have hlt' : ¬ (j : Int) < (n : Int) := by omega
      have HF := hid (idx_none (l := l) (p := p) (u := u) (f := f) (fun i q hq => HJ.out i (by have := (List.getElem?_eq_some_iff.1 hq).1; have := HN.out; omega) q hq)).1
      go_wp2
      go_ret
      exact ⟨by rw [HF.out]; rfl, by rw [HK.out]; exact KB.out⟩
theorem cnt_at {first : Int} {cs : CnL} {p : ByteArray} {j : Nat} {e : ByteArray × Int} (hj : cs[j]? = some e) (hno : ∀ i, i < j → ∀ q : ByteArray × Int, cs[i]? = some q → ¬ q.1 = p) (hp : e.1 = p) : cntE first cs p = e.2 := by
  have hjl := (List.getElem?_eq_some_iff.1 hj).1
  have hje := (List.getElem?_eq_some_iff.1 hj).2
  have hf : cs.find? (fun c => decide (c.1 = p)) = some e := by
    rw [List.find?_eq_some_iff_getElem]
    refine ⟨by simpa using hp, j, hjl, hje, fun i hi => ?_⟩
    have hil : i < cs.length := by omega
    have := hno i hi cs[i] (List.getElem?_eq_getElem hil)
    simpa using this
  unfold cntE
  rw [hf]
  rfl
theorem cnt_none {first : Int} {cs : CnL} {p : ByteArray} (hno : ∀ (i : Nat) (q : ByteArray × Int), cs[i]? = some q → ¬ q.1 = p) : cntE first cs p = first := by
  have hf : cs.find? (fun c => decide (c.1 = p)) = none := by
    rw [List.find?_eq_none]
    intro q hq
    obtain ⟨i, hi, rfl⟩ := List.getElem_of_mem hq
    simpa using hno i cs[i] (List.getElem?_eq_getElem hi)
  unfold cntE
  rw [hf]
  rfl
set_option maxRecDepth 100000 in
set_option maxHeartbeats 1000000 in
theorem dlcounter_any (v : Value) (first : Int) (l : List EnL) (cs : CnL) (p : ByteArray) (w : World) (h : DocK w v first l cs) (hl : cs.length ≤ 1000000) :
    Calls Tryz.prog 15 #[v, .string p] w (Asks (.int .u64 (cntE first cs p)) w) := by
  obtain ⟨A, c, A', c', rfl, hc, hc', hS, hS'⟩ := h
  have HS := hid hS'
  obtain ⟨n, hn⟩ : ∃ n, cs.length = n := ⟨_, rfl⟩
  have HN := hid hn
  rw [hn] at hl ⊢
  clear hS hS' hn
  go_enter Tryz.func15, Tryz.ntmps15
  go_upto_region 1 with fail
  obtain ⟨W, hW⟩ : ∃ W, w.alloc (.cells #[.int .u64 first, .slice A l.length c, .slice A' n c'] 31) = W := ⟨_, rfl⟩
  rw [hW]
  obtain ⟨K0, KB⟩ := lone_new hW
  clear hW
  have HS1 := hid (HS.out.below KB.out)
  obtain ⟨k, hk⟩ : ∃ k, w.heap.size = k := ⟨_, rfl⟩
  rw [hk] at K0 KB ⊢
  have HK := hid hk
  have c0 : W.cell? ⟨k, 0, none⟩ = some (.int .u64 first) := (K0.out.cell 0).trans rfl
  have c2 : W.cell? ⟨k, 2, none⟩ = some (.slice A' n c') := (K0.out.cell 2).trans rfl
  clear hk HS
  go_wp2_with fail
  go_loopw [5] (fun iv wr => ∃ j : Nat, iv = .int .i64 (j : Int) ∧ j ≤ n ∧ wr = W ∧ Hid (∀ i, i < j → ∀ q : ByteArray × Int, cs[i]? = some q → ¬ q.1 = p)) (fun iv _ => n - (intOf iv).toNat)
  case atStart => exact ⟨0, rfl, by omega, rfl, hid (fun i hi => absurd hi (Nat.not_lt_zero i))⟩
  case round =>
    obtain ⟨j, rfl, hj, rfl, HJ⟩ := hrel
    by_cases hlt : j < n
    · have hlt' : (j : Int) < (n : Int) := by omega
      obtain ⟨e, he⟩ : ∃ e, cs[j]? = some e := ⟨_, List.getElem?_eq_getElem (by rw [HN.out]; exact hlt)⟩
      obtain ⟨b, o, hA, hb, hr⟩ := HS1.out j e he
      subst hA
      have HE := hid he
      have y0 : wr.cell? ⟨b, o + j * 2, none⟩ = some (.string e.1) := hr 0 _ rfl
      have y1 : wr.cell? ⟨b, o + j * 2 + 1, none⟩ = some (.int .u64 e.2) := hr 1 _ rfl
      clear hr he
      have qi : IntKind.i64.wrap ((j : Int) + 1) = ((j + 1 : Nat) : Int) := by rw [IntWalk.i64_in _ (by omega)]; omega
      by_cases hp : e.1 = p
      · have HF := hid (cnt_at (first := first) HE.out HJ.out hp)
        rw [hp] at y0
        clear hp
        go_wp2
        go_ret
        exact ⟨ret_num HF.out.symm, by rw [HK.out]; exact KB.out⟩
      · have HK2 : Hid (∀ i, i < j + 1 → ∀ q : ByteArray × Int, cs[i]? = some q → ¬ q.1 = p) := hid (fun i hi q hq => by
          rcases (show i < j ∨ i = j by omega) with h | h
          · exact HJ.out i h q hq
          · subst h
            rw [HE.out] at hq
            injection hq with hq
            rw [← hq]
            exact hp)
        have hq := lkeq_text e.1 p
        rw [decide_eq_false hp] at hq
        go_wp2
        go_roundw
        case rel => exact ⟨j + 1, by push_cast; rfl, by omega, trivial, HK2⟩
        case measure => simp only [intOf]; omega
    · have hlt' : ¬ (j : Int) < (n : Int) := by omega
      have HF := hid (cnt_none (first := first) (cs := cs) (p := p) (fun i q hq => HJ.out i (by have := (List.getElem?_eq_some_iff.1 hq).1; have := HN.out; omega) q hq))
      go_wp2
      go_ret
      exact ⟨ret_num HF.out.symm, by rw [HK.out]; exact KB.out⟩
end Go.Proofs.YtgjbhlianlbflaaGreat
namespace Go.Proofs.YtgjbhlianlbflaaGreat
open Go.ChangeShapes Go.WideShapes Go.ChangeAt Go.RowKit Go.Maps Go.WideMaps
set_option linter.unusedVariables false
set_option linter.unusedSimpArgs false
theorem lkappend_cells {P : Program} {w : World} {ops : Array Oper} {rest : List Oper} {o : Oper} {a : Act} {Q : Exit → Act → World → Prop} (hgd : o.guard = none) (s x : Operand) (t : TypeId)
    (ho : o.op = .call { callee := .builtin .append, args := #[s, x], argTypes := #[t, t] })
    (base : Nat) (e : TypeId) (i : TypeInfo) (z : Value) (size bytes : Nat) (ht : P.underlying t = some (.slice e)) (hi : P.info? e = some i) (hz : i.zero = some z)
    (hsize : i.size = size) (hby : i.bytes = bytes) (hzs : z.cells.size = size) (hsz : 0 < size) (v : Value) (n : Nat) (xs : List Value) (hs : a.eval s = v) (hown : w.ownsRow base e size v n xs)
    (X : Option Addr) (m c : Nat) (news : List Value) (hx : a.eval x = .slice X m c) (hnone : X = none → m = 0 ∧ c = 0) (hl : news.length = m * size) (hnews : ∀ ad, X = some ad → ∀ j u, news[j]? = some u → w.cell? (ad.add j) = some u)
    (h1 : ∀ u ∈ news, u.oneCell' = true) (h63 : n + m ≤ maxLen) (hbytes : (n + m) * bytes ≤ 140737488355328) (hbase : base ≤ w.heap.size)
    (h : ∀ v' w', w'.ownsRow base e size v' (n + m) (xs ++ news) → w.grownBy w' v.ownBlock → wpList P ops Q rest (a.put o.dst v') w') : wpList P ops Q (o :: rest) a w := by
  cases X with
  | none =>
    obtain ⟨h2, h3⟩ := hnone rfl
    subst h2 h3
    have hn : news = [] := List.eq_nil_of_length_eq_zero (by rw [hl]; simp)
    subst hn
    exact wpList_append_own_none hgd s x t ho base e i size ht hi v n xs hs hown hx (h v w (by simpa using hown) (World.grownBy.refl _ _))
  | some ad =>
    exact wpList_append_own_at w hgd s x t ho base e i z size bytes ht hi hz hsize hby hzs hsz v n xs hs hown ad m c news hx hl (hnews ad rfl) h1 h63 hbytes hbase fun v' w' a1 a2 _ _ => h v' w' a1 a2
theorem lkown_form {w : World} {base : Nat} {e : TypeId} {v : Value} {n size : Nat} {xs : List Value} (h : w.ownsRow base e size v n xs) : (v = .slice none 0 0 ∧ n = 0) ∨ ∃ g c, v = .slice (some ⟨g, 0, none⟩) (n : Nat) c ∧ n ≤ c ∧ base ≤ g ∧ g < w.heap.size := by
  rcases h.2 with ⟨rfl, h0⟩ | ⟨g, cap, cur, rfl, hb, hg, hc, _⟩
  · exact .inl ⟨rfl, h0⟩
  · exact .inr ⟨g, cap, rfl, hc, (h.lt g rfl).1, (h.lt g rfl).2⟩
theorem cntL_one (c : ByteArray × Int) : ∀ v ∈ cntL c, v.oneCell' = true := by
  intro v hv
  simp [cntL] at hv
  rcases hv with rfl | rfl <;> rfl
def flatC (l : CnL) : List Value := l.flatMap cntL
theorem flatC_len : ∀ l : CnL, (flatC l).length = l.length * 2
  | [] => rfl
  | n :: l => by
    have := flatC_len l
    unfold flatC at *
    rw [List.flatMap_cons, List.length_append, this, List.length_cons]
    show 2 + l.length * 2 = (l.length + 1) * 2
    omega
theorem flatC_get : ∀ {l : CnL} {j i : Nat} (hj : j < l.length), i < 2 → (flatC l)[j * 2 + i]? = (cntL l[j])[i]?
  | n :: l, 0, i, _, hi => by
    unfold flatC
    rw [List.flatMap_cons, Nat.zero_mul, Nat.zero_add, List.getElem?_append_left (by show i < 2; exact hi)]
    rfl
  | n :: l, j + 1, i, hj, hi => by
    have ih := flatC_get (l := l) (j := j) (i := i) (by simpa using hj) hi
    unfold flatC at *
    rw [List.flatMap_cons, List.getElem?_append_right (by show 2 ≤ _; omega)]
    have e : (j + 1) * 2 + i - (cntL n).length = j * 2 + i := by show (j + 1) * 2 + i - 2 = _; omega
    rw [e, ih]
    rfl
theorem flatC_app (a b : CnL) : flatC (a ++ b) = flatC a ++ flatC b := by unfold flatC; rw [List.flatMap_append]
theorem flatC_one (l : CnL) : ∀ u ∈ flatC l, u.oneCell' = true := by
  intro u hu
  unfold flatC at hu
  obtain ⟨p, _, hu⟩ := List.mem_flatMap.1 hu
  exact cntL_one p u hu
theorem SeesC.cells {w : World} {b o : Nat} {l : CnL} (h : SeesC w (some ⟨b, o, none⟩) l) : ∀ j u, (flatC l)[j]? = some u → w.cell? ⟨b, o + j, none⟩ = some u := by
  intro j u hj
  have hlen := (List.getElem?_eq_some_iff.1 hj).1
  rw [flatC_len] at hlen
  have hd : j / 2 < l.length := by omega
  have e : j / 2 * 2 + j % 2 = j := by omega
  have h1 := flatC_get (l := l) (j := j / 2) (i := j % 2) hd (by omega)
  rw [e, hj] at h1
  obtain ⟨b', o', he, _, hr⟩ := h (j / 2) l[j / 2] (List.getElem?_eq_getElem hd)
  injection he with he
  injection he with h2 h3
  subst h2 h3
  have := hr (j % 2) u h1.symm
  rw [show o + j / 2 * 2 + j % 2 = o + j by omega] at this
  exact this
theorem SeesC.of {w : World} {g : Nat} {l : CnL} (hg : g < w.heap.size) (h : ∀ j v, (flatC l)[j]? = some v → w.cell? ⟨g, j, none⟩ = some v) : SeesC w (some ⟨g, 0, none⟩) l := fun j y hj => by
  obtain ⟨hj1, hj2⟩ := List.getElem?_eq_some_iff.1 hj
  refine ⟨g, 0, rfl, hg, fun i v hv => ?_⟩
  rw [Nat.zero_add]
  have hi : i < 2 := (List.getElem?_eq_some_iff.1 hv).1
  refine h (j * 2 + i) v ?_
  rw [flatC_get hj1 hi, hj2]
  exact hv
theorem ownC_cells {w : World} {base g n c : Nat} {l : CnL} (h : w.ownsRow base 61 2 (.slice (some ⟨g, 0, none⟩) n c) n (flatC l)) : ∀ j u, (flatC l)[j]? = some u → w.cell? ⟨g, j, none⟩ = some u := fun j u hu => by
  have := h.cells (g := g) rfl j u hu
  rw [add_plain, Nat.zero_add] at this
  exact this
theorem SeesC.of_own {w : World} {base : Nat} {v : Value} {l : CnL} (h : w.ownsRow base 61 2 v l.length (flatC l)) : ∃ A c, v = .slice A (l.length : Nat) c ∧ ((A = none → c = 0) ∧ l.length ≤ c) ∧ SeesC w A l := by
  rcases lkown_form h with ⟨rfl, h0⟩ | ⟨g, c, rfl, hc, hb, hg⟩
  · have : l = [] := List.eq_nil_of_length_eq_zero h0
    subst this
    exact ⟨none, 0, rfl, ⟨fun _ => rfl, Nat.le_refl _⟩, SeesC.nil _ _⟩
  · exact ⟨_, c, rfl, ⟨fun e => (by cases e), hc⟩, SeesC.of hg (ownC_cells h)⟩
theorem setC_at {p : ByteArray} {m : Int} : ∀ {cs : CnL} {j : Nat} {e : ByteArray × Int}, cs[j]? = some e → (∀ i, i < j → ∀ q : ByteArray × Int, cs[i]? = some q → ¬ q.1 = p) → e.1 = p → setC cs p m = cs.set j (p, m)
  | [], j, e, h, _, _ => by simp at h
  | c :: cs, 0, e, h, _, he => by
    simp at h
    subst h
    unfold setC
    rw [if_pos he]
    rfl
  | c :: cs, j + 1, e, h, hno, he => by
    unfold setC
    rw [if_neg (hno 0 (Nat.succ_pos j) c rfl), setC_at (by simpa using h) (fun i hi q hq => hno (i + 1) (by omega) q hq) he]
    rfl
theorem setC_none {p : ByteArray} {m : Int} : ∀ {cs : CnL}, (∀ (i : Nat) (q : ByteArray × Int), cs[i]? = some q → ¬ q.1 = p) → setC cs p m = cs ++ [(p, m)]
  | [], _ => rfl
  | c :: cs, hno => by
    unfold setC
    rw [if_neg (hno 0 c rfl), setC_none (fun i q hq => hno (i + 1) q hq)]
    rfl
theorem info_cnt : (Tryz.prog.info? 61).map (fun i => (i.zero, i.size, i.bytes)) = some (some (.agg #[.string ⟨#[]⟩, .int .u64 0]), 2, 24) := by kernel_rfl
theorem cnt_blk {w : World} {b : Nat} {T : TypeId} {y : ByteArray × Int} (h : Blk w b T #[.string y.1, .int .u64 y.2]) : ∀ j x, (cntL y)[j]? = some x → w.cell? ((⟨b, 0, none⟩ : Addr).add j) = some x := by
  intro j x hj
  have hl : j < 2 := (List.getElem?_eq_some_iff.1 hj).1
  rcases (show j = 0 ∨ j = 1 by omega) with rfl | rfl
  · simp [cntL] at hj; subst hj; exact (h.cell 0).trans rfl
  · simp [cntL] at hj; subst hj; exact (h.cell 1).trans rfl
def put3K (w : World) (g : Nat) (a b c : Value) : World := ((w.setCell ⟨g, 0, none⟩ a).setCell ⟨g, 1, none⟩ b).setCell ⟨g, 2, none⟩ c
theorem put3K_blk {w : World} {g : Nat} {T : TypeId} {a b c : Value} (h : Blk w g T #[a, b, c]) (a' b' c' : Value) : Blk (put3K w g a' b' c') g T #[a', b', c'] := by
  have h7 := ((h.set_ 0 a').set_ 1 b').set_ 2 c'
  simp only [List.setIfInBounds_toArray, List.set_cons_succ, List.set_cons_zero] at h7
  exact h7
theorem put3K_below {w w0 : World} {g k : Nat} (hk : Below k w0 w) (hg : k ≤ g) (a b c : Value) : Below k w0 (put3K w g a b c) :=
  ((hk.setCell (p := ⟨g, 0, none⟩) hg _).setCell (p := ⟨g, 1, none⟩) hg _).setCell (p := ⟨g, 2, none⟩) hg _
theorem cellK_far {w : World} {p a : Addr} (u : Value) (h : a.block ≠ p.block) : (w.setCell p u).cell? a = w.cell? a := by
  unfold World.cell?
  rw [Below.heap_setCell _ _ _ _ h]
theorem SeesC.setK {w : World} {A : Option Addr} {l : CnL} (h : SeesC w A l) {p : Addr} (hp : ∀ b o, A = some ⟨b, o, none⟩ → b ≠ p.block) (u : Value) : SeesC (w.setCell p u) A l := fun j y hj => by
  obtain ⟨b, o, h1, h2, h3⟩ := h j y hj
  exact ⟨b, o, h1, by simpa [World.setCell] using h2, fun i v hv => (cellK_far u (by exact hp b o h1)).trans (h3 i v hv)⟩
theorem SeesC.put3K {w : World} {A : Option Addr} {l : CnL} (h : SeesC w A l) {g : Nat} (hp : ∀ b o, A = some ⟨b, o, none⟩ → b ≠ g) (x y z : Value) : SeesC (put3K w g x y z) A l := by
  unfold Go.Proofs.YtgjbhlianlbflaaGreat.put3K
  exact ((h.setK (p := ⟨g, 0, none⟩) hp x).setK (p := ⟨g, 1, none⟩) hp y).setK (p := ⟨g, 2, none⟩) hp z
theorem ownC_set {w : World} {base g n c : Nat} {l : CnL} (h : w.ownsRow base 61 2 (.slice (some ⟨g, 0, none⟩) n c) n (flatC l)) (hn : l.length = n) {j : Nat} {e : ByteArray × Int} (hj : l[j]? = some e) {p : ByteArray} (hp : e.1 = p) (m : Int) :
    SeesC (w.setCell ⟨g, j * 2 + 1, none⟩ (.int .u64 m)) (some ⟨g, 0, none⟩) (l.set j (p, m)) := by
  have hjl := (List.getElem?_eq_some_iff.1 hj).1
  have hje := (List.getElem?_eq_some_iff.1 hj).2
  have hg := (h.lt g rfl).2
  have hcells := ownC_cells h
  have hsees := SeesC.of hg hcells
  intro i y hi
  have hil : i < l.length := by
    have := (List.getElem?_eq_some_iff.1 hi).1
    simpa using this
  refine ⟨g, 0, rfl, by simpa [World.setCell] using hg, fun a v hv => ?_⟩
  have ha : a < 2 := (List.getElem?_eq_some_iff.1 hv).1
  rw [Nat.zero_add]
  obtain ⟨b, o, he, _, hr⟩ := hsees i l[i] (List.getElem?_eq_getElem hil)
  injection he with he
  injection he with h1 h2
  subst h1 h2
  by_cases hij : i = j
  · subst hij
    have hy : y = (p, m) := by simp [hil] at hi; exact hi.symm
    subst hy
    rcases (show a = 0 ∨ a = 1 by omega) with rfl | rfl
    · rw [World.cell?_setCell_other _ _ _ _ (by simp)]
      simp [cntL] at hv
      subst hv
      have := hr 0 _ rfl
      rw [Nat.zero_add, hje, hp] at this
      exact this
    · simp [cntL] at hv
      subst hv
      have h1 := hr 1 _ rfl
      rw [Nat.zero_add] at h1
      exact World.cell?_setCell_same _ _ _ h1
  · have hy : l[i] = y := by
      rw [List.getElem?_set_ne (fun e => hij e.symm)] at hi
      rw [List.getElem?_eq_getElem hil] at hi
      injection hi
    rw [World.cell?_setCell_other _ _ _ _ (by simp <;> omega)]
    have := hr a v (by rw [hy]; exact hv)
    rw [Nat.zero_add] at this
    exact this
abbrev zeroBK : Array Value := #[.int .u64 0, .slice none 0 0, .slice none 0 0]
theorem lcells3K {w : World} {g : Nat} {t : TypeId} {a b c : Value} (h : Blk w g t #[a, b, c]) : w.cell? ⟨g, 0, none⟩ = some a ∧ w.cell? ⟨g, 1, none⟩ = some b ∧ w.cell? ⟨g, 2, none⟩ = some c :=
  ⟨(h.cell 0).trans rfl, (h.cell 1).trans rfl, (h.cell 2).trans rfl⟩
def KeepsL (v v' : Value) (base : Nat) : Prop := ∀ f S T, v = .agg #[f, S, T] → ∃ A2 n2 c2, v' = .agg #[f, S, .slice A2 n2 c2] ∧ ∀ b o, A2 = some ⟨b, o, none⟩ → base ≤ b
theorem KeepsL.of {x S T : Value} {A2 : Option Addr} {n2 c2 base : Nat} (h : ∀ b o, A2 = some ⟨b, o, none⟩ → base ≤ b) : KeepsL (.agg #[x, S, T]) (.agg #[x, S, .slice A2 n2 c2]) base := fun f S' T' e => by
  injection e with e
  injection e with e
  injection e with e1 e
  injection e with e2 e
  subst e1 e2
  exact ⟨A2, n2, c2, rfl, h⟩
set_option maxRecDepth 100000 in
set_option maxHeartbeats 2000000 in
theorem dlcount_any (v : Value) (first : Int) (l : List EnL) (cs : CnL) (p : ByteArray) (m : Int) (w : World) (h : DocK w v first l cs) (hl : cs.length ≤ 1000000) :
    Calls Tryz.prog 64 #[v, .string p, .int .u64 m] w fun e w' => ∃ v', e = .returned v' ∧ DocK w' v' first l (setC cs p m) ∧ Below w.heap.size w w' ∧ KeepsL v v' w.heap.size := by
  obtain ⟨A, c, A', c', rfl, hc, hc', hS, hS'⟩ := h
  have HS := hid hS'
  have HSE := hid hS
  have HCE := hid hc
  obtain ⟨ln, hln⟩ : ∃ n, l.length = n := ⟨_, rfl⟩
  have HLN := hid hln
  obtain ⟨n, hn⟩ : ∃ n, cs.length = n := ⟨_, rfl⟩
  have HN := hid hn
  rw [hn] at hl hc' ⊢
  rw [hln]
  have HC1 := hid (fun (e : A' = none) => And.intro (show n = 0 by have := hc'.1 e; omega) (hc'.1 e))
  obtain ⟨i0, hi0, hz0, hz1, hz2⟩ := info_parts info_cnt
  clear hS hS' hn hln hc hc'
  go_enter Tryz.func64, Tryz.ntmps64
  go_upto_region 2 with fail
  obtain ⟨W, hW⟩ : ∃ W, (w.alloc (.cells #[.int .u64 first, .slice A ln c, .slice A' n c'] 31)).alloc (.cells zeroBK 31) = W := ⟨_, rfl⟩
  rw [hW]
  obtain ⟨K0, K1, KB⟩ := ltwo_new hW
  clear hW
  have HS1 := hid (HS.out.below KB.out)
  obtain ⟨k, hk⟩ : ∃ k, w.heap.size = k := ⟨_, rfl⟩
  rw [hk] at K0 K1 KB ⊢
  have HK := hid hk
  have c2 : W.cell? ⟨k, 2, none⟩ = some (.slice A' n c') := (K0.out.cell 2).trans rfl
  have HA1 : Hid (∀ ad, A' = some ad → ∀ j u, (flatC cs)[j]? = some u → W.cell? (ad.add j) = some u) := hid (fun ad e j u hu => by
    subst e
    have hlen := (List.getElem?_eq_some_iff.1 hu).1
    rw [flatC_len] at hlen
    obtain ⟨b, o, he, _, _⟩ := HS1.out (j / 2) cs[j / 2] (List.getElem?_eq_getElem (by omega))
    injection he with he
    subst he
    have := HS1.out.cells j u hu
    rw [add_plain]
    exact this)
  have hkW : k + 1 < W.heap.size := K1.out.lt
  clear hk HS
  go_upto_region 3 with (first
    | (at_builtin; refine lkappend_cells rfl (.tmp 9) (.tmp 11) 29 rfl W.heap.size 61 i0 _ 2 24 Tryz.underlying29 hi0 hz0 hz1 hz2 rfl (by decide) (.slice none 0 0) 0 [] rfl (World.ownsRow_nil _ _ _ _) A' n c' (flatC cs) rfl HC1.out (by rw [flatC_len, HN.out]) HA1.out (flatC_one _) (by unfold maxLen; omega) (by omega) (Nat.le_refl _) ?_; intro v1 w1 own1 hg1; have O1 := hid own1; have G1 := hid hg1; clear own1 hg1))
  have HCS : Hid (w1.ownsRow W.heap.size 61 2 v1 n (flatC cs)) := hid (by have := O1.out; rw [Nat.zero_add, List.nil_append] at this; exact this)
  have BW : Hid (Below W.heap.size W w1) := hid (lbelow_grown G1.out)
  have KA := hid (ent_low K0.out BW.out)
  have KC := hid (ent_low K1.out BW.out)
  have BZ : Hid (Below k w w1) := hid (KB.out.trans (BW.out.mono (by omega)))
  obtain ⟨f1, f2, f3⟩ := lcells3K KA.out
  rcases lkown_form HCS.out with ⟨e1, e2⟩ | ⟨g, cap, e1, hcap, hgb, hgl⟩
  · subst e1 e2
    have HNil : Hid (cs = []) := hid (List.eq_nil_of_length_eq_zero HN.out)
    go_wp2_with fail
    go_loopw [8] (fun iv wr => iv = .int .i64 0 ∧ wr = w1) (fun iv _ => 1)
    case atStart => exact ⟨rfl, rfl⟩
    case round =>
      obtain ⟨rfl, rfl⟩ := hrel
      have HSt := hid (setC_none (p := p) (m := m) (cs := cs) (fun i q hq => by rw [HNil.out] at hq; simp at hq))
      have HOld : Hid ((wr.alloc (.cells #[.string p, .int .u64 m] 61)).ownsRow W.heap.size 61 2 (.slice none 0 0) 0 (flatC cs)) := hid (HCS.out.alloc _)
      have HNw : Hid (Blk (wr.alloc (.cells #[.string p, .int .u64 m] 61)) wr.heap.size 61 #[.string p, .int .u64 m]) := hid (Blk.new wr _ _)
      have KA2 := hid (KA.out.alloc (.cells #[.string p, .int .u64 m] 61))
      have KC2 := hid (KC.out.alloc (.cells #[.string p, .int .u64 m] 61))
      have hWs := BW.out.size
      have BZ2 : Hid (Below k w (wr.alloc (.cells #[.string p, .int .u64 m] 61))) := hid (BZ.out.alloc (by omega) _)
      go_wp2_with (first
        | (at_builtin; refine wpList_append_own_at _ rfl (.tmp 34) (.tmp 38) 29 rfl W.heap.size 61 i0 _ 2 24 Tryz.underlying29 hi0 hz0 hz1 hz2 rfl (by decide) (.slice none 0 0) 0 (flatC cs) rfl HOld.out ⟨wr.heap.size, 0, none⟩ 1 1 (cntL (p, m)) rfl rfl (cnt_blk HNw.out) (cntL_one _) (by unfold maxLen; omega) (by omega) (by simp; omega) ?_; intro v2 w2 own2 hg2 _ _
           obtain ⟨A3, c3, e3, hA3, hS3⟩ := SeesC.of_own (l := cs ++ [(p, m)]) (by rw [flatC_app, List.length_append, HN.out]; exact own2)
           obtain ⟨n3, hn3⟩ : ∃ x, (cs ++ [(p, m)]).length = x := ⟨_, rfl⟩
           rw [hn3] at e3
           have HN3 := hid hn3
           clear hn3
           subst e3
           have HS3 := hid hS3
           have HA3 := hid hA3
           have HFar : Hid (∀ b o, A3 = some ⟨b, o, none⟩ → W.heap.size ≤ b) := hid (fun b o e => by subst e; exact (own2.lt b rfl).1)
           have HAb := hid (KA2.out.grown hg2 (fun e => by have := (HOld.out.lt k e.symm).1; omega))
           have HCb := hid (KC2.out.grown hg2 (fun e => by have := (HOld.out.lt (k + 1) e.symm).1; omega))
           have HBb : Hid (Below k w w2) := hid (BZ2.out.grown hg2 (by simp; omega) (fun kk hk => by have := (HOld.out.lt kk hk).1; omega))
           clear own2 hg2 hS3 hA3
           obtain ⟨f1, f2, f3⟩ := lcells3K HAb.out
           have z2 := HAb.out.frozen 2
           obtain ⟨x0, x1, x2⟩ := lcells3K HCb.out
           have g0 := HCb.out.frozen 0
           have g1 := HCb.out.frozen 1
           have g2 := HCb.out.frozen 2))
      have T2 := HCb.out.far (p := ⟨k, 2, none⟩) (by simp) (.slice A3 n3 c3)
      have T3 := put3K_blk T2 (.int .u64 first) (.slice A ln c) (.slice A3 n3 c3)
      have B2 := HBb.out.setCell (p := ⟨k, 2, none⟩) (Nat.le_refl k) (.slice A3 n3 c3)
      have B3 := put3K_below B2 (Nat.le_succ k) (.int .u64 first) (.slice A ln c) (.slice A3 n3 c3)
      have C1 := HS3.out.setK (p := ⟨k, 2, none⟩) (fun b o e => by have := HFar.out b o e; show b ≠ k; omega) (.slice A3 n3 c3)
      have C2 := C1.put3K (g := k + 1) (fun b o e => by have := HFar.out b o e; omega) (.int .u64 first) (.slice A ln c) (.slice A3 n3 c3)
      unfold put3K at T3 B3 C2
      obtain ⟨w9, hw9⟩ : ∃ w9, ((((w2.setCell ⟨k, 2, none⟩ (.slice A3 n3 c3)).setCell ⟨k + 1, 0, none⟩ (.int .u64 first)).setCell ⟨k + 1, 1, none⟩ (.slice A ln c)).setCell ⟨k + 1, 2, none⟩ (.slice A3 n3 c3)) = w9 := ⟨_, rfl⟩
      rw [hw9] at T3 B3 C2 ⊢
      clear hw9 x0 x1 x2 g0 g1 g2
      obtain ⟨q0, q1, q2⟩ := lcells3K T3
      refine bodyPost_ret (v := .agg #[.int .u64 first, .slice A ln c, .slice A3 n3 c3]) (by simp [results, Tryz.results64, go_sem, q0, q1, q2]) rfl
        ⟨_, rfl, ⟨A, c, A3, c3, by rw [HSt.out, HLN.out, HN3.out], HCE.out, by rw [HSt.out]; exact HA3.out, HSE.out.below (by rw [HK.out]; exact B3), by rw [HSt.out]; exact C2⟩, by rw [HK.out]; exact B3, KeepsL.of (fun b o e => by have := HFar.out b o e; have := HK.out; omega)⟩
  · subst e1
    have hgk : g ≠ k := by omega
    have hgk1 : g ≠ k + 1 := by omega
    have HGl := hid hgl
    go_wp2_with fail
    go_loopw [8] (fun iv wr => ∃ j : Nat, iv = .int .i64 (j : Int) ∧ j ≤ n ∧ wr = w1 ∧ Hid (∀ i, i < j → ∀ q : ByteArray × Int, cs[i]? = some q → ¬ q.1 = p)) (fun iv _ => n - (intOf iv).toNat)
    case atStart => exact ⟨0, rfl, by omega, rfl, hid (fun i hi => absurd hi (Nat.not_lt_zero i))⟩
    case round =>
      obtain ⟨j, rfl, hj, rfl, HJ⟩ := hrel
      by_cases hlt : j < n
      · have hlt' : (j : Int) < (n : Int) := by omega
        obtain ⟨e, he⟩ : ∃ e, cs[j]? = some e := ⟨_, List.getElem?_eq_getElem (by rw [HN.out]; exact hlt)⟩
        have HE := hid he
        have hjl := (List.getElem?_eq_some_iff.1 he).1
        have hje := (List.getElem?_eq_some_iff.1 he).2
        have y0 : wr.cell? ⟨g, j * 2, none⟩ = some (.string e.1) := ownC_cells HCS.out _ _ (by have := flatC_get (l := cs) (j := j) (i := 0) hjl (by omega); rw [hje] at this; exact this)
        have y1 : wr.cell? ⟨g, j * 2 + 1, none⟩ = some (.int .u64 e.2) := ownC_cells HCS.out _ _ (by have := flatC_get (l := cs) (j := j) (i := 1) hjl (by omega); rw [hje] at this; exact this)
        have z1 : wr.frozen? ⟨g, j * 2 + 1, none⟩ = false := HCS.out.frozenAt _
        have qi : IntKind.i64.wrap ((j : Int) + 1) = ((j + 1 : Nat) : Int) := by rw [IntWalk.i64_in _ (by omega)]; omega
        clear he hje hjl
        by_cases hp : e.1 = p
        · have HSet := hid (ownC_set HCS.out HN.out HE.out hp m)
          have HSt := hid (setC_at (m := m) HE.out HJ.out hp)
          have HP := hid hp
          rw [hp] at y0
          clear hp
          have z2 := KA.out.frozen 2
          obtain ⟨x0, x1, x2⟩ := lcells3K KC.out
          have g0 := KC.out.frozen 0
          have g1 := KC.out.frozen 1
          have g2 := KC.out.frozen 2
          go_wp2
          have T1 := hid (KC.out.far (p := ⟨g, j * 2 + 1, none⟩) (by simp; omega) (.int .u64 m))
          have T2 := hid (T1.out.far (p := ⟨k, 2, none⟩) (by simp) (.slice (some ⟨g, 0, none⟩) n cap))
          have T3 := put3K_blk T2.out (.int .u64 first) (.slice A ln c) (.slice (some ⟨g, 0, none⟩) n cap)
          have B1 : Below k w (wr.setCell ⟨g, j * 2 + 1, none⟩ (.int .u64 m)) := BZ.out.setCell (p := ⟨g, j * 2 + 1, none⟩) (by show k ≤ g; omega) _
          have B2 := B1.setCell (p := ⟨k, 2, none⟩) (Nat.le_refl k) (.slice (some ⟨g, 0, none⟩) n cap)
          have B3 := put3K_below B2 (Nat.le_succ k) (.int .u64 first) (.slice A ln c) (.slice (some ⟨g, 0, none⟩) n cap)
          have C1 := HSet.out.setK (p := ⟨k, 2, none⟩) (fun b o e => by injection e with e; injection e with e; subst e; exact hgk) (.slice (some ⟨g, 0, none⟩) n cap)
          have C2 := C1.put3K (g := k + 1) (fun b o e => by injection e with e; injection e with e; subst e; exact hgk1) (.int .u64 first) (.slice A ln c) (.slice (some ⟨g, 0, none⟩) n cap)
          unfold put3K at T3 B3 C2
          obtain ⟨w9, hw9⟩ : ∃ w9, (((((wr.setCell ⟨g, j * 2 + 1, none⟩ (.int .u64 m)).setCell ⟨k, 2, none⟩ (.slice (some ⟨g, 0, none⟩) n cap)).setCell ⟨k + 1, 0, none⟩ (.int .u64 first)).setCell ⟨k + 1, 1, none⟩ (.slice A ln c)).setCell ⟨k + 1, 2, none⟩ (.slice (some ⟨g, 0, none⟩) n cap)) = w9 := ⟨_, rfl⟩
          rw [hw9] at T3 B3 C2 ⊢
          clear hw9 x0 x1 x2 g0 g1 g2
          obtain ⟨q0, q1, q2⟩ := lcells3K T3
          refine bodyPost_ret (v := .agg #[.int .u64 first, .slice A ln c, .slice (some ⟨g, 0, none⟩) n cap]) (by simp [results, Tryz.results64, go_sem, q0, q1, q2]) rfl
            ⟨_, rfl, ⟨A, c, some ⟨g, 0, none⟩, cap, by rw [HSt.out, List.length_set, HN.out, HLN.out], HCE.out, ⟨fun e => (by cases e), by rw [HSt.out, List.length_set, HN.out]; exact hcap⟩, HSE.out.below (by rw [HK.out]; exact B3), by rw [HSt.out]; exact C2⟩, by rw [HK.out]; exact B3, KeepsL.of (fun b o e => by injection e with e; injection e with e; subst e; have := HK.out; omega)⟩
        · have HK2 : Hid (∀ i, i < j + 1 → ∀ q : ByteArray × Int, cs[i]? = some q → ¬ q.1 = p) := hid (fun i hi q hq => by
            rcases (show i < j ∨ i = j by omega) with h | h
            · exact HJ.out i h q hq
            · subst h
              rw [HE.out] at hq
              injection hq with hq
              rw [← hq]
              exact hp)
          have hq := lkeq_text e.1 p
          rw [decide_eq_false hp] at hq
          go_wp2
          go_roundw
          case rel => exact ⟨j + 1, by push_cast; rfl, by omega, trivial, HK2⟩
          case measure => simp only [intOf]; omega
      · have hlt' : ¬ (j : Int) < (n : Int) := by omega
        have hjn : j = n := by omega
        have HNo : Hid (∀ (i : Nat) (q : ByteArray × Int), cs[i]? = some q → ¬ q.1 = p) := hid (fun i q hq => HJ.out i (by have := (List.getElem?_eq_some_iff.1 hq).1; have := HN.out; omega) q hq)
        have HSt := hid (setC_none (m := m) HNo.out)
        have HOld : Hid ((wr.alloc (.cells #[.string p, .int .u64 m] 61)).ownsRow W.heap.size 61 2 (.slice (some ⟨g, 0, none⟩) n cap) n (flatC cs)) := hid (HCS.out.alloc _)
        have HNw : Hid (Blk (wr.alloc (.cells #[.string p, .int .u64 m] 61)) wr.heap.size 61 #[.string p, .int .u64 m]) := hid (Blk.new wr _ _)
        have KA2 := hid (KA.out.alloc (.cells #[.string p, .int .u64 m] 61))
        have KC2 := hid (KC.out.alloc (.cells #[.string p, .int .u64 m] 61))
        have hWs := BW.out.size
        have BZ2 : Hid (Below k w (wr.alloc (.cells #[.string p, .int .u64 m] 61))) := hid (BZ.out.alloc (by omega) _)
        go_wp2_with (first
          | (at_builtin; refine wpList_append_own_at _ rfl (.tmp 34) (.tmp 38) 29 rfl W.heap.size 61 i0 _ 2 24 Tryz.underlying29 hi0 hz0 hz1 hz2 rfl (by decide) (.slice (some ⟨g, 0, none⟩) n cap) n (flatC cs) rfl HOld.out ⟨wr.heap.size, 0, none⟩ 1 1 (cntL (p, m)) rfl rfl (cnt_blk HNw.out) (cntL_one _) (by unfold maxLen; omega) (by omega) (by simp; omega) ?_; intro v2 w2 own2 hg2 _ _
             obtain ⟨A3, c3, e3, hA3, hS3⟩ := SeesC.of_own (l := cs ++ [(p, m)]) (by rw [flatC_app, List.length_append, HN.out]; exact own2)
             obtain ⟨n3, hn3⟩ : ∃ x, (cs ++ [(p, m)]).length = x := ⟨_, rfl⟩
             rw [hn3] at e3
             have HN3 := hid hn3
             clear hn3
             subst e3
             have HS3 := hid hS3
             have HA3 := hid hA3
             have HFar : Hid (∀ b o, A3 = some ⟨b, o, none⟩ → W.heap.size ≤ b) := hid (fun b o e => by subst e; exact (own2.lt b rfl).1)
             have HAb := hid (KA2.out.grown hg2 (fun e => by have := (HOld.out.lt k e.symm).1; omega))
             have HCb := hid (KC2.out.grown hg2 (fun e => by have := (HOld.out.lt (k + 1) e.symm).1; omega))
             have HBb : Hid (Below k w w2) := hid (BZ2.out.grown hg2 (by simp; omega) (fun kk hk => by have := (HOld.out.lt kk hk).1; omega))
             clear own2 hg2 hS3 hA3
             obtain ⟨f1, f2, f3⟩ := lcells3K HAb.out
             have z2 := HAb.out.frozen 2
             obtain ⟨x0, x1, x2⟩ := lcells3K HCb.out
             have g0 := HCb.out.frozen 0
             have g1 := HCb.out.frozen 1
             have g2 := HCb.out.frozen 2))
        have T2 := HCb.out.far (p := ⟨k, 2, none⟩) (by simp) (.slice A3 n3 c3)
        have T3 := put3K_blk T2 (.int .u64 first) (.slice A ln c) (.slice A3 n3 c3)
        have B2 := HBb.out.setCell (p := ⟨k, 2, none⟩) (Nat.le_refl k) (.slice A3 n3 c3)
        have B3 := put3K_below B2 (Nat.le_succ k) (.int .u64 first) (.slice A ln c) (.slice A3 n3 c3)
        have C1 := HS3.out.setK (p := ⟨k, 2, none⟩) (fun b o e => by have := HFar.out b o e; show b ≠ k; omega) (.slice A3 n3 c3)
        have C2 := C1.put3K (g := k + 1) (fun b o e => by have := HFar.out b o e; omega) (.int .u64 first) (.slice A ln c) (.slice A3 n3 c3)
        unfold put3K at T3 B3 C2
        obtain ⟨w9, hw9⟩ : ∃ w9, ((((w2.setCell ⟨k, 2, none⟩ (.slice A3 n3 c3)).setCell ⟨k + 1, 0, none⟩ (.int .u64 first)).setCell ⟨k + 1, 1, none⟩ (.slice A ln c)).setCell ⟨k + 1, 2, none⟩ (.slice A3 n3 c3)) = w9 := ⟨_, rfl⟩
        rw [hw9] at T3 B3 C2 ⊢
        clear hw9 x0 x1 x2 g0 g1 g2
        obtain ⟨q0, q1, q2⟩ := lcells3K T3
        refine bodyPost_ret (v := .agg #[.int .u64 first, .slice A ln c, .slice A3 n3 c3]) (by simp [results, Tryz.results64, go_sem, q0, q1, q2]) rfl
          ⟨_, rfl, ⟨A, c, A3, c3, by rw [HSt.out, HLN.out, HN3.out], HCE.out, by rw [HSt.out]; exact HA3.out, HSE.out.below (by rw [HK.out]; exact B3), by rw [HSt.out]; exact C2⟩, by rw [HK.out]; exact B3, KeepsL.of (fun b o e => by have := HFar.out b o e; have := HK.out; omega)⟩
end Go.Proofs.YtgjbhlianlbflaaGreat
