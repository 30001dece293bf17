/-
  The document's book of locks (moothillref17) in memory: by value, over slices that nothing turns; Find, Counter, way, Granted.
-/
import Derived.Test.YtgjbhlianlbflaaGreatLkThose
import Derived.Test.YtgjbhlianlbflaaGreatPRefA
namespace Go.Proofs.YtgjbhlianlbflaaGreat
open Go.ChangeShapes Go.WideShapes Go.ChangeAt Go.RowKit Go.Maps Go.WideMaps
set_option linter.unusedVariables false
set_option linter.unusedSimpArgs false

/-- A counter's cells. -/
def cntL (c : ByteArray × Int) : List Value := [.string c.1, .int .u64 c.2]
def SeesC (w : World) (A : Option Addr) (l : CnL) : Prop := ∀ (j : Nat) (y : ByteArray × Int), l[j]? = some y → ∃ b o, A = some ⟨b, o, none⟩ ∧ b < w.heap.size ∧ w.rangeAt b (o + j * 2) (cntL y)
theorem SeesC.nil (w : World) (A : Option Addr) : SeesC w A [] := fun j x h => by simp at h
theorem SeesC.below {w w' : World} {A : Option Addr} {l : CnL} (h : SeesC w A l) (hb : Below w.heap.size w w') : SeesC w' A l := fun j x hj => by
  obtain ⟨b, o, h1, h2, h3⟩ := h j x hj
  exact ⟨b, o, h1, Nat.lt_of_lt_of_le h2 hb.size, fun i v hv => (hb.cell (p := ⟨b, o + j * 2 + i, none⟩) h2).trans (h3 i v hv)⟩
/-- No cell is read in these blocks. -/
def BareK (S : Nat → Prop) (w : World) : Prop := ∀ i o, S i → w.cell? ⟨i, o, none⟩ = none
theorem turn_cell {S : Nat → Prop} {w w' : World} (t : TurnsD S w w') (hS : BareK S w) {b o : Nat} {v : Value} (hb : b < w.heap.size) (h : w.cell? ⟨b, o, none⟩ = some v) : w'.cell? ⟨b, o, none⟩ = some v := by
  by_cases hs : S b
  · rw [hS b o hs] at h; cases h
  · have := t.block b hb hs
    unfold World.cell? at h ⊢
    rw [this]
    exact h
theorem SeesE.turns {S : Nat → Prop} {w w' : World} {A : Option Addr} {l : List EnL} (h : SeesE w A l) (t : TurnsD S w w') (hS : BareK S w) : SeesE w' A l := fun j x hj => by
  obtain ⟨b, o, h1, h2, h3⟩ := h j x hj
  exact ⟨b, o, h1, Nat.lt_of_lt_of_le h2 t.size, fun i v hv => turn_cell t hS h2 (h3 i v hv)⟩
theorem SeesC.turns {S : Nat → Prop} {w w' : World} {A : Option Addr} {l : CnL} (h : SeesC w A l) (t : TurnsD S w w') (hS : BareK S w) : SeesC w' A l := fun j x hj => by
  obtain ⟨b, o, h1, h2, h3⟩ := h j x hj
  exact ⟨b, o, h1, Nat.lt_of_lt_of_le h2 t.size, fun i v hv => turn_cell t hS h2 (h3 i v hv)⟩
theorem EsM.bare {w : World} {d n : Nat} {l : List EnL} (h : EsM w d n l) (o : Nat) : w.cell? ⟨d, o, none⟩ = none := by
  obtain ⟨D, ⟨es, clock, hb, _⟩, _⟩ := h
  unfold World.cell?
  rw [hb]
theorem CsM.bare {w : World} {d n : Nat} {cs : CnL} (h : CsM w d n cs) (o : Nat) : w.cell? ⟨d, o, none⟩ = none := by
  obtain ⟨D, ⟨es, clock, hb, _⟩, _⟩ := h
  unfold World.cell?
  rw [hb]
theorem BkK.bare {w : World} {base b de dc n : Nat} {first : Int} {l : List EnL} {cs : CnL} (h : BkK w base b de dc n first l cs) : BareK (OwnK de dc) w := fun i o hi => by
  rcases hi with rfl | rfl
  · exact h.es.bare o
  · exact h.ct.bare o
/-- The document's book, by value. -/
def DocK (w : World) (v : Value) (first : Int) (l : List EnL) (cs : CnL) : Prop :=
  ∃ A c A' c', v = .agg #[.int .u64 first, .slice A (l.length : Nat) c, .slice A' (cs.length : Nat) c'] ∧ ((A = none → c = 0) ∧ l.length ≤ c) ∧ ((A' = none → c' = 0) ∧ cs.length ≤ c') ∧ SeesE w A l ∧ SeesC w A' cs
theorem DocK.below {w w' : World} {v : Value} {first : Int} {l : List EnL} {cs : CnL} (h : DocK w v first l cs) (hb : Below w.heap.size w w') : DocK w' v first l cs := by
  obtain ⟨A, c, A', c', h1, h2, h3, h4, h5⟩ := h
  exact ⟨A, c, A', c', h1, h2, h3, h4.below hb, h5.below hb⟩
theorem DocK.turns {S : Nat → Prop} {w w' : World} {v : Value} {first : Int} {l : List EnL} {cs : CnL} (h : DocK w v first l cs) (t : TurnsD S w w') (hS : BareK S w) : DocK w' v first l cs := by
  obtain ⟨A, c, A', c', h1, h2, h3, h4, h5⟩ := h
  exact ⟨A, c, A', c', h1, h2, h3, h4.turns t hS, h5.turns t hS⟩
theorem DocK.nil (w : World) (first : Int) : DocK w (.agg #[.int .u64 first, .slice none 0 0, .slice none 0 0]) first [] [] :=
  ⟨none, 0, none, 0, rfl, ⟨fun _ => rfl, Nat.le_refl _⟩, ⟨fun _ => rfl, Nat.le_refl _⟩, SeesE.nil _ _, SeesC.nil _ _⟩
/-- Where an entry is; -1: nowhere. -/
def idxE (l : List EnL) (p : ByteArray) (u : Int) (f : ByteArray) : Int := if (findE l p u f).isSome = true then ((l.findIdx (isE p u f) : Nat) : Int) else -1
theorem idx_at {l : List EnL} {p : ByteArray} {u : Int} {f : ByteArray} {j : Nat} {e : EnL} (hj : l[j]? = some e) (hno : ∀ i, i < j → ∀ q, l[i]? = some q → isE p u f q = false) (hp : isE p u f e = true) : idxE l p u f = (j : Int) ∧ findE l p u f = some e := by
  have hjl := (List.getElem?_eq_some_iff.1 hj).1
  have hje := (List.getElem?_eq_some_iff.1 hj).2
  have hf : findE l p u f = some e := by
    unfold findE
    rw [List.find?_eq_some_iff_getElem]
    refine ⟨hp, j, hjl, hje, fun i hi => ?_⟩
    have hil : i < l.length := by omega
    have := hno i hi l[i] (List.getElem?_eq_getElem hil)
    simp [this]
  refine ⟨?_, hf⟩
  unfold idxE
  rw [hf, if_pos (show (some e).isSome = true from rfl)]
  have : l.findIdx (isE p u f) = j := by
    rw [List.findIdx_eq hjl]
    refine ⟨by rw [hje]; exact hp, fun i hi => ?_⟩
    have hil : i < l.length := by omega
    have := hno i hi l[i] (List.getElem?_eq_getElem hil)
    simpa using this
  rw [this]
theorem idx_none {l : List EnL} {p : ByteArray} {u : Int} {f : ByteArray} (hno : ∀ (i : Nat) (q : EnL), l[i]? = some q → isE p u f q = false) : idxE l p u f = -1 ∧ findE l p u f = none := by
  have hf : findE l p u f = none := by
    unfold findE
    rw [List.find?_eq_none]
    intro q hq
    obtain ⟨i, hi, rfl⟩ := List.getElem_of_mem hq
    simp [hno i l[i] (List.getElem?_eq_getElem hi)]
  refine ⟨?_, hf⟩
  unfold idxE
  rw [hf]
  rfl
theorem no_step {l : List EnL} {q : EnL → Bool} {j : Nat} {e : EnL} (h : ∀ i, i < j → ∀ x, l[i]? = some x → q x = false) (hj : l[j]? = some e) (he : q e = false) : ∀ i, i < j + 1 → ∀ x, l[i]? = some x → q x = false := fun i hi x hx => by
  rcases (show i < j ∨ i = j by omega) with h1 | h1
  · exact h i h1 x hx
  · subst h1
    rw [hj] at hx
    injection hx with hx
    rw [← hx]
    exact he
set_option maxRecDepth 100000 in
set_option maxHeartbeats 1000000 in
theorem dlfind_any (v : Value) (first : Int) (l : List EnL) (cs : CnL) (p : ByteArray) (u : Int) (f : ByteArray) (w : World) (h : DocK w v first l cs) (hl : l.length ≤ 1000000) :
    Calls Tryz.prog 17 #[v, .string p, .int .u64 u, .string f] w (Asks (.int .i64 (idxE l p u f)) w) := by
  obtain ⟨A, c, A', c', rfl, hc, hc', hS, hS'⟩ := h
  have HS := hid hS
  obtain ⟨n, hn⟩ : ∃ n, l.length = n := ⟨_, rfl⟩
  have HN := hid hn
  rw [hn] at hl ⊢
  clear hS hS' hn
  go_enter Tryz.func17, Tryz.ntmps17
  go_upto_region 1 with fail
  obtain ⟨W, hW⟩ : ∃ W, w.alloc (.cells #[.int .u64 first, .slice A n c, .slice A' cs.length c'] 31) = W := ⟨_, rfl⟩
  rw [hW]
  obtain ⟨K0, KB⟩ := lone_new hW
  clear hW
  have HS1 := hid (HS.out.below KB.out)
  obtain ⟨k, hk⟩ : ∃ k, w.heap.size = k := ⟨_, rfl⟩
  rw [hk] at K0 KB ⊢
  have HK := hid hk
  have c1 : W.cell? ⟨k, 1, none⟩ = some (.slice A n c) := (K0.out.cell 1).trans rfl
  clear hk HS
  go_wp2_with fail
  go_loopw [9] (fun iv wr => ∃ j : Nat, iv = .int .i64 (j : Int) ∧ j ≤ n ∧ wr = W ∧ Hid (∀ i, i < j → ∀ q, l[i]? = some q → isE p u f q = false)) (fun iv _ => n - (intOf iv).toNat)
  case atStart => exact ⟨0, rfl, by omega, rfl, hid (fun i hi => absurd hi (Nat.not_lt_zero i))⟩
  case round =>
    obtain ⟨j, rfl, hj, rfl, HJ⟩ := hrel
    by_cases hlt : j < n
    · have hlt' : (j : Int) < (n : Int) := by omega
      obtain ⟨e, he⟩ : ∃ e, l[j]? = some e := ⟨_, List.getElem?_eq_getElem (by rw [HN.out]; exact hlt)⟩
      obtain ⟨b, o, hA, hb, hr⟩ := HS1.out j e he
      subst hA
      have HE := hid he
      have y0 : wr.cell? ⟨b, o + j * 6, none⟩ = some (.string e.path) := hr 0 _ rfl
      have y1 : wr.cell? ⟨b, o + j * 6 + 1, none⟩ = some (.int .u64 e.num) := hr 1 _ rfl
      have y2 : wr.cell? ⟨b, o + j * 6 + 2, none⟩ = some (.string e.foot) := hr 2 _ rfl
      clear hr he
      have qi : IntKind.i64.wrap ((j : Int) + 1) = ((j + 1 : Nat) : Int) := by rw [IntWalk.i64_in _ (by omega)]; omega
      by_cases hp : e.path = p
      · by_cases hu : e.num = u
        · by_cases hf : e.foot = f
          · have HF := hid (idx_at HE.out HJ.out (isE_iff.2 ⟨hp, hu, hf⟩)).1
            rw [hp] at y0
            rw [hu] at y1
            rw [hf] at y2
            clear hp hu hf
            go_wp2
            go_ret
            exact ⟨ret_num HF.out.symm, by rw [HK.out]; exact KB.out⟩
          · have HK2 := hid (no_step HJ.out HE.out (show isE p u f e = false by simp [isE, hf]))
            have hq := lkeq_text e.foot f
            rw [decide_eq_false hf] at hq
            rw [hp] at y0
            rw [hu] at y1
            clear hp hu
            go_wp2
            go_roundw
            case rel => exact ⟨j + 1, by push_cast; rfl, by omega, trivial, HK2⟩
            case measure => simp only [intOf]; omega
        · have HK2 := hid (no_step HJ.out HE.out (show isE p u f e = false by simp [isE, hu]))
          have hq : (e.num == u) = false := by simpa using hu
          rw [hp] at y0
          clear hp
          go_wp2
          go_roundw
          case rel => exact ⟨j + 1, by push_cast; rfl, by omega, trivial, HK2⟩
          case measure => simp only [intOf]; omega
      · have HK2 := hid (no_step HJ.out HE.out (show isE p u f e = false by simp [isE, hp]))
        have hq := lkeq_text e.path p
        rw [decide_eq_false hp] at hq
        go_wp2
        go_roundw
        case rel => exact ⟨j + 1, by push_cast; rfl, by omega, trivial, HK2⟩
        case measure => simp only [intOf]; omega
    · have hlt' : ¬ (j : Int) < (n : Int) := by omega
      have HF := hid (idx_none (l := l) (p := p) (u := u) (f := f) (fun i q hq => HJ.out i (by have := (List.getElem?_eq_some_iff.1 hq).1; have := HN.out; omega) q hq)).1
      go_wp2
      go_ret
      exact ⟨by rw [HF.out]; rfl, by rw [HK.out]; exact KB.out⟩

theorem cnt_at {first : Int} {cs : CnL} {p : ByteArray} {j : Nat} {e : ByteArray × Int} (hj : cs[j]? = some e) (hno : ∀ i, i < j → ∀ q : ByteArray × Int, cs[i]? = some q → ¬ q.1 = p) (hp : e.1 = p) : cntE first cs p = e.2 := by
  have hjl := (List.getElem?_eq_some_iff.1 hj).1
  have hje := (List.getElem?_eq_some_iff.1 hj).2
  have hf : cs.find? (fun c => decide (c.1 = p)) = some e := by
    rw [List.find?_eq_some_iff_getElem]
    refine ⟨by simpa using hp, j, hjl, hje, fun i hi => ?_⟩
    have hil : i < cs.length := by omega
    have := hno i hi cs[i] (List.getElem?_eq_getElem hil)
    simpa using this
  unfold cntE
  rw [hf]
  rfl
theorem cnt_none {first : Int} {cs : CnL} {p : ByteArray} (hno : ∀ (i : Nat) (q : ByteArray × Int), cs[i]? = some q → ¬ q.1 = p) : cntE first cs p = first := by
  have hf : cs.find? (fun c => decide (c.1 = p)) = none := by
    rw [List.find?_eq_none]
    intro q hq
    obtain ⟨i, hi, rfl⟩ := List.getElem_of_mem hq
    simpa using hno i cs[i] (List.getElem?_eq_getElem hi)
  unfold cntE
  rw [hf]
  rfl
set_option maxRecDepth 100000 in
set_option maxHeartbeats 1000000 in
theorem dlcounter_any (v : Value) (first : Int) (l : List EnL) (cs : CnL) (p : ByteArray) (w : World) (h : DocK w v first l cs) (hl : cs.length ≤ 1000000) :
    Calls Tryz.prog 15 #[v, .string p] w (Asks (.int .u64 (cntE first cs p)) w) := by
  obtain ⟨A, c, A', c', rfl, hc, hc', hS, hS'⟩ := h
  have HS := hid hS'
  obtain ⟨n, hn⟩ : ∃ n, cs.length = n := ⟨_, rfl⟩
  have HN := hid hn
  rw [hn] at hl ⊢
  clear hS hS' hn
  go_enter Tryz.func15, Tryz.ntmps15
  go_upto_region 1 with fail
  obtain ⟨W, hW⟩ : ∃ W, w.alloc (.cells #[.int .u64 first, .slice A l.length c, .slice A' n c'] 31) = W := ⟨_, rfl⟩
  rw [hW]
  obtain ⟨K0, KB⟩ := lone_new hW
  clear hW
  have HS1 := hid (HS.out.below KB.out)
  obtain ⟨k, hk⟩ : ∃ k, w.heap.size = k := ⟨_, rfl⟩
  rw [hk] at K0 KB ⊢
  have HK := hid hk
  have c0 : W.cell? ⟨k, 0, none⟩ = some (.int .u64 first) := (K0.out.cell 0).trans rfl
  have c2 : W.cell? ⟨k, 2, none⟩ = some (.slice A' n c') := (K0.out.cell 2).trans rfl
  clear hk HS
  go_wp2_with fail
  go_loopw [5] (fun iv wr => ∃ j : Nat, iv = .int .i64 (j : Int) ∧ j ≤ n ∧ wr = W ∧ Hid (∀ i, i < j → ∀ q : ByteArray × Int, cs[i]? = some q → ¬ q.1 = p)) (fun iv _ => n - (intOf iv).toNat)
  case atStart => exact ⟨0, rfl, by omega, rfl, hid (fun i hi => absurd hi (Nat.not_lt_zero i))⟩
  case round =>
    obtain ⟨j, rfl, hj, rfl, HJ⟩ := hrel
    by_cases hlt : j < n
    · have hlt' : (j : Int) < (n : Int) := by omega
      obtain ⟨e, he⟩ : ∃ e, cs[j]? = some e := ⟨_, List.getElem?_eq_getElem (by rw [HN.out]; exact hlt)⟩
      obtain ⟨b, o, hA, hb, hr⟩ := HS1.out j e he
      subst hA
      have HE := hid he
      have y0 : wr.cell? ⟨b, o + j * 2, none⟩ = some (.string e.1) := hr 0 _ rfl
      have y1 : wr.cell? ⟨b, o + j * 2 + 1, none⟩ = some (.int .u64 e.2) := hr 1 _ rfl
      clear hr he
      have qi : IntKind.i64.wrap ((j : Int) + 1) = ((j + 1 : Nat) : Int) := by rw [IntWalk.i64_in _ (by omega)]; omega
      by_cases hp : e.1 = p
      · have HF := hid (cnt_at (first := first) HE.out HJ.out hp)
        rw [hp] at y0
        clear hp
        go_wp2
        go_ret
        exact ⟨ret_num HF.out.symm, by rw [HK.out]; exact KB.out⟩
      · have HK2 : Hid (∀ i, i < j + 1 → ∀ q : ByteArray × Int, cs[i]? = some q → ¬ q.1 = p) := hid (fun i hi q hq => by
          rcases (show i < j ∨ i = j by omega) with h | h
          · exact HJ.out i h q hq
          · subst h
            rw [HE.out] at hq
            injection hq with hq
            rw [← hq]
            exact hp)
        have hq := lkeq_text e.1 p
        rw [decide_eq_false hp] at hq
        go_wp2
        go_roundw
        case rel => exact ⟨j + 1, by push_cast; rfl, by omega, trivial, HK2⟩
        case measure => simp only [intOf]; omega
    · have hlt' : ¬ (j : Int) < (n : Int) := by omega
      have HF := hid (cnt_none (first := first) (cs := cs) (p := p) (fun i q hq => HJ.out i (by have := (List.getElem?_eq_some_iff.1 hq).1; have := HN.out; omega) q hq))
      go_wp2
      go_ret
      exact ⟨ret_num HF.out.symm, by rw [HK.out]; exact KB.out⟩
end Go.Proofs.YtgjbhlianlbflaaGreat
