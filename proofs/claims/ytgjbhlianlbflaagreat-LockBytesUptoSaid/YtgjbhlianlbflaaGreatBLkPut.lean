/-
  A book of locks, written: Book.Put.
-/
import Derived.Test.YtgjbhlianlbflaaGreatBLkSorted
import Derived.Test.YtgjbhlianlbflaaGreatBOutZ
namespace Go.Proofs.YtgjbhlianlbflaaGreat
open Go.ChangeShapes Go.WideShapes Go.ChangeAt Go.RowKit Go.Maps Go.WideMaps
set_option linter.unusedVariables false
set_option linter.unusedSimpArgs false
def encE (e : EnL) : List Nat := shortN e.path.size ++ bytesOfS e.path ++ bytesN e.num.toNat 8 ++ shortN e.foot.size ++ bytesOfS e.foot ++ [e.mode.toNat] ++ bytesN e.n.toNat 8 ++ shortN e.stamp.toNat
structure PtK (w W : World) (base g k : Nat) (T : TypeId) (cs : Array Value) (l : List Nat) : Prop where
  out : OutZ W base g l
  bel : BelZ base g w W
  st : Stays g w W
  box : Blk W k T cs
section
variable {w W W2 : World} {base g k : Nat} {T : TypeId} {cs : Array Value} {l l2 : List Nat}
theorem PtK.drew (h : PtK w W base g k T cs l) : PtK w W.drew base g k T cs l := ⟨h.out, h.bel.drew, h.st, h.box⟩
theorem PtK.put (h : PtK w W base g k T cs l) (ho : OutZ W2 base g l2) (hb : BelZ base g W W2) (hs : Stays g W W2) (hk : k ≠ g) (hT : 5 ≠ T) : PtK w W2 base g k T cs l2 :=
  ⟨ho, h.bel.trans hb, h.st.trans hs, hs.2 k T cs hk hT h.box⟩
end
theorem u8_ent : (5 : TypeId) ≠ 44 := by decide
theorem outAt_lt {w : World} {base g : Nat} {l : List Nat} (h : OutZ w base g l) : g < w.heap.size := by
  exact h.lt
def PutOut (base g : Nat) (l : List Nat) (w : World) (en : Ending) (w' : World) : Prop := en = .returned (.tuple #[]) ∧ OutZ w' base g l ∧ BelZ base g w w' ∧ Stays g w w'
set_option maxRecDepth 100000 in
set_option maxHeartbeats 4000000 in
theorem lkeput_any (base g : Nat) (l : List Nat) (e : EnL) (w : World) (h : OutZ w base g l) (hm : e.mode = 1 ∨ e.mode = 2) (hu : IsUk e.num) (hn : 0 ≤ e.n ∧ e.n ≤ 9223372036854775807) (hs : 0 ≤ e.stamp ∧ e.stamp ≤ 1000000) (hlen : l.length + (e.path.size + e.foot.size + 60) ≤ 140737488355328) :
    Calls Tryz.prog 48 #[entV e, .pointer (some ⟨g, 0, none⟩)] w (PutOut base g (l ++ encE e) w) := by
  obtain ⟨p, u, f, mo, n, st⟩ := e
  dsimp only at hm hu hn hs hlen
  unfold encE
  dsimp only
  have hlp : (shortN p.size).length ≤ 10 := shortN_len10 (by omega)
  have hlf : (shortN f.size).length ≤ 10 := shortN_len10 (by omega)
  have hbp := bytesOfS_len p
  have hbf := bytesOfS_len f
  obtain ⟨L1, hL1⟩ : ∃ x, (l ++ shortN p.size) ++ bytesOfS p = x := ⟨_, rfl⟩
  have h1 : L1.length ≤ l.length + 10 + p.size := by rw [← hL1]; simp; omega
  obtain ⟨L2, hL2⟩ : ∃ x, ((L1 ++ bytesN u.toNat 8) ++ shortN f.size) ++ bytesOfS f = x := ⟨_, rfl⟩
  have hb8 : (bytesN u.toNat 8).length = 8 := bytesN_len _ _
  have hb9 : (bytesN n.toNat 8).length = 8 := bytesN_len _ _
  have h2 : L2.length ≤ L1.length + 18 + f.size := by rw [← hL2]; simp; omega
  have HFin : Hid (((L2 ++ [mo.toNat]) ++ bytesN n.toNat 8) ++ shortN st.toNat = l ++ (shortN p.size ++ bytesOfS p ++ bytesN u.toNat 8 ++ shortN f.size ++ bytesOfS f ++ [mo.toNat] ++ bytesN n.toNat 8 ++ shortN st.toNat)) := hid (by rw [← hL2, ← hL1]; simp only [List.append_assoc])
  have HU := hid hu
  have HT1 := hid (fun W (k : OutZ W base g l) => outtextz_as base g l L1 p W hL1.symm k (by omega) (by omega))
  have HF1 := hid (fun W (k : OutZ W base g L1) => outfixedz_any base g L1 u.toNat u W k (by unfold IsUk at hu; omega) (by unfold IsUk at hu; omega) (by omega))
  have HT2 := hid (fun W (k : OutZ W base g (L1 ++ bytesN u.toNat 8)) => outtextz_as base g (L1 ++ bytesN u.toNat 8) L2 f W hL2.symm k (by omega) (by rw [List.length_append, hb8]; omega))
  have HB1 := hid (fun W (k : OutZ W base g L2) => outbytez_any base g L2 mo.toNat mo W k (by omega) (by omega))
  have HF2 := hid (fun W (k : OutZ W base g (L2 ++ [mo.toNat])) => outfixedz_any base g (L2 ++ [mo.toNat]) n.toNat n W k (by omega) (by omega) (by simp; omega))
  have HS1 := hid (fun W (k : OutZ W base g ((L2 ++ [mo.toNat]) ++ bytesN n.toNat 8)) => outshortz_any base g ((L2 ++ [mo.toNat]) ++ bytesN n.toNat 8) st.toNat st W k (by omega) (by omega) (by simp; omega))
  have hmw : IntKind.u8.wrap mo = mo := by rcases hm with rfl | rfl <;> rfl
  have hsw : IntKind.u64.wrap st = st := IntWalk.u64_in _ (by omega)
  have HO := hid h
  have hgl := outAt_lt h
  have hbs := h.base_le
  rw [← HFin.out]
  clear h hlen hlp hlf hbp hbf hL1 hL2 h1 h2 hb8 hb9 hm hu hn hs
  go_enter Tryz.func48, Tryz.ntmps48
  go_upto_region 1 with fail
  obtain ⟨W, hW⟩ : ∃ W, w.alloc (.cells #[.string p, .int .u64 u, .string f, .int .i64 mo, .int .u64 n, .int .i64 st] 44) = W := ⟨_, rfl⟩
  rw [hW]
  have P0 : Hid (PtK w W base g w.heap.size 44 #[.string p, .int .u64 u, .string f, .int .i64 mo, .int .u64 n, .int .i64 st] l) := hid (by
    rw [← hW]
    exact ⟨HO.out.alloc _, BelZ.of ((Below.refl _ w).alloc (Nat.le_refl _) _), Stays.of_below ((Below.refl _ w).alloc (Nat.le_refl _) _), Blk.new w 44 _⟩)
  clear hW
  obtain ⟨k, hk⟩ : ∃ k, w.heap.size = k := ⟨_, rfl⟩
  rw [hk] at P0 hgl ⊢
  have hkg : k ≠ g := by omega
  clear hk hbs
  obtain ⟨y0, y1, y2, y3, y4, y5⟩ := lcells6 P0.out.box
  go_upto_region 2 with (first
    | (go_at_call 51; (with_reducible refine (HT1.out _ P0.out.out).mono ?_); rintro en w1 ⟨⟨rfl, ho, hb⟩, hs⟩; have P1 := hid (P0.out.put ho hb hs hkg u8_ent); clear ho hb hs y0 y1 y2 y3 y4 y5))
  have D1 := hid P1.out.drew
  have A1 := hid (lcells6 D1.out.box)
  go_region_held3 (fun W => W.cell? ⟨k, 0, none⟩ = some (.string p) ∧ W.cell? ⟨k, 1, none⟩ = some (.int .u64 u) ∧ W.cell? ⟨k, 2, none⟩ = some (.string f) ∧ W.cell? ⟨k, 3, none⟩ = some (.int .i64 mo) ∧ W.cell? ⟨k, 4, none⟩ = some (.int .u64 n) ∧ W.cell? ⟨k, 5, none⟩ = some (.int .i64 st))
    (first | with_reducible exact A1.out | with_reducible exact A2.out | with_reducible exact A3.out)
    (first
      | (go_at_call 52; (with_reducible refine (HF1.out _ D1.out.out).mono ?_); rintro en w2 ⟨⟨rfl, ho, hb⟩, hs⟩; have P2 := hid (D1.out.put ho hb hs hkg u8_ent); have A2 := hid (lcells6 P2.out.box); clear ho hb hs)
      | (go_at_call 51; (with_reducible refine (HT2.out _ P2.out.out).mono ?_); rintro en w3 ⟨⟨rfl, ho, hb⟩, hs⟩; have P3 := hid (P2.out.put ho hb hs hkg u8_ent); have A3 := hid (lcells6 P3.out.box); clear ho hb hs))
  clear A1 A2 A3
  go_upto_region 3 with fail
  have D3 := hid P3.out.drew
  have A1 := hid (lcells6 D3.out.box)
  go_region_held3 (fun W => W.cell? ⟨k, 0, none⟩ = some (.string p) ∧ W.cell? ⟨k, 1, none⟩ = some (.int .u64 u) ∧ W.cell? ⟨k, 2, none⟩ = some (.string f) ∧ W.cell? ⟨k, 3, none⟩ = some (.int .i64 mo) ∧ W.cell? ⟨k, 4, none⟩ = some (.int .u64 n) ∧ W.cell? ⟨k, 5, none⟩ = some (.int .i64 st))
    (first | with_reducible exact A1.out | with_reducible exact A2.out | with_reducible exact A3.out | with_reducible exact A4.out)
    (first
      | (go_at_call 78; (with_reducible refine (HB1.out _ D3.out.out).mono ?_); rintro en w4 ⟨⟨rfl, ho, hb⟩, hs⟩; have P4 := hid (D3.out.put ho hb hs hkg u8_ent); have A2 := hid (lcells6 P4.out.box); clear ho hb hs)
      | (go_at_call 52; (with_reducible refine (HF2.out _ P4.out.out).mono ?_); rintro en w5 ⟨⟨rfl, ho, hb⟩, hs⟩; have P5 := hid (P4.out.put ho hb hs hkg u8_ent); have A3 := hid (lcells6 P5.out.box); clear ho hb hs)
      | (go_at_call 47; (with_reducible refine (HS1.out _ P5.out.out).mono ?_); rintro en w6 ⟨⟨rfl, ho, hb⟩, hs⟩; have P6 := hid (P5.out.put ho hb hs hkg u8_ent); have A4 := hid (lcells6 P6.out.box); clear ho hb hs))
  go_wp2
  exact bodyPost_ret (results_none rfl _ _ _) rfl ⟨rfl, P6.out.out, P6.out.bel, P6.out.st⟩
end Go.Proofs.YtgjbhlianlbflaaGreat
namespace Go.Proofs.YtgjbhlianlbflaaGreat
open Go.ChangeShapes Go.WideShapes Go.ChangeAt Go.RowKit Go.Maps Go.WideMaps
set_option linter.unusedVariables false
set_option linter.unusedSimpArgs false
def valC (cs : CnL) (p : ByteArray) : Int := ((cs.find? fun c => decide (c.1 = p)).map (·.2)).getD 0
set_option maxRecDepth 100000 in
theorem CsM.val {w : World} {b n : Nat} {cs : CnL} (h : CsM w b n cs) {p : ByteArray} (hp : OkK p) :
    (Instr.lookup 76 (.map (some b)) (.string p) false).run Tryz.prog w = .ok (.int .u64 (valC cs p)) w := by
  obtain ⟨D, h1, h2, _⟩ := h
  obtain ⟨h3, h4⟩ := h2 p hp
  obtain ⟨v, ps, hrun, hv⟩ := h1.lookup law_lpath Tryz.underlying76 (zero_cnt w) (zd := .held (.int .u64 0)) (zp := []) rfl (key_lpath hp.max)
  have e : v = .int .u64 (valC cs p) := by
    unfold valC
    cases hl : cs.find? (fun c => decide (c.1 = p)) with
    | some x =>
      rw [h4 x hl] at hv
      unfold idK at hv
      injection hv with hv
      injection hv with hv _
      injection hv
    | none =>
      have hh : Maps.has D (.string p.data.toList) = false := by rw [h3, hl]; rfl
      rw [atKey_of_not_has hh] at hv
      unfold idK at hv
      injection hv with hv
      injection hv with hv _
      injection hv
  rw [← e]
  exact hrun
def encC (cs : CnL) (p : ByteArray) : List Nat := shortN p.size ++ bytesOfS p ++ bytesN (valC cs p).toNat 8
def encB (cs : CnL) (ds : List EnL) (ps : List ByteArray) : List Nat := shortN ds.length ++ ds.flatMap encE ++ shortN ps.length ++ ps.flatMap (encC cs)
def wtE (e : EnL) : Nat := e.path.size + e.foot.size + 60
def wtC (p : ByteArray) : Nat := p.size + 20
theorem flat_le {α : Type} (enc : α → List Nat) (wt : α → Nat) : ∀ (l : List α), (∀ x ∈ l, (enc x).length ≤ wt x) → (l.flatMap enc).length ≤ (l.map wt).sum
  | [], _ => Nat.le_refl _
  | x :: l, h => by
    rw [List.flatMap_cons, List.length_append, List.map_cons, List.sum_cons]
    have := flat_le enc wt l (fun y hy => h y (by simp [hy]))
    have := h x (by simp)
    omega
theorem sum_at {α : Type} (wt : α → Nat) : ∀ {l : List α} {i : Nat} {x : α}, l[i]? = some x → ((l.take i).map wt).sum + wt x ≤ (l.map wt).sum
  | [], i, x, h => by simp at h
  | y :: l, 0, x, h => by
    simp at h
    subst h
    simp
  | y :: l, i + 1, x, h => by
    have := sum_at wt (l := l) (i := i) (x := x) (by simpa using h)
    rw [List.take_succ_cons, List.map_cons, List.sum_cons, List.map_cons, List.sum_cons]
    omega
theorem take_snocP {α : Type} {l : List α} {i : Nat} {x : α} (h : l[i]? = some x) : l.take (i + 1) = l.take i ++ [x] := by rw [List.take_add_one, h]; rfl
theorem flat_snoc {α β : Type} (enc : α → List β) {l : List α} {i : Nat} {x : α} (h : l[i]? = some x) : (l.take (i + 1)).flatMap enc = (l.take i).flatMap enc ++ enc x := by
  rw [take_snocP h, List.flatMap_append]
  simp
theorem encE_le {e : EnL} (hp : e.path.size ≤ 1000) (hf : OkK e.foot) (hs : 0 ≤ e.stamp ∧ e.stamp ≤ 1000000) : (encE e).length ≤ wtE e := by
  unfold encE wtE
  have h1 : (shortN e.path.size).length ≤ 10 := shortN_len10 (by omega)
  have h2 : (shortN e.foot.size).length ≤ 10 := shortN_len10 (by unfold OkK at hf; omega)
  have h3 : (shortN e.stamp.toNat).length ≤ 10 := shortN_len10 (by omega)
  simp only [List.length_append, bytesN_len, bytesOfS_len, List.length_cons, List.length_nil]
  omega
theorem encC_le (cs : CnL) {p : ByteArray} (hp : p.size ≤ 1000) : (encC cs p).length ≤ wtC p := by
  unfold encC wtC
  have h1 : (shortN p.size).length ≤ 10 := shortN_len10 (by omega)
  simp only [List.length_append, bytesN_len, bytesOfS_len]
  omega
theorem outAt_ne {w : World} {base g : Nat} {l : List Nat} (h : OutZ w base g l) {b : Nat} {T : TypeId} {cs : Array Value} (hb : Blk w b T cs) (hT : 58 ≠ T) : b ≠ g := by
  rintro rfl
  obtain ⟨v, h1, _⟩ := h
  have := h1.heap.symm.trans hb.heap
  injection this with this
  injection this with _ this _
  exact hT this
theorem cell_same {w W : World} {b o : Nat} {T : TypeId} {cs : Array Value} {v : Value} (h : Blk w b T cs) (h2 : Blk W b T cs) (hc : w.cell? ⟨b, o, none⟩ = some v) : W.cell? ⟨b, o, none⟩ = some v := by
  rw [h2.cell o, ← h.cell o]
  exact hc
theorem SeesE.stays {w W : World} {A : Option Addr} {l : List EnL} {g : Nat} (h : SeesE w A l) (hT : ∀ b o, A = some ⟨b, o, none⟩ → b ≠ g ∧ ∃ cs, Blk w b 44 cs) (hs : Stays g w W) : SeesE W A l := fun j y hj => by
  obtain ⟨b, o, h1, h2, h3⟩ := h j y hj
  obtain ⟨hne, cs, hb⟩ := hT b o h1
  exact ⟨b, o, h1, Nat.lt_of_lt_of_le h2 hs.1, fun i v hv => cell_same hb (hs.2 b _ cs hne u8_ent hb) (h3 i v hv)⟩
theorem SeesP.stays {w W : World} {A : Option Addr} {l : List ByteArray} {g : Nat} (h : SeesP w A l) (hT : ∀ b o, A = some ⟨b, o, none⟩ → b ≠ g ∧ ∃ cs, Blk w b 9 cs) (hs : Stays g w W) : SeesP W A l := fun j y hj => by
  obtain ⟨b, o, h1, h2, h3⟩ := h j y hj
  obtain ⟨hne, cs, hb⟩ := hT b o h1
  exact ⟨b, o, h1, Nat.lt_of_lt_of_le h2 hs.1, cell_same hb (hs.2 b _ cs hne (by decide) hb) h3⟩
theorem SeesE.atP {w : World} {A : Option Addr} {l : List EnL} (h : SeesE w A l) {j : Nat} {e : EnL} (he : l[j]? = some e) : ∃ b o, A = some ⟨b, o, none⟩ ∧ b < w.heap.size ∧ w.cell? ⟨b, o + j * 6, none⟩ = some (.string e.path) ∧ w.cell? ⟨b, o + j * 6 + 1, none⟩ = some (.int .u64 e.num) ∧ w.cell? ⟨b, o + j * 6 + 2, none⟩ = some (.string e.foot) ∧ w.cell? ⟨b, o + j * 6 + 3, none⟩ = some (.int .i64 e.mode) ∧ w.cell? ⟨b, o + j * 6 + 4, none⟩ = some (.int .u64 e.n) ∧ w.cell? ⟨b, o + j * 6 + 5, none⟩ = some (.int .i64 e.stamp) := by
  obtain ⟨b, o, h1, h2, h3⟩ := h j e he
  exact ⟨b, o, h1, h2, h3 0 _ rfl, h3 1 _ rfl, h3 2 _ rfl, h3 3 _ rfl, h3 4 _ rfl, h3 5 _ rfl⟩
theorem ckeys2_any (m : Nat) (w : World) :
    Calls Tryz.prog 50 #[.map (some m)] w fun e w' => e = .returned (.func (.func 80) #[] #[.pointer (some ⟨w.heap.size, 0, none⟩)]) ∧ w.heap.size < w'.heap.size ∧ w'.cell? ⟨w.heap.size, 0, none⟩ = some (.map (some m)) ∧ Below w.heap.size w w' :=
  (ckeys_any m w).mono fun e w' ⟨he, hw⟩ => by
    subst hw
    exact ⟨he, by simp, (Blk.new w _ _).cell 0, (Below.refl _ w).alloc (Nat.le_refl _) _⟩
theorem valC_of {cs : CnL} {p : ByteArray} (hp : p ∈ cs.map (·.1)) : ∃ c ∈ cs, c.1 = p ∧ valC cs p = c.2 := by
  have h1 : (cs.find? fun c => decide (c.1 = p)).isSome = true := by
    rw [List.find?_isSome]
    obtain ⟨c, hc, h⟩ := List.mem_map.1 hp
    exact ⟨c, hc, by simpa using h⟩
  obtain ⟨c, hc⟩ := Option.isSome_iff_exists.1 h1
  refine ⟨c, List.mem_of_find?_eq_some hc, by simpa using List.find?_some hc, ?_⟩
  unfold valC
  rw [hc]
  rfl
theorem SeesP.atP {w : World} {A : Option Addr} {l : List ByteArray} (h : SeesP w A l) {j : Nat} {e : ByteArray} (he : l[j]? = some e) : ∃ b o, A = some ⟨b, o, none⟩ ∧ b < w.heap.size ∧ w.cell? ⟨b, o + j, none⟩ = some (.string e) := h j e he
def PutB (base g : Nat) (L0 : List Nat) (l : List EnL) (cs : CnL) (w : World) (en : Ending) (w' : World) : Prop :=
  ∃ ds ps, en = .returned (.tuple #[]) ∧ RisesE ds ∧ ds.Perm l ∧ RisesP ps ∧ ps.Perm (cs.map (·.1)) ∧ OutZ w' base g (L0 ++ encB cs ds ps) ∧ BelZ base g w w' ∧ Stays g w w'
theorem filter_all (l : List EnL) : l.filter (fun _ : EnL => true) = l := List.filter_eq_self.2 (fun _ _ => rfl)
set_option maxRecDepth 100000 in
set_option maxHeartbeats 8000000 in
theorem lkput_any (base g : Nat) (L0 : List Nat) (bb b de dc n : Nat) (first : Int) (l : List EnL) (cs : CnL) (w : World) (h : BkK w bb b de dc n first l cs) (hn : n ≤ 1000000) (hc : cs.length ≤ 1000000) (ho : OutZ w base g L0) (hbn : ¬ (b = g ∨ base ≤ b)) (hdn : ¬ (dc = g ∨ base ≤ dc))
    (hlen : L0.length + ((l.map wtE).sum + ((cs.map (·.1)).map wtC).sum + 40) ≤ 140737488355328) :
    Calls Tryz.prog 23 #[.pointer (some ⟨b, 0, none⟩), .pointer (some ⟨g, 0, none⟩)] w (PutB base g L0 l cs w) := by
  have HL := hid (lklist_any bb b de dc n first l cs w h hn)
  have HGd := hid h.good
  have HBb := hid h.blk
  have HCs := hid h.ct
  have HMn := hid h.many
  have HO := hid ho
  have HLen := hid hlen
  have HPz : Hid (∀ e ∈ l, e.path.size ≤ 900) := hid (fun e he => by have := size_right (h.good.ok e he).1; omega)
  have HCz : Hid (∀ c ∈ cs, c.1.size ≤ 900) := hid (fun c he => by have := size_right (h.good.cok c he).1; omega)
  unfold OutE at HL
  rw [filter_all] at HL
  have HN := hid hn
  have HC := hid hc
  clear h ho hlen hn hc
  go_enter Tryz.func23, Tryz.ntmps23
  go_upto_region 1 with (first
    | (go_at_call 16; (with_reducible refine HL.out.mono ?_); rintro r w1 ⟨ds, LA, lc, hri, hpm, rfl, hse, hty, _, _, b1⟩; have HRi := hid hri; have HPm := hid hpm; have HSe := hid hse; have HTy := hid hty; have B1 := hid b1; clear hri hpm hse hty b1))
  have HO1 := hid (HO.out.later B1.out)
  have S1f : Hid (Stays g w w1) := hid (Stays.of_below B1.out)
  have HBase := hid HO.out.base_le
  obtain ⟨dn, hdn⟩ : ∃ x, ds.length = x := ⟨_, rfl⟩
  have HDn := hid hdn
  rw [hdn]
  have hdl : dn ≤ 1000000 := by
    have h1 := HMn.out.1
    have h2 := HPm.out.length_eq
    have := HN.out
    omega
  have HSum : Hid ((ds.map wtE).sum = (l.map wtE).sum) := hid ((HPm.out.map wtE).sum_nat)
  have HNe : Hid (∀ b o, LA = some ⟨b, o, none⟩ → b ≠ g ∧ ∃ cs, Blk w1 b 44 cs) := hid (fun b o e => by
    obtain ⟨h1, h2, xs, h3⟩ := HTy.out b o e
    exact ⟨outAt_ne HO1.out h3 (by decide), xs, h3⟩)
  have qd : IntKind.u64.wrap (dn : Int) = (dn : Int) := IntWalk.u64_in _ (by omega)
  have HSh := hid (outshortz_any base g L0 dn (dn : Int) w1 HO1.out rfl (by omega) (by have := HLen.out; omega))
  have hs10 : (shortN dn).length ≤ 10 := shortN_len10 (by omega)
  clear hdn
  go_upto_region 2 with (first
    | (go_at_call 47; (with_reducible refine HSh.out.mono ?_); rintro en w2 ⟨⟨rfl, ho, hb'⟩, hs⟩; have O2 := hid ho; have B2 := hid ((BelZ.of B1.out).trans hb'); have S2 := hid hs; clear ho hb' hs))
  go_wp2_with fail
  go_loopw [19] (fun iv wr => ∃ i : Nat, iv = .int .i64 (i : Int) ∧ i ≤ dn ∧ Hid (OutZ wr base g ((L0 ++ shortN dn) ++ (ds.take i).flatMap encE) ∧ BelZ base g w wr ∧ Stays g w1 wr)) (fun iv _ => dn - (intOf iv).toNat)
  case atStart => exact ⟨0, rfl, by omega, hid ⟨by simpa using O2.out, B2.out, S2.out⟩⟩
  case round =>
    obtain ⟨i, rfl, hi, HD⟩ := hrel
    have hfl : ((ds.take i).flatMap encE).length ≤ ((ds.take i).map wtE).sum := flat_le encE wtE _ (fun x hx => by
      have hm := HPm.out.mem_iff.1 (List.mem_of_mem_take hx)
      have h1 := HGd.out.keys x hm
      have h2 := HGd.out.ok x hm
      have h3 := HMn.out.2 x hm
      have h4 := HPz.out x hm
      have := HN.out
      exact encE_le (by omega) h1.2.2 (by omega))
    by_cases hlt : i < dn
    · have hlt' : (i : Int) < (dn : Int) := by omega
      obtain ⟨e, he⟩ : ∃ e, ds[i]? = some e := ⟨_, List.getElem?_eq_getElem (by rw [HDn.out]; exact hlt)⟩
      have hm := HPm.out.mem_iff.1 (List.mem_of_getElem? he)
      have h1 := HGd.out.keys e hm
      have h2 := HGd.out.ok e hm
      have h3 := HMn.out.2 e hm
      have h4 := HGd.out.hf
      have h5 := sum_at wtE he
      rw [HSum.out] at h5
      obtain ⟨xb, xo, hX, hxb, y0, y1, y2, y3, y4, y5⟩ := (HSe.out.stays HNe.out HD.out.2.2).atP he
      subst hX
      have HSn := hid (flat_snoc encE he)
      have qi : IntKind.i64.wrap ((i : Int) + 1) = ((i + 1 : Nat) : Int) := by rw [IntWalk.i64_in _ (by omega)]; omega
      obtain ⟨Li, hLi⟩ : ∃ x, (L0 ++ shortN dn) ++ (ds.take i).flatMap encE = x := ⟨_, rfl⟩
      have hLl : Li.length + (e.path.size + e.foot.size + 60) ≤ 140737488355328 := by
        rw [← hLi]
        have := HLen.out
        have hw : wtE e = e.path.size + e.foot.size + 60 := rfl
        simp only [List.length_append]
        omega
      have HPu := hid (fun W (k : OutZ W base g Li) => lkeput_any base g Li e W k h2.2.1 h1.1 (by unfold IsUk at h4; omega) (by have := HN.out; omega) hLl)
      have HLi := hid hLi
      rw [hLi] at HD
      clear he hm h1 h2 h3 h4 h5 hxb hfl hLl hLi
      go_upto_region 5 with fail
      obtain ⟨w3, hw3⟩ : ∃ z, wr.alloc (.cells #[.string e.path, .int .u64 e.num, .string e.foot, .int .i64 e.mode, .int .u64 e.n, .int .i64 e.stamp] 44) = z := ⟨_, rfl⟩
      obtain ⟨E3, K3⟩ := lone_new hw3
      have O3 := hid (HD.out.1.later K3.out)
      have C3 := hid (And.intro (HD.out.2.1.on K3.out) (HD.out.2.2.trans (Stays.of_below K3.out)))
      obtain ⟨xg, hxg⟩ : ∃ z, wr.heap.size = z := ⟨_, rfl⟩
      rw [hxg] at E3 ⊢
      rw [hw3]
      clear hw3 hxg K3 y0 y1 y2 y3 y4 y5 HD
      obtain ⟨y0, y1, y2, y3, y4, y5⟩ := lcells6 E3.out
      go_wp2_with (first
        | (go_at_call 48; (with_reducible refine (HPu.out _ O3.out).mono ?_); rintro en w4 ⟨rfl, ho, hb', hs⟩; have D4 := hid (And.intro ho (And.intro (C3.out.1.trans hb') (C3.out.2.trans hs))); clear ho hb' hs y0 y1 y2 y3 y4 y5))
      go_roundw
      case rel => exact ⟨i + 1, by push_cast; rfl, by omega, hid ⟨by rw [HSn.out, ← List.append_assoc, HLi.out]; exact D4.out.1, D4.out.2⟩⟩
      case measure => simp only [intOf]; omega
    · have hlt' : ¬ (i : Int) < (dn : Int) := by omega
      have hin : i = dn := by omega
      subst hin
      rw [List.take_of_length_le (by rw [HDn.out]; exact Nat.le_refl _)] at HD hfl
      rw [HSum.out] at hfl
      obtain ⟨wS, rfl⟩ : ∃ z, z = wr := ⟨_, rfl⟩
      obtain ⟨L1, hL1⟩ : ∃ x, (L0 ++ shortN i) ++ ds.flatMap encE = x := ⟨_, rfl⟩
      have hL1l : L1.length ≤ L0.length + 10 + (l.map wtE).sum := by
        rw [← hL1]
        simp only [List.length_append]
        omega
      have HL1 := hid hL1
      rw [hL1] at HD
      clear hL1 hfl
      have c2 : wS.cell? ⟨b, 2, none⟩ = some (.map (some dc)) := ((HBb.out.turns HD.out.2.1 hbn).cell 2).trans rfl
      have HSo := hid (fun (W : World) (g' : Nat) (h1 : g' < W.heap.size) (h2 : W.cell? ⟨g', 0, none⟩ = some (.map (some dc))) (h3 : BelZ base g w W) => csorted_any dc n cs g' W h1 h2 (HCs.out.same (TurnsD.block h3 dc HCs.out.lt hdn)) (fun c hc => (HGd.out.cok c hc).1) HGd.out.cdist HN.out)
      unfold PathsOut at HSo
      go_upto_region 8 with (first
        | (go_at_call 50; (with_reducible refine (ckeys2_any dc _).mono ?_); rintro en w5 ⟨rfl, k1, k2, k3⟩; have K5 := hid (And.intro k1 (And.intro k2 (And.intro (HD.out.2.1.on k3) k3))); clear k1 k2 k3)
        | (go_at_call 49; (with_reducible refine (HSo.out _ _ K5.out.1 K5.out.2.1 K5.out.2.2.1).mono ?_); rintro en w6 ⟨PA, pc, ps, rfl, hr, hp, hsp, hty, k6⟩; have HRp := hid hr; have HPp := hid hp; have HSp := hid hsp; have HTp := hid hty; have K6 := hid k6; clear hr hp hsp hty k6))
      have O6 := hid ((HD.out.1.later K5.out.2.2.2).later K6.out)
      have B6 := hid (K5.out.2.2.1.on K6.out)
      have S6 := hid ((HD.out.2.2.trans (Stays.of_below K5.out.2.2.2)).trans (Stays.of_below K6.out))
      obtain ⟨pn, hpn⟩ : ∃ x, ps.length = x := ⟨_, rfl⟩
      have HPn := hid hpn
      rw [hpn]
      have hpl : pn ≤ 1000000 := by
        have h2 := HPp.out.length_eq
        rw [List.length_map] at h2
        have := HC.out
        omega
      have HSumP : Hid ((ps.map wtC).sum = ((cs.map (·.1)).map wtC).sum) := hid ((HPp.out.map wtC).sum_nat)
      have HNp : Hid (∀ b o, PA = some ⟨b, o, none⟩ → b ≠ g ∧ ∃ cs, Blk w6 b 9 cs) := hid (fun b o e => by
        obtain ⟨xs, h3⟩ := HTp.out b o e
        exact ⟨outAt_ne O6.out h3 (by decide), xs, h3⟩)
      have qp : IntKind.u64.wrap (pn : Int) = (pn : Int) := IntWalk.u64_in _ (by omega)
      have HSh2 := hid (outshortz_any base g L1 pn (pn : Int) w6 O6.out rfl (by omega) (by have := HLen.out; omega))
      have hp10 : (shortN pn).length ≤ 10 := shortN_len10 (by omega)
      have HMp : Hid (∀ p ∈ ps, p.size ≤ 900) := hid (fun p hp => by
        obtain ⟨c, hc, rfl⟩ := List.mem_map.1 (HPp.out.mem_iff.1 hp)
        exact HCz.out c hc)
      clear hpn HSo HD K5 K6 c2
      go_upto_region 9 with (first
        | (go_at_call 47; (with_reducible refine HSh2.out.mono ?_); rintro en w7 ⟨⟨rfl, ho, hb'⟩, hs⟩; have O7 := hid ho; have B7 := hid (B6.out.trans hb'); have S7 := hid hs; clear ho hb' hs))
      go_wp2_with fail
      go_loopw [40] (fun iv wr => ∃ j : Nat, iv = .int .i64 (j : Int) ∧ j ≤ pn ∧ Hid (OutZ wr base g ((L1 ++ shortN pn) ++ (ps.take j).flatMap (encC cs)) ∧ BelZ base g w wr ∧ Stays g w6 wr)) (fun iv _ => pn - (intOf iv).toNat)
      case atStart => exact ⟨0, rfl, by omega, hid ⟨by simpa using O7.out, B7.out, S7.out⟩⟩
      case round =>
        obtain ⟨j, rfl, hj, HD⟩ := hrel
        have hfl : ((ps.take j).flatMap (encC cs)).length ≤ ((ps.take j).map wtC).sum := flat_le (encC cs) wtC _ (fun x hx => encC_le cs (by have := HMp.out x (List.mem_of_mem_take hx); omega))
        by_cases hlt : j < pn
        · have hlt2 : (j : Int) < (pn : Int) := by omega
          obtain ⟨p, he⟩ : ∃ e, ps[j]? = some e := ⟨_, List.getElem?_eq_getElem (by rw [HPn.out]; exact hlt)⟩
          have hpz := HMp.out p (List.mem_of_getElem? he)
          have hpk : OkK p := by unfold OkK; omega
          obtain ⟨c, hcc, hcp, hcv⟩ := valC_of (HPp.out.mem_iff.1 (List.mem_of_getElem? he))
          have h2 := (HGd.out.cok c hcc).2
          have h4 := HGd.out.hf
          have h5 := sum_at wtC he
          rw [HSumP.out] at h5
          obtain ⟨xb, xo, hX, hxb, y0⟩ := (HSp.out.stays HNp.out HD.out.2.2).atP he
          subst hX
          have HSn := hid (flat_snoc (encC cs) he)
          have qi : IntKind.i64.wrap ((j : Int) + 1) = ((j + 1 : Nat) : Int) := by rw [IntWalk.i64_in _ (by omega)]; omega
          have HLk := hid (fun (W : World) (e : W.heap[dc]? = w.heap[dc]?) => (HCs.out.same e).val hpk)
          obtain ⟨v, hv⟩ : ∃ v, valC cs p = v := ⟨_, rfl⟩
          have HEc : Hid (encC cs p = shortN p.size ++ bytesOfS p ++ bytesN v.toNat 8) := hid (by unfold encC; rw [hv])
          rw [hv] at HLk hcv
          have hv0 : 0 ≤ v ∧ v ≤ 9223372036854775807 := by unfold IsUk at h4; omega
          obtain ⟨Li, hLi⟩ : ∃ x, (L1 ++ shortN pn) ++ (ps.take j).flatMap (encC cs) = x := ⟨_, rfl⟩
          have hLl : Li.length + (p.size + 20) ≤ 140737488355328 := by
            rw [← hLi]
            have := HLen.out
            have hw : wtC p = p.size + 20 := rfl
            simp only [List.length_append]
            omega
          obtain ⟨L2, hL2⟩ : ∃ x, (Li ++ shortN p.size) ++ bytesOfS p = x := ⟨_, rfl⟩
          have hp1 : (shortN p.size).length ≤ 10 := shortN_len10 (by omega)
          have hbp := bytesOfS_len p
          have h2l : L2.length ≤ Li.length + 10 + p.size := by rw [← hL2]; simp only [List.length_append]; omega
          have HL2 : Hid (L2 ++ bytesN v.toNat 8 = (L1 ++ shortN pn) ++ (ps.take (j + 1)).flatMap (encC cs)) := hid (by rw [HSn.out, HEc.out, ← hL2, ← hLi]; simp only [List.append_assoc])
          have HTx := hid (fun W (k : OutZ W base g Li) => outtextz_as base g Li L2 p W hL2.symm k (by omega) (by omega))
          have HFx := hid (fun W (k : OutZ W base g L2) => outfixedz_any base g L2 v.toNat v W k (by omega) (by omega) (by omega))
          rw [hLi] at HD
          clear he hpz hpk hcc hcp hcv h2 h4 h5 hxb hfl hLl hLi hL2 hp1 hbp h2l hv
          go_upto_region 12 with fail
          have HSt := hid (fun (W : World) (k : BelZ base g w W) => And.intro (((HBb.out.turns k hbn).cell 2).trans (rfl : _ = some (Value.map (some dc)))) (TurnsD.block k dc HCs.out.lt hdn))
          have D1 := hid (And.intro HD.out.1 (And.intro HD.out.2.1.drew HD.out.2.2))
          have A1 := hid (HSt.out _ D1.out.2.1)
          have hL := HLk.out
          have O1 : Hid (OutZ wr.drew base g Li) := hid HD.out.1
          have S1 : Hid (Stays g w6 wr.drew) := hid HD.out.2.2
          go_region_held3 (fun W => W.cell? ⟨b, 2, none⟩ = some (.map (some dc)) ∧ W.heap[dc]? = w.heap[dc]?)
            (first | with_reducible exact A1.out | with_reducible exact A2.out | with_reducible exact A3.out)
            (first
              | (go_at_call 51; (with_reducible refine (HTx.out _ O1.out).mono ?_); rintro en w8 ⟨⟨rfl, ho, hb'⟩, hs⟩; have O8 := hid ho; have B8 := hid (D1.out.2.1.trans hb'); have S8 := hid (S1.out.trans hs); have A2 := hid (HSt.out _ B8.out); clear ho hb' hs)
              | (go_at_call 52; (with_reducible refine (HFx.out _ O8.out).mono ?_); rintro en w9 ⟨⟨rfl, ho, hb'⟩, hs⟩; have O9 := hid ho; have B9 := hid (B8.out.trans hb'); have S9 := hid (S8.out.trans hs); have A3 := hid (HSt.out _ B9.out); clear ho hb' hs))
          all_goals go_wp2
          all_goals
            go_roundw
            case rel => exact ⟨j + 1, by push_cast; rfl, by omega, hid ⟨by rw [← HL2.out]; exact O9.out, B9.out, S9.out⟩⟩
            case measure => simp only [intOf]; omega
        · have hlt2 : ¬ (j : Int) < (pn : Int) := by omega
          have hjn : j = pn := by omega
          subst hjn
          rw [List.take_of_length_le (by rw [HPn.out]; exact Nat.le_refl _)] at HD
          have HEq : Hid ((L1 ++ shortN j) ++ ps.flatMap (encC cs) = L0 ++ encB cs ds ps) := hid (by rw [← HL1.out]; unfold encB; rw [HDn.out, HPn.out]; simp only [List.append_assoc])
          rw [HEq.out] at HD
          have SF := hid (S1f.out.trans (S6.out.trans HD.out.2.2))
          go_wp2_with fail
          exact bodyPost_ret (results_none rfl _ _ _) rfl ⟨ds, ps, rfl, HRi.out, HPm.out, HRp.out, HPp.out, HD.out.1, HD.out.2.1, SF.out⟩
end Go.Proofs.YtgjbhlianlbflaaGreat
