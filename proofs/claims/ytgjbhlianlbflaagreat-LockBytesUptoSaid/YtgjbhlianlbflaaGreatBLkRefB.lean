/-
  The document's Add.
-/
import Derived.Test.YtgjbhlianlbflaaGreatBLkRefA
namespace Go.Proofs.YtgjbhlianlbflaaGreat
open Go.ChangeShapes Go.WideShapes Go.ChangeAt Go.RowKit Go.Maps Go.WideMaps
set_option linter.unusedVariables false
set_option linter.unusedSimpArgs false
theorem lkoverlap_any (p q : ByteArray) (w : World) (hp : p.size ≤ 900) (hq : q.size ≤ 900) : Calls Tryz.prog 63 #[.string p, .string q] w (Asks (.bool (overlap (L p) (L q))) w) := by
  have HC1 := hid (fun w => refabove_any p q w hp hq)
  have HC2 := hid (fun w => refabove_any q p w hq hp)
  have HO : Hid (overlap (L p) (L q) = (above (L p) (L q) || above (L q) (L p))) := hid rfl
  obtain ⟨r1, h1⟩ : ∃ r, above (L p) (L q) = r := ⟨_, rfl⟩
  obtain ⟨r2, h2⟩ : ∃ r, above (L q) (L p) = r := ⟨_, rfl⟩
  rw [h1] at HC1 HO
  rw [h2] at HC2 HO
  clear h1 h2 hp hq
  cases r1 with
  | true =>
    go_enter Tryz.func63, Tryz.ntmps63
    go_wp2_with (first
      | (go_at_call 89; (with_reducible refine (HC1.out _).mono ?_); rintro e w1 ⟨rfl, b1⟩; have B1 := hid b1; clear b1))
    go_ret
    exact ⟨by rw [HO.out]; rfl, B1.out⟩
  | false =>
    go_enter Tryz.func63, Tryz.ntmps63
    go_wp2_with (first
      | (go_at_call 89; (with_reducible refine (HC1.out _).mono ?_); rintro e w1 ⟨rfl, b1⟩; have B1 := hid b1; clear b1)
      | (go_at_call 89; (with_reducible refine (HC2.out _).mono ?_); rintro e w2 ⟨rfl, b2⟩; have B2 := hid (below_on B1.out b2); clear b2))
    go_ret
    exact ⟨by rw [HO.out]; cases r2 <;> rfl, B2.out⟩
theorem flatE_one (l : List EnL) : ∀ u ∈ flatE l, u.oneCell' = true := by
  intro u hu
  unfold flatE at hu
  obtain ⟨p, _, hu⟩ := List.mem_flatMap.1 hu
  exact entL_one p u hu
theorem SeesE.cells {w : World} {b o : Nat} {l : List EnL} (h : SeesE w (some ⟨b, o, none⟩) l) : ∀ j u, (flatE l)[j]? = some u → w.cell? ⟨b, o + j, none⟩ = some u := by
  intro j u hj
  have hlen := (List.getElem?_eq_some_iff.1 hj).1
  rw [flatE_len] at hlen
  have hd : j / 6 < l.length := by omega
  have e : j / 6 * 6 + j % 6 = j := by omega
  have h1 := flatE_get (l := l) (j := j / 6) (i := j % 6) hd (by omega)
  rw [e, hj] at h1
  obtain ⟨b', o', he, _, hr⟩ := h (j / 6) l[j / 6] (List.getElem?_eq_getElem hd)
  injection he with he
  injection he with h2 h3
  subst h2 h3
  have := hr (j % 6) u h1.symm
  rw [show o + j / 6 * 6 + j % 6 = o + j by omega] at this
  exact this
theorem SeesE.all {w : World} {A : Option Addr} {l : List EnL} (h : SeesE w A l) : ∀ ad, A = some ad → ∀ j u, (flatE l)[j]? = some u → w.cell? (ad.add j) = some u := fun ad e j u hu => by
  subst e
  have hlen := (List.getElem?_eq_some_iff.1 hu).1
  rw [flatE_len] at hlen
  obtain ⟨b, o, he, _, _⟩ := h (j / 6) l[j / 6] (List.getElem?_eq_getElem (by omega))
  injection he with he
  subst he
  have := h.cells j u hu
  rw [add_plain]
  exact this
theorem SeesE.of_own {w : World} {base : Nat} {T : TypeId} {v : Value} {l : List EnL} (h : w.ownsRow base T 6 v l.length (flatE l)) : ∃ A c, v = .slice A (l.length : Nat) c ∧ ((A = none → c = 0) ∧ l.length ≤ c) ∧ SeesE w A l := by
  rcases lkown_form h with ⟨rfl, h0⟩ | ⟨g, c, rfl, hc, hb, hg⟩
  · have : l = [] := List.eq_nil_of_length_eq_zero h0
    subst this
    exact ⟨none, 0, rfl, ⟨fun _ => rfl, Nat.le_refl _⟩, SeesE.nil _ _⟩
  · refine ⟨_, c, rfl, ⟨fun e => (by cases e), hc⟩, SeesE.of hg (fun j u hu => ?_)⟩
    have := h.cells (g := g) rfl j u hu
    rw [add_plain, Nat.zero_add] at this
    exact this
theorem SeesE.setK {w : World} {A : Option Addr} {l : List EnL} (h : SeesE w A l) {p : Addr} (hp : ∀ b o, A = some ⟨b, o, none⟩ → b ≠ p.block) (u : Value) : SeesE (w.setCell p u) A l := fun j y hj => by
  obtain ⟨b, o, h1, h2, h3⟩ := h j y hj
  exact ⟨b, o, h1, by simpa [World.setCell] using h2, fun i v hv => (cellK_far u (by exact hp b o h1)).trans (h3 i v hv)⟩
theorem info_entD : (Tryz.prog.info? 47).map (fun i => (i.zero, i.size, i.bytes)) = some (some (.agg #[.string ⟨#[]⟩, .int .u64 0, .string ⟨#[]⟩, .int .i64 0, .int .u64 0, .int .i64 0]), 6, 64) := by kernel_rfl
theorem take_snoc' {l : List EnL} {j : Nat} {e : EnL} (hj : l[j]? = some e) : l.take (j + 1) = l.take j ++ [e] := by
  obtain ⟨h1, h2⟩ := List.getElem?_eq_some_iff.1 hj
  rw [List.take_succ_eq_append_getElem h1, h2]
theorem held_take (l : List EnL) (u : Int) (f : ByteArray) (j : Nat) : heldE (l.take j) u f ≤ j := by
  unfold heldE
  exact Nat.le_trans List.countP_le_length (by rw [List.length_take]; omega)
theorem top_take (l : List EnL) (p : ByteArray) (j : Nat) {k : Int} (h0 : 0 ≤ k) (h : ∀ e ∈ l, e.stamp ≤ k) : 0 ≤ topE (l.take j) p ∧ topE (l.take j) p ≤ k := ⟨(top_ge _ p).1, top_le p h0 (fun e he => h e (List.mem_of_mem_take he))⟩
def AddD (w W : World) (k ln n : Nat) (first : Int) (A : Option Addr) (c : Nat) (A' : Option Addr) (c' : Nat) : Prop :=
  Blk W k 31 #[.int .u64 first, .slice A ln c, .slice A' n c'] ∧ Blk W (k + 1) 31 zeroBK ∧ Blk W (k + 2) 47 zeroEC ∧ Below k w W
theorem AddD.on {w W W2 : World} {k ln n : Nat} {first : Int} {A : Option Addr} {c : Nat} {A' : Option Addr} {c' : Nat} (h : AddD w W k ln n first A c A' c') (b : Below W.heap.size W W2) : AddD w W2 k ln n first A c A' c' :=
  ⟨ent_low h.1 b, ent_low h.2.1 b, ent_low h.2.2.1 b, h.2.2.2.trans (b.mono (by have := h.1.lt; omega))⟩
theorem AddD.bel {w W : World} {k ln n : Nat} {first : Int} {A : Option Addr} {c : Nat} {A' : Option Addr} {c' : Nat} (h : AddD w W k ln n first A c A' c') : Below k w W := h.2.2.2
theorem AddD.c0 {w W : World} {k ln n : Nat} {first : Int} {A : Option Addr} {c : Nat} {A' : Option Addr} {c' : Nat} (h : AddD w W k ln n first A c A' c') : W.cell? ⟨k, 0, none⟩ = some (.int .u64 first) ∧ W.cell? ⟨k, 1, none⟩ = some (.slice A ln c) ∧ W.cell? ⟨k, 2, none⟩ = some (.slice A' n c') := lcells3K h.1
theorem AddD.r0 {w W : World} {k ln n : Nat} {first : Int} {A : Option Addr} {c : Nat} {A' : Option Addr} {c' : Nat} (h : AddD w W k ln n first A c A' c') : (W.cell? ⟨k + 1, 0, none⟩ = some (.int .u64 0) ∧ W.cell? ⟨k + 1, 1, none⟩ = some (.slice none 0 0) ∧ W.cell? ⟨k + 1, 2, none⟩ = some (.slice none 0 0)) ∧ W.frozen? ⟨k + 1, 0, none⟩ = false ∧ W.frozen? ⟨k + 1, 1, none⟩ = false ∧ W.frozen? ⟨k + 1, 2, none⟩ = false := ⟨lcells3K h.2.1, h.2.1.frozen 0, h.2.1.frozen 1, h.2.1.frozen 2⟩
theorem AddD.s0 {w W : World} {k ln n : Nat} {first : Int} {A : Option Addr} {c : Nat} {A' : Option Addr} {c' : Nat} (h : AddD w W k ln n first A c A' c') : (W.cell? ⟨k + 2, 0, none⟩ = some (.string ⟨#[]⟩) ∧ W.cell? ⟨k + 2, 1, none⟩ = some (.int .u64 0) ∧ W.cell? ⟨k + 2, 2, none⟩ = some (.string ⟨#[]⟩) ∧ W.cell? ⟨k + 2, 3, none⟩ = some (.int .i64 0) ∧ W.cell? ⟨k + 2, 4, none⟩ = some (.int .u64 0) ∧ W.cell? ⟨k + 2, 5, none⟩ = some (.int .i64 0)) ∧ W.frozen? ⟨k + 2, 0, none⟩ = false ∧ W.frozen? ⟨k + 2, 1, none⟩ = false ∧ W.frozen? ⟨k + 2, 2, none⟩ = false ∧ W.frozen? ⟨k + 2, 3, none⟩ = false ∧ W.frozen? ⟨k + 2, 4, none⟩ = false ∧ W.frozen? ⟨k + 2, 5, none⟩ = false := ⟨lcells6 h.2.2.1, lkfrozen6 h.2.2.1⟩
theorem AddD.fin {w W : World} {k ln n : Nat} {first : Int} {A : Option Addr} {c : Nat} {A' : Option Addr} {c' : Nat} (h : AddD w W k ln n first A c A' c') (a b d : Value) (e : EnL) :
    Blk (put6 (put3K W (k + 1) a b d) (k + 2) (.string e.path) (.int .u64 e.num) (.string e.foot) (.int .i64 e.mode) (.int .u64 e.n) (.int .i64 e.stamp)) (k + 1) 31 #[a, b, d] ∧
    Blk (put6 (put3K W (k + 1) a b d) (k + 2) (.string e.path) (.int .u64 e.num) (.string e.foot) (.int .i64 e.mode) (.int .u64 e.n) (.int .i64 e.stamp)) (k + 2) 47 (entC e) ∧
    Below k w (put6 (put3K W (k + 1) a b d) (k + 2) (.string e.path) (.int .u64 e.num) (.string e.foot) (.int .i64 e.mode) (.int .u64 e.n) (.int .i64 e.stamp)) ∧
    Below (k + 1) W (put6 (put3K W (k + 1) a b d) (k + 2) (.string e.path) (.int .u64 e.num) (.string e.foot) (.int .i64 e.mode) (.int .u64 e.n) (.int .i64 e.stamp)) := by
  have h1 := put3K_blk h.2.1 a b d
  have b1 := put3K_below (Below.refl (k + 1) W) (Nat.le_refl _) a b d
  have h2 : Blk (put3K W (k + 1) a b d) (k + 2) 47 zeroEC := by
    unfold put3K
    exact ((h.2.2.1.far (p := ⟨k + 1, 0, none⟩) (by simp) _).far (p := ⟨k + 1, 1, none⟩) (by simp) _).far (p := ⟨k + 1, 2, none⟩) (by simp) _
  have b2 := put6_below (Below.refl (k + 2) (put3K W (k + 1) a b d)) (Nat.le_refl _) (.string e.path) (.int .u64 e.num) (.string e.foot) (.int .i64 e.mode) (.int .u64 e.n) (.int .i64 e.stamp)
  exact ⟨h1.below b2 (by omega), put6_blk h2 _ _ _ _ _ _, (h.2.2.2.trans (b1.mono (by omega))).trans (b2.mono (by omega)), b1.trans (b2.mono (by omega))⟩
theorem AddD.book {w W : World} {k ln n : Nat} {first : Int} {A : Option Addr} {c : Nat} {A' : Option Addr} {c' : Nat} (h : AddD w W k ln n first A c A' c') (A2 : Option Addr) (ln2 c2 : Nat) (A2' : Option Addr) (n2 c2' : Nat) :
    AddD w (put3K W k (.int .u64 first) (.slice A2 ln2 c2) (.slice A2' n2 c2')) k ln2 n2 first A2 c2 A2' c2' ∧ Below k W (put3K W k (.int .u64 first) (.slice A2 ln2 c2) (.slice A2' n2 c2')) := by
  have b1 := put3K_below (Below.refl k W) (Nat.le_refl _) (.int .u64 first) (.slice A2 ln2 c2) (.slice A2' n2 c2')
  refine ⟨⟨put3K_blk h.1 _ _ _, ?_, ?_, h.2.2.2.trans b1⟩, b1⟩
  · unfold put3K
    exact ((h.2.1.far (p := ⟨k, 0, none⟩) (by simp) _).far (p := ⟨k, 1, none⟩) (by simp) _).far (p := ⟨k, 2, none⟩) (by simp) _
  · unfold put3K
    exact ((h.2.2.1.far (p := ⟨k, 0, none⟩) (by simp) _).far (p := ⟨k, 1, none⟩) (by simp) _).far (p := ⟨k, 2, none⟩) (by simp) _
theorem AddD.frz {w W : World} {k ln n : Nat} {first : Int} {A : Option Addr} {c : Nat} {A' : Option Addr} {c' : Nat} (h : AddD w W k ln n first A c A' c') : W.frozen? ⟨k, 0, none⟩ = false ∧ W.frozen? ⟨k, 1, none⟩ = false ∧ W.frozen? ⟨k, 2, none⟩ = false := ⟨h.1.frozen 0, h.1.frozen 1, h.1.frozen 2⟩
theorem AddD.ent {w W : World} {k ln n : Nat} {first : Int} {A : Option Addr} {c : Nat} {A' : Option Addr} {c' : Nat} (h : AddD w W k ln n first A c A' c') (A2 : Option Addr) (m c2 : Nat) :
    AddD w (W.setCell ⟨k, 1, none⟩ (.slice A2 m c2)) k m n first A2 c2 A' c' :=
  ⟨by have h7 := h.1.set_ 1 (.slice A2 m c2)
      simp only [List.setIfInBounds_toArray, List.set_cons_succ, List.set_cons_zero] at h7
      exact h7, h.2.1.far (p := ⟨k, 1, none⟩) (by simp) _, h.2.2.1.far (p := ⟨k, 1, none⟩) (by simp) _, h.2.2.2.setCell (p := ⟨k, 1, none⟩) (Nat.le_refl k) _⟩
theorem AddD.grown {w W W2 : World} {k ln n : Nat} {first : Int} {A : Option Addr} {c : Nat} {A' : Option Addr} {c' : Nat} (h : AddD w W k ln n first A c A' c') {row : Option Nat} (hg : W.grownBy W2 row) (hr : ∀ b, row = some b → k + 2 < b) : AddD w W2 k ln n first A c A' c' :=
  ⟨h.1.grown hg (fun e => by have := hr _ e.symm; omega), h.2.1.grown hg (fun e => by have := hr _ e.symm; omega), h.2.2.1.grown hg (fun e => by have := hr _ e.symm; omega),
    h.2.2.2.grown hg (by have := h.1.lt; omega) (fun b e => by have := hr b e; omega)⟩
theorem seesE_fin {W : World} {k : Nat} {A : Option Addr} {l : List EnL} (h : SeesE W A l) (hf : ∀ b o, A = some ⟨b, o, none⟩ → b ≠ k + 1 ∧ b ≠ k + 2) (a b d : Value) (e : EnL) :
    SeesE (put6 (put3K W (k + 1) a b d) (k + 2) (.string e.path) (.int .u64 e.num) (.string e.foot) (.int .i64 e.mode) (.int .u64 e.n) (.int .i64 e.stamp)) A l := by
  unfold put6 put3K
  have h1 := ((h.setK (p := ⟨k + 1, 0, none⟩) (fun b o e => (hf b o e).1) a).setK (p := ⟨k + 1, 1, none⟩) (fun b o e => (hf b o e).1) b).setK (p := ⟨k + 1, 2, none⟩) (fun b o e => (hf b o e).1) d
  exact (((((h1.setK (p := ⟨k + 2, 0, none⟩) (fun b o e => (hf b o e).2) _).setK (p := ⟨k + 2, 1, none⟩) (fun b o e => (hf b o e).2) _).setK (p := ⟨k + 2, 2, none⟩) (fun b o e => (hf b o e).2) _).setK (p := ⟨k + 2, 3, none⟩) (fun b o e => (hf b o e).2) _).setK (p := ⟨k + 2, 4, none⟩) (fun b o e => (hf b o e).2) _).setK (p := ⟨k + 2, 5, none⟩) (fun b o e => (hf b o e).2) _
theorem seesC_fin {W : World} {k : Nat} {A : Option Addr} {l : CnL} (h : SeesC W A l) (hf : ∀ b o, A = some ⟨b, o, none⟩ → b ≠ k + 1 ∧ b ≠ k + 2) (a b d : Value) (e : EnL) :
    SeesC (put6 (put3K W (k + 1) a b d) (k + 2) (.string e.path) (.int .u64 e.num) (.string e.foot) (.int .i64 e.mode) (.int .u64 e.n) (.int .i64 e.stamp)) A l := by
  unfold put6 put3K
  have h1 := ((h.setK (p := ⟨k + 1, 0, none⟩) (fun b o e => (hf b o e).1) a).setK (p := ⟨k + 1, 1, none⟩) (fun b o e => (hf b o e).1) b).setK (p := ⟨k + 1, 2, none⟩) (fun b o e => (hf b o e).1) d
  exact (((((h1.setK (p := ⟨k + 2, 0, none⟩) (fun b o e => (hf b o e).2) _).setK (p := ⟨k + 2, 1, none⟩) (fun b o e => (hf b o e).2) _).setK (p := ⟨k + 2, 2, none⟩) (fun b o e => (hf b o e).2) _).setK (p := ⟨k + 2, 3, none⟩) (fun b o e => (hf b o e).2) _).setK (p := ⟨k + 2, 4, none⟩) (fun b o e => (hf b o e).2) _).setK (p := ⟨k + 2, 5, none⟩) (fun b o e => (hf b o e).2) _
theorem DocK.at_ {w : World} {first : Int} {l : List EnL} {cs : CnL} {A A' : Option Addr} {ln c n c' : Nat} (h : DocK w (.agg #[.int .u64 first, .slice A ln c, .slice A' n c']) first l cs) : l.length = ln ∧ cs.length = n ∧ ((A' = none → c' = 0) ∧ cs.length ≤ c') ∧ SeesC w A' cs := by
  obtain ⟨B, d, B', d', h1, h2, h3, h4, h5⟩ := h
  injection h1 with h1
  injection h1 with h1
  injection h1 with _ h1
  injection h1 with e1 h1
  injection h1 with e2 _
  injection e1 with x1 x2 x3
  injection e2 with y1 y2 y3
  subst x1 x2 x3 y1 y2 y3
  exact ⟨rfl, rfl, h3, h5⟩
theorem seesE_drew {W : World} {A : Option Addr} {l : List EnL} (h : SeesE W A l) : SeesE W.drew A l := h
theorem seesC_drew {W : World} {A : Option Addr} {l : CnL} (h : SeesC W A l) : SeesC W.drew A l := h
def AddOut (first : Int) (l : List EnL) (cs : CnL) (p : ByteArray) (u : Int) (f : ByteArray) (mode : Int) (w : World) (r : Ending) (w' : World) : Prop :=
  ∃ v', r = .returned (.tuple #[v', entV (if mayE first l cs p u f mode = 0 then addE first l cs p u f mode else zeroE), .int .i64 (mayE first l cs p u f mode)]) ∧
    DocK w' v' first (if mayE first l cs p u f mode = 0 then l ++ [addE first l cs p u f mode] else l) (if mayE first l cs p u f mode = 0 then setC cs p (cntE first cs p + 1) else cs) ∧ Below w.heap.size w w'
theorem DocK.mk {w : World} {first : Int} {l : List EnL} {cs : CnL} {A : Option Addr} {c : Nat} {A' : Option Addr} {c' ln n : Nat} (hl : l.length = ln) (hn : cs.length = n) (hc : (A = none → c = 0) ∧ ln ≤ c) (hc' : (A' = none → c' = 0) ∧ n ≤ c') (hS : SeesE w A l) (hS' : SeesC w A' cs) : DocK w (.agg #[.int .u64 first, .slice A ln c, .slice A' n c']) first l cs :=
  ⟨A, c, A', c', by rw [hl, hn], by rw [hl]; exact hc, by rw [hn]; exact hc', hS, hS'⟩
set_option maxRecDepth 100000 in
set_option maxHeartbeats 8000000 in
theorem dladd_any (v : Value) (first : Int) (l : List EnL) (cs : CnL) (p : ByteArray) (u : Int) (f : ByteArray) (mode : Int) (w : World) (h : DocK w v first l cs) (hl : l.length ≤ 1000000) (hcl : cs.length < 1000000) (hp : p.size ≤ 900) (hpl : ∀ e ∈ l, e.path.size ≤ 900) (hst : ∀ e ∈ l, e.stamp ≤ 1000000) (hcn : IsUk (cntE first cs p)) :
    Calls Tryz.prog 33 #[v, .string p, .int .u64 u, .string f, .int .i64 mode] w (AddOut first l cs p u f mode w) := by
  have HDk := hid h
  have HFd := hid (fun w' (k : Below w.heap.size w w') => dlfind_any v first l cs p u f w' (h.below k) hl)
  have HCt := hid (fun w' (k : Below w.heap.size w w') => dlcounter_any v first l cs p w' (h.below k) (by omega))
  have HCo := hid (fun w' (k : Below w.heap.size w w') => dlcount_any v first l cs p (cntE first cs p + 1) w' (h.below k) (by omega))
  have HRg := hid (fun w => refright_any p w hp)
  have HOv := hid (fun e (he : e ∈ l) w => lkoverlap_any e.path p w (hpl e he) hp)
  have HSt := hid (fun j => top_take l p j (k := 1000000) (by omega) hst)
  have HCn := hid hcn
  have HM : Hid (mayE first l cs p u f mode = if rightE p mode = true then if (findE l p u f).isSome = true then 15 else if 64 ≤ heldE l u f then 14 else if 9223372036854775807 ≤ cntE first cs p then 53 else 0 else 10) := hid rfl
  obtain ⟨A, c, A', c', rfl, hc, hc', hS, hS'⟩ := h
  have HS := hid hS
  have HSC := hid hS'
  obtain ⟨ln, hln⟩ : ∃ n, l.length = n := ⟨_, rfl⟩
  obtain ⟨n, hn⟩ : ∃ n, cs.length = n := ⟨_, rfl⟩
  have HLN := hid hln
  have HN := hid hn
  rw [hln] at hl hc HFd HCt HCo HDk ⊢
  rw [hn] at hcl hc' HFd HCt HCo HDk ⊢
  have HCE := hid hc
  have HCC := hid hc'
  obtain ⟨rt, hrt⟩ : ∃ r, right (L p) = r := ⟨_, rfl⟩
  rw [hrt] at HRg
  have HRE : Hid (rightE p mode = (rt && (decide (mode = 1) || decide (mode = 2)))) := hid (by unfold rightE; rw [hrt])
  clear hS hS' hln hn hc hc' hp hpl hst hrt hcn
  go_enter Tryz.func33, Tryz.ntmps33
  go_upto_region 1 with fail
  obtain ⟨W, hW⟩ : ∃ W, ((w.alloc (.cells #[.int .u64 first, .slice A ln c, .slice A' n c'] 31)).alloc (.cells zeroBK 31)).alloc (.cells zeroEC 47) = W := ⟨_, rfl⟩
  have I0 : Hid (AddD w W w.heap.size ln n first A c A' c') := hid (by
    rw [← hW]
    have h1 := Blk.new w 31 #[.int .u64 first, .slice A ln c, .slice A' n c']
    have h2 := Blk.new (w.alloc (.cells #[.int .u64 first, .slice A ln c, .slice A' n c'] 31)) 31 zeroBK
    have h3 := Blk.new ((w.alloc (.cells #[.int .u64 first, .slice A ln c, .slice A' n c'] 31)).alloc (.cells zeroBK 31)) 47 zeroEC
    refine ⟨(h1.alloc _).alloc _, ?_, ?_, (((Below.refl _ w).alloc (Nat.le_refl _) _).alloc (by simp) _).alloc (by simp; omega) _⟩
    · simpa using h2.alloc (.cells zeroEC 47)
    · simpa using h3)
  rw [hW]
  clear hW
  obtain ⟨k, hk⟩ : ∃ k, w.heap.size = k := ⟨_, rfl⟩
  rw [hk] at I0 HFd HCt HCo ⊢
  have HK := hid hk
  clear hk
  by_cases hrt : rt = true ∧ ¬ mode < 1 ∧ ¬ 2 < mode
  · obtain ⟨rfl, hm1, hm2⟩ := hrt
    have HRg1 : Hid (rightE p mode = true) := hid (by rw [HRE.out]; simp; omega)
    obtain ⟨fo, hfo⟩ : ∃ x, idxE l p u f = x := ⟨_, rfl⟩
    have HFo := hid hfo
    rw [hfo] at HFd
    clear hfo
    by_cases hfi : (findE l p u f).isSome = true
    · have hge : 0 ≤ fo := by rw [← HFo.out]; unfold idxE; rw [if_pos hfi]; omega
      go_wp2_with (first
        | (go_at_call 39; (with_reducible refine (HRg.out _).mono ?_); rintro e w1 ⟨rfl, b1⟩; have I1 := hid (I0.out.on b1); clear b1; obtain ⟨b0, b1, b2⟩ := I1.out.c0; obtain ⟨⟨r0, r1, r2⟩, r3, r4, r5⟩ := I1.out.r0; obtain ⟨⟨s0, s1, s2, s3, s4, s5⟩, s6, s7, s8, s9, s10, s11⟩ := I1.out.s0)
        | (go_at_call 17; (with_reducible refine (HFd.out _ I1.out.bel).mono ?_); rintro e w2 ⟨rfl, b2'⟩; have I2 := hid (I1.out.on b2'); clear b2' b0 b1 b2 r0 r1 r2 r3 r4 r5 s0 s1 s2 s3 s4 s5 s6 s7 s8 s9 s10 s11; obtain ⟨b0, b1, b2⟩ := I2.out.c0; obtain ⟨⟨r0, r1, r2⟩, r3, r4, r5⟩ := I2.out.r0; obtain ⟨⟨s0, s1, s2, s3, s4, s5⟩, s6, s7, s8, s9, s10, s11⟩ := I2.out.s0))
      have HX : Hid (mayE first l cs p u f mode = 15) := hid (by rw [HM.out]; rw [if_pos HRg1.out, if_pos hfi])
      obtain ⟨T1, T2, T3, T4⟩ := I2.out.fin (.int .u64 first) (.slice A ln c) (.slice A' n c') zeroE
      unfold put6 put3K at T1 T2 T3 T4
      simp only [zeroE] at T1 T2 T3 T4
      obtain ⟨w9, hw9⟩ : ∃ w9, (((((((((w2.setCell ⟨k + 1, 0, none⟩ (.int .u64 first)).setCell ⟨k + 1, 1, none⟩ (.slice A ln c)).setCell ⟨k + 1, 2, none⟩ (.slice A' n c')).setCell ⟨k + 2, 0, none⟩ (.string ⟨#[]⟩)).setCell ⟨k + 2, 1, none⟩ (.int .u64 0)).setCell ⟨k + 2, 2, none⟩ (.string ⟨#[]⟩)).setCell ⟨k + 2, 3, none⟩ (.int .i64 0)).setCell ⟨k + 2, 4, none⟩ (.int .u64 0)).setCell ⟨k + 2, 5, none⟩ (.int .i64 0)) = w9 := ⟨_, rfl⟩
      rw [hw9] at T1 T2 T3 T4 ⊢
      clear hw9 r0 r1 r2 r3 r4 r5 s0 s1 s2 s3 s4 s5 s6 s7 s8 s9 s10 s11
      obtain ⟨q0, q1, q2⟩ := lcells3K T1
      obtain ⟨x0, x1, x2, x3, x4, x5⟩ := lcells6 T2
      refine bodyPost_ret (v := .tuple #[.agg #[.int .u64 first, .slice A ln c, .slice A' n c'], .agg #[.string ⟨#[]⟩, .int .u64 0, .string ⟨#[]⟩, .int .i64 0, .int .u64 0, .int .i64 0], .int .i64 15]) (by simp [results, Tryz.results33, go_sem, q0, q1, q2, x0, x1, x2, x3, x4, x5]) rfl ?_
      have TW : Below w.heap.size w w9 := by rw [HK.out]; exact T3
      refine ⟨.agg #[.int .u64 first, .slice A ln c, .slice A' n c'], ?_, ?_, TW⟩
      · rw [HX.out]; rfl
      · rw [HX.out]; exact HDk.out.below TW
    · have hlt : ¬ 0 ≤ fo := by rw [← HFo.out]; unfold idxE; rw [if_neg hfi]; omega
      have HNf := hid hfi
      clear hfi
      go_wp2_with (first
        | (go_at_call 39; (with_reducible refine (HRg.out _).mono ?_); rintro e w1 ⟨rfl, b1⟩; have I1 := hid (I0.out.on b1); clear b1; obtain ⟨b0, b1, b2⟩ := I1.out.c0; obtain ⟨⟨r0, r1, r2⟩, r3, r4, r5⟩ := I1.out.r0; obtain ⟨⟨s0, s1, s2, s3, s4, s5⟩, s6, s7, s8, s9, s10, s11⟩ := I1.out.s0)
        | (go_at_call 17; (with_reducible refine (HFd.out _ I1.out.bel).mono ?_); rintro e w2 ⟨rfl, b2'⟩; have I2 := hid (I1.out.on b2'); clear b2' b0 b1 b2 r0 r1 r2 r3 r4 r5 s0 s1 s2 s3 s4 s5 s6 s7 s8 s9 s10 s11; obtain ⟨b0, b1, b2⟩ := I2.out.c0; obtain ⟨⟨r0, r1, r2⟩, r3, r4, r5⟩ := I2.out.r0; obtain ⟨⟨s0, s1, s2, s3, s4, s5⟩, s6, s7, s8, s9, s10, s11⟩ := I2.out.s0))
      clear b0 b1 b2 r0 r1 r2 r3 r4 r5 s0 s1 s2 s3 s4 s5 s6 s7 s8 s9 s10 s11
      go_loopw [13, 14, 15] (fun hv sv iv wr => ∃ j : Nat, hv = .int .i64 ((heldE (l.take j) u f : Nat) : Int) ∧ sv = .int .i64 (topE (l.take j) p) ∧ iv = .int .i64 (j : Int) ∧ j ≤ ln ∧ Hid (AddD w wr k ln n first A c A' c')) (fun _ _ iv _ => ln - (intOf iv).toNat)
      case atStart => exact ⟨0, rfl, rfl, rfl, by omega, I2⟩
      case round =>
        obtain ⟨j, rfl, rfl, rfl, hj, HI⟩ := hrel
        obtain ⟨b0, b1, b2⟩ := HI.out.c0
        have hhd := held_take l u f j
        have htp := HSt.out j
        have HJ := hid hj
        obtain ⟨hd, hhd0⟩ : ∃ x, heldE (l.take j) u f = x := ⟨_, rfl⟩
        obtain ⟨tp, htp0⟩ : ∃ x, topE (l.take j) p = x := ⟨_, rfl⟩
        have HHd := hid hhd0
        have HTp := hid htp0
        rw [hhd0] at hhd ⊢
        rw [htp0] at htp ⊢
        clear hhd0 htp0
        by_cases hlt : j < ln
        · have hlt' : (j : Int) < (ln : Int) := by omega
          obtain ⟨e, he⟩ : ∃ e, l[j]? = some e := ⟨_, List.getElem?_eq_getElem (by rw [HLN.out]; exact hlt)⟩
          have HE := hid he
          obtain ⟨b, o, hA, hb, hr⟩ := (HS.out.below (w' := wr) (by rw [HK.out]; exact HI.out.bel)) j e he
          subst hA
          have y0 : wr.cell? ⟨b, o + j * 6, none⟩ = some (.string e.path) := hr 0 _ rfl
          have y1 : wr.cell? ⟨b, o + j * 6 + 1, none⟩ = some (.int .u64 e.num) := hr 1 _ rfl
          have y2 : wr.cell? ⟨b, o + j * 6 + 2, none⟩ = some (.string e.foot) := hr 2 _ rfl
          have HRg2 := hid (hr 5 _ rfl)
          have HBw := hid hb
          clear hr he hb
          have HTk := hid (take_snoc' HE.out)
          have qi : IntKind.i64.wrap ((j : Int) + 1) = ((j + 1 : Nat) : Int) := by rw [IntWalk.i64_in _ (by omega)]; omega
          have qh : IntKind.i64.wrap ((hd : Int) + 1) = ((hd + 1 : Nat) : Int) := by rw [IntWalk.i64_in _ (by omega)]; omega
          have HHs : Hid (heldE (l.take (j + 1)) u f = hd + if ofE u f e = true then 1 else 0) := hid (by rw [HTk.out, held_snoc, HHd.out])
          have HTs : Hid (topE (l.take (j + 1)) p = if tp < e.stamp ∧ ovE p e = true then e.stamp else tp) := hid (by rw [HTk.out, top_snoc, HTp.out]; rfl)
          have HOe := hid (HOv.out e (List.mem_of_getElem? HE.out) wr)
          obtain ⟨ov, hov⟩ : ∃ x, ovE p e = x := ⟨_, rfl⟩
          rw [hov] at HTs
          have HOe2 : Hid (overlap (L e.path) (L p) = ov) := hid hov
          rw [HOe2.out] at HOe
          clear hov
          by_cases hu : e.num = u
          · by_cases hf : e.foot = f
            · have HX : Hid (heldE (l.take (j + 1)) u f = hd + 1) := hid (by rw [HHs.out]; simp [ofE, hu, hf])
              rw [hu] at y1
              rw [hf] at y2
              clear hu hf
              cases ov with
              | true =>
                by_cases hgt : tp < e.stamp
                · have HY : Hid (topE (l.take (j + 1)) p = e.stamp) := hid (by rw [HTs.out, if_pos ⟨hgt, rfl⟩])
                  go_wp2_with (first
                    | (go_at_call 63; (with_reducible refine HOe.out.mono ?_); rintro e' w3 ⟨rfl, b3⟩; have I3 := hid (HI.out.on b3); have y5 : w3.cell? ⟨b, o + j * 6 + 5, none⟩ = some (.int .i64 e.stamp) := (b3.cell (p := ⟨b, o + j * 6 + 5, none⟩) HBw.out).trans HRg2.out; clear b3 b0 b1 b2 y0 y1 y2; obtain ⟨b0, b1, b2⟩ := I3.out.c0))
                  go_roundw
                  case rel => exact ⟨j + 1, by rw [HX.out]; first | done | rfl | (push_cast; rfl), by rw [HY.out], by push_cast; rfl, by omega, I3⟩
                  case measure => simp only [intOf]; omega
                · have HY : Hid (topE (l.take (j + 1)) p = tp) := hid (by rw [HTs.out, if_neg (fun h => hgt h.1)])
                  go_wp2_with (first
                    | (go_at_call 63; (with_reducible refine HOe.out.mono ?_); rintro e' w3 ⟨rfl, b3⟩; have I3 := hid (HI.out.on b3); have y5 : w3.cell? ⟨b, o + j * 6 + 5, none⟩ = some (.int .i64 e.stamp) := (b3.cell (p := ⟨b, o + j * 6 + 5, none⟩) HBw.out).trans HRg2.out; clear b3 b0 b1 b2 y0 y1 y2; obtain ⟨b0, b1, b2⟩ := I3.out.c0))
                  go_roundw
                  case rel => exact ⟨j + 1, by rw [HX.out]; first | done | rfl | (push_cast; rfl), by rw [HY.out], by push_cast; rfl, by omega, I3⟩
                  case measure => simp only [intOf]; omega
              | false =>
                have HY : Hid (topE (l.take (j + 1)) p = tp) := hid (by rw [HTs.out, if_neg (fun h => by simp at h)])
                go_wp2_with (first
                  | (go_at_call 63; (with_reducible refine HOe.out.mono ?_); rintro e' w3 ⟨rfl, b3⟩; have I3 := hid (HI.out.on b3); have y5 : w3.cell? ⟨b, o + j * 6 + 5, none⟩ = some (.int .i64 e.stamp) := (b3.cell (p := ⟨b, o + j * 6 + 5, none⟩) HBw.out).trans HRg2.out; clear b3 b0 b1 b2 y0 y1 y2; obtain ⟨b0, b1, b2⟩ := I3.out.c0))
                go_roundw
                case rel => exact ⟨j + 1, by rw [HX.out]; first | done | rfl | (push_cast; rfl), by rw [HY.out], by push_cast; rfl, by omega, I3⟩
                case measure => simp only [intOf]; omega
            · have HX : Hid (heldE (l.take (j + 1)) u f = hd) := hid (by rw [HHs.out]; simp [ofE, hf])
              have hq := lkeq_text e.foot f
              rw [decide_eq_false hf] at hq
              rw [hu] at y1
              clear hu
              cases ov with
              | true =>
                by_cases hgt : tp < e.stamp
                · have HY : Hid (topE (l.take (j + 1)) p = e.stamp) := hid (by rw [HTs.out, if_pos ⟨hgt, rfl⟩])
                  go_wp2_with (first
                    | (go_at_call 63; (with_reducible refine HOe.out.mono ?_); rintro e' w3 ⟨rfl, b3⟩; have I3 := hid (HI.out.on b3); have y5 : w3.cell? ⟨b, o + j * 6 + 5, none⟩ = some (.int .i64 e.stamp) := (b3.cell (p := ⟨b, o + j * 6 + 5, none⟩) HBw.out).trans HRg2.out; clear b3 b0 b1 b2 y0 y1 y2; obtain ⟨b0, b1, b2⟩ := I3.out.c0))
                  go_roundw
                  case rel => exact ⟨j + 1, by rw [HX.out], by rw [HY.out], by push_cast; rfl, by omega, I3⟩
                  case measure => simp only [intOf]; omega
                · have HY : Hid (topE (l.take (j + 1)) p = tp) := hid (by rw [HTs.out, if_neg (fun h => hgt h.1)])
                  go_wp2_with (first
                    | (go_at_call 63; (with_reducible refine HOe.out.mono ?_); rintro e' w3 ⟨rfl, b3⟩; have I3 := hid (HI.out.on b3); have y5 : w3.cell? ⟨b, o + j * 6 + 5, none⟩ = some (.int .i64 e.stamp) := (b3.cell (p := ⟨b, o + j * 6 + 5, none⟩) HBw.out).trans HRg2.out; clear b3 b0 b1 b2 y0 y1 y2; obtain ⟨b0, b1, b2⟩ := I3.out.c0))
                  go_roundw
                  case rel => exact ⟨j + 1, by rw [HX.out], by rw [HY.out], by push_cast; rfl, by omega, I3⟩
                  case measure => simp only [intOf]; omega
              | false =>
                have HY : Hid (topE (l.take (j + 1)) p = tp) := hid (by rw [HTs.out, if_neg (fun h => by simp at h)])
                go_wp2_with (first
                  | (go_at_call 63; (with_reducible refine HOe.out.mono ?_); rintro e' w3 ⟨rfl, b3⟩; have I3 := hid (HI.out.on b3); have y5 : w3.cell? ⟨b, o + j * 6 + 5, none⟩ = some (.int .i64 e.stamp) := (b3.cell (p := ⟨b, o + j * 6 + 5, none⟩) HBw.out).trans HRg2.out; clear b3 b0 b1 b2 y0 y1 y2; obtain ⟨b0, b1, b2⟩ := I3.out.c0))
                go_roundw
                case rel => exact ⟨j + 1, by rw [HX.out], by rw [HY.out], by push_cast; rfl, by omega, I3⟩
                case measure => simp only [intOf]; omega
          · have HX : Hid (heldE (l.take (j + 1)) u f = hd) := hid (by rw [HHs.out]; simp [ofE, hu])
            have hq : (e.num == u) = false := by simpa using hu
            cases ov with
            | true =>
              by_cases hgt : tp < e.stamp
              · have HY : Hid (topE (l.take (j + 1)) p = e.stamp) := hid (by rw [HTs.out, if_pos ⟨hgt, rfl⟩])
                go_wp2_with (first
                  | (go_at_call 63; (with_reducible refine HOe.out.mono ?_); rintro e' w3 ⟨rfl, b3⟩; have I3 := hid (HI.out.on b3); have y5 : w3.cell? ⟨b, o + j * 6 + 5, none⟩ = some (.int .i64 e.stamp) := (b3.cell (p := ⟨b, o + j * 6 + 5, none⟩) HBw.out).trans HRg2.out; clear b3 b0 b1 b2 y0 y1 y2; obtain ⟨b0, b1, b2⟩ := I3.out.c0))
                go_roundw
                case rel => exact ⟨j + 1, by rw [HX.out], by rw [HY.out], by push_cast; rfl, by omega, I3⟩
                case measure => simp only [intOf]; omega
              · have HY : Hid (topE (l.take (j + 1)) p = tp) := hid (by rw [HTs.out, if_neg (fun h => hgt h.1)])
                go_wp2_with (first
                  | (go_at_call 63; (with_reducible refine HOe.out.mono ?_); rintro e' w3 ⟨rfl, b3⟩; have I3 := hid (HI.out.on b3); have y5 : w3.cell? ⟨b, o + j * 6 + 5, none⟩ = some (.int .i64 e.stamp) := (b3.cell (p := ⟨b, o + j * 6 + 5, none⟩) HBw.out).trans HRg2.out; clear b3 b0 b1 b2 y0 y1 y2; obtain ⟨b0, b1, b2⟩ := I3.out.c0))
                go_roundw
                case rel => exact ⟨j + 1, by rw [HX.out], by rw [HY.out], by push_cast; rfl, by omega, I3⟩
                case measure => simp only [intOf]; omega
            | false =>
              have HY : Hid (topE (l.take (j + 1)) p = tp) := hid (by rw [HTs.out, if_neg (fun h => by simp at h)])
              go_wp2_with (first
                | (go_at_call 63; (with_reducible refine HOe.out.mono ?_); rintro e' w3 ⟨rfl, b3⟩; have I3 := hid (HI.out.on b3); have y5 : w3.cell? ⟨b, o + j * 6 + 5, none⟩ = some (.int .i64 e.stamp) := (b3.cell (p := ⟨b, o + j * 6 + 5, none⟩) HBw.out).trans HRg2.out; clear b3 b0 b1 b2 y0 y1 y2; obtain ⟨b0, b1, b2⟩ := I3.out.c0))
              go_roundw
              case rel => exact ⟨j + 1, by rw [HX.out], by rw [HY.out], by push_cast; rfl, by omega, I3⟩
              case measure => simp only [intOf]; omega
        · have hlt' : ¬ (j : Int) < (ln : Int) := by omega
          have hjl : l.take j = l := List.take_of_length_le (by rw [HLN.out]; omega)
          rw [hjl] at HHd HTp
          clear hjl
          by_cases h64 : 64 ≤ hd
          · have h64' : (64 : Int) ≤ (hd : Int) := by omega
            obtain ⟨⟨r0, r1, r2⟩, r3, r4, r5⟩ := HI.out.r0
            obtain ⟨⟨s0, s1, s2, s3, s4, s5⟩, s6, s7, s8, s9, s10, s11⟩ := HI.out.s0
            go_wp2_with fail
            have HX : Hid (mayE first l cs p u f mode = 14) := hid (by rw [HM.out]; rw [if_pos HRg1.out, if_neg HNf.out, if_pos (by rw [HHd.out]; exact h64)])
            obtain ⟨T1, T2, T3, T4⟩ := HI.out.fin (.int .u64 first) (.slice A ln c) (.slice A' n c') zeroE
            unfold put6 put3K at T1 T2 T3 T4
            simp only [zeroE] at T1 T2 T3 T4
            obtain ⟨w9, hw9⟩ : ∃ w9, (((((((((wr.setCell ⟨k + 1, 0, none⟩ (.int .u64 first)).setCell ⟨k + 1, 1, none⟩ (.slice A ln c)).setCell ⟨k + 1, 2, none⟩ (.slice A' n c')).setCell ⟨k + 2, 0, none⟩ (.string ⟨#[]⟩)).setCell ⟨k + 2, 1, none⟩ (.int .u64 0)).setCell ⟨k + 2, 2, none⟩ (.string ⟨#[]⟩)).setCell ⟨k + 2, 3, none⟩ (.int .i64 0)).setCell ⟨k + 2, 4, none⟩ (.int .u64 0)).setCell ⟨k + 2, 5, none⟩ (.int .i64 0)) = w9 := ⟨_, rfl⟩
            rw [hw9] at T1 T2 T3 T4 ⊢
            clear hw9 r0 r1 r2 r3 r4 r5 s0 s1 s2 s3 s4 s5 s6 s7 s8 s9 s10 s11
            obtain ⟨q0, q1, q2⟩ := lcells3K T1
            obtain ⟨x0, x1, x2, x3, x4, x5⟩ := lcells6 T2
            refine bodyPost_ret (v := .tuple #[.agg #[.int .u64 first, .slice A ln c, .slice A' n c'], .agg #[.string ⟨#[]⟩, .int .u64 0, .string ⟨#[]⟩, .int .i64 0, .int .u64 0, .int .i64 0], .int .i64 14]) (by simp [results, Tryz.results33, go_sem, q0, q1, q2, x0, x1, x2, x3, x4, x5]) rfl ?_
            have TW : Below w.heap.size w w9 := by rw [HK.out]; exact T3
            refine ⟨.agg #[.int .u64 first, .slice A ln c, .slice A' n c'], ?_, ?_, TW⟩
            · rw [HX.out]; rfl
            · rw [HX.out]; exact HDk.out.below TW
          · have h64' : ¬ (64 : Int) ≤ (hd : Int) := by omega
            obtain ⟨cn, hcn⟩ : ∃ x, cntE first cs p = x := ⟨_, rfl⟩
            have HCV := hid hcn
            rw [hcn] at HCt HCo HCn
            clear hcn
            by_cases h53 : 9223372036854775807 ≤ cn
            · go_wp2_with (first
                | (go_at_call 15; (with_reducible refine (HCt.out _ HI.out.bel).mono ?_); rintro e w3 ⟨rfl, b3'⟩; have I3 := hid (HI.out.on b3'); clear b3' b0 b1 b2; obtain ⟨b0, b1, b2⟩ := I3.out.c0; obtain ⟨⟨r0, r1, r2⟩, r3, r4, r5⟩ := I3.out.r0; obtain ⟨⟨s0, s1, s2, s3, s4, s5⟩, s6, s7, s8, s9, s10, s11⟩ := I3.out.s0))
              have HX : Hid (mayE first l cs p u f mode = 53) := hid (by rw [HM.out]; rw [if_pos HRg1.out, if_neg HNf.out, if_neg (by rw [HHd.out]; exact h64), HCV.out, if_pos h53])
              obtain ⟨T1, T2, T3, T4⟩ := I3.out.fin (.int .u64 first) (.slice A ln c) (.slice A' n c') zeroE
              unfold put6 put3K at T1 T2 T3 T4
              simp only [zeroE] at T1 T2 T3 T4
              obtain ⟨w9, hw9⟩ : ∃ w9, (((((((((w3.setCell ⟨k + 1, 0, none⟩ (.int .u64 first)).setCell ⟨k + 1, 1, none⟩ (.slice A ln c)).setCell ⟨k + 1, 2, none⟩ (.slice A' n c')).setCell ⟨k + 2, 0, none⟩ (.string ⟨#[]⟩)).setCell ⟨k + 2, 1, none⟩ (.int .u64 0)).setCell ⟨k + 2, 2, none⟩ (.string ⟨#[]⟩)).setCell ⟨k + 2, 3, none⟩ (.int .i64 0)).setCell ⟨k + 2, 4, none⟩ (.int .u64 0)).setCell ⟨k + 2, 5, none⟩ (.int .i64 0)) = w9 := ⟨_, rfl⟩
              rw [hw9] at T1 T2 T3 T4 ⊢
              clear hw9 r0 r1 r2 r3 r4 r5 s0 s1 s2 s3 s4 s5 s6 s7 s8 s9 s10 s11
              obtain ⟨q0, q1, q2⟩ := lcells3K T1
              obtain ⟨x0, x1, x2, x3, x4, x5⟩ := lcells6 T2
              refine bodyPost_ret (v := .tuple #[.agg #[.int .u64 first, .slice A ln c, .slice A' n c'], .agg #[.string ⟨#[]⟩, .int .u64 0, .string ⟨#[]⟩, .int .i64 0, .int .u64 0, .int .i64 0], .int .i64 53]) (by simp [results, Tryz.results33, go_sem, q0, q1, q2, x0, x1, x2, x3, x4, x5]) rfl ?_
              have TW : Below w.heap.size w w9 := by rw [HK.out]; exact T3
              refine ⟨.agg #[.int .u64 first, .slice A ln c, .slice A' n c'], ?_, ?_, TW⟩
              · rw [HX.out]; rfl
              · rw [HX.out]; exact HDk.out.below TW
            · have HX : Hid (mayE first l cs p u f mode = 0) := hid (by rw [HM.out, if_pos HRg1.out, if_neg HNf.out, if_neg (by rw [HHd.out]; exact h64), HCV.out, if_neg h53])
              go_upto_region 18 with (first
                | (go_at_call 15; (with_reducible refine (HCt.out _ HI.out.bel).mono ?_); rintro e w3 ⟨rfl, b3'⟩; have I3 := hid (HI.out.on b3'); clear b3' b0 b1 b2; obtain ⟨b0, b1, b2⟩ := I3.out.c0; obtain ⟨⟨r0, r1, r2⟩, r3, r4, r5⟩ := I3.out.r0; obtain ⟨⟨s0, s1, s2, s3, s4, s5⟩, s6, s7, s8, s9, s10, s11⟩ := I3.out.s0))
              have qs : IntKind.i64.wrap (tp + 1) = tp + 1 := IntWalk.i64_in _ (by omega)
              have qn : IntKind.u64.wrap (cn + 1) = cn + 1 := IntWalk.u64_in _ (by have := HCn.out; unfold IsUk at this; omega)
              go_upto_region 19 with (first
                | (go_at_call 15; (with_reducible refine (HCt.out _ I3.out.bel).mono ?_); rintro e w4 ⟨rfl, b4'⟩; have I4 := hid (I3.out.on b4'); clear b4' b0 b1 b2 r0 r1 r2 r3 r4 r5 s0 s1 s2 s3 s4 s5 s6 s7 s8 s9 s10 s11))
              obtain ⟨q, hq⟩ : ∃ q, w4.heap.size = q := ⟨_, rfl⟩
              obtain ⟨w5, hw5⟩ : ∃ w5, w4.alloc (.cells #[.string p, .int .u64 u, .string f, .int .i64 mode, .int .u64 (cn + 1), .int .i64 (tp + 1)] 47) = w5 := ⟨_, rfl⟩
              have E5 : Hid (Blk w5 q 47 #[.string p, .int .u64 u, .string f, .int .i64 mode, .int .u64 (cn + 1), .int .i64 (tp + 1)]) := hid (by rw [← hw5, ← hq]; exact Blk.new w4 47 _)
              have I5 : Hid (AddD w w5 k ln n first A c A' c') := hid (by rw [← hw5]; exact I4.out.on ((Below.refl _ w4).alloc (Nat.le_refl _) _))
              have hqk : k + 2 < q := by have := I4.out.2.2.1.lt; omega
              have hq5 : q < w5.heap.size := E5.out.lt
              rw [hw5, hq]
              clear hw5 hq qs qn
              obtain ⟨b0, b1, b2⟩ := I5.out.c0
              obtain ⟨x0, x1, x2, x3, x4, x5⟩ := lcells6 E5.out
              go_upto_region 20 with (first
                | (go_at_call 64; (with_reducible refine (HCo.out _ I5.out.bel).mono ?_); rintro e w6 ⟨v6, rfl, hd6, b6, kp6⟩; obtain ⟨A2, n2, c2, e6, far6⟩ := kp6 _ _ _ rfl; subst e6; have HD6 := hid hd6; have HF6 := hid far6; have B6 := hid b6; have I6 := hid (I5.out.on b6); have E6 := hid (E5.out.below b6 E5.out.lt); clear hd6 far6 b6 kp6 b0 b1 b2 x0 x1 x2 x3 x4 x5; obtain ⟨b0, b1, b2⟩ := I6.out.c0; obtain ⟨f0, f1, f2⟩ := I6.out.frz))
              obtain ⟨d1, d2, d3, d4⟩ := HD6.out.at_
              have HD2 := hid d2
              have HD3 := hid d3
              obtain ⟨w7, hw7⟩ : ∃ w7, ((w6.setCell ⟨k, 0, none⟩ (.int .u64 first)).setCell ⟨k, 1, none⟩ (.slice A ln c)).setCell ⟨k, 2, none⟩ (.slice A2 n2 c2) = w7 := ⟨_, rfl⟩
              have I7 : Hid (AddD w w7 k ln n2 first A c A2 c2) := hid (by have h := (I6.out.book A ln c A2 n2 c2).1; unfold put3K at h; rw [hw7] at h; exact h)
              have E7 : Hid (Blk w7 q 47 #[.string p, .int .u64 u, .string f, .int .i64 mode, .int .u64 (cn + 1), .int .i64 (tp + 1)]) := hid (by
                rw [← hw7]
                exact ((E6.out.far (p := ⟨k, 0, none⟩) (by simp; omega) _).far (p := ⟨k, 1, none⟩) (by simp; omega) _).far (p := ⟨k, 2, none⟩) (by simp; omega) _)
              have S7 : Hid (SeesC w7 A2 (setC cs p (cn + 1))) := hid (by
                have h := d4.put3K (g := k) (fun b o e => by have := HF6.out b o e; omega) (.int .u64 first) (.slice A ln c) (.slice A2 n2 c2)
                unfold put3K at h
                rw [hw7] at h
                exact h)
              have T7 : Hid (SeesE w7 A l) := hid (HS.out.below (by rw [HK.out]; exact I7.out.bel))
              have hq7 : q < w7.heap.size := E7.out.lt
              have hw57 : w5.heap.size ≤ w7.heap.size := by
                have h1 := B6.out.size
                have h2 := (I6.out.book A ln c A2 n2 c2).2.size
                unfold put3K at h2
                rw [hw7] at h2
                omega
              rw [hw7]
              clear hw7 d1 d2 d3 d4 b0 b1 b2 f0 f1 f2 I6 E6 I5 E5 B6 I4 I3 HI
              obtain ⟨b0, b1, b2⟩ := I7.out.c0
              have HC1 := hid (fun (e : A = none) => And.intro (show ln = 0 by have := HCE.out.1 e; have := HCE.out.2; omega) (HCE.out.1 e))
              have HA1 := hid T7.out.all
              obtain ⟨i0, hi0, hz0, hz1, hz2⟩ := info_parts info_entD
              go_upto_region 22 with (first
                | (at_builtin; refine lkappend_cells rfl (.tmp 116) (.tmp 118) 28 rfl w7.heap.size 47 i0 _ 6 64 Tryz.underlying28 hi0 hz0 hz1 hz2 rfl (by decide) (.slice none 0 0) 0 [] rfl (World.ownsRow_nil _ _ _ _) A ln c (flatE l) rfl HC1.out (by rw [flatE_len, HLN.out]) HA1.out (flatE_one _) (by unfold maxLen; omega) (by omega) (Nat.le_refl _) ?_; intro v1 w8 own1 hg1; have O1 := hid own1; have G1 := hid hg1; clear own1 hg1))
              have O8 : Hid (w8.ownsRow w7.heap.size 47 6 v1 ln (flatE l)) := hid (by have := O1.out; rw [Nat.zero_add, List.nil_append] at this; exact this)
              have B8 : Hid (Below w7.heap.size w7 w8) := hid (lbelow_grown G1.out)
              have I8 := hid (I7.out.on B8.out)
              have E8 := hid (E7.out.below B8.out hq7)
              have S8 := hid (S7.out.below B8.out)
              clear O1 G1 I7 E7 T7 HA1 HC1 b0 b1 b2
              obtain ⟨b0, b1, b2⟩ := I8.out.c0
              obtain ⟨f0, f1, f2⟩ := I8.out.frz
              obtain ⟨x0, x1, x2, x3, x4, x5⟩ := lcells6 E8.out
              have HOld : Hid ((w8.alloc (.cells #[.string p, .int .u64 u, .string f, .int .i64 mode, .int .u64 (cn + 1), .int .i64 (tp + 1)] 47)).ownsRow w7.heap.size 47 6 v1 ln (flatE l)) := hid (O8.out.alloc _)
              have HNw := hid (Blk.new w8 47 #[.string p, .int .u64 u, .string f, .int .i64 mode, .int .u64 (cn + 1), .int .i64 (tp + 1)])
              have B9 := hid ((Below.refl w8.heap.size w8).alloc (Nat.le_refl _) (.cells #[.string p, .int .u64 u, .string f, .int .i64 mode, .int .u64 (cn + 1), .int .i64 (tp + 1)] 47))
              have I9 := hid (I8.out.on B9.out)
              have E9 := hid (E8.out.below B9.out E8.out.lt)
              have S9 := hid (S8.out.below B9.out)
              have hw8 : w7.heap.size ≤ w8.heap.size := B8.out.size
              have HRow : Hid (∀ b, v1.ownBlock = some b → w7.heap.size ≤ b) := hid (fun b e => (HOld.out.lt b e).1)
              go_upto_region 23 with (first
                | (at_builtin; refine wpList_append_own_at _ rfl (.tmp 120) (.tmp 122) 28 rfl w7.heap.size 47 i0 _ 6 64 Tryz.underlying28 hi0 hz0 hz1 hz2 rfl (by decide) v1 ln (flatE l) rfl HOld.out ⟨w8.heap.size, 0, none⟩ 1 1 (entL ⟨p, u, f, mode, cn + 1, tp + 1⟩) rfl rfl (ent_at (e := ⟨p, u, f, mode, cn + 1, tp + 1⟩) HNw.out) (entL_one _) (by unfold maxLen; omega) (by omega) (by simp; omega) ?_; intro v2 w9 own2 hg2 _ _
                   obtain ⟨A3, c3, e3, hA3, hS3⟩ := SeesE.of_own (l := l ++ [⟨p, u, f, mode, cn + 1, tp + 1⟩]) (by rw [flatE_app, List.length_append, HLN.out]; exact own2)
                   obtain ⟨n3, hn3⟩ : ∃ x, (l ++ [(⟨p, u, f, mode, cn + 1, tp + 1⟩ : EnL)]).length = x := ⟨_, rfl⟩
                   rw [hn3] at e3 hA3
                   have HN3 := hid hn3
                   clear hn3
                   subst e3
                   have HS3 := hid hS3
                   have HA3 := hid hA3
                   have HFar : Hid (∀ b o, A3 = some ⟨b, o, none⟩ → w7.heap.size ≤ b) := hid (fun b o e => by subst e; exact (own2.lt b rfl).1)
                   have I10 := hid (I9.out.grown hg2 (fun b e => by have := HRow.out b e; omega))
                   have E10 := hid (E9.out.grown hg2 (fun e => by have := HRow.out q e.symm; omega))
                   have S10 := hid (S7.out.below ((B8.out.alloc hw8 (.cells #[.string p, .int .u64 u, .string f, .int .i64 mode, .int .u64 (cn + 1), .int .i64 (tp + 1)] 47)).grown hg2 (by simp; omega) (fun b e => HRow.out b e)))
                   clear own2 hg2 hS3 hA3 b0 b1 b2 f0 f1 f2 x0 x1 x2 x3 x4 x5
                   obtain ⟨b0, b1, b2⟩ := I10.out.c0
                   obtain ⟨f0, f1, f2⟩ := I10.out.frz))
              obtain ⟨w10, hw10⟩ : ∃ w10, w9.setCell ⟨k, 1, none⟩ (.slice A3 n3 c3) = w10 := ⟨_, rfl⟩
              have I11 : Hid (AddD w w10 k n3 n2 first A3 c3 A2 c2) := hid (by rw [← hw10]; exact I10.out.ent A3 n3 c3)
              have E11 : Hid (Blk w10 q 47 #[.string p, .int .u64 u, .string f, .int .i64 mode, .int .u64 (cn + 1), .int .i64 (tp + 1)]) := hid (by rw [← hw10]; exact E10.out.far (p := ⟨k, 1, none⟩) (by simp; omega) _)
              have S11 : Hid (SeesC w10 A2 (setC cs p (cn + 1))) := hid (by rw [← hw10]; exact S10.out.setK (p := ⟨k, 1, none⟩) (fun b o e => by have := HF6.out b o e; simp; omega) _)
              have T11 : Hid (SeesE w10 A3 (l ++ [⟨p, u, f, mode, cn + 1, tp + 1⟩])) := hid (by rw [← hw10]; exact HS3.out.setK (p := ⟨k, 1, none⟩) (fun b o e => by have := HFar.out b o e; simp; omega) _)
              rw [hw10]
              clear hw10 b0 b1 b2 f0 f1 f2 I10 E10 S10 HS3 S9 S8 S7 I9 E9 I8 E8 HOld HNw B9 O8 B8
              obtain ⟨b0, b1, b2⟩ := I11.out.c0
              obtain ⟨x0, x1, x2, x3, x4, x5⟩ := lcells6 E11.out
              obtain ⟨⟨r0, r1, r2⟩, r3, r4, r5⟩ := I11.out.r0
              obtain ⟨⟨s0, s1, s2, s3, s4, s5⟩, s6, s7, s8, s9, s10, s11⟩ := I11.out.s0
              have hqne : q ≠ k + 1 := by omega
              have hqne2 : q ≠ k + 1 + 1 := by omega
              go_region
              go_wp2
              have HAd : Hid (addE first l cs p u f mode = ⟨p, u, f, mode, cn + 1, tp + 1⟩) := hid (by unfold addE stampE; rw [HCV.out, HTp.out])
              obtain ⟨T1, T2, T3, T4⟩ := I11.out.fin (.int .u64 first) (.slice A3 n3 c3) (.slice A2 n2 c2) ⟨p, u, f, mode, cn + 1, tp + 1⟩
              have T5 := seesE_fin (k := k) T11.out (fun b o e => by have := HFar.out b o e; omega) (.int .u64 first) (.slice A3 n3 c3) (.slice A2 n2 c2) ⟨p, u, f, mode, cn + 1, tp + 1⟩
              have T6 := seesC_fin (k := k) S11.out (fun b o e => by have := HF6.out b o e; omega) (.int .u64 first) (.slice A3 n3 c3) (.slice A2 n2 c2) ⟨p, u, f, mode, cn + 1, tp + 1⟩
              replace T1 := T1.drew
              replace T2 := T2.drew
              replace T3 := below_drew T3
              replace T5 := seesE_drew T5
              replace T6 := seesC_drew T6
              unfold put6 put3K at T1 T2 T3 T5 T6
              simp only at T1 T2 T3 T5 T6
              obtain ⟨w11, hw11⟩ : ∃ w11, (((((((((w10.setCell ⟨k + 1, 0, none⟩ (.int .u64 first)).setCell ⟨k + 1, 1, none⟩ (.slice A3 n3 c3)).setCell ⟨k + 1, 2, none⟩ (.slice A2 n2 c2)).setCell ⟨k + 2, 0, none⟩ (.string p)).setCell ⟨k + 2, 1, none⟩ (.int .u64 u)).setCell ⟨k + 2, 2, none⟩ (.string f)).setCell ⟨k + 2, 3, none⟩ (.int .i64 mode)).setCell ⟨k + 2, 4, none⟩ (.int .u64 (cn + 1))).setCell ⟨k + 2, 5, none⟩ (.int .i64 (tp + 1))).drew = w11 := ⟨_, rfl⟩
              rw [hw11] at T1 T2 T3 T5 T6 ⊢
              clear hw11 r0 r1 r2 r3 r4 r5 s0 s1 s2 s3 s4 s5 s6 s7 s8 s9 s10 s11
              obtain ⟨q0, q1, q2⟩ := lcells3K T1
              obtain ⟨x0, x1, x2, x3, x4, x5⟩ := lcells6 T2
              refine bodyPost_ret (v := .tuple #[.agg #[.int .u64 first, .slice A3 n3 c3, .slice A2 n2 c2], .agg #[.string p, .int .u64 u, .string f, .int .i64 mode, .int .u64 (cn + 1), .int .i64 (tp + 1)], .int .i64 0]) (by simp [results, Tryz.results33, go_sem, q0, q1, q2, x0, x1, x2, x3, x4, x5]) rfl ?_
              have TW : Below w.heap.size w w11 := by rw [HK.out]; exact T3
              refine ⟨.agg #[.int .u64 first, .slice A3 n3 c3, .slice A2 n2 c2], ?_, ?_, TW⟩
              · rw [HX.out, if_pos rfl, HAd.out]
              · rw [HX.out, if_pos rfl, if_pos rfl, HAd.out, HCV.out]
                exact DocK.mk HN3.out HD2.out HA3.out (by have := HD3.out; rw [HD2.out] at this; exact this) T5 T6
  · have HX0 : Hid (rightE p mode = false) := hid (by
      rw [HRE.out]
      cases rt with
      | false => rfl
      | true => simp; constructor <;> (intro h; exact hrt ⟨rfl, by omega, by omega⟩))
    cases rt with
    | false =>
      go_wp2_with (first
        | (go_at_call 39; (with_reducible refine (HRg.out _).mono ?_); rintro e w1 ⟨rfl, b1⟩; have I1 := hid (I0.out.on b1); clear b1; obtain ⟨b0, b1, b2⟩ := I1.out.c0; obtain ⟨⟨r0, r1, r2⟩, r3, r4, r5⟩ := I1.out.r0; obtain ⟨⟨s0, s1, s2, s3, s4, s5⟩, s6, s7, s8, s9, s10, s11⟩ := I1.out.s0))
      have HX : Hid (mayE first l cs p u f mode = 10) := hid (by rw [HM.out]; rw [if_neg (by rw [HX0.out]; decide)])
      obtain ⟨T1, T2, T3, T4⟩ := I1.out.fin (.int .u64 first) (.slice A ln c) (.slice A' n c') zeroE
      unfold put6 put3K at T1 T2 T3 T4
      simp only [zeroE] at T1 T2 T3 T4
      obtain ⟨w9, hw9⟩ : ∃ w9, (((((((((w1.setCell ⟨k + 1, 0, none⟩ (.int .u64 first)).setCell ⟨k + 1, 1, none⟩ (.slice A ln c)).setCell ⟨k + 1, 2, none⟩ (.slice A' n c')).setCell ⟨k + 2, 0, none⟩ (.string ⟨#[]⟩)).setCell ⟨k + 2, 1, none⟩ (.int .u64 0)).setCell ⟨k + 2, 2, none⟩ (.string ⟨#[]⟩)).setCell ⟨k + 2, 3, none⟩ (.int .i64 0)).setCell ⟨k + 2, 4, none⟩ (.int .u64 0)).setCell ⟨k + 2, 5, none⟩ (.int .i64 0)) = w9 := ⟨_, rfl⟩
      rw [hw9] at T1 T2 T3 T4 ⊢
      clear hw9 r0 r1 r2 r3 r4 r5 s0 s1 s2 s3 s4 s5 s6 s7 s8 s9 s10 s11
      obtain ⟨q0, q1, q2⟩ := lcells3K T1
      obtain ⟨x0, x1, x2, x3, x4, x5⟩ := lcells6 T2
      refine bodyPost_ret (v := .tuple #[.agg #[.int .u64 first, .slice A ln c, .slice A' n c'], .agg #[.string ⟨#[]⟩, .int .u64 0, .string ⟨#[]⟩, .int .i64 0, .int .u64 0, .int .i64 0], .int .i64 10]) (by simp [results, Tryz.results33, go_sem, q0, q1, q2, x0, x1, x2, x3, x4, x5]) rfl ?_
      have TW : Below w.heap.size w w9 := by rw [HK.out]; exact T3
      refine ⟨.agg #[.int .u64 first, .slice A ln c, .slice A' n c'], ?_, ?_, TW⟩
      · rw [HX.out]; rfl
      · rw [HX.out]; exact HDk.out.below TW
    | true =>
      by_cases hm1 : mode < 1
      · go_wp2_with (first
          | (go_at_call 39; (with_reducible refine (HRg.out _).mono ?_); rintro e w1 ⟨rfl, b1⟩; have I1 := hid (I0.out.on b1); clear b1; obtain ⟨b0, b1, b2⟩ := I1.out.c0; obtain ⟨⟨r0, r1, r2⟩, r3, r4, r5⟩ := I1.out.r0; obtain ⟨⟨s0, s1, s2, s3, s4, s5⟩, s6, s7, s8, s9, s10, s11⟩ := I1.out.s0))
        have HX : Hid (mayE first l cs p u f mode = 10) := hid (by rw [HM.out]; rw [if_neg (by rw [HX0.out]; decide)])
        obtain ⟨T1, T2, T3, T4⟩ := I1.out.fin (.int .u64 first) (.slice A ln c) (.slice A' n c') zeroE
        unfold put6 put3K at T1 T2 T3 T4
        simp only [zeroE] at T1 T2 T3 T4
        obtain ⟨w9, hw9⟩ : ∃ w9, (((((((((w1.setCell ⟨k + 1, 0, none⟩ (.int .u64 first)).setCell ⟨k + 1, 1, none⟩ (.slice A ln c)).setCell ⟨k + 1, 2, none⟩ (.slice A' n c')).setCell ⟨k + 2, 0, none⟩ (.string ⟨#[]⟩)).setCell ⟨k + 2, 1, none⟩ (.int .u64 0)).setCell ⟨k + 2, 2, none⟩ (.string ⟨#[]⟩)).setCell ⟨k + 2, 3, none⟩ (.int .i64 0)).setCell ⟨k + 2, 4, none⟩ (.int .u64 0)).setCell ⟨k + 2, 5, none⟩ (.int .i64 0)) = w9 := ⟨_, rfl⟩
        rw [hw9] at T1 T2 T3 T4 ⊢
        clear hw9 r0 r1 r2 r3 r4 r5 s0 s1 s2 s3 s4 s5 s6 s7 s8 s9 s10 s11
        obtain ⟨q0, q1, q2⟩ := lcells3K T1
        obtain ⟨x0, x1, x2, x3, x4, x5⟩ := lcells6 T2
        refine bodyPost_ret (v := .tuple #[.agg #[.int .u64 first, .slice A ln c, .slice A' n c'], .agg #[.string ⟨#[]⟩, .int .u64 0, .string ⟨#[]⟩, .int .i64 0, .int .u64 0, .int .i64 0], .int .i64 10]) (by simp [results, Tryz.results33, go_sem, q0, q1, q2, x0, x1, x2, x3, x4, x5]) rfl ?_
        have TW : Below w.heap.size w w9 := by rw [HK.out]; exact T3
        refine ⟨.agg #[.int .u64 first, .slice A ln c, .slice A' n c'], ?_, ?_, TW⟩
        · rw [HX.out]; rfl
        · rw [HX.out]; exact HDk.out.below TW
      · have hm2 : 2 < mode := by
          refine Classical.byContradiction fun h => hrt ⟨rfl, hm1, h⟩
        go_wp2_with (first
          | (go_at_call 39; (with_reducible refine (HRg.out _).mono ?_); rintro e w1 ⟨rfl, b1⟩; have I1 := hid (I0.out.on b1); clear b1; obtain ⟨b0, b1, b2⟩ := I1.out.c0; obtain ⟨⟨r0, r1, r2⟩, r3, r4, r5⟩ := I1.out.r0; obtain ⟨⟨s0, s1, s2, s3, s4, s5⟩, s6, s7, s8, s9, s10, s11⟩ := I1.out.s0))
        have HX : Hid (mayE first l cs p u f mode = 10) := hid (by rw [HM.out]; rw [if_neg (by rw [HX0.out]; decide)])
        obtain ⟨T1, T2, T3, T4⟩ := I1.out.fin (.int .u64 first) (.slice A ln c) (.slice A' n c') zeroE
        unfold put6 put3K at T1 T2 T3 T4
        simp only [zeroE] at T1 T2 T3 T4
        obtain ⟨w9, hw9⟩ : ∃ w9, (((((((((w1.setCell ⟨k + 1, 0, none⟩ (.int .u64 first)).setCell ⟨k + 1, 1, none⟩ (.slice A ln c)).setCell ⟨k + 1, 2, none⟩ (.slice A' n c')).setCell ⟨k + 2, 0, none⟩ (.string ⟨#[]⟩)).setCell ⟨k + 2, 1, none⟩ (.int .u64 0)).setCell ⟨k + 2, 2, none⟩ (.string ⟨#[]⟩)).setCell ⟨k + 2, 3, none⟩ (.int .i64 0)).setCell ⟨k + 2, 4, none⟩ (.int .u64 0)).setCell ⟨k + 2, 5, none⟩ (.int .i64 0)) = w9 := ⟨_, rfl⟩
        rw [hw9] at T1 T2 T3 T4 ⊢
        clear hw9 r0 r1 r2 r3 r4 r5 s0 s1 s2 s3 s4 s5 s6 s7 s8 s9 s10 s11
        obtain ⟨q0, q1, q2⟩ := lcells3K T1
        obtain ⟨x0, x1, x2, x3, x4, x5⟩ := lcells6 T2
        refine bodyPost_ret (v := .tuple #[.agg #[.int .u64 first, .slice A ln c, .slice A' n c'], .agg #[.string ⟨#[]⟩, .int .u64 0, .string ⟨#[]⟩, .int .i64 0, .int .u64 0, .int .i64 0], .int .i64 10]) (by simp [results, Tryz.results33, go_sem, q0, q1, q2, x0, x1, x2, x3, x4, x5]) rfl ?_
        have TW : Below w.heap.size w w9 := by rw [HK.out]; exact T3
        refine ⟨.agg #[.int .u64 first, .slice A ln c, .slice A' n c'], ?_, ?_, TW⟩
        · rw [HX.out]; rfl
        · rw [HX.out]; exact HDk.out.below TW
end Go.Proofs.YtgjbhlianlbflaaGreat
